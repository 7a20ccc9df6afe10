import PyProof.Rows.All
import Wide.All
import OpenK.AllK
import Wide.FinOn
import HandS.ForMost
import HandS.ForExc
import HandS.ExcInit
import HandS.IsInst
import HandS.ExcField
import HandS.HeadHook1
import KE.KExcIs
import KE.KStateDown
import KE.KIsAll
import Lean
import HandS.Defaults
import HandS.Head0
import HandS.Head1
import HandS.Head2
import HandS.HeadEnd
import HandS.HeadHook2
import HandS.EndBits
import HandS.Wide
import HandS.Evl
import PyProof.Rows.ReprOcc
import HandS.LawCells
import HandS.Property
import HandS.CallSlots
import HandS.TupAny
import KE.KOpsOwn
import PyProof.InstNe
import KE.LtData
import KE.DataCmp
import PyProof.EqAt
import PyProof.EqKinds
import PyProof.TupleCall
import HandS.Base
import HandS.Call
import HandS.Exc
import HandS.ExcOwn
import HandS.Walk
import HandS.More
import HandS.Codes
import HandS.Text
import HandS.WideBits
import KE.GoesEnum
import HandS.Iter
import HandS.List
import HandS.Set
import HandS.SetFor
import HandS.Strs
import HandS.Small
import HandS.Steps
import HandS.RaiseMore
import HandS.DictComp
import PyProof.Conv_bool
import HandS.SlotsOwn
import HandS.Star
import HandS.TupMul
import KE.KDictDisplayH
import PyProof.DictTable
import HandS.Style
import HandS.FStr
import PySem.Challenge.RW_alsoshown_k14_patterns_compared
set_option Elab.async false
set_option linter.all false
set_option maxRecDepth 100000
set_option maxHeartbeats 2000000
/-! Exceptions of the program as values: made by a call, kept, read, asked for their class. -/
namespace Vx
open PySem PySem.Spec PyProof.Rows L2
section
variable {X : Cx} {C fI : Addr} {k : Nat} {fd : FuncData} {ps : List Str}
variable {sp : Sp} {e : Expr} {es : List Expr} {ta : TA} {te : TE} {x f : Str}
variable {p pos : Pos}
/-- C(e, ..) for a value: the exception stays tracked -/
def tMkV (C : Addr) (sp : Sp) (ta : TA) : TE := fun st H Q =>
  ta st H fun vs H1 => vs.length ≤ 1000 ∧ ∀ a, H1 a = none →
    sp (.ref a :: vs) (upd H1 a (exo a C none))
      (fun v H2 => v = .non ∧ Q (.ref a) H2) (fun _ _ _ => False)
theorem pe_mkV (T : OexC X.K C)
    (iC : PySem.W.findIn X.K (.ref C) "__init__" = some (some (.ref fI)))
    (tI : PySem.W.typeIn X.K (.ref fI) = some (.type "function"))
    (F1 : FnOk X.prog X.w X.K X.mg X.base CX0 k fI fd ps sp)
    (hr : Room (k + 1) X.A) (hb : Binds X.K fd ps []) (hg : Gl X x)
    (hm : X.mg x = some (.ref C)) (ha : PA X (e :: es) ta)
    (hdb : (x == ("__debug__" : Str)) = false := by decide)
    (he : starEach (e :: es) X.env = (false, eval e X.env) :: starEach es X.env := by rfl)
    (hpl : (backTo pos (starEach es X.env)).any (·.1) = false := by rfl) :
    PE X (.Call (.Name x p) (e :: es) [] pos) (tMkV C sp ta) := by
  refine ⟨fun pins s σ H Q I h => ?_⟩
  obtain ⟨nm, q, N, bs, bm, sn, sub, ab, col, dd, k0, k1, k2, k3, k5, hC, hbm⟩ := T.cls
  refine wpAny_Call_Name_kw (ld_glob I hg hm ?_ hdb)
  refine PySem.W.callWith_K (h₀ := X.base) I.ok.mod.kin T.kC ?_ he hpl
  refine thn (ha.run pos pins s σ H _ I h) ?_
  rintro us s1 ⟨vs, H1, I1, r1, hz, q1⟩
  refine ⟨I1.kIn, ?_⟩
  show wpAny _ _ (call (.ref C) us) _ _ _
  obtain ⟨hp, g, dr, tk, os⟩ := s1
  let h2 : Heap := (hp.push (PySem.W.kdv_tup us)).push (PySem.HandSPX.excO C hp.objs.size)
  have hsz : hp.objs.size ≤ hp.objs.size + 1 := Nat.le_succ _
  have hn : H1 (hp.objs.size + 1) = none := I1.hok.fresh hsz
  have hq := q1 (hp.objs.size + 1) hn
  have kk : ∀ b o, hp.get? b = some o → h2.get? b = some o := by
    intro b o eb
    exact Heap.get?_push_of_some _ (Heap.get?_push_of_some _ eb)
  have hget : h2.get? (hp.objs.size + 1) = some (PySem.HandSPX.excO C hp.objs.size) := by
    show ((hp.push _).push _).get? _ = _
    heap_get
  have I2 : Inv X pins σ (upd H1 (hp.objs.size + 1) (exo (hp.objs.size + 1) C none)) ⟨h2, g, dr, tk, os⟩ :=
    Inv.laid (s := ⟨hp, g, dr, tk, os⟩) (t' := tk) I1 kk hsz (exo_ok hget)
  have r2 : Vals (V.ref (hp.objs.size + 1) :: vs) (Value.ref (hp.objs.size + 1) :: us) := .cons rfl r1
  have hl : (Value.ref (hp.objs.size + 1) :: us ++ []).length = ps.length := by
    have e1 := r2.length
    rw [F1.len _ _ _ _ hq] at e1
    rw [List.append_nil]
    exact e1.symm
  have hus : us.length ≤ sizeLine := by
    have e1 := Paired.length r1
    rw [sizeLine_eq]
    omega
  have hbb := hb ⟨h2, g, dr, tk, os⟩ (Value.ref (hp.objs.size + 1) :: us) I2.kIn hl
  rw [List.append_nil] at hbb
  have run := F1.run (X.A.under (.builtin "type.__call__" ⟨.ref C :: us, []⟩)) X.stack
    ⟨h2, g, dr, tk, os⟩ _ ⟨Value.ref (hp.objs.size + 1) :: us, []⟩
    (Value.ref (hp.objs.size + 1) :: us) _ _ (fun _ _ _ => False)
    (hr.make C us []) (I2.env0.make C us []) hbb r2 hq
  refine wpAny_call ?_
  refine PySem.HandSPX.call_own F.excBase_ValueError
    (fun Y => PySem.HandSPX.refsVE_contains Y bm hbm) (I1.kIn _ _ hC)
    (PySem.W.looks_findIn I1.kIn iC) (fun self => PySem.W.bind_fn I1.kIn self tI) hus ?_
  refine codeAny_mono run ?_
  intro r s' hq'
  cases r with
  | error er => exact (hq' : False).elim
  | ok fl =>
    cases fl with
    | ret u =>
      obtain ⟨v, H2, os2, bare2, un2, hok2, rv, ev, q2⟩ := hq'
      subst ev
      have J := I2.call' (ch := []) os2 un2 hok2 bare2 (fun b z => absurd z (by simp))
      exact ⟨rv, .ref (hp.objs.size + 1), H2, J, rfl, q2⟩
    | next => exact False.elim hq'
    | brk => exact False.elim hq'
    | cont => exact False.elim hq'
/-- C() for a value, C without an own __init__ -/
def tMkP (C : Addr) : TE := fun _ H Q => ∀ a, H a = none → Q (.ref a) (upd H a (exo a C none))
theorem pe_mkP (q : PySem.W.excIn X.K C He.veBase "ValueError.__new__" = true)
    (gC : X.mg x = some (.ref C)) (kC : PySem.W.keepIn X.K (.ref C) = true) (hg : Gl X x)
    (hdb : (x == ("__debug__" : Str)) = false := by decide) :
    PE X (.Call (.Name x p) [] [] pos) (tMkP C) := by
  refine ⟨fun pins s σ H Q I h => ?_⟩
  refine wpAny_Call_Name_kw (ld_glob I hg gC ?_ hdb)
  refine PySem.W.callWith_K0 I.kIn kC ?_
  obtain ⟨bm, N, nm, qn, bs, hdct, sn, sub, ab, col, dd, k0, k1, k2, k3, k5, mN, hC, hN, hni, T⟩ := exc_obj I.kIn q
  obtain ⟨hp, g, dr, tk, os⟩ := s
  refine wpAny_call_exc_subT PySem.F.excBase_ValueError T hC hN hni (fun h' a hm => ?_) (by show 0 ≤ sizeLine; omega)
  have hn : H a = none := I.hok.gone hm.new
  obtain ⟨t, ht, _, _⟩ := hm.there
  refine ⟨.ref a, upd H a (exo a C none), ?_, rfl, h a hn⟩
  have un : Un X.fs [] H (upd H a (exo a C none)) hp h' := {
    keep := fun b u y _ _ _ => hm.keeps b u y
    slot := fun b u y _ _ _ => ⟨u.slots, hm.keeps b u y⟩
    free := fun b u y n _ => by
      rw [upd_ne (fun z => by rw [z, hm.new] at y; cases y)]
      exact n
    there := fun b u y _ => ⟨u, hm.keeps b u y⟩
    tups := fun b xs y => by rw [upd_ne (ne_of_none y hn)]; exact y
    frzs := fun b u xs y => by rw [upd_ne (ne_of_none y hn)]; exact y
    tbls := fun b ps y => ⟨#[], by rw [upd_ne (ne_of_none y hn), y]; simp⟩ }
  refine I.un (t' := tk) un ?_
  intro b u e
  by_cases hb : b = a
  · subst hb
    rw [upd_same] at e
    cases e
    exact exo_ok ht
  · rw [upd_ne hb] at e
    refine (I.hok b u e).stay (fun c v _ y => hm.keeps c v y) (fun c y => ?_) (fun c xs y => ?_)
    · rw [upd_ne (ne_of_none y hn)]; exact y
    · rw [upd_ne (ne_of_none y hn)]; exact y
/-- e.f, e an exception that is kept -/
def tXv (K : PySem.W.Frag) (f : Str) (te : TE) : TE := fun st H Q => te st H fun x H1 =>
  ∃ (a C d : Addr) (fs : List (Str × V)) (v : V), x = .ref a ∧ XfC K C ∧
    PySem.W.findIn K (.ref C) f = some none ∧ H1 a = some (exo a C (some d)) ∧
    H1 d = some (exd d fs) ∧ fs.lookup f = some v ∧ Q v H1
theorem inst_of {P : Program} {w : World} {H : Hp} {h : Heap} {a C : Addr}
    (hok : HOk P w H h) (e : H a = some (exo a C none)) :
    ∃ ob, PySem.W.InstAt h a ob C none := by
  obtain ⟨t1, ho⟩ := exo_at hok e
  exact ⟨_, ho, rfl, rfl, trivial⟩
theorem inst_of2 {P : Program} {w : World} {H : Hp} {h : Heap} {a C d : Addr} {fs : List (Str × V)}
    (hok : HOk P w H h) (e : H a = some (exo a C (some d))) (ed : H d = some (exd d fs)) :
    ∃ ob od, PySem.W.InstAt h a ob C (some od) ∧ h.get? d = some od := by
  obtain ⟨t1, ho⟩ := exo_at hok e
  obtain ⟨mA, hns, rel⟩ := exd_at hok ed
  obtain ⟨od, es, ep, hd, hr⟩ := hns
  exact ⟨_, od, ⟨ho, rfl, rfl, hd⟩, hd⟩
theorem pe_xv (he : PE X e te)
    (hb : attributeBase e f X.env (eval e X.env) = eval e X.env := by rfl) :
    PE X (.Attribute e f pos) (tXv X.K f te) := by
  refine ⟨fun pins s σ H Q I h => ?_⟩
  refine attr_of hb (thn (he.run pins s σ H _ I h) fun u s1 hh => ?_)
  obtain ⟨y, H1, I1, rx, a, C, d, fs, v, ex, T, hno, ea, ed, l, q⟩ := hh
  subst ex
  obtain rfl : u = Value.ref a := rx
  obtain ⟨t1, ho⟩ := exo_at I1.hok ea
  obtain ⟨mA, hns, rel⟩ := exd_at I1.hok ed
  obtain ⟨od, hd, hl⟩ := lookIn_ns hns
  have e1 : RelO (some v) (mA f) := by
    rw [← l]
    exact rel f
  obtain ⟨u2, hu, ru⟩ := RelO.some_of e1
  have J : PySem.W.InstAt s1.heap a _ C (some od) := ⟨ho, rfl, rfl, hd⟩
  exact HandSPX.exc_get I1.kIn J T.ga T.gg T.exC (PySem.W.findObj_own T.hdC hno rfl (by rw [hl, hu])) (handed_of ru) ⟨v, H1, I1.tok _, ru, q⟩
/-- what a class of errors must say so that isinstance is answered -/
structure IsC (K : PySem.W.Frag) (C : Addr) : Prop where
  hc : (PySem.W.clsIn K C).isSome = true
  hg : PySem.W.findIn K (.ref C) "__getattribute__" = some (some (.builtin "BaseException.__getattribute__"))
  hk : PySem.W.findIn K (.ref C) "__getattr__" = some none
  hs : PySem.W.subIn K (.ref C) (.type "BaseException") = some true
  ha : PySem.W.findIn K (.ref C) "__class__" = some (some (.builtin "object.__class__"))
  hn : PySem.W.specialIn K (.builtin "object.__class__") "__get__" = some (some (.builtin "getset_descriptor.__get__"))
  ht : PySem.W.takesIn K (.builtin "object.__class__") = some true
  hm : PySem.W.mroIn K C (.type "object") = some true
/-- at a stands an exception of the class at C -/
def ExAt (H : Hp) (a C : Addr) : Prop :=
  H a = some (exo a C none) ∨ ∃ d fs, H a = some (exo a C (some d)) ∧ H d = some (exd d fs)
def rIsV (K : PySem.W.Frag) : List V → Hp → VK → Prop := fun xs H Q =>
  ∃ (a C : Addr) (c : V) (cv : Value) (b : Bool), xs = [.ref a, c] ∧ (∀ u, RelV c u → u = cv) ∧
    ExAt H a C ∧ IsC K C ∧ PySem.W.kitOne K (.ref C) cv = some b ∧ Q (.bl b) H
theorem call_isV : CallR X (.builtin "isinstance") (rIsV X.K) := by
  intro pins s σ H xs us Q I r h
  obtain ⟨a, C, c, cv, b, rfl, hcv, ex, T, e1, q⟩ := h
  obtain ⟨u1, u2, rfl, r1, r2⟩ := vals2 r
  obtain rfl := hcv _ r2
  obtain rfl : u1 = Value.ref a := r1
  have done : ∀ tk, EP X pins σ Q (.bool b) { s with toks := tk } := fun tk => ⟨.bl b, H, I.tok tk, rfl, q⟩
  rcases ex with ex | ⟨d, fs, ex, ed⟩
  · obtain ⟨ob, J⟩ := inst_of I.hok ex
    exact PySem.W.kia_one (PySem.W.kitx_exc T.hc T.hg T.hk T.hs T.ha T.hn T.ht T.hm) I.kIn J e1 (fun z => nomatch z) done
  · obtain ⟨ob, od, J, _⟩ := inst_of2 I.hok ex ed
    exact PySem.W.kia_one (PySem.W.kitx_exc T.hc T.hg T.hk T.hs T.ha T.hn T.ht T.hm) I.kIn J e1 (fun z => nomatch z) done
end
end Vx

set_option Elab.async false
set_option linter.all false
set_option maxRecDepth 100000
set_option maxHeartbeats 2000000
/-! The head: facts by one Bool of the written part, defs by data. -/
namespace Vh
open PySem PySem.Spec PyProof.Rows L2
abbrev Fg := PySem.W.Frag
def obsB (f : Fg → Bool) (fn : List He.DefD) (K : Fg) : He.AlD :=
  (f K && fn.all fun d => d.ok K, fn.map fun d => He.fnW K d.at_)
def SaysB (f : Fg → Bool) (fn : List He.DefD) (K : Fg) : Prop := obsB f fn K = He.valD fn
def obsBG (n : Nat) (f : Fg → Bool) (fn : List He.DefD) (g : Addr → Option Obj) : He.AlD :=
  obsB f fn (He.frG g (He.asD g n))
def hookB (n : Nat) (f : Fg → Bool) (fn : List He.DefD) : PySem.W.Hook where
  α := He.AlD
  obs := fun s => obsBG n f fn s.heap.get?
  val := fun _ => He.valD fn
  says := fun _ h => ∃ K : Fg, K.In h ∧ SaysB f fn K
  of := fun _ _ e => ⟨_, He.frG_in, e⟩
  keeps := fun _ _ _ ⟨K, hK, c⟩ k => ⟨K, PySem.W.Frag.In.keeps hK k, c⟩
theorem obsBG_eq {n : Nat} {f : Fg → Bool} {fn : List He.DefD} {g : Addr → Option Obj} {s : Shared}
    (h : ∀ a, g a = s.heap.get? a) : obsBG n f fn g = (hookB n f fn).obs s := by
  have e : g = s.heap.get? := funext h
  rw [e] <;> rfl
section
variable {f : Fg → Bool} {fn : List He.DefD} {K : Fg}
theorem SaysB.fact (c : SaysB f fn K) : f K = true :=
  (He.ba (show (f K && fn.all fun d => d.ok K) = true from congrArg (fun z : He.AlD => z.1) c)).1
theorem SaysB.def_ (c : SaysB f fn K) (i : Nat) {d : He.DefD} (h : fn[i]? = some d := by rfl) :
    ∃ fd, FunD K d.name d.qual d.params d.body d.scope (d.dvs K) (d.kws K) (He.fAd K d.at_) fd := by
  have c2 := (He.ba (show (f K && fn.all fun d => d.ok K) = true from congrArg (fun z : He.AlD => z.1) c)).2
  have e : fn.map (fun d => He.fnW K d.at_) = fn.map He.DefD.val := congrArg (fun z : He.AlD => z.2) c
  have e2 : (fn.map fun d => He.fnW K d.at_)[i]? = (fn.map He.DefD.val)[i]? := by rw [e]
  rw [List.getElem?_map, List.getElem?_map, h] at e2
  exact He.DefD.funD (Option.some.inj e2) (List.all_eq_true.mp c2 d (List.mem_of_getElem? h))
end
/-- a def of the top, a method of a class of the top -/
def gD (st : Stmt) (x : Str) : He.DefD := ⟨(x, none), x, x, defArgs st, defBody st, defScope st, [], []⟩
def mD (st : Stmt) (c m q : Str) : He.DefD := ⟨(c, some m), m, q, defArgs st, defBody st, defScope st, [], []⟩
/-! the errors' classes -/
def headB (K : Fg) (C : Addr) (bm : List Value) (sl : List (Option Value)) (cd : ClassData) : Bool :=
  match sl with
  | [_, _, _, _, some (.builtin n), _] =>
    n == "ValueError.__new__" && (!cd.hasDel && (cd.hasDict && PySem.HandSPX.refsVE bm))
  | _ => false
def oexB (K : Fg) (C : Addr) : Bool :=
  match K.lookup C with
  | some ⟨.type "type", _, .cls cd, sl⟩ => (match cd.mro with
    | .ref D :: bm => D == C && headB K C bm sl.toList cd
    | _ => false)
  | _ => false
theorem oexB_ok {K : Fg} {C : Addr} (h : oexB K C = true) :
    ∃ nm q N bs bm sn sub ab col dd k0 k1 k2 k3 k5,
      K.lookup C = some (excClassObj nm q C N bs bm true sn sub ab col dd k0 k1 k2 k3 k5 "ValueError.__new__") ∧
        PySem.HandSPX.refsVE bm = true := by
  unfold oexB at h
  split at h
  · rename_i dd cd sl ho
    split at h
    · rename_i D bm hm
      obtain ⟨h1, h2⟩ := He.ba h
      unfold headB at h2
      split at h2
      · rename_i k0 k1 k2 k3 n k5 hs
        simp only [Bool.and_eq_true, beq_iff_eq, Bool.not_eq_true'] at h1 h2
        obtain ⟨h3, h4, h5, h6⟩ := h2
        subst h1 h3
        obtain ⟨nm, bs, mro, ns, qn, hd, sn, sub, ab, col, del⟩ := cd
        dsimp only at hm h4 h5
        subst hm h4 h5
        obtain ⟨l⟩ := sl
        dsimp only at hs
        subst hs
        exact ⟨nm, qn, ns, bs, bm, sn, sub, ab, col, dd, k0, k1, k2, k3, k5, ho, h6⟩
      · cases h2
    · cases h
  · cases h
/-- all that is asked of a class of errors -/
def errB (K : Fg) (C : Addr) : Bool :=
  oexB K C && (He.eqO (PySem.W.findIn K (.ref C) "__setattr__") (some (some (.builtin "object.__setattr__"))) &&
   (decide (PySem.W.subIn K (.ref C) (.type "BaseException") = some true) &&
   (decide (PySem.W.typeIn K (.ref C) = some (.type "type")) && (PySem.W.keepIn K (.ref C) && (xfB K C &&
   (He.eqO (PySem.W.findIn K (.ref C) "__class__") (some (some (.builtin "object.__class__"))) &&
    decide (PySem.W.mroIn K C (.type "object") = some true)))))))
def takB (K : Fg) : Bool :=
  He.eqO (PySem.W.specialIn K (.builtin "object.__class__") "__get__") (some (some (.builtin "getset_descriptor.__get__"))) &&
    decide (PySem.W.takesIn K (.builtin "object.__class__") = some true)
theorem errB_ok {K : Fg} {C : Addr} (h : errB K C = true) (hk : takB K = true) : OexC K C ∧ XfC K C ∧ Vx.IsC K C := by
  obtain ⟨h1, h⟩ := He.ba h
  obtain ⟨h2, h⟩ := He.ba h
  obtain ⟨h3, h⟩ := He.ba h
  obtain ⟨h4, h⟩ := He.ba h
  obtain ⟨h5, h⟩ := He.ba h
  obtain ⟨h6, h⟩ := He.ba h
  obtain ⟨h7, h8⟩ := He.ba h
  obtain ⟨k1, k2⟩ := He.ba hk
  have X := xfB_ok h6
  have c := oexB_ok h1
  refine ⟨⟨c, He.eqO_ok h2, of_decide_eq_true h3, of_decide_eq_true h4, h5⟩, X, ?_⟩
  refine ⟨?_, X.ga, X.gg, X.exC, He.eqO_ok h7, He.eqO_ok k1, of_decide_eq_true k2, of_decide_eq_true h8⟩
  obtain ⟨nm, q, N, bs, bm, sn, sub, ab, col, dd, k0, k1, k2, k3, k5, hC, hbm⟩ := c
  unfold PySem.W.clsIn
  rw [hC]
  rfl
/-- its own __init__ at f1, no field named f in the class -/
def iniB (K : Fg) (C : Addr) (fs : List Str) : Bool :=
  He.eqO (PySem.W.findIn K (.ref C) "__init__") (some (some (.ref (He.ma K C "__init__")))) &&
  (decide (PySem.W.typeIn K (.ref (He.ma K C "__init__")) = some (.type "function")) &&
   fs.all fun f => He.eqO (PySem.W.findIn K (.ref C) f) (some none))
structure Ini (K : Fg) (C : Addr) (fs : List Str) : Prop where
  iC : PySem.W.findIn K (.ref C) "__init__" = some (some (.ref (He.ma K C "__init__")))
  tI : PySem.W.typeIn K (.ref (He.ma K C "__init__")) = some (.type "function")
  no : ∀ f ∈ fs, PySem.W.findIn K (.ref C) f = some none
theorem iniB_ok {K : Fg} {C : Addr} {fs : List Str} (h : iniB K C fs = true) : Ini K C fs := by
  obtain ⟨h1, h⟩ := He.ba h
  obtain ⟨h2, h3⟩ := He.ba h
  exact ⟨He.eqO_ok h1, of_decide_eq_true h2, fun f hf => He.eqO_ok (List.all_eq_true.mp h3 f hf)⟩
end Vh

set_option Elab.async false
set_option linter.all false
set_option maxRecDepth 100000
set_option maxHeartbeats 2000000
/-! The head, with the getters of properties. -/
namespace Vh
open PySem PySem.Spec PyProof.Rows L2
/-- the getter of the property f of the class named c -/
def pgA (K : Fg) (c f : Str) : Addr := match PySem.W.recIn K (He.ma K (He.ga K c) f) "property" with
  | some (.ref g :: _) => g
  | _ => 0
def fnX (K : Fg) (a : Addr) : He.FnW := match K.lookup a with
  | some ⟨_, _, .func x, _⟩ => some (x.name, x.qualname, x.params, x.body, x.scope, x.globals, x.closure, x.builtins)
  | _ => none
def okX (K : Fg) (a : Addr) (q : Str) : Bool := PySem.W.keepIn K (.ref a) && (match K.lookup a with
  | some ⟨_, _, .func x, _⟩ => PySem.W.codeIn K x.code q && (He.dflB K x.defaults [] && He.kwdB K x.kwdefaults [])
  | _ => false)
theorem funX {K : Fg} {a : Addr} {d : He.DefD} (e : fnX K a = d.val) (c : okX K a d.qual = true) : ∃ fd, FunD K d.name d.qual d.params d.body d.scope [] [] a fd := by
  obtain ⟨kp, c2⟩ := He.ba c
  unfold fnX at e
  cases q : K.lookup a with
  | none =>
    rw [q] at c2
    cases c2
  | some o =>
    obtain ⟨w1, w2, w3, w4⟩ := o
    rw [q] at c2 e
    cases w3 with
    | func x =>
      obtain ⟨n1, n2, n3, n4, n5, n6, n7, n8, n9, n10, n11, n12, n13, n14, n15⟩ := x
      have e3 : (some (n1, n2, n3, n4, n5, n6, n7, n15) : He.FnW) = some (d.name, d.qual, d.params, .stmts d.body, d.scope, mainGlobals, [], builtinsNs) := e
      injection e3 with e3
      injection e3 with h1 e3
      injection e3 with h2 e3
      injection e3 with h3 e3
      injection e3 with h4 e3
      injection e3 with h5 e3
      injection e3 with h6 e3
      injection e3 with h7 h8
      subst h1 h2 h3 h4 h5 h6 h7 h8
      have c4 : (PySem.W.codeIn K n13 d.qual && (He.dflB K n8 [] && He.kwdB K n9 [])) = true := c2
      obtain ⟨g1, g2⟩ := He.ba c4
      obtain ⟨g3, g4⟩ := He.ba g2
      exact ⟨_, ⟨w1, w2, n8, n9, n10, n11, n12, n13, n14, w4, rfl, q, g1, He.dflB_ok g3, He.kwdB_ok g4⟩, kp⟩
    | _ => cases c2
abbrev PrD : Type := (Str × Str) × He.DefD
def obsP (f : Fg → Bool) (fn : List He.DefD) (pr : List PrD) (K : Fg) : He.AlD :=
  (f K && (fn.all (fun d => d.ok K) && pr.all fun q => okX K (pgA K q.1.1 q.1.2) q.2.qual), fn.map (fun d => He.fnW K d.at_) ++ pr.map fun q => fnX K (pgA K q.1.1 q.1.2))
def valP (fn : List He.DefD) (pr : List PrD) : He.AlD := (true, fn.map He.DefD.val ++ pr.map fun q => q.2.val)
def SaysP (f : Fg → Bool) (fn : List He.DefD) (pr : List PrD) (K : Fg) : Prop := obsP f fn pr K = valP fn pr
def obsPG (n : Nat) (f : Fg → Bool) (fn : List He.DefD) (pr : List PrD) (g : Addr → Option Obj) : He.AlD :=
  obsP f fn pr (He.frG g (He.asD g n))
def hookP (n : Nat) (f : Fg → Bool) (fn : List He.DefD) (pr : List PrD) : PySem.W.Hook where
  α := He.AlD
  obs := fun t => obsPG n f fn pr t.heap.get?
  val := fun _ => valP fn pr
  says := fun _ h => ∃ K : Fg, K.In h ∧ SaysP f fn pr K
  of := fun _ _ e => ⟨_, He.frG_in, e⟩
  keeps := fun _ _ _ ⟨K, hK, c⟩ k => ⟨K, PySem.W.Frag.In.keeps hK k, c⟩
theorem obsPG_eq {n : Nat} {f : Fg → Bool} {fn : List He.DefD} {pr : List PrD} {g : Addr → Option Obj} {t : Shared}
    (h : ∀ a, g a = t.heap.get? a) : obsPG n f fn pr g = (hookP n f fn pr).obs t := by
  have e : g = t.heap.get? := funext h
  rw [e] <;> rfl
section
variable {f : Fg → Bool} {fn : List He.DefD} {pr : List PrD} {K : Fg}
theorem SaysP.one (c : SaysP f fn pr K) : f K = true ∧ (∀ d ∈ fn, d.ok K = true) ∧ ∀ q ∈ pr, okX K (pgA K q.1.1 q.1.2) q.2.qual = true := by
  obtain ⟨h1, h2⟩ := He.ba (show (f K && (fn.all (fun d => d.ok K) && pr.all fun q => okX K (pgA K q.1.1 q.1.2) q.2.qual)) = true from congrArg (fun z : He.AlD => z.1) c)
  obtain ⟨h3, h4⟩ := He.ba h2
  exact ⟨h1, List.all_eq_true.mp h3, List.all_eq_true.mp h4⟩
theorem SaysP.two (c : SaysP f fn pr K) : fn.map (fun d => He.fnW K d.at_) = fn.map He.DefD.val ∧ pr.map (fun q => fnX K (pgA K q.1.1 q.1.2)) = pr.map fun q => q.2.val := by
  have e : fn.map (fun d => He.fnW K d.at_) ++ pr.map (fun q => fnX K (pgA K q.1.1 q.1.2)) = fn.map He.DefD.val ++ pr.map fun q => q.2.val := congrArg (fun z : He.AlD => z.2) c
  exact List.append_inj e (by rw [List.length_map, List.length_map])
theorem SaysP.def_ (c : SaysP f fn pr K) (i : Nat) {d : He.DefD} (h : fn[i]? = some d := by rfl) :
    ∃ fd, FunD K d.name d.qual d.params d.body d.scope (d.dvs K) (d.kws K) (He.fAd K d.at_) fd := by
  have e2 : (fn.map fun d => He.fnW K d.at_)[i]? = (fn.map He.DefD.val)[i]? := by rw [c.two.1]
  rw [List.getElem?_map, List.getElem?_map, h] at e2
  exact He.DefD.funD (Option.some.inj e2) (c.one.2.1 d (List.mem_of_getElem? h))
theorem SaysP.prp (c : SaysP f fn pr K) (i : Nat) {q : PrD} (h : pr[i]? = some q := by rfl) :
    ∃ fd, FunD K q.2.name q.2.qual q.2.params q.2.body q.2.scope [] [] (pgA K q.1.1 q.1.2) fd := by
  have e2 : (pr.map fun q => fnX K (pgA K q.1.1 q.1.2))[i]? = (pr.map fun q => q.2.val)[i]? := by rw [c.two.2]
  rw [List.getElem?_map, List.getElem?_map, h] at e2
  exact funX (Option.some.inj e2) (c.one.2.2 q (List.mem_of_getElem? h))
end
end Vh

set_option Elab.async false
set_option linter.all false
set_option maxRecDepth 100000
set_option maxHeartbeats 2000000
namespace Vl
open PySem PySem.Spec PyProof.Rows L2
theorem pe_weak {X : Cx} {e : Expr} {t t' : TE} (h : PE X e t) (w : ∀ s H Q, t' s H Q → t s H Q) : PE X e t' :=
  ⟨fun pins s σ H Q I q => h.run pins s σ H Q I (w σ H Q q)⟩
theorem pa_weak {X : Cx} {es : List Expr} {t t' : TA} (h : PA X es t) (w : ∀ s H Q, t' s H Q → t s H Q) : PA X es t' :=
  ⟨fun pos pins s σ H Q I q => h.run pos pins s σ H Q I (w σ H Q q)⟩
theorem s_seq {t u : TS} {D : Ends} {st : L2.St} {H : Hp} (h : t { D with nx := u D } st H) : tSeq t u D st H := h
def tMono (te : TE) : TE := fun s H Q => ∃ R : VK, te s H R ∧ ∀ v H1, R v H1 → Q v H1
theorem pe_mono {X : Cx} {e : Expr} {t : TE} (h : PE X e t) : PE X e (tMono t) :=
  ⟨fun pins s σ H Q I ⟨R, q, w⟩ => thn (h.run pins s σ H R I q) fun _ _ ⟨v, H1, I1, r, k⟩ => ⟨v, H1, I1, r, w v H1 k⟩⟩
theorem same_upd {H : Hp} {p : Addr} {o : HO} (h : H p = none) : Same H (upd H p o) := by
  intro b x e
  rw [upd_ne (ne_of_none e h)]
  exact e
theorem same_sqt {K : PySem.W.Frag} {H H' : Hp} {a : Addr} {xs : List V} (e : Same H H') (h : SqT K H a xs) : SqT K H' a xs := by
  rcases h with (h | ⟨o, h⟩) | h
  · exact .inl (.inl (e _ _ h))
  · exact .inl (.inr ⟨o, e _ _ h⟩)
  · exact .inr h
mutual
theorem dp_same {K : PySem.W.Frag} {H H' : Hp} (e : Same H H') : ∀ {v : V} {d : PyData}, Dp K H v d → Dp K H' v d
  | _, _, .non => .non
  | _, _, .bl b => .bl b
  | _, _, .int i => .int i
  | _, _, .str x => .str x
  | _, _, .lst h hs => .lst (e.seq h) (dpa_same e hs)
  | _, _, .tup h hs => .tup (same_sqt e h) (dpa_same e hs)
theorem dpa_same {K : PySem.W.Frag} {H H' : Hp} (e : Same H H') : ∀ {v : List V} {d : List PyData}, DpAll K H v d → DpAll K H' v d
  | _, _, .nil => .nil
  | _, _, .cons h hs => .cons (dp_same e h) (dpa_same e hs)
end
theorem dpa_rep {K : PySem.W.Frag} {H : Hp} {v : V} {d : PyData} (h : Dp K H v d) : ∀ n, DpAll K H (List.replicate n v) (List.replicate n d)
  | 0 => .nil
  | n + 1 => .cons h (dpa_rep h n)
theorem dpa_bl {K : PySem.W.Frag} {H : Hp} : ∀ bs : List Bool, DpAll K H (bs.map V.bl) (bs.map PyData.bool)
  | [] => .nil
  | b :: r => .cons (.bl b) (dpa_bl r)
/-- data that may be compared -/
def Low (d : PyData) : Prop := d.canLay0 = true ∧ d.depth ≤ 10
theorem low_rep {d : PyData} (h : Low d) : ∀ n, PyData.canLayAll0 (List.replicate n d) = true ∧ PyData.depthAll (List.replicate n d) ≤ 10
  | 0 => ⟨rfl, by show 0 ≤ 10; omega⟩
  | n + 1 => by
    obtain ⟨h1, h2⟩ := low_rep h n
    rw [List.replicate_succ]
    refine ⟨?_, ?_⟩
    · show (d.canLay0 && PyData.canLayAll0 (List.replicate n d)) = true
      rw [h.1, h1]
      rfl
    · show max d.depth (PyData.depthAll (List.replicate n d)) ≤ 10
      exact Nat.max_le.mpr ⟨h.2, h2⟩
theorem shaped_of {d : PyData} (h1 : d.canLay0 = true) (h2 : d.depth ≤ 64) : SeqAt.shaped d = true := by
  unfold SeqAt.shaped
  rw [h1, decide_eq_true h2]
  rfl
theorem low_bl : ∀ bs : List Bool, PyData.canLayAll0 (bs.map PyData.bool) = true ∧ PyData.depthAll (bs.map PyData.bool) = 0
  | [] => ⟨rfl, rfl⟩
  | b :: r => by
    obtain ⟨h1, h2⟩ := low_bl r
    refine ⟨?_, ?_⟩
    · show (true && PyData.canLayAll0 (r.map PyData.bool)) = true
      rw [h1]
      rfl
    · show max 0 (PyData.depthAll (r.map PyData.bool)) = 0
      rw [h2]
      rfl
theorem eqv_same {d : PyData} (h : d.canLay0 = true) : PyData.eqv d d = true := SeqAt.eqv_refl d h
theorem strOk_of (s : String) : PyData.strOk (Str.ofString s) = true := by
  unfold PyData.strOk
  rw [← Array.all_toList, PyProof.Rows.signs_ofString, List.all_eq_true]
  intro c hc
  obtain ⟨x, _, rfl⟩ := List.mem_map.mp hc
  refine decide_eq_true ?_
  have h := x.valid
  have : x.toNat = x.val.toNat := rfl
  rcases h with h | ⟨_, h⟩
  · rw [this]; exact Nat.lt_trans h (by decide)
  · rw [this]; exact h
theorem strOk_app {a b : Str} (ha : PyData.strOk a = true) (hb : PyData.strOk b = true) : PyData.strOk (a ++ b) = true := by
  unfold PyData.strOk at *
  show ((a.cps ++ b.cps).all _) = true
  rw [Array.all_append, ha, hb]
  rfl
def EvP (te : TE) (st : L2.St) (H : Hp) (P : V → Hp → Prop) : Prop :=
  ∀ H1, Evl.Ex H H1 → ∀ Q : VK, (∀ x H2, Evl.Ex H1 H2 → P x H2 → Q x H2) → te st H1 Q
def EvAP (ta : TA) (st : L2.St) (H : Hp) (P : List V → Hp → Prop) : Prop :=
  ∀ H1, Evl.Ex H H1 → ∀ Q : List V → Hp → Prop, (∀ x H2, Evl.Ex H1 H2 → P x H2 → Q x H2) → ta st H1 Q
theorem eap_nil {st : L2.St} {H : Hp} : EvAP tNil st H (fun xs _ => xs = []) :=
  fun H1 _ Q q => q [] H1 (Evl.Ex.refl H1) rfl
theorem eap_cons {te : TE} {tr : TA} {st : L2.St} {H : Hp} {P : V → Hp → Prop} {R : List V → Hp → Prop}
    (h : EvP te st H P) (hr : EvAP tr st H R) (mono : ∀ x H1 H2, Evl.Ex H1 H2 → P x H1 → P x H2) :
    EvAP (tCons te tr) st H (fun vs H1 => ∃ x xs, vs = x :: xs ∧ P x H1 ∧ R xs H1) := by
  intro H1 e Q q
  refine h H1 e _ fun x H2 e2 p => ?_
  refine hr H2 (e.trans e2) _ fun xs H3 e3 r => ?_
  exact q _ H3 (e2.trans e3) ⟨x, xs, rfl, mono x H2 H3 e3 p, r⟩
/-- an error: its class at C, its only field f holding v -/
def ErrV (H : Hp) (a C : Addr) (f : Str) (v : V) : Prop :=
  ∃ d, H a = some (exo a C (some d)) ∧ H d = some (exd d [(f, v)])
theorem ErrV.mono {H H' : Hp} {a C : Addr} {f : Str} {v : V} (e : Evl.Ex H H') (h : ErrV H a C f v) : ErrV H' a C f v := by
  obtain ⟨d, h1, h2⟩ := h
  exact ⟨d, e _ _ h1, e _ _ h2⟩
theorem ErrV.at_ {H : Hp} {a C : Addr} {f : Str} {v : V} (h : ErrV H a C f v) : Vx.ExAt H a C := by
  obtain ⟨d, h1, h2⟩ := h
  exact .inr ⟨d, _, h1, h2⟩
theorem exAt_mono {H H' : Hp} {a C : Addr} (e : Evl.Ex H H') (h : Vx.ExAt H a C) : Vx.ExAt H' a C := by
  rcases h with h | ⟨d, fs, h1, h2⟩
  · exact .inl (e _ _ h)
  · exact .inr ⟨d, fs, e _ _ h1, e _ _ h2⟩
def Errs (v : V) : List (Addr × Str) → List V → Hp → Prop
  | [], xs, _ => xs = []
  | (C, f) :: r, xs, H => ∃ a ys, xs = .ref a :: ys ∧ ErrV H a C f v ∧ Errs v r ys H
theorem Errs.mono {v : V} {H H' : Hp} (e : Evl.Ex H H') : ∀ {l : List (Addr × Str)} {xs : List V}, Errs v l xs H → Errs v l xs H'
  | [], _, h => h
  | (C, f) :: r, _, h => by
    obtain ⟨a, ys, h1, h2, h3⟩ := h
    exact ⟨a, ys, h1, h2.mono e, Errs.mono e h3⟩
theorem Errs.len {v : V} {H : Hp} : ∀ {l : List (Addr × Str)} {xs : List V}, Errs v l xs H → xs.length = l.length
  | [], _, h => by
    rw [show _ = [] from h]
    rfl
  | (C, f) :: r, _, h => by
    obtain ⟨a, ys, h1, h2, h3⟩ := h
    rw [h1, List.length_cons, List.length_cons, Errs.len h3]
theorem Errs.app {v : V} {H : Hp} : ∀ {l m : List (Addr × Str)} {xs ys : List V}, Errs v l xs H → Errs v m ys H → Errs v (l ++ m) (xs ++ ys) H
  | [], m, xs, ys, h, h' => by
    rw [show xs = [] from h]
    exact h'
  | (C, f) :: r, m, xs, ys, h, h' => by
    obtain ⟨a, zs, h1, h2, h3⟩ := h
    rw [h1]
    exact ⟨a, zs ++ ys, rfl, h2, Errs.app h3 h'⟩
theorem Errs.get {v : V} {H : Hp} : ∀ {l : List (Addr × Str)} {xs : List V} {i : Nat} {x : V}, Errs v l xs H → xs[i]? = some x →
    ∃ C f a, l[i]? = some (C, f) ∧ x = .ref a ∧ ErrV H a C f v
  | [], xs, i, x, h, hi => by
    rw [show xs = [] from h] at hi
    cases hi
  | (C, f) :: r, xs, 0, x, h, hi => by
    obtain ⟨a, ys, h1, h2, h3⟩ := h
    rw [h1] at hi
    have e : V.ref a = x := Option.some.inj hi
    exact ⟨C, f, a, rfl, e.symm, h2⟩
  | (C, f) :: r, xs, i + 1, x, h, hi => by
    obtain ⟨a, ys, h1, h2, h3⟩ := h
    rw [h1] at hi
    exact Errs.get (i := i) h3 hi
theorem given_rep (v : V) : ∀ n, Evl.given n (fun _ => true) (fun _ => v) = List.replicate n v := by
  intro n
  induction n with
  | zero => rfl
  | succ n ih =>
    rw [Evl.given_yes rfl, ih, ← List.replicate_succ']
/-- __init__(self, f): self.f = f -/
def spIni (C : Addr) (f : Str) : Sp := fun vs H Q _ => ∃ (a : Addr) (v : V), vs = [.ref a, v] ∧ H a = some (exo a C none) ∧
  ∀ dx, H dx = none → dx ≠ a → Q .non (upd (upd H dx (exd dx [(f, v)])) a (exo a C (some dx)))
section
variable {P : Program} {w : World} {K : PySem.W.Frag} {mg : Str → Option Value} {base : Heap}
theorem ok_ini1 {f qual : Str} {pa : Arguments} {bd : List Stmt} {sc : Scope} {fI C : Addr} {fd : FuncData} {p1 p2 p3 p4 : Pos}
    (F : FunD K "__init__" qual pa bd sc [] [] fI fd) (S : FnScope ["self", f] ["self", f] sc)
    (hb : bd = [.Assign [.Attribute (.Name "self" p1) f p2] (.Name f p3) p4]) (T : OexC K C)
    (no : PySem.W.findIn K (.ref C) f = some none) (hd : (f == ("__debug__" : Str)) = false)
    (hc : (f == ("__classdict__" : Str)) = false) : FnOk P w K mg base CX0 1 fI fd ["self", f] (spIni C f) := by
  refine F.ok (CX := CX0) S (fun vs H Q E h => ?_) (fun cdv A outer s H vs Q E hr h => ?_)
  · obtain ⟨a, v, rfl, _⟩ := h
    rfl
  · rw [hb]
    have v0 := vis_par S (x := "self") List.mem_cons_self
    have v1 := vis_par S (x := f) (List.mem_cons_of_mem _ List.mem_cons_self)
    refine ⟨_, (pss_one (ps_ost (pe_var (i := 0) rfl v0) (pe_var (i := 1) rfl v1 hd hc))), ?_⟩
    obtain ⟨a, v, rfl, ha, q⟩ := h
    exact ⟨v, rfl, .ref a, rfl, a, C, rfl, T, no, .inl ⟨ha, fun dx h1 h2 => q dx h1 h2⟩⟩
end
section
variable {X : Cx} {C fI : Addr} {k : Nat} {fd : FuncData} {e : Expr} {te : TE} {x f : Str} {p pos : Pos}
def tErr (C : Addr) (f : Str) (te : TE) : TE := fun st H Q => te st H fun v H1 =>
  ∀ a H2, H1 a = none → Same H1 H2 → ErrV H2 a C f v → Q (.ref a) H2
theorem pe_err (T : OexC X.K C)
    (iC : PySem.W.findIn X.K (.ref C) "__init__" = some (some (.ref fI)))
    (tI : PySem.W.typeIn X.K (.ref fI) = some (.type "function"))
    (F1 : FnOk X.prog X.w X.K X.mg X.base CX0 k fI fd ["self", f] (spIni C f))
    (hr : Room (k + 1) X.A) (hb : Binds X.K fd ["self", f] []) (hg : Gl X x)
    (hm : X.mg x = some (.ref C)) (ha : PE X e te)
    (hdb : (x == ("__debug__" : Str)) = false := by decide)
    (hs : starEach [e] X.env = (false, eval e X.env) :: starEach [] X.env := by rfl) :
    PE X (.Call (.Name x p) [e] [] pos) (tErr C f te) := by
  have ha2 : PE X e (tMono te) := pe_mono ha
  refine pe_weak (Vx.pe_mkV T iC tI F1 hr hb hg hm (pa_cons ha2 pa_nil hs) hdb hs (by rfl)) ?_
  intro st H Q h
  refine ⟨_, h, fun v H1 q => ⟨by show 1 ≤ 1000; omega, fun a na => ?_⟩⟩
  refine ⟨a, v, rfl, upd_same, fun dx n1 n2 => ⟨rfl, ?_⟩⟩
  have nd : H1 dx = none := by rw [upd_ne n2] at n1; exact n1
  refine q a _ na (fun b o hb => ?_) ⟨dx, upd_same, ?_⟩
  · rw [upd_ne (ne_of_none hb na), upd_ne (ne_of_none hb nd), upd_ne (ne_of_none hb na)]
    exact hb
  · rw [upd_ne n2, upd_same]
end
end Vl

set_option Elab.async false
set_option linter.all false
set_option maxRecDepth 100000
set_option maxHeartbeats 2000000
/-! Operators that a class of the program defines: by its methods' promises. -/
namespace Vo
open PySem PySem.Spec PyProof.Rows L2
section
variable {X : Cx} {CX : CXT} {k : Nat} {f C : Addr} {fd : FuncData} {ps : List Str} {sp : Sp}
variable {pins : List (Addr × Obj)} {σ : L2.St} {H : Hp} {s : Shared} {Q : VK} {us : List Value} {vs : List V} {E : XK}
/-- a method called one level further in -/
theorem run_in1 (F : FnOk X.prog X.w X.K X.mg X.base CX k f fd ps sp) (hr : Room (k + 1) X.A) (hb : Binds X.K fd ps [])
    (hx : PassesAt CX X σ E) (I : Inv X pins σ H s) (r : Vals vs us) (h : sp vs H Q E) :
    wpAny (model X.prog X.w) X.A.in1 (call (.ref f) us) (EP X pins σ Q) X.xe s := by
  have hl : us.length = ps.length := by
    rw [← r.length]
    exact F.len _ _ _ _ h
  have b := hb s us I.kIn (by rw [List.append_nil]; exact hl)
  rw [List.append_nil] at b
  have run := F.run X.A.in1 X.stack s H ⟨us, []⟩ us vs Q E hr.in1 I.env0.in1 b r h
  refine wpAny_call (codeAny_mono run ?_)
  intro z s' hq
  cases z with
  | error e => exact hx pins H s e s' I hq
  | ok fl =>
    cases fl with
    | ret u => exact I.after hq
    | next => exact False.elim hq
    | brk => exact False.elim hq
    | cont => exact False.elim hq
/-- the same where it stands -/
theorem run_here (F : FnOk X.prog X.w X.K X.mg X.base CX k f fd ps sp) (hr : Room k X.A) (hb : Binds X.K fd ps [])
    (hx : PassesAt CX X σ E) (I : Inv X pins σ H s) (r : Vals vs us) (h : sp vs H Q E) :
    wpAny (model X.prog X.w) X.A (call (.ref f) us) (EP X pins σ Q) X.xe s :=
  run_fnS (E := fun _ => E) F hr hb hx I r h
end
section
variable {X : Cx} {CX : CXT} {k : Nat} {f C : Addr} {fd : FuncData} {ps : List Str} {sp : Sp} {E : L2.St → XK}
variable {a b : Expr} {ta tb : TE} {pos : Pos}
/-- one operand an instance of the class at C -/
def tOwn1 (C : Addr) (sp : Sp) (E : L2.St → XK) (ta : TE) : TE := fun st H Q => ta st H fun x H1 =>
  ∃ o dx fs, x = .ref o ∧ H1 o = some (.ins C dx fs) ∧ sp [x] H1 Q (E st)
/-- the left one of two -/
def tOwn2 (C : Addr) (R : V → Prop) (sp : Sp) (E : L2.St → XK) (ta tb : TE) : TE := fun st H Q => ta st H fun x H1 => tb st H1 fun y H2 =>
  ∃ o dx fs, x = .ref o ∧ H2 o = some (.ins C dx fs) ∧ R y ∧ sp [x, y] H2 Q (E st)
theorem inst_at {pins : List (Addr × Obj)} {σ : L2.St} {H : Hp} {s : Shared} {o dx : Addr} {fs : List (Str × V)} (I : Inv X pins σ H s) (ea : H o = some (.ins C dx fs)) :
    ∃ ob od, PySem.W.InstAt s.heap o ob C (some od) := by
  obtain ⟨mA, O, _, _, _, _⟩ := ins_get I.hok ea
  obtain ⟨od, J, _⟩ := O.look
  exact ⟨_, od, J⟩
/-- o[i] -/
theorem pe_ixO (M : Meth X.K C "__getitem__" f) (hf : PySem.W.fnIn X.K f = true) (F : FnOk X.prog X.w X.K X.mg X.base CX k f fd ps sp) (hr : Room (k + 1) X.A) (hb : Binds X.K fd ps [])
    (hx : ∀ st, PassesAt CX X st (E st)) (ha : PE X a ta) (hi : PE X b tb)
    (hs : ∀ o i, subscripted b true (.ref o) i = runValue (.builtin "lifetime.subscript" ⟨[.ref o, i], []⟩)) :
    PE X (.Subscript a b pos) (tOwn2 C (fun _ => True) sp E ta tb) := by
  refine ⟨fun pins s σ H Q I h => ?_⟩
  refine Subscript_ (binT ha hi I h fun v u s2 x y H2 I2 rx ry q => ?_)
  obtain ⟨o, dx, fs, rfl, eo, _, q⟩ := q
  obtain rfl : v = Value.ref o := rx
  obtain ⟨ob, od, J⟩ := inst_at I2 eo
  obtain ⟨m, fr⟩ := I2.fr
  exact PySem.W.sub_K fr I2.ok.mod.kin J M.at_ hf M.fn (run_in1 F hr hb (hx σ) I2 (Paired.cons (show RelV (V.ref o) (Value.ref o) from rfl) (.cons ry .nil)) q) (hs o u)
/-- -o -/
theorem pe_negO (M : Meth X.K C "__neg__" f) (F : FnOk X.prog X.w X.K X.mg X.base CX k f fd ps sp) (hr : Room k X.A) (hb : Binds X.K fd ps [])
    (hx : ∀ st, PassesAt CX X st (E st)) (ha : PE X a ta) : PE X (.UnaryOp .USub a pos) (tOwn1 C sp E ta) := by
  refine ⟨fun pins s σ H Q I h => ?_⟩
  refine UnaryOp_ (thn (ha.run pins s σ H _ I h) fun v s1 ⟨x, H1, I1, r1, q1⟩ => ?_)
  obtain ⟨o, dx, fs, rfl, eo, q⟩ := q1
  obtain rfl : v = Value.ref o := r1
  obtain ⟨ob, od, J⟩ := inst_at I1 eo
  obtain ⟨m, fr⟩ := I1.fr
  exact PySem.W.ksp_neg fr I1.ok.mod.kin J M.at_ M.fn (run_here F hr hb (hx σ) I1 (Paired.cons (show RelV (V.ref o) (Value.ref o) from rfl) .nil) q)
end
section
variable {X : Cx} {CX : CXT} {k : Nat} {f C : Addr} {fd : FuncData} {ps : List Str} {sp : Sp} {E : L2.St → XK}
variable {a b : Expr} {ta tb : TE} {pos : Pos}
/-- what comes back is no NotImplemented: any V's value -/
theorem cmp_back {pins : List (Addr × Obj)} {σ : L2.St} {Q : VK} {u : Value} {s' : Shared} (h : EP X pins σ Q u s') : PySem.W.CmpBack (EP X pins σ Q) u s' := by
  obtain ⟨v, H', I, r, q⟩ := h
  have hn : u ≠ .notImplemented := by
    intro z
    subst z
    cases v with
    | non => cases r
    | bl b => cases r
    | int i => obtain ⟨t, z⟩ := r; cases z
    | str x => obtain ⟨t, z⟩ := r; cases z
    | byt x => obtain ⟨t, z⟩ := r; cases z
    | flt x => obtain ⟨t, z⟩ := r; cases z
    | ref a => cases r
    | ty n => cases r
  have k : EP X pins σ Q u s' := ⟨v, H', I, r, q⟩
  unfold PySem.W.CmpBack
  cases u with
  | notImplemented => exact absurd rfl hn
  | _ => exact k
/-- the class's own operators: what the written part must say -/
structure OwnOp (K : PySem.W.Frag) (C : Addr) (nm : String) (f : Addr) : Prop where
  fst : PySem.W.selfFirst K C = true
  at_ : PySem.W.findIn K (.ref C) (PySem.dunder nm) = some (some (.ref f))
  fn : PySem.W.isFn K (.ref f) = true
  r : PySem.W.findIn K (.ref C) (dunderR nm) = some none
/-- the right operand is of the built-in type T, which knows nothing of C -/
structure Far (K : PySem.W.Frag) (C : Addr) (nm T : String) : Prop where
  h1 : ∃ fo, PySem.W.findIn K (.type T) (PySem.dunder nm) = some fo
  h2 : ∃ ro, PySem.W.findIn K (.type T) (dunderR nm) = some ro
  sub : PySem.W.subIn K (.type T) (.ref C) = some false
theorem own_bin {prog : Program} {w : World} {A : Around} {Er : Value → Shared → Prop} {s : Shared} {K : PySem.W.Frag} {x C L f : Addr} {h0 : Heap} {m : Str → Option Value} {ox : Obj} {od : Option Obj} {T : String}
    {op : Operator} {b : Value} {Q : Value → Shared → Prop} (F : Fr h0 L s.heap m) (X0 : K.In h0) (I : PySem.W.InstAt s.heap x ox C od)
    (hb : PySem.W.Looks (model prog w) s.heap (typeOf b) (.type T)) (W : OwnOp K C op.info.2 f) (Z : Far K C op.info.2 T)
    (h : wpAny (model prog w) A (call (.ref f) [.ref x, b]) (PySem.W.CmpBack Q) Er s) : wpAny (model prog w) A (binaryOp op (.ref x) b) Q Er s := by
  have X := X0.keeps F.keep
  obtain ⟨cd, rest, hcd, hm⟩ := PySem.W.ksp_first W.fst
  obtain ⟨fo, h1⟩ := Z.h1
  obtain ⟨ro, h2⟩ := Z.h2
  have one := PySem.W.ksp_try X I W.at_ W.fn h
  rcases hi : op.info with ⟨sym, nm⟩
  have wa := W.at_
  have wr := W.r
  rw [hi] at wa wr h1 h2
  rw [hi] at one
  dsimp only at wa wr h1 h2 one
  obtain ⟨hh, g, d, tt, os⟩ := s
  have a1 : PySem.W.Looks (model prog w) hh (typeOf (.ref x)) (.ref C) := I.type
  have a2 : PySem.W.Looks (model prog w) hh (typeOf b) (.type T) := hb
  have a3 := PySem.W.fills_K (M := model prog w) X hcd hm wa
  have a4 := PySem.W.ksp_fillsT (M := model prog w) X h1 h2
  have a5 := PySem.W.looks_subIn (M := model prog w) X Z.sub
  have a6 := PySem.W.ksp_inPy (M := model prog w) X wa wr (.inl rfl)
  have a7 : PySem.W.Looks (model prog w) hh (numberSlotInPython (.type T) nm) false := PySem.W.Looks.of_pure rfl
  have a8 := PySem.W.looks_findIn (M := model prog w) X h2
  revert a4
  generalize ((fo.isSome && !isSeqSlot fo) || (ro.isSome && !isSeqSlot ro)) = rt
  intro a4
  have ne : (Value.ref C == Value.type T) = false := by
    refine Bool.eq_false_iff.mpr fun q => ?_
    cases beq_iff_eq.mp q
  simp only [binaryOp, hi]
  refine wpAny_holding (wpAny_bind ?_)
  unfold binaryOp1
  refine wpAny_bind (a1.at (wpAny_bind (a2.at (wpAny_bind (a3.at ?_)))))
  simp only [ne, Bool.false_eq_true, if_false]
  cases rt
  all_goals
    ksp_lk
    refine wpAny_mono one (fun r s' hr => ?_) fun _ _ z => z
    obtain ⟨v, rfl, hq⟩ := hr
    ksp_lk
    exact hq
/-- o op y, y of a built-in type -/
theorem pe_binO {op : Operator} {T : V → Hp → String → Prop} (W : OwnOp X.K C op.info.2 f)
    (Z : ∀ y H t, T y H t → Far X.K C op.info.2 t)
    (hT : ∀ (pins : List (Addr × Obj)) (st : L2.St) (H : Hp) (s : Shared) (y : V) (u : Value) (t : String), Inv X pins st H s → RelV y u → T y H t → PySem.W.Looks (model X.prog X.w) s.heap (typeOf u) (.type t))
    (F : FnOk X.prog X.w X.K X.mg X.base CX k f fd ps sp) (hr : Room k X.A) (hb : Binds X.K fd ps [])
    (hx : ∀ st, PassesAt CX X st (E st)) (ha : PE X a ta) (hi : PE X b tb) :
    PE X (.BinOp a op b pos) (fun st H Q => ta st H fun x H1 => tb st H1 fun y H2 => ∃ o dx fs t, x = .ref o ∧ H2 o = some (.ins C dx fs) ∧ T y H2 t ∧ sp [x, y] H2 Q (E st)) := by
  refine ⟨fun pins s σ H Q I h => ?_⟩
  refine wpAny_BinOp (binT ha hi I h fun v u s2 x y H2 I2 rx ry q => ?_)
  obtain ⟨o, dx, fs, t, rfl, eo, ht, q⟩ := q
  obtain rfl : v = Value.ref o := rx
  obtain ⟨ob, od, J⟩ := inst_at I2 eo
  obtain ⟨m, fr⟩ := I2.fr
  refine own_bin fr I2.ok.mod.kin J (hT _ _ _ _ _ _ _ I2 ry ht) W (Z _ _ _ ht) ?_
  exact wpAny_mono (run_here F hr hb (hx σ) I2 (Paired.cons (show RelV (V.ref o) (Value.ref o) from rfl) (.cons ry .nil)) q) (fun u s' z => cmp_back z) fun _ _ z => z
/-- Passes, at some slots -/
theorem passes_at {E1 : XK} (h : Passes CX X E1) (st : L2.St) : PassesAt CX X st E1 := fun pins H s e s' I c => h pins st H s e s' I c
def rOwn (C : Addr) (T : V → Hp → Value → Prop) (sp : Sp) (E1 : XK) : R2 := fun x y H Q =>
  ∃ o dx fs t, x = .ref o ∧ H o = some (.ins C dx fs) ∧ T y H t ∧ sp [x, y] H Q E1
/-- o == y -/
theorem op_eqO {E1 : XK} {T : V → Hp → Value → Prop} (M : Meth X.K C "__eq__" f) (Z : ∀ y H t, T y H t → PySem.W.notFirst X.K C t = true)
    (hT : ∀ (pins : List (Addr × Obj)) (st : L2.St) (H : Hp) (s : Shared) (y : V) (u t : Value), Inv X pins st H s → RelV y u → T y H t → PySem.W.Looks (model X.prog X.w) s.heap (typeOf u) t)
    (F : FnOk X.prog X.w X.K X.mg X.base CX k f fd ps sp) (hr : Room k X.A) (hb : Binds X.K fd ps []) (hx : Passes CX X E1) :
    OpR X (compareOp .Eq) (rOwn C T sp E1) := by
  intro pins s σ H x y v u Q I rx ry q
  obtain ⟨o, dx, fs, t, rfl, eo, ht, q⟩ := q
  obtain rfl : v = Value.ref o := rx
  obtain ⟨ob, od, J⟩ := inst_at I eo
  obtain ⟨m, fr⟩ := I.fr
  unfold compareOp
  refine PySem.W.cmp_K (hu_lt hr) fr I.ok.mod.kin J (hT _ _ _ _ _ _ _ I ry ht) (Z _ _ _ ht) M.at_ M.fn ?_
  exact wpAny_mono (run_here F hr hb (passes_at hx σ) I (Paired.cons (show RelV (V.ref o) (Value.ref o) from rfl) (.cons ry .nil)) q) (fun u s' z => cmp_back z) fun _ _ z => z
where
  hu_lt {k : Nat} {A : Around} (hr : Room k A) : A.units < cLine := by have := hr.un; omega
/-- the class has an own __eq__ and no own __ne__, no base but object -/
def neB (K : PySem.W.Frag) (C f : Addr) : Bool :=
  match K.lookup C with
  | some ⟨.type "type", _, .cls cd, sl⟩ =>
    (match cd.mro with
      | [.ref D, .type "object"] => D == C
      | _ => false) && ((match sl.toList with
      | [_, _, _, _, some (.builtin _), _] => true
      | _ => false) && (!cd.hasDel && (PySem.W.nsOkIn K cd.ns && (decide (PySem.W.nsIn K cd.ns "__eq__" = some (some (.ref f))) &&
        (decide (PySem.W.nsIn K cd.ns "__ne__" = some none) && PySem.W.isFn K (.ref f))))))
  | _ => false
theorem ns_val {K : PySem.W.Frag} {h : Heap} {N : Addr} {mg : Str → Option Value} {n : Str} {v : Value} (X : K.In h) (G : h.Ns N mg) (e : PySem.W.nsIn K N n = some (some v)) : mg n = some v := by
  obtain ⟨o, es, ep, ho, hd, _, hf⟩ := G
  unfold PySem.W.nsIn at e
  split at e
  · rename_i c d es2 n2 sl q
    obtain rfl := Option.some.inj (ho.symm.trans (X _ _ q))
    cases hd
    split at e
    · next en he =>
        obtain rfl := Option.some.inj (Option.some.inj e)
        rw [← hf]
        unfold nsFind findBy
        rw [← Array.find?_toList, he]
        rfl
    · split at e <;> cases e
  · cases e
theorem ne_at {K : PySem.W.Frag} {C f x : Addr} {h : Heap} {ob : Obj} {od : Option Obj} (X : K.In h) (I : PySem.W.InstAt h x ob C od) (q : neB K C f = true) : h.OwnEqNoNe x C f "object" [.type "object"] := by
  unfold neB at q
  split at q
  · rename_i dd cd sl ho
    obtain ⟨q1, q⟩ := Bool.and_eq_true_iff.mp q
    obtain ⟨q2, q⟩ := Bool.and_eq_true_iff.mp q
    obtain ⟨q3, q⟩ := Bool.and_eq_true_iff.mp q
    obtain ⟨q4, q⟩ := Bool.and_eq_true_iff.mp q
    obtain ⟨q5, q⟩ := Bool.and_eq_true_iff.mp q
    obtain ⟨q6, q7⟩ := Bool.and_eq_true_iff.mp q
    split at q1
    · rename_i D hm
      split at q2
      · rename_i k0 k1 k2 k3 n k5 hs
        obtain rfl : D = C := beq_iff_eq.mp q1
        obtain ⟨nm, bs, mro, ns, qn, hd, sn, sub, ab, col, del⟩ := cd
        dsimp only at hm q3 q4 q5 q6
        have e3 : del = false := by
          cases del with
          | false => rfl
          | true => cases q3
        subst hm e3
        obtain ⟨l⟩ := sl
        dsimp only at hs
        subst hs
        have G : h.Ns ns (h.nsMap ns) := .of_isNs (PySem.W.isNs_of_in X q4)
        have g1 : h.nsMap ns "__eq__" = some (.ref f) := ns_val X G (of_decide_eq_true q5)
        have g2 : h.nsMap ns "__ne__" = none := PySem.W.ns_none_of X G (of_decide_eq_true q6)
        have tf : PySem.W.typeIn K (.ref f) = some (.type "function") := beq_iff_eq.mp q7
        obtain ⟨fo, hfo, hfc⟩ := Option.map_eq_some_iff.mp (show (K.lookup f).map (·.cls) = some (.type "function") from tf)
        refine ⟨ob, fo, nm, qn, ns, bs, hd, sn, sub, ab, col, dd, k0, k1, k2, k3, k5, n, h.nsMap ns, some (.builtin "object.__eq__"), I.at_, I.cls, X _ _ ho, G, g1, X _ _ hfo, hfc, (by kernel_rfl), ?_, g2⟩
        rw [typeLookup_type, builtinLookup_eq_fast]
        kernel_rfl
      · cases q2
    · cases q1
  · cases q
def rNe (C : Addr) (sp : Sp) (E1 : XK) : R2 := fun x y H Q =>
  ∃ o dx fs o2 dx2 fs2, x = .ref o ∧ y = .ref o2 ∧ H o = some (.ins C dx fs) ∧ H o2 = some (.ins C dx2 fs2) ∧ sp [x, y] H (fun v H1 => ∃ b, v = .bl b ∧ Q (.bl (!b)) H1) E1
/-- o != y, both of the class, which has __eq__ and no __ne__ -/
theorem op_neO {E1 : XK} (q : neB X.K C f = true) (F : FnOk X.prog X.w X.K X.mg X.base CX k f fd ps sp) (hr : Room (k + 1) X.A) (hb : Binds X.K fd ps []) (hx : Passes CX X E1) :
    OpR X (compareOp .NotEq) (rNe C sp E1) := by
  intro pins s σ H x y v u Q I rx ry q1
  obtain ⟨o, dx, fs, o2, dx2, fs2, rfl, rfl, eo, eo2, qs⟩ := q1
  obtain rfl : v = Value.ref o := rx
  obtain rfl : u = Value.ref o2 := ry
  obtain ⟨ob, od, J⟩ := inst_at I eo
  obtain ⟨ob2, od2, J2⟩ := inst_at I eo2
  obtain ⟨m, fr⟩ := I.fr
  have hu : X.A.units + 1 < cLine := by have := hr.un; omega
  have X0 := I.ok.mod.kin.keeps fr.keep
  have run := run_in1 F hr hb (passes_at hx σ) I (Paired.cons (show RelV (V.ref o) (Value.ref o) from rfl) (.cons (show RelV (V.ref o2) (Value.ref o2) from rfl) .nil)) qs
  obtain ⟨hh, g, d, t, os⟩ := s
  refine compareOp_ne_ownEq PySem.F.cmp_object (ne_at X0 J q) J2.at_ J2.cls hu (wpAny_mono run (fun z s' hz => ?_) fun _ _ z => z)
  obtain ⟨v1, H1, I1, r1, b, rfl, q2⟩ := hz
  exact ⟨b, r1, .bl (!b), H1, I1, rfl, q2⟩
/-- len(o) by the class's __len__ -/
theorem call_lenO {E1 : XK} (M : Meth X.K C "__len__" f) (hf : PySem.W.isFn X.K (.ref f) = true) (F : FnOk X.prog X.w X.K X.mg X.base CX k f fd ps sp) (hr : Room (k + 1) X.A) (hb : Binds X.K fd ps []) (hx : Passes CX X E1) :
    CallR X (.builtin "len") (fun xs H Q => ∃ o dx fs, xs = [.ref o] ∧ H o = some (.ins C dx fs) ∧ sp [.ref o] H (fun v H1 => ∃ n : Nat, v = .int n ∧ n < 2 ^ 62 ∧ Q (.int n) H1) E1) := by
  intro pins s σ H xs us Q I r h
  obtain ⟨o, dx, fs, rfl, eo, qs⟩ := h
  obtain ⟨u, rfl, rx⟩ := vals1 r
  obtain rfl : u = Value.ref o := rx
  obtain ⟨ob, od, J⟩ := inst_at I eo
  obtain ⟨m, fr⟩ := I.fr
  refine PySem.W.len_K fr I.ok.mod.kin J M.at_ hf (wpAny_mono (run_in1 F hr hb (passes_at hx σ) I (Paired.cons (show RelV (V.ref o) (Value.ref o) from rfl) .nil) qs) (fun z s' hz => ?_) fun _ _ z => z)
  obtain ⟨v1, H1, I1, r1, n, rfl, hn, q2⟩ := hz
  obtain ⟨t1, rfl⟩ := r1
  exact ⟨⟨by omega, by omega⟩, .int n, H1, I1.tok _, ⟨_, rfl⟩, q2⟩
/-- a < b, of data -/
def rLtD (K : PySem.W.Frag) : R2 := fun x y H Q => ∃ d e, Dp K H x d ∧ Dp K H y e ∧ PySem.W.alike d e = true ∧ d ≠ .none ∧ min d.depth e.depth ≤ 64 ∧ Q (.bl (PySem.W.dataLt d e)) H
theorem op_ltD (hu : X.A.units + 64 < cLine) : OpR X (compareOp .Lt) (rLtD X.K) := by
  intro pins s σ H x y v u Q I rx ry q
  obtain ⟨d, e, hd, he, ha, hn, hm, q⟩ := q
  obtain ⟨as, r1⟩ := Dp.reads I d x v hd rx
  obtain ⟨bs, r2⟩ := Dp.reads I e y u he ry
  exact PySem.W.lt_data r1 r2 ha hn (by omega) ⟨.bl _, H, I, rfl, q⟩
end
end Vo

set_option Elab.async false
set_option linter.all false
set_option maxRecDepth 100000
set_option maxHeartbeats 2000000
/-! y in o, y not in o: the class's own __contains__. -/
namespace Vo
open PySem PySem.Spec PyProof.Rows L2
section
variable {X : Cx} {CX : CXT} {k : Nat} {f C : Addr} {fd : FuncData} {ps : List Str} {sp : Sp} {E1 : XK}
/-- its promise gives a bool, which neg turns about -/
def rHas (C : Addr) (neg : Bool) (sp : Sp) (E1 : XK) : R2 := fun y x H Q =>
  ∃ o dx fs, x = .ref o ∧ H o = some (.ins C dx fs) ∧ sp [x, y] H (fun v H1 => ∃ b, v = .bl b ∧ Q (.bl (if neg = true then !b else b)) H1) E1
theorem op_inO (M : Meth X.K C "__contains__" f) (F : FnOk X.prog X.w X.K X.mg X.base CX k f fd ps sp) (hr : Room k X.A) (hb : Binds X.K fd ps []) (hx : Passes CX X E1) : OpR X (compareOp .In) (rHas C false sp E1) := by
  intro pins s σ H y x u v Q I ry rx q
  obtain ⟨o, dx, fs, rfl, eo, qs⟩ := q
  obtain rfl : v = Value.ref o := rx
  obtain ⟨ob, od, J⟩ := inst_at I eo
  obtain ⟨m, fr⟩ := I.fr
  refine PySem.W.in_K fr I.ok.mod.kin J M.at_ M.fn (wpAny_mono (run_here F hr hb (passes_at hx σ) I (Paired.cons (show RelV (V.ref o) (Value.ref o) from rfl) (.cons ry .nil)) qs) (fun z s' hz => ?_) fun _ _ z => z)
  obtain ⟨v1, H1, I1, r1, b, rfl, q2⟩ := hz
  cases r1
  exact wpAny_truthy_bool ⟨.bl b, H1, I1, rfl, q2⟩
theorem op_notInO (M : Meth X.K C "__contains__" f) (F : FnOk X.prog X.w X.K X.mg X.base CX k f fd ps sp) (hr : Room k X.A) (hb : Binds X.K fd ps []) (hx : Passes CX X E1) : OpR X (compareOp .NotIn) (rHas C true sp E1) := by
  intro pins s σ H y x u v Q I ry rx q
  obtain ⟨o, dx, fs, rfl, eo, qs⟩ := q
  obtain rfl : v = Value.ref o := rx
  obtain ⟨ob, od, J⟩ := inst_at I eo
  obtain ⟨m, fr⟩ := I.fr
  refine PySem.W.notIn_K fr I.ok.mod.kin J M.at_ M.fn (wpAny_mono (run_here F hr hb (passes_at hx σ) I (Paired.cons (show RelV (V.ref o) (Value.ref o) from rfl) (.cons ry .nil)) qs) (fun z s' hz => ?_) fun _ _ z => z)
  obtain ⟨v1, H1, I1, r1, b, rfl, q2⟩ := hz
  cases r1
  exact wpAny_truthy_bool ⟨.bl (!b), H1, I1, rfl, q2⟩
end
end Vo

set_option Elab.async false
set_option linter.all false
set_option maxRecDepth 100000
/-! try with several except clauses, each with a name or without. Methods of an own class called where the wish depends on the slots. -/
namespace Vtr
open PySem PySem.Spec PyProof.Rows L2
/-- a clause: its class, the slot of its name, its suite -/
abbrev Clause : Type := Value × Option Nat × (Addr → Value → Option Addr → TS)
/-- the slots behind a suite whose name is gone -/
def goneE (D : Ends) (i : Nat) : Ends := { nx := fun σ' H' => D.nx (σ'.set i none) H', rt := D.rt, bk := fun σ' H' => D.bk (σ'.set i none) H', ct := fun σ' H' => D.ct (σ'.set i none) H' }
/-- what the clauses wish, one behind the other -/
def wCl (K : PySem.W.Frag) (Wout : WX) (D : Ends) : List Clause → WX
  | [] => Wout
  | (c, none, ts) :: r => fun cls d σ H => ∃ b, PySem.W.exmOne K cls c = some b ∧ (b = true → ∀ a, H a = none → ts a cls d D σ H) ∧ (b = false → wCl K Wout D r cls d σ H)
  | (c, some i, ts) :: r => fun cls d σ H => ∃ b, PySem.W.exmOne K cls c = some b ∧ (b = true → ∀ a, H a = none → ts a cls d (goneE D i) (σ.set i (some (.ref a))) H) ∧ (b = false → wCl K Wout D r cls d σ H)
inductive ClsOk (X : Cx) : List ExceptHandler → List Clause → Prop
  | nil : ClsOk X [] []
  | plain {x : Str} {c : Value} {ts : Addr → Value → Option Addr → TS} {b₀ : Stmt} {suite : List Stmt} {np pos' : Pos} {hds : List ExceptHandler} {l : List Clause} (hc : Names X x c)
      (hsu : ∀ (a : Addr) (oe : Obj) (cls : Value) (d : Option Addr) (pn : List (Addr × Obj)), Zc cls d oe → (∃ vs, oe.data = .fields vs) → PSs (X.suite a ((a, oe) :: pn)) (b₀ :: suite) (ts a cls d)) (r : ClsOk X hds l) :
      ClsOk X (.ExceptHandler (some (.Name x np)) none (b₀ :: suite) pos' :: hds) ((c, none, ts) :: l)
  | named {x n : Str} {i : Nat} {c : Value} {ts : Addr → Value → Option Addr → TS} {b₀ : Stmt} {suite : List Stmt} {np pos' : Pos} {hds : List ExceptHandler} {l : List Clause} (hi : X.N[i]? = some n) (hln : X.env.kindOf n = some .local) (hc : Names X x c)
      (hsu : ∀ (a : Addr) (oe : Obj) (cls : Value) (d : Option Addr) (pn : List (Addr × Obj)), Zc cls d oe → (∃ vs, oe.data = .fields vs) → PSs (X.suite a ((a, oe) :: pn)) (b₀ :: suite) (ts a cls d)) (r : ClsOk X hds l) :
      ClsOk X (.ExceptHandler (some (.Name x np)) (some n) (b₀ :: suite) pos' :: hds) ((c, some i, ts) :: l)
section
variable {X : Cx} {body : List Stmt} {h₀ : ExceptHandler} {hds : List ExceptHandler} {l : List Clause} {pos : Pos} {tb : WX → TS} {Wout : WX}
theorem ps_try_cl (hs : X.stack = X.env :: X.outer) (hf : X.env.frame = some X.env.locals) (hN : X.N.Nodup) (tk : Takes X Wout)
    (hb : ∀ (W : WX) (pn : List (Addr × Obj)) (xe : Value → Shared → Prop), Takes (X.tr pn xe) W → PassesOwn (model X.prog X.w) X.A X.env xe → PSs (X.tr pn xe) body (tb W))
    (hh : ClsOk X (h₀ :: hds) l) : PS X (.Try body (h₀ :: hds) [] [] pos) (fun D σ H => tb (wCl X.K Wout D l) D σ H) := by
  refine ⟨fun pins s σ H D I h => ?_⟩
  have ok := I.ok
  have hfr : X.A.frames = some (X.env :: X.outer) := by rw [ok.frames, hs]
  refine wpAny_Try_except ?_
  refine wpAny_mono ((hb (wCl X.K Wout D l) (X.pn ++ pins) (fun e s₁ => wpAny (model X.prog X.w) X.A (noteFrame e X.env) (fun _ s₂ => wpAny (model X.prog X.w) X.A (setFlight e none) (fun _ s₃ =>
    wpAny (model X.prog X.w) X.A (handleBy e X.env (h₀ :: hds)) (SP X pins D) X.xe s₃) X.xe s₂) X.xe s₁) (fun u s' xx => ?_) PassesOwn.looking).run [] s σ H D (I.toTry _) h) (fun f s1 hsp => ?_) (fun e s1 he => he)
  · obtain ⟨a, B, sI, pins', σ', H', cls, d, rfl, J', nb, up, sky, na, os, ag, w⟩ := xx
    have J : Inv X pins σ' H' sI := J'.ofTry ok
    have sky' : Sky B (X.env :: X.outer) a (Zc cls d) X.env.locals s'.heap := by rw [← hs]; exact sky
    show wpAny (model X.prog X.w) X.A (noteFrame (.ref a) X.env) _ _ _
    refine Sky.land Zc.steady hfr hf sky' fun h3 fl3 up3 => ?_
    have J3 : Inv X pins σ' H' { s' with heap := h3 } := J.landed nb fl3.1 (up.trans up3) os ag
    obtain ⟨oe3, vs3, he3, hz3, hd3⟩ := fl3.there
    have notFr : ∀ {h : Heap} {o : Obj} {vs : Array Value}, h.FunFrames B (X.env :: X.outer) → h.get? a = some o → o.data = .fields vs → a ∉ frs (X.env :: X.outer) := fun {h o vs} ff e dd hm => by
      obtain ⟨_, o', e', hnf⟩ := ff.mem hm
      rw [e] at e'; cases e'
      exact hnf _ dd
    have nfr := notFr fl3.2.2.1 he3 hd3
    have nL : a ≠ X.env.locals := fun z => nfr (List.mem_filterMap.mpr ⟨X.env, List.mem_cons_self, by rw [hf, z]⟩)
    have nF : a ∉ X.fs := fun hm => by
      obtain ⟨e, he, q⟩ := List.mem_filterMap.mp hm
      exact nfr (List.mem_filterMap.mpr ⟨e, List.mem_cons_of_mem _ he, q⟩)
    have S3 := J3.suite he3 hd3 na nL nF
    have LT : PySem.W.Looks (model X.prog X.w) h3 (typeOf (.ref a)) cls := fun A Q E s k q => wpAny_typeOf_ref (k _ _ he3) (by rw [hz3.1]; exact q)
    have test : ∀ {x : Str} {c : Value} {np : Pos}, Names X x c → ∀ {Q : Value → Shared → Prop} {E : Value → Shared → Prop}, Q c { s' with heap := h3 } → wpAny (model X.prog X.w) (X.A.mark (some (.ref a))) (eval (.Name x np) X.env) Q E { s' with heap := h3 } := fun {x c np} hc {Q E} q => by
      obtain ⟨hg, hdbg, hm | ⟨hm, hv, hnn⟩⟩ := hc
      · exact ld_glob (X := X.suite a ((a, oe3) :: (X.pn ++ pins))) S3 hg hm q hdbg
      · exact ld_blt (X := X.suite a ((a, oe3) :: (X.pn ++ pins))) S3 hg hm hv q hnn hdbg
    have go : ∀ {hds' : List ExceptHandler} {l' : List Clause}, ClsOk X hds' l' → wCl X.K Wout D l' cls d σ' H' →
        wpAny (model X.prog X.w) X.A (handleBy (.ref a) X.env hds') (SP X pins D) X.xe { s' with heap := h3 } := by
      intro hds' l' hk
      induction hk with
      | nil =>
        intro w
        refine wpAny_handleBy_nil ?_
        obtain ⟨k1, k2, k3, oe, vs, T, oT, ts', he, hz, hd, h1, hr⟩ := id fl3
        unfold PySem.passOn
        refine wpAny_bind (wpAny_field he hd h1 ?_)
        rw [if_neg (show ¬ ((Value.ref T == Value.none) = true) from by simp)]
        have fin : wpAny (model X.prog X.w) X.A (setFlight (.ref a) X.env.frame) (fun _ s4 => wpAny (model X.prog X.w) X.A (throw (.ref a) : Sem Flow) (SP X pins D) X.xe s4) X.xe { s' with heap := h3 } := by
          rw [hf]
          refine HandSPX.setFlight_upZ fl3 fun h4 hh4 up4 => wpAny_throw (tk _ _ ?_)
          exact ⟨a, B, sI, pins, σ', H', cls, d, rfl, J, nb, (up.trans up3).trans up4, .inr (.inr (by rw [hs]; exact hh4)), na, os, ag, w⟩
        first
          | exact wpAny_bind (wpAny_pure (wpAny_bind fin))
          | exact wpAny_bind fin
      | @plain x c ts b₀ suite np pos' hds2 l2 hc hsu r ih =>
        intro w
        obtain ⟨b, hb1, hyes, hno⟩ := w
        refine wpAny_handleBy_cons (codeAny_handlers_test ?_) (by intro q; cases q)
        have LM := PySem.W.exm_one (M := model X.prog X.w) (J3.kIn) LT hb1
        refine test hc (LM.here ?_)
        cases b with
        | true =>
          refine codeAny_handlers_suite ?_
          refine HandSPX.lands_againZ fl3 fun h4 fl4 up4 => ?_
          have J4 : Inv X pins σ' H' { s' with heap := h4 } := J.landed nb fl4.1 ((up.trans up3).trans up4) os ag
          obtain ⟨oe4, vs4, he4, hz4, hd4⟩ := fl4.there
          have S4 := J4.suite he4 hd4 na nL nF
          refine wpAny_mono ((hsu a oe4 cls d (X.pn ++ pins) hz4 ⟨_, hd4⟩).run [] _ _ H' _ S4 (hyes rfl a na)) (fun f s6 hsp => ?_) (fun _ _ z => False.elim z)
          cases f with
          | next =>
            obtain ⟨σ6, H6, S6, q6⟩ := hsp
            exact ⟨_, _, S6.unsuite ok, q6⟩
          | brk =>
            obtain ⟨σ6, H6, S6, q6⟩ := hsp
            exact ⟨_, _, S6.unsuite ok, q6⟩
          | cont =>
            obtain ⟨σ6, H6, S6, q6⟩ := hsp
            exact ⟨_, _, S6.unsuite ok, q6⟩
          | ret u =>
            obtain ⟨v6, σ6, H6, S6, r6, q6⟩ := hsp
            exact ⟨_, _, _, S6.unsuite ok, r6, q6⟩
        | false =>
          show wpAny _ X.A (handleBy (.ref a) X.env hds2) _ _ _
          exact ih (hno rfl)
      | @named x n i c ts b₀ suite np pos' hds2 l2 hi hln hc hsu r ih =>
        intro w
        have hloc : Loc X.env.scope n := .inl hln
        obtain ⟨b, hb1, hyes, hno⟩ := w
        refine wpAny_handleBy_cons (codeAny_handlers_test ?_) (by intro q; cases q)
        have LM := PySem.W.exm_one (M := model X.prog X.w) (J3.kIn) LT hb1
        refine test hc (LM.here ?_)
        cases b with
        | true =>
          refine codeAny_handlers_suite_as ?_
          refine HandSPX.lands_againZ fl3 fun h4 fl4 up4 => ?_
          have J4 : Inv X pins σ' H' { s' with heap := h4 } := J.landed nb fl4.1 ((up.trans up3).trans up4) os ag
          obtain ⟨oe4, vs4, he4, hz4, hd4⟩ := fl4.there
          have S4 := J4.suite he4 hd4 na nL nF
          refine store_ok (X := X.suite a ((a, oe4) :: (X.pn ++ pins))) (v := .ref a) S4 hN hi hloc rfl (fun s5 S5 => ?_) (.inr hln)
          refine wpAny_mono ((hsu a oe4 cls d (X.pn ++ pins) hz4 ⟨_, hd4⟩).run [] s5 _ H' _ S5 (hyes rfl a na)) (fun f s6 hsp => ?_) (fun _ _ z => False.elim z)
          have end_ : ∀ {σ6 : L2.St} {H6 : Hp} {Q : Shared → Prop}, Inv (X.suite a ((a, oe4) :: (X.pn ++ pins))) [] σ6 H6 s6 → (∀ s7, Inv X pins (σ6.set i none) H6 s7 → Q s7) →
              wpAny (model X.prog X.w) X.A (do bindName X.env n .none; unbindBehindTheSuite X.env n pos') (fun _ s7 => Q s7) X.xe s6 := fun {σ6 H6 Q} S6 hq => gone_ok (S6.unsuite ok) hN hi hln hq
          cases f with
          | next =>
            obtain ⟨σ6, H6, S6, q6⟩ := hsp
            exact end_ S6 fun s7 J7 => ⟨_, _, J7, q6⟩
          | brk =>
            obtain ⟨σ6, H6, S6, q6⟩ := hsp
            exact end_ S6 fun s7 J7 => ⟨_, _, J7, q6⟩
          | cont =>
            obtain ⟨σ6, H6, S6, q6⟩ := hsp
            exact end_ S6 fun s7 J7 => ⟨_, _, J7, q6⟩
          | ret u =>
            obtain ⟨v6, σ6, H6, S6, r6, q6⟩ := hsp
            exact end_ S6 fun s7 J7 => ⟨_, _, _, J7, r6, q6⟩
        | false =>
          show wpAny _ X.A (handleBy (.ref a) X.env hds2) _ _ _
          exact ih (hno rfl)
    exact go hh w
  · cases f with
    | next =>
      obtain ⟨σ', H', J', q⟩ := hsp
      exact wpAny_execs_nil ⟨σ', H', J'.ofTry ok, q⟩
    | brk =>
      obtain ⟨σ', H', J', q⟩ := hsp
      exact ⟨σ', H', J'.ofTry ok, q⟩
    | cont =>
      obtain ⟨σ', H', J', q⟩ := hsp
      exact ⟨σ', H', J'.ofTry ok, q⟩
    | ret u =>
      obtain ⟨v, σ', H', J', r, q⟩ := hsp
      exact ⟨v, σ', H', J'.ofTry ok, r, q⟩
end
theorem takes_no {X : Cx} : Takes X fun _ _ _ _ => False := fun u s' ⟨a, B, sI, pins, σ, H, cls, d, e, I, nb, up, sky, na, os, ag, h⟩ => h.elim
/-- nothing is raised where nothing may be -/
theorem passN {X : Cx} : Passes (L2.CX X.prog X.w) X fun _ _ _ => False := fun _ _ _ _ _ _ _ ⟨_, _, _, _, _, _, _, _, _, _, _, _, h⟩ => h.elim
theorem passNo {X : Cx} (σ : L2.St) : PassesAt (L2.CX X.prog X.w) X σ fun _ _ _ => False := fun _ _ _ _ _ _ ⟨_, _, _, _, _, _, _, _, _, _, _, _, h⟩ => h.elim
section
variable {X : Cx} {CX : CXT} {k : Nat} {f C : Addr} {fd : FuncData} {ps : List Str} {sp : Sp} {E : L2.St → XK} {x m : Str} {p pos apos : Pos} {e o : Expr} {es : List Expr} {ta : TE} {t : TA}
/-- o.m(..), the wish of what is raised by the slots -/
def tMethS (C : Addr) (m : Str) (sp : Sp) (E : L2.St → XK) (ta : TE) (t : TA) : TE := fun σ H Q => ta σ H fun x H1 => ∃ a dx fs, x = .ref a ∧ H1 a = some (.ins C dx fs) ∧ fs.lookup m = none ∧ t σ H1 fun vs H2 => sp (x :: vs) H2 Q (E σ)
theorem pe_methAt {pl : Sem Bool} (he : PE X o ta) (c : Cls X.K C) (hm : Meth X.K C m f) (F : FnOk X.prog X.w X.K X.mg X.base CX k f fd ps sp) (hr : Room k X.A) (hb : Binds X.K fd ps []) (hx : ∀ σ, PassesAt CX X σ (E σ)) (ha : PA X (e :: es) t)
    (hst : starEach (e :: es) X.env = (false, eval e X.env) :: starEach es X.env := by rfl) (hpl : (backTo pos (starEach es X.env)).any (·.1) = false := by rfl)
    (ht : eval (.Call (.Attribute o m apos) (e :: es) [] pos) X.env = (do
      let ov ← eval o X.env
      standAt apos.atName
      let (f, first) ← holding [ov] (getMethod ov m pl)
      callWith pos f first (backTo pos (starEach (e :: es) X.env)) (backToKw pos (keywordEach [] X.env))) := by rfl) :
    PE X (.Call (.Attribute o m apos) (e :: es) [] pos) (tMethS C m sp E ta t) := by
  refine ⟨fun pins s σ H Q I h => ?_⟩
  refine PySem.W.methodCall_KW (pl := pl) (thn (he.run pins s σ H _ I h) fun u s1 ⟨x, H1, I1, rx, a, dx, fs, ex, ea, l, q⟩ => ?_) ht
  subst ex
  obtain rfl : u = Value.ref a := rx
  refine getmeth_ok I1 ea c hm l ?_
  refine PySem.W.callWith_K (first := [.ref a]) (h₀ := X.base) I.ok.mod.kin hm.kp (thn (ha.run pos pins s1 σ H1 _ I1 q) fun us s2 ⟨vs, H2, I2, r, q2⟩ => ⟨I2.kIn, ?_⟩) hst hpl
  exact run_fnS (us := .ref a :: us) (vs := .ref a :: vs) F hr hb (hx σ) I2 (.cons rfl r) q2
theorem pe_methAt0 {pl : Sem Bool} (he : PE X o ta) (c : Cls X.K C) (hm : Meth X.K C m f) (F : FnOk X.prog X.w X.K X.mg X.base CX k f fd ps sp) (hr : Room k X.A) (hb : Binds X.K fd ps []) (hx : ∀ σ, PassesAt CX X σ (E σ))
    (ht : eval (.Call (.Attribute o m apos) [] [] pos) X.env = (do
      let ov ← eval o X.env
      standAt apos.atName
      let (f, first) ← holding [ov] (getMethod ov m pl)
      callWith pos f first (backTo pos (starEach [] X.env)) (backToKw pos (keywordEach [] X.env))) := by rfl) :
    PE X (.Call (.Attribute o m apos) [] [] pos) (tMethS C m sp E ta tNil) := by
  refine ⟨fun pins s σ H Q I h => ?_⟩
  refine PySem.W.methodCall_KW (pl := pl) (thn (he.run pins s σ H _ I h) fun u s1 ⟨x, H1, I1, rx, a, dx, fs, ex, ea, l, q⟩ => ?_) ht
  subst ex
  obtain rfl : u = Value.ref a := rx
  refine getmeth_ok I1 ea c hm l ?_
  exact PySem.W.callWith_K0 (first := [.ref a]) I1.kIn hm.kp (run_fnS (us := [.ref a]) (vs := [.ref a]) F hr hb (hx σ) I1 (.cons rfl .nil) q)
end
end Vtr

set_option Elab.async false
set_option linter.all false
set_option maxRecDepth 100000
set_option maxHeartbeats 2000000
/-! Who is called, in one word: a def of the module (Fu), a method (Mo), a property (Pr), an own class made (Nw). -/
namespace Vc
open PySem PySem.Spec PyProof.Rows L2 Evl Vtr Vo
abbrev nil0 : XK := fun _ _ _ => False
structure Fu (P : Program) (w : World) (K : PySem.W.Frag) (mg : Str → Option Value) (base : Heap) (CX : CXT) (k : Nat) (x : Str) (sp : Sp) : Prop where
  ex : ∃ (f : Addr) (fd : FuncData) (ps : List Str), FnOk P w K mg base CX k f fd ps sp ∧ mg x = some (.ref f) ∧ PySem.W.keepIn K (.ref f) = true ∧ L2.Binds K fd ps []
structure Mo (P : Program) (w : World) (K : PySem.W.Frag) (mg : Str → Option Value) (base : Heap) (C : Addr) (CX : CXT) (k : Nat) (m : Str) (sp : Sp) : Prop where
  ex : ∃ (f : Addr) (fd : FuncData) (ps : List Str), FnOk P w K mg base CX k f fd ps sp ∧ Meth K C m f ∧ L2.Binds K fd ps []
structure Pr (P : Program) (w : World) (K : PySem.W.Frag) (mg : Str → Option Value) (base : Heap) (C : Addr) (k : Nat) (m : Str) (sp : Sp) : Prop where
  ex : ∃ (p f : Addr) (fd : FuncData) (ps : List Str), FnOk P w K mg base L2.CX0 k f fd ps sp ∧ PropOf K C m p f ∧ L2.Binds K fd ps []
structure Nw (P : Program) (w : World) (K : PySem.W.Frag) (mg : Str → Option Value) (base : Heap) (C : Addr) (CX : CXT) (k : Nat) (x : Str) (sp : Sp) : Prop where
  ex : ∃ (f : Addr) (fd : FuncData) (ps : List Str), FnOk P w K mg base CX k f fd ps sp ∧ Mk K C f ∧ L2.Binds K fd ps [] ∧ mg x = some (.ref C)
theorem app_nil (vs : List V) : vs ++ [] = vs := List.append_nil vs
section
variable {X : Cx} {C : Addr} {j k : Nat} {x m : Str} {sp : Sp} {E : L2.St → XK} {p pos apos : Pos} {e o : Expr} {es : List Expr} {ta : TE} {t : TA}
/-- the promise, asked of the arguments -/
def tFu (sp : Sp) (E : L2.St → XK) (t : TA) : TE := fun σ H Q => t σ H fun vs H1 => sp vs H1 Q (E σ)
theorem pe_fu (T : Fu X.prog X.w X.K X.mg X.base L2.CX0 k x sp) (hr : Room j X.A) (hg : Gl X x) (ha : PA X (e :: es) t) (hk : k ≤ j := by decide) (hdb : (x == ("__debug__" : Str)) = false := by decide)
    (he : starEach (e :: es) X.env = (false, eval e X.env) :: starEach es X.env := by rfl) (hpl : (backTo pos (starEach es X.env)).any (·.1) = false := by rfl) : PE X (.Call (.Name x p) (e :: es) [] pos) (tFu sp (fun _ => nil0) t) := by
  obtain ⟨f, fd, ps, F, hm, kp, b⟩ := T.ex
  exact pe_callS (E := fun _ => nil0) F (hr.mono hk) hg hm kp b (fun _ _ _ _ _ _ _ h => h.elim) ha hdb he hpl
theorem pe_fuX (T : Fu X.prog X.w X.K X.mg X.base (L2.CX X.prog X.w) k x sp) (hr : Room j X.A) (hg : Gl X x) (hx : ∀ σ, PassesAt (L2.CX X.prog X.w) X σ (E σ)) (ha : PA X (e :: es) t) (hk : k ≤ j := by decide) (hdb : (x == ("__debug__" : Str)) = false := by decide)
    (he : starEach (e :: es) X.env = (false, eval e X.env) :: starEach es X.env := by rfl) (hpl : (backTo pos (starEach es X.env)).any (·.1) = false := by rfl) : PE X (.Call (.Name x p) (e :: es) [] pos) (tFu sp E t) := by
  obtain ⟨f, fd, ps, F, hm, kp, b⟩ := T.ex
  exact pe_callS F (hr.mono hk) hg hm kp b hx ha hdb he hpl
/-- one that may raise, where it raises nothing -/
theorem pe_fuN (T : Fu X.prog X.w X.K X.mg X.base (L2.CX X.prog X.w) k x sp) (hr : Room j X.A) (hg : Gl X x) (ha : PA X (e :: es) t) (hk : k ≤ j := by decide) (hdb : (x == ("__debug__" : Str)) = false := by decide)
    (he : starEach (e :: es) X.env = (false, eval e X.env) :: starEach es X.env := by rfl) (hpl : (backTo pos (starEach es X.env)).any (·.1) = false := by rfl) : PE X (.Call (.Name x p) (e :: es) [] pos) (tFu sp (fun _ => nil0) t) := by
  exact pe_fuX (E := fun _ => nil0) T hr hg (fun σ => passNo σ) ha hk hdb he hpl
theorem pe_mo {pl : Sem Bool} (he : PE X o ta) (c : Cls X.K C) (T : Mo X.prog X.w X.K X.mg X.base C L2.CX0 k m sp) (hr : Room j X.A) (ha : PA X (e :: es) t) (hk : k ≤ j := by decide)
    (hst : starEach (e :: es) X.env = (false, eval e X.env) :: starEach es X.env := by rfl) (hpl : (backTo pos (starEach es X.env)).any (·.1) = false := by rfl)
    (ht : eval (.Call (.Attribute o m apos) (e :: es) [] pos) X.env = (do
      let ov ← eval o X.env
      standAt apos.atName
      let (f, first) ← holding [ov] (getMethod ov m pl)
      callWith pos f first (backTo pos (starEach (e :: es) X.env)) (backToKw pos (keywordEach [] X.env))) := by rfl) :
    PE X (.Call (.Attribute o m apos) (e :: es) [] pos) (tMethS C m sp (fun _ => nil0) ta t) := by
  obtain ⟨f, fd, ps, F, hm, b⟩ := T.ex
  exact pe_methAt (pl := pl) he c hm F (hr.mono hk) b (fun _ _ _ _ _ _ _ h => h.elim) ha hst hpl ht
theorem pe_moX {pl : Sem Bool} (he : PE X o ta) (c : Cls X.K C) (T : Mo X.prog X.w X.K X.mg X.base C (L2.CX X.prog X.w) k m sp) (hr : Room j X.A) (hx : ∀ σ, PassesAt (L2.CX X.prog X.w) X σ (E σ)) (ha : PA X (e :: es) t) (hk : k ≤ j := by decide)
    (hst : starEach (e :: es) X.env = (false, eval e X.env) :: starEach es X.env := by rfl) (hpl : (backTo pos (starEach es X.env)).any (·.1) = false := by rfl)
    (ht : eval (.Call (.Attribute o m apos) (e :: es) [] pos) X.env = (do
      let ov ← eval o X.env
      standAt apos.atName
      let (f, first) ← holding [ov] (getMethod ov m pl)
      callWith pos f first (backTo pos (starEach (e :: es) X.env)) (backToKw pos (keywordEach [] X.env))) := by rfl) :
    PE X (.Call (.Attribute o m apos) (e :: es) [] pos) (tMethS C m sp E ta t) := by
  obtain ⟨f, fd, ps, F, hm, b⟩ := T.ex
  exact pe_methAt (pl := pl) he c hm F (hr.mono hk) b hx ha hst hpl ht
theorem pe_moN {pl : Sem Bool} (he : PE X o ta) (c : Cls X.K C) (T : Mo X.prog X.w X.K X.mg X.base C (L2.CX X.prog X.w) k m sp) (hr : Room j X.A) (ha : PA X (e :: es) t) (hk : k ≤ j := by decide)
    (hst : starEach (e :: es) X.env = (false, eval e X.env) :: starEach es X.env := by rfl) (hpl : (backTo pos (starEach es X.env)).any (·.1) = false := by rfl)
    (ht : eval (.Call (.Attribute o m apos) (e :: es) [] pos) X.env = (do
      let ov ← eval o X.env
      standAt apos.atName
      let (f, first) ← holding [ov] (getMethod ov m pl)
      callWith pos f first (backTo pos (starEach (e :: es) X.env)) (backToKw pos (keywordEach [] X.env))) := by rfl) :
    PE X (.Call (.Attribute o m apos) (e :: es) [] pos) (tMethS C m sp (fun _ => nil0) ta t) := pe_moX (pl := pl) (E := fun _ => nil0) he c T hr (fun σ => passNo σ) ha hk hst hpl ht
theorem pe_mo0 {pl : Sem Bool} (he : PE X o ta) (c : Cls X.K C) (T : Mo X.prog X.w X.K X.mg X.base C L2.CX0 k m sp) (hr : Room j X.A) (hk : k ≤ j := by decide)
    (ht : eval (.Call (.Attribute o m apos) [] [] pos) X.env = (do
      let ov ← eval o X.env
      standAt apos.atName
      let (f, first) ← holding [ov] (getMethod ov m pl)
      callWith pos f first (backTo pos (starEach [] X.env)) (backToKw pos (keywordEach [] X.env))) := by rfl) :
    PE X (.Call (.Attribute o m apos) [] [] pos) (tMethS C m sp (fun _ => nil0) ta tNil) := by
  obtain ⟨f, fd, ps, F, hm, b⟩ := T.ex
  exact pe_methAt0 (pl := pl) he c hm F (hr.mono hk) b (fun _ _ _ _ _ _ _ h => h.elim) ht
theorem pe_mo0X {pl : Sem Bool} (he : PE X o ta) (c : Cls X.K C) (T : Mo X.prog X.w X.K X.mg X.base C (L2.CX X.prog X.w) k m sp) (hr : Room j X.A) (hx : ∀ σ, PassesAt (L2.CX X.prog X.w) X σ (E σ)) (hk : k ≤ j := by decide)
    (ht : eval (.Call (.Attribute o m apos) [] [] pos) X.env = (do
      let ov ← eval o X.env
      standAt apos.atName
      let (f, first) ← holding [ov] (getMethod ov m pl)
      callWith pos f first (backTo pos (starEach [] X.env)) (backToKw pos (keywordEach [] X.env))) := by rfl) :
    PE X (.Call (.Attribute o m apos) [] [] pos) (tMethS C m sp E ta tNil) := by
  obtain ⟨f, fd, ps, F, hm, b⟩ := T.ex
  exact pe_methAt0 (pl := pl) he c hm F (hr.mono hk) b hx ht
/-- o.m, a property -/
def tPr (C : Addr) (sp : Sp) (ta : TE) : TE := fun σ H Q => ta σ H fun x H1 => ∃ a dx fs, x = .ref a ∧ H1 a = some (.ins C dx fs) ∧ sp [.ref a] H1 Q nil0
theorem pe_pr (he : PE X e ta) (c : Cls X.K C) (T : Pr X.prog X.w X.K X.mg X.base C k m sp) (hr : Room j X.A) (hk : k + 1 ≤ j := by decide) (hab : attributeBase e m X.env (eval e X.env) = eval e X.env := by rfl) :
    PE X (.Attribute e m pos) (tPr C sp ta) := by
  obtain ⟨p, f, fd, ps, F, hp, b⟩ := T.ex
  refine ⟨(pe_prop (E := nil0) he c hp F (hr.mono hk) b .nil (fun _ _ _ _ _ _ _ h => h.elim) hab).run⟩
/-- C(..) of an own class -/
def tNw (C : Addr) (sp : Sp) (E : L2.St → XK) (t : TA) : TE := fun σ H Q => t σ H fun vs H1 => ∀ x dx, H1 x = none → H1 dx = none → dx ≠ x → sp (.ref x :: vs) (upd (upd H1 dx (.own x)) x (.ins C dx [])) (fun v H2 => v = .non ∧ Q (.ref x) H2) (E σ)
theorem pe_nw0 (T : Nw X.prog X.w X.K X.mg X.base C L2.CX0 k x sp) (hr : Room j X.A) (hg : Gl X x) (hk : k + 1 ≤ j := by decide) (hdb : (x == ("__debug__" : Str)) = false := by decide) :
    PE X (.Call (.Name x p) [] [] pos) (tNw C sp (fun _ => nil0) tNil) := by
  obtain ⟨f, fd, ps, F, M, b, hm⟩ := T.ex
  exact ⟨(pe_make0 (E := nil0) M F (hr.mono hk) hg hm b .nil (fun _ _ _ _ _ _ _ h => h.elim) hdb).run⟩
theorem pe_nw (T : Nw X.prog X.w X.K X.mg X.base C L2.CX0 k x sp) (hr : Room j X.A) (hg : Gl X x) (ha : PA X (e :: es) t) (hk : k + 1 ≤ j := by decide) (hdb : (x == ("__debug__" : Str)) = false := by decide)
    (hs : starEach (e :: es) X.env = (false, eval e X.env) :: starEach es X.env := by rfl) (hpl : (backTo pos (starEach es X.env)).any (·.1) = false := by rfl) : PE X (.Call (.Name x p) (e :: es) [] pos) (tNw C sp (fun _ => nil0) t) := by
  obtain ⟨f, fd, ps, F, M, b, hm⟩ := T.ex
  refine Vl.pe_weak (pe_make (E := nil0) M F (hr.mono hk) hg hm b .nil (fun _ _ _ _ _ _ _ h => h.elim) ha hdb hs hpl) fun σ H Q h => ?_
  unfold tMake
  simp only [app_nil]
  exact h
/-- y in o, y not in o -/
theorem op_inM (T : Mo X.prog X.w X.K X.mg X.base C L2.CX0 k "__contains__" sp) (hr : Room j X.A) (hk : k ≤ j := by decide) : OpR X (compareOp .In) (rHas C false sp nil0) := by
  obtain ⟨f, fd, ps, F, hm, b⟩ := T.ex
  exact op_inO hm F (hr.mono hk) b (fun _ _ _ _ _ _ _ h => h.elim)
theorem op_notInM (T : Mo X.prog X.w X.K X.mg X.base C L2.CX0 k "__contains__" sp) (hr : Room j X.A) (hk : k ≤ j := by decide) : OpR X (compareOp .NotIn) (rHas C true sp nil0) := by
  obtain ⟨f, fd, ps, F, hm, b⟩ := T.ex
  exact op_notInO hm F (hr.mono hk) b (fun _ _ _ _ _ _ _ h => h.elim)
end
/-- o[i] of an own class -/
structure Gt (P : Program) (w : World) (K : PySem.W.Frag) (mg : Str → Option Value) (base : Heap) (C : Addr) (CX : CXT) (k : Nat) (sp : Sp) : Prop where
  ex : ∃ (f : Addr) (fd : FuncData) (ps : List Str), FnOk P w K mg base CX k f fd ps sp ∧ Meth K C "__getitem__" f ∧ L2.Binds K fd ps [] ∧ PySem.W.fnIn K f = true
abbrev tIxM (C : Addr) (sp : Sp) (E : L2.St → XK) (ta tb : TE) : TE := tOwn2 C (fun _ => True) sp E ta tb
section
variable {X : Cx} {C : Addr} {j k : Nat} {sp : Sp} {E : L2.St → XK} {pos : Pos} {a b : Expr} {ta tb : TE}
theorem pe_ixX (T : Gt X.prog X.w X.K X.mg X.base C (L2.CX X.prog X.w) k sp) (hr : Room j X.A) (hx : ∀ st, PassesAt (L2.CX X.prog X.w) X st (E st)) (ha : PE X a ta) (hi : PE X b tb) (hk : k + 1 ≤ j := by decide)
    (hs : ∀ o i, subscripted b true (.ref o) i = runValue (.builtin "lifetime.subscript" ⟨[.ref o, i], []⟩) := by intro _ _; rfl) : PE X (.Subscript a b pos) (tIxM C sp E ta tb) := by
  obtain ⟨f, fd, ps, F, hm, b', hf⟩ := T.ex
  exact pe_ixO hm hf F (hr.mono hk) b' hx ha hi hs
theorem pe_ixN (T : Gt X.prog X.w X.K X.mg X.base C (L2.CX X.prog X.w) k sp) (hr : Room j X.A) (ha : PE X a ta) (hi : PE X b tb) (hk : k + 1 ≤ j := by decide)
    (hs : ∀ o i, subscripted b true (.ref o) i = runValue (.builtin "lifetime.subscript" ⟨[.ref o, i], []⟩) := by intro _ _; rfl) : PE X (.Subscript a b pos) (tIxM C sp (fun _ => nil0) ta tb) := pe_ixX (E := fun _ => nil0) T hr (fun σ => passNo σ) ha hi hk hs
/-- len(o) -/
def rLenM (C : Addr) (sp : Sp) : List V → Hp → VK → Prop := fun xs H Q => ∃ o dx fs, xs = [.ref o] ∧ H o = some (.ins C dx fs) ∧ sp [.ref o] H (fun v H1 => ∃ n : Nat, v = .int n ∧ n < 2 ^ 62 ∧ Q (.int n) H1) nil0
theorem call_lenM (T : Mo X.prog X.w X.K X.mg X.base C L2.CX0 k "__len__" sp) (hr : Room j X.A) (hk : k + 1 ≤ j := by decide) : CallR X (.builtin "len") (rLenM C sp) := by
  obtain ⟨f, fd, ps, F, hm, b⟩ := T.ex
  exact call_lenO (E1 := nil0) hm hm.fn F (hr.mono hk) b (fun _ _ _ _ _ _ _ h => h.elim)
theorem pe_negM (T : Mo X.prog X.w X.K X.mg X.base C L2.CX0 k "__neg__" sp) (hr : Room j X.A) (ha : PE X a ta) (hk : k ≤ j := by decide) : PE X (.UnaryOp .USub a pos) (tOwn1 C sp (fun _ => nil0) ta) := by
  obtain ⟨f, fd, ps, F, hm, b⟩ := T.ex
  exact pe_negO (E := fun _ => nil0) hm F (hr.mono hk) b (fun _ _ _ _ _ _ _ h => h.elim) ha
end
/-! ### what they are made of -/
section
variable {P : Program} {w : World} {K : PySem.W.Frag} {mg : Str → Option Value} {base : Heap} {CX : CXT} {k : Nat} {f C : Addr} {fd : FuncData} {ps : List Str} {sp : Sp} {x m : Str}
theorem Fu.of (F : FnOk P w K mg base CX k f fd ps sp) (hm : mg x = some (.ref f)) (kp : PySem.W.keepIn K (.ref f) = true) (b : L2.Binds K fd ps []) : Fu P w K mg base CX k x sp := ⟨f, fd, ps, F, hm, kp, b⟩
theorem Mo.of (F : FnOk P w K mg base CX k f fd ps sp) (hm : Meth K C m f) (b : L2.Binds K fd ps []) : Mo P w K mg base C CX k m sp := ⟨f, fd, ps, F, hm, b⟩
theorem Fu.mono {j : Nat} (T : Fu P w K mg base CX k x sp) (h : k ≤ j) : Fu P w K mg base CX j x sp := by
  obtain ⟨f, fd, ps, F, r⟩ := T.ex
  exact ⟨f, fd, ps, F.mono h, r⟩
end
/-! ### what they come to -/
section
variable {K : PySem.W.Frag} {σ : L2.St} {H : Hp} {z : V}
theorem ev_fu {sp : Sp} {E : L2.St → XK} {vs : List V} {ta : TA} (h : EvA ta σ H vs) (hs : SpV sp vs H z) : Ev (tFu sp E ta) σ H z := fun H1 e Q q =>
  h H1 e _ fun H2 e2 => hs H2 (e.trans e2) Q (fun H3 e3 => q H3 (e2.trans e3)) (E σ)
theorem el_fu {sp : Sp} {E : L2.St → XK} {vs xs : List V} {ta : TA} (h : EvA ta σ H vs) (hs : SpL sp vs H xs) : EvL (tFu sp E ta) σ H xs := fun H1 e Q q =>
  h H1 e _ fun H2 e2 => hs H2 (e.trans e2) Q (fun p H3 hp e3 h3 => q p H3 (fresh_back e2 hp) (e2.trans e3) h3) (E σ)
def SpU (sp : Sp) (vs : List V) (H : Hp) (xs : List V) : Prop := ∀ H1, Ex H H1 → ∀ Q : VK, (∀ p H2, H1 p = none → Ex H1 H2 → H2 p = some (.tup xs) → Q (.ref p) H2) → ∀ E : XK, sp vs H1 Q E
/-- a method on an object -/
theorem ev_me {C : Addr} {m : Str} {sp : Sp} {E : L2.St → XK} {te : TE} {ta : TA} {o dx : Addr} {fs : List (Str × V)} {vs : List V} (h : Ev te σ H (.ref o)) (ho : H o = some (.ins C dx fs)) (hl : fs.lookup m = none) (ha : EvA ta σ H vs) (hs : SpV sp (.ref o :: vs) H z) :
    Ev (tMethS C m sp E te ta) σ H z := fun H1 e Q q => h H1 e _ fun H2 e2 => ⟨o, dx, fs, rfl, (e.trans e2) _ _ ho, hl, ha H2 (e.trans e2) _ fun H3 e3 => hs H3 ((e.trans e2).trans e3) Q (fun H4 e4 => q H4 ((e2.trans e3).trans e4)) (E σ)⟩
theorem eu_me {C : Addr} {m : Str} {sp : Sp} {E : L2.St → XK} {te : TE} {ta : TA} {o dx : Addr} {fs : List (Str × V)} {vs xs : List V} (h : Ev te σ H (.ref o)) (ho : H o = some (.ins C dx fs)) (hl : fs.lookup m = none) (ha : EvA ta σ H vs) (hs : SpU sp (.ref o :: vs) H xs) :
    EvU (tMethS C m sp E te ta) σ H xs := fun H1 e Q q => h H1 e _ fun H2 e2 => ⟨o, dx, fs, rfl, (e.trans e2) _ _ ho, hl, ha H2 (e.trans e2) _ fun H3 e3 => hs H3 ((e.trans e2).trans e3) Q (fun p H4 hp e4 h4 => q p H4 (fresh_back (e2.trans e3) hp) ((e2.trans e3).trans e4) h4) (E σ)⟩
theorem eu_pr {C : Addr} {sp : Sp} {te : TE} {o dx : Addr} {fs : List (Str × V)} {xs : List V} (h : Ev te σ H (.ref o)) (ho : H o = some (.ins C dx fs)) (hs : SpU sp [.ref o] H xs) : EvU (tPr C sp te) σ H xs := fun H1 e Q q =>
  h H1 e _ fun H2 e2 => ⟨o, dx, fs, rfl, (e.trans e2) _ _ ho, hs H2 (e.trans e2) Q (fun p H4 hp e4 h4 => q p H4 (fresh_back e2 hp) (e2.trans e4) h4) nil0⟩
theorem ev_has {C : Addr} {neg : Bool} {sp : Sp} {ta tb : TE} {y : V} {o dx : Addr} {fs : List (Str × V)} {b : Bool} (hy : Ev ta σ H y) (h : Ev tb σ H (.ref o)) (ho : H o = some (.ins C dx fs)) (hs : SpV sp [.ref o, y] H (.bl b)) :
    Ev (tOp (rHas C neg sp nil0) ta tb) σ H (.bl (if neg = true then !b else b)) := ev_op hy h fun H1 e Q q => ⟨o, dx, fs, rfl, e _ _ ho, hs H1 e _ (fun H2 e2 => ⟨b, rfl, q H2 e2⟩) nil0⟩
/-- o[i], i a new tuple -/
theorem eu_ixM {C : Addr} {sp : Sp} {E : L2.St → XK} {ta tb : TE} {o dx : Addr} {fs : List (Str × V)} {is xs : List V} (h : Ev ta σ H (.ref o)) (ho : H o = some (.ins C dx fs)) (hi : EvU tb σ H is) (hs : ∀ t H1, Ex H H1 → H1 t = some (.tup is) → SpU sp [.ref o, .ref t] H1 xs) :
    EvU (tIxM C sp E ta tb) σ H xs := fun H1 e Q q => h H1 e _ fun H2 e2 => hi H2 (e.trans e2) _ fun t H3 ht e3 h3 => ⟨o, dx, fs, rfl, ((e.trans e2).trans e3) _ _ ho, trivial, hs t H3 ((e.trans e2).trans e3) h3 H3 (Ex.refl _) Q (fun p H4 hp e4 h4 => q p H4 (fresh_back (e2.trans e3) hp) ((e2.trans e3).trans e4) h4) (E σ)⟩
theorem ev_lenM {C : Addr} {sp : Sp} {ta : TE} {o dx : Addr} {fs : List (Str × V)} {n : Nat} (h : Ev ta σ H (.ref o)) (ho : H o = some (.ins C dx fs)) (hn : n < 2 ^ 62) (hs : SpV sp [.ref o] H (.int n)) : Ev (tCB (rLenM C sp) (tCons ta tNil)) σ H (.int n) :=
  fun H1 e Q q => h H1 e _ fun H2 e2 => ⟨o, dx, fs, rfl, (e.trans e2) _ _ ho, hs H2 (e.trans e2) _ (fun H3 e3 => ⟨n, rfl, hn, q H3 (e2.trans e3)⟩) nil0⟩
/-- a comparison of two new tuples, of two values at addresses -/
theorem ev_opT {r : R2} {ta tb : TE} {xs ys : List V} {K : PySem.W.Frag} (h : EvU ta σ H xs) (h2 : EvU tb σ H ys) (hr : ∀ p q H1, SqT K H1 p xs → SqT K H1 q ys → Ex H H1 → RV r (.ref p) (.ref q) H1 z) : Ev (tOp r ta tb) σ H z :=
  ev_opUU h h2 fun p q H1 hp hq e => hr p q H1 (.inl (.inl hp)) (.inl (.inl hq)) e
end
end Vc

set_option Elab.async false
set_option linter.all false
set_option maxRecDepth 100000
set_option maxHeartbeats 2000000
/-! An error of the program, with one field, raised about a variable's value. -/
namespace Vx2
open PySem PySem.Spec PyProof.Rows L2 Vl Evl
/-- the error of the class at CN about y, its field called f -/
def RaisedF (CN : Addr) (f : Str) (H : Hp) (y : V) (E : XK) : Prop := ∀ d H', Ex H H' → H' d = some (.xd [(f, y)]) → E (.ref CN) (some d) H'
theorem raised_f {CN : Addr} {f : Str} {te : TE} {st : L2.St} {H : Hp} {y : V} {W : WX} (i : Nat) (h : te = tVar i) (hy : st[i]? = some (some y)) (q : RaisedF CN f H y fun cls d H' => W cls d st H') :
    tMkO CN (spIni CN f) [] (tCons te tNil) st H (fun cls d H' => W cls d st H') := by
  subst h
  refine ⟨y, hy, by show 1 ≤ 1000; omega, fun a na => ?_⟩
  refine ⟨a, y, rfl, upd_same, fun dx n1 n2 => ?_⟩
  have nd : H dx = none := by rw [upd_ne n2] at n1; exact n1
  refine ⟨rfl, dx, [(f, y)], upd_same, by rw [upd_ne n2, upd_same], nd, ?_⟩
  refine q dx _ (fun b o hb => ?_) upd_same
  rw [upd_ne (ne_of_none hb nd), del_ne (ne_of_none hb na), upd_ne (ne_of_none hb na), upd_ne (ne_of_none hb nd), upd_ne (ne_of_none hb na)]
  exact hb
/-- what is asked of such a class to be raised, and its __init__ -/
structure Err1 (P : Program) (w : World) (K : PySem.W.Frag) (mg : Str → Option Value) (base : Heap) (x f : Str) (C : Addr) : Prop where
  T : OexC K C
  X : XfC K C
  no : PySem.W.findIn K (.ref C) f = some none
  g : mg x = some (.ref C)
  ini : ∃ fI fd, PySem.W.findIn K (.ref C) "__init__" = some (some (.ref fI)) ∧ PySem.W.typeIn K (.ref fI) = some (.type "function") ∧ Binds K fd ["self", f] [] ∧ FnOk P w K mg base CX0 1 fI fd ["self", f] (spIni C f)
end Vx2

set_option Elab.async false
set_option linter.all false
set_option maxRecDepth 100000
set_option maxHeartbeats 2000000
/-! The head's facts as a list; what they say of classes, errors, properties. -/
namespace Vh
open PySem PySem.Spec PyProof.Rows L2 Vx2 Vc
abbrev Fact : Type := Fg → Bool
def allF (fs : List Fact) (K : Fg) : Bool := fs.all fun g => g K
theorem fact_at {fs : List Fact} {K : Fg} (h : allF fs K = true) (i : Nat) {g : Fact} (e : fs[i]? = some g := by rfl) : g K = true := List.all_eq_true.mp h g (List.mem_of_getElem? e)
def glosF (xs : List Str) : Fact := fun K => xs.all fun x => (He.Fa.glo x).ok K
def freesF (xs : List Str) : Fact := fun K => xs.all fun x => (He.Fa.free x).ok K
theorem glos_ok {xs : List Str} {K : Fg} {h : Heap} {mg : Str → Option Value} (X : K.In h) (G : h.Ns mainGlobals mg) (c : glosF xs K = true) : ∀ x ∈ xs, mg x = some (.ref (He.ga K x)) := fun x hx => He.glo_ok X G (List.all_eq_true.mp c x hx)
theorem frees_ok {xs : List Str} {K : Fg} {h : Heap} {mg : Str → Option Value} (X : K.In h) (G : h.Ns mainGlobals mg) (c : freesF xs K = true) : ∀ x ∈ xs, mg x = none := fun x hx => He.free_ok X G (List.all_eq_true.mp c x hx)
/-- a class of the program: its methods, its fields' names free -/
def clsF (x : Str) (fs ms : List Str) : Fact := fun K => (He.Fa.cls x).ok K && ((fs.all fun f => (He.Fa.noat x f).ok K) && ms.all fun m => (He.Fa.meth x m).ok K)
structure ClsK (K : Fg) (C : Addr) (fs ms : List Str) : Prop where
  cls : Cls K C
  no : ∀ f ∈ fs, NoAttr K C f
  me : ∀ m ∈ ms, Meth K C m (He.ma K C m)
theorem clsF_ok {x : Str} {fs ms : List Str} {K : Fg} (c : clsF x fs ms K = true) : ClsK K (He.ga K x) fs ms := by
  obtain ⟨c1, c2⟩ := He.ba c
  obtain ⟨c2, c3⟩ := He.ba c2
  exact ⟨He.cls_ok c1, fun f hf => He.noat_ok (List.all_eq_true.mp c2 f hf), fun m hm => He.meth_ok (List.all_eq_true.mp c3 m hm)⟩
/-- a property -/
def prpF (x f : Str) : Fact := fun K =>
  He.eqO (PySem.W.findIn K (.ref (He.ga K x)) f) (some (some (.ref (He.ma K (He.ga K x) f)))) && (He.eqO (PySem.W.specialIn K (.ref (He.ma K (He.ga K x) f)) "__get__") (some (some (.builtin "property.__get__"))) && (decide (PySem.W.takesIn K (.ref (He.ma K (He.ga K x) f)) = some true) &&
  (match PySem.W.recIn K (He.ma K (He.ga K x) f) "property" with
    | some (.ref _ :: _) => true
    | _ => false)))
theorem prpF_ok {x f : Str} {K : Fg} (h : prpF x f K = true) : PropOf K (He.ga K x) f (He.ma K (He.ga K x) f) (pgA K x f) := by
  obtain ⟨h1, h⟩ := He.ba h
  obtain ⟨h2, h⟩ := He.ba h
  obtain ⟨h3, h4⟩ := He.ba h
  refine ⟨He.eqO_ok h1, He.eqO_ok h2, of_decide_eq_true h3, ?_⟩
  unfold pgA
  split at h4
  · next g rest e => exact ⟨rest, by rw [e]⟩
  · cases h4
/-- a class of errors with fields -/
def errF (x : Str) (fs : List Str) : Fact := fun K => errB K (He.ga K x) && iniB K (He.ga K x) fs
/-- a class of errors without an own __init__ -/
def err0F (x : Str) : Fact := fun K => errB K (He.ga K x)
def exmF (xs : List Str) : Fact := fun K => xs.all fun x => xs.all fun y => (He.Fa.exm x y (decide (x = y))).ok K
theorem exmF_ok {xs : List Str} {K : Fg} (h : exmF xs K = true) {x y : Str} (hx : x ∈ xs) (hy : y ∈ xs) : PySem.W.exmOne K (.ref (He.ga K x)) (.ref (He.ga K y)) = some (decide (x = y)) :=
  of_decide_eq_true (List.all_eq_true.mp (List.all_eq_true.mp h x hx) y hy)
def fnF (x m : Str) : Fact := fun K => PySem.W.fnIn K (He.ma K (He.ga K x) m)
def mkF (x : Str) : Fact := fun K => (He.Fa.mkr x).ok K
def strF (x z : Str) : Fact := fun K => (He.Fa.str x z).ok K
def intF (x : Str) (i : Int) : Fact := fun K => (He.Fa.int x i).ok K
theorem err1_of {P : Program} {w : World} {K : Fg} {mg : Str → Option Value} {base : Heap} {x f : Str} {fd : FuncData} (h : errF x [f] K = true) (hk : takB K = true) (g : mg x = some (.ref (He.ga K x)))
    (G : FnOk P w K mg base L2.CX0 1 (He.ma K (He.ga K x) "__init__") fd ["self", f] (Vl.spIni (He.ga K x) f)) (b : L2.Binds K fd ["self", f] []) : Err1 P w K mg base x f (He.ga K x) := by
  obtain ⟨h1, h2⟩ := He.ba h
  obtain ⟨O, XF, IS⟩ := errB_ok h1 hk
  have I := iniB_ok h2
  exact ⟨O, XF, I.no f List.mem_cons_self, g, _, fd, I.iC, I.tI, b, G⟩
end Vh

set_option Elab.async false
set_option linter.all false
set_option maxRecDepth 100000
set_option maxHeartbeats 2000000
/-! The laws' own draws: a pool of three ints, names out of it. -/
namespace Vp
open PySem PySem.Spec PyProof.Rows L2 Vl Evl
/-- a text by its signs -/
def tx (l : List Nat) : Str := ⟨l.toArray⟩
theorem tx_list (l : List Nat) : (tx l).cps.toList = l := rfl
theorem tx_len (l : List Nat) : (tx l).length = l.length := rfl
theorem tx_app (a b : List Nat) : tx a ++ tx b = tx (a ++ b) := by
  show Str.mk (a.toArray ++ b.toArray) = Str.mk (a ++ b).toArray
  rw [List.append_toArray]
theorem tx_one (c : Nat) : (⟨#[c]⟩ : Str) = tx [c] := rfl
theorem tx_inj {a b : List Nat} (h : tx a = tx b) : a = b := by
  have := congrArg (fun z : Str => z.cps.toList) h
  exact this
theorem tx_of (z : Str) : z = tx z.cps.toList := by
  obtain ⟨a⟩ := z
  rfl
theorem tx_cut0 (l : List Nat) (k : Nat) : cutS (tx l) none (some (k : Int)) = tx (l.take k) := by
  show Str.mk _ = Str.mk _
  rw [HT.sIx_nat, HT.sIx_none, tx_len, tx_list, List.drop_zero, Nat.sub_zero, ← List.take_take, List.take_length]
theorem tx_cut1 (l : List Nat) (k : Nat) : cutS (tx l) (some (k : Int)) none = tx (l.drop k) := by
  show Str.mk _ = Str.mk _
  rw [HT.sIx_nat, HT.sIx_none, tx_len, tx_list]
  congr 2
  by_cases h : k ≤ l.length
  · rw [Nat.min_eq_left h, ← List.length_drop, List.take_length]
  · rw [List.drop_of_length_le (by omega), List.drop_of_length_le (by omega), List.take_nil]
def letters : List Nat := [97, 98, 99, 100, 101, 102, 103, 104, 105, 106, 107, 108, 109, 110, 111, 112, 113, 114, 115, 116, 117, 118, 119, 120, 121, 122]
def digits : List Nat := [48, 49, 50, 51, 52, 53, 54, 55, 56, 57]
def signs : List Nat := letters ++ digits
/-- the signs of a name: a small letter, then up to seven small letters and figures -/
def nam (l : List Nat) : Prop := ∃ c r, l = c :: r ∧ c ∈ letters ∧ (∀ x ∈ r, x ∈ signs) ∧ r.length ≤ 7
theorem nam_len {l : List Nat} (h : nam l) : 1 ≤ l.length ∧ l.length ≤ 8 := by
  obtain ⟨c, r, rfl, _, _, h4⟩ := h
  rw [List.length_cons]
  omega
theorem letters_signs {c : Nat} (h : c ∈ letters) : c ∈ signs := List.mem_append_left _ h
theorem nam_signs {l : List Nat} (h : nam l) : ∀ x ∈ l, x ∈ signs := by
  obtain ⟨c, r, rfl, h2, h3, _⟩ := h
  intro x hx
  rcases List.mem_cons.mp hx with rfl | hx
  · exact letters_signs h2
  · exact h3 x hx
theorem nam_take {l : List Nat} (h : nam l) (k : Nat) : nam (l.take (k + 1)) := by
  obtain ⟨c, r, rfl, h2, h3, h4⟩ := h
  refine ⟨c, r.take k, List.take_succ_cons, h2, fun x hx => h3 x (List.mem_of_mem_take hx), ?_⟩
  rw [List.length_take]
  omega
/-- a pool stands at p, its counter at most n -/
def PoolAt (H : Hp) (p : Addr) (n : Nat) : Prop := ∃ a b c : Int, H p = some (.lst [.int a, .int b, .int c]) ∧ 0 ≤ b ∧ b < 1000000007 ∧ 0 ≤ c ∧ c ≤ n
theorem PoolAt.mono {H : Hp} {p : Addr} {n m : Nat} (h : PoolAt H p n) (hm : n ≤ m) : PoolAt H p m := by
  obtain ⟨a, b, c, h1, h2, h3, h4, h5⟩ := h
  exact ⟨a, b, c, h1, h2, h3, h4, by omega⟩
/-- all but what stands at p -/
def Wo (H : Hp) (p : Addr) : Hp := fun b => if b = p then none else H b
theorem wo_self (H : Hp) (p : Addr) : Wo H p p = none := if_pos rfl
theorem wo_ne {H : Hp} {p b : Addr} (h : b ≠ p) : Wo H p b = H b := if_neg h
theorem wo_ex (H : Hp) (p : Addr) : Ex (Wo H p) H := fun b o e => by
  by_cases h : b = p
  · rw [h, wo_self] at e
    cases e
  · rw [wo_ne h] at e
    exact e
theorem wo_of {Hk H : Hp} {p : Addr} (h : Hk p = none) (e : Ex Hk H) : Ex Hk (Wo H p) := fun b o hb => by
  rw [wo_ne (ne_of_none hb h)]
  exact e b o hb
theorem wo_at {H : Hp} {p b : Addr} {o : HO} (h : H b = some o) (hb : b ≠ p) : Wo H p b = some o := by
  rw [wo_ne hb]
  exact h
/-- what is known is Hk, all but the pool at p; the pool stands there -/
structure Pl (Hk : Hp) (p : Addr) (n : Nat) (H : Hp) : Prop where
  no : Hk p = none
  ex : Ex Hk H
  at_ : PoolAt H p n
theorem Pl.re {Hk H : Hp} {p : Addr} {n : Nat} (h : Pl Hk p n H) : Pl (Wo H p) p n H := ⟨wo_self _ _, wo_ex _ _, h.at_⟩
theorem Pl.wo {Hk H : Hp} {p : Addr} {n : Nat} (h : Pl Hk p n H) : Ex Hk (Wo H p) := wo_of h.no h.ex
theorem Pl.grow {Hk H H' : Hp} {p : Addr} {n : Nat} (h : Pl Hk p n H) (e : Ex H H') : Pl Hk p n H' := by
  obtain ⟨a, b, c, h1, h2⟩ := h.at_
  exact ⟨h.no, h.ex.trans e, a, b, c, e _ _ h1, h2⟩
theorem Pl.cnt {Hk H : Hp} {p : Addr} {n m : Nat} (h : Pl Hk p n H) (hm : n ≤ m) : Pl Hk p m H := ⟨h.no, h.ex, h.at_.mono hm⟩
theorem Pl.sub {Hk Hj H : Hp} {p : Addr} {n : Nat} (h : Pl Hk p n H) (e : Ex Hj Hk) (hn : Hj p = none) : Pl Hj p n H := ⟨hn, e.trans h.ex, h.at_⟩
/-- a new object beside the pool -/
theorem Pl.new {Hk H : Hp} {p q : Addr} {n : Nat} {o : HO} (h : Pl Hk p n H) (hq : H q = none) : Pl Hk p n (upd H q o) := h.grow (Ex.new hq)
theorem Pl.ne {Hk H : Hp} {p q : Addr} {n : Nat} (h : Pl Hk p n H) (hq : H q = none) : q ≠ p := fun z => by
  obtain ⟨a, b, c, h1, _⟩ := h.at_
  rw [z, h1] at hq
  cases hq
/-! promises -/
def spPool : Sp := fun vs H Q _ => ∃ c : Int, vs = [.int c] ∧ ∀ p H', H p = none → Ex H H' → PoolAt H' p 0 → Q (.ref p) H'
def spTake : Sp := fun vs H Q _ => ∃ (p : Addr) (m : Int) (Hk : Hp) (n : Nat), vs = [.ref p, .int m] ∧ 1 ≤ m ∧ m ≤ 100000 ∧ Pl Hk p n H ∧ n ≤ 100000 ∧
  ∀ (r : Int) H', 0 ≤ r → r < m → Pl Hk p (n + 1) H' → Q (.int r) H'
/-- names, none of them twice -/
def Names (xs : List (List Nat)) : Prop := (∀ l ∈ xs, nam l) ∧ xs.Nodup
def vtx (xs : List (List Nat)) : List V := xs.map fun l => V.str (tx l)
theorem vtx_len (xs : List (List Nat)) : (vtx xs).length = xs.length := List.length_map _
theorem vtx_app (xs ys : List (List Nat)) : vtx (xs ++ ys) = vtx xs ++ vtx ys := List.map_append
theorem vtx_at {xs : List (List Nat)} {i : Nat} {l : List Nat} (h : xs[i]? = some l) : (vtx xs)[i]? = some (V.str (tx l)) := by
  unfold vtx
  rw [List.getElem?_map, h]
  rfl
def spNames : Sp := fun vs H Q _ => ∃ (p : Addr) (m : Nat) (Hk : Hp) (n : Nat), vs = [.ref p, .int (m : Int)] ∧ m ≤ 8 ∧ Pl Hk p n H ∧ n ≤ 90000 ∧
  ∀ q xs H', H q = none → Pl Hk p (n + 50) H' → H' q = some (.lst (vtx xs)) → xs.length = m → Names xs → Q (.ref q) H'
/-- words out of names -/
def spWord : Sp := fun vs H Q _ => ∃ (p q : Addr) (xs : List (List Nat)) (m : Nat) (Hk : Hp) (n : Nat), vs = [.ref p, .ref q, .int (m : Int)] ∧ 1 ≤ m ∧ m ≤ 30 ∧ Pl Hk p n H ∧ n ≤ 90000 ∧ Hk q = some (.lst (vtx xs)) ∧ 1 ≤ xs.length ∧ xs.length ≤ 1000 ∧
  ∀ d ys H', H d = none → Pl Hk p (n + 50) H' → H' d = some (.lst (vtx ys)) → 1 ≤ ys.length → ys.length ≤ max m 12 → (∀ y ∈ ys, y ∈ xs) → Q (.ref d) H'
theorem mod7 {s i j n : Nat} (hn : n = 26 ∨ n = 36) (hi : i < 26) (hj : j < 26) (h : (s + 7 * i) % n = (s + 7 * j) % n) : i = j := by
  rcases hn with rfl | rfl <;> omega
theorem mod3 {s i j : Nat} (hi : i < 8) (hj : j < 8) (h : (s + 3 * i) % 26 = (s + 3 * j) % 26) : i = j := by omega
theorem nodup_letters : letters.Nodup := by decide
theorem nodup_signs : signs.Nodup := by decide +kernel
theorem len_letters : letters.length = 26 := rfl
theorem len_signs : signs.length = 36 := rfl
theorem nodup_key {α : Type} {l : List α} (h : ∀ (i j : Nat) (y : α), l[i]? = some y → l[j]? = some y → i = j) : l.Nodup := by
  refine List.pairwise_iff_getElem.mpr fun i j hi hj hij e => ?_
  have := h i j l[i] (List.getElem?_eq_getElem hi) (by rw [e]; exact List.getElem?_eq_getElem hj)
  omega
theorem nodup_range {α : Type} {m : Nat} {f : Nat → α} (h : ∀ i j, i < m → j < m → f i = f j → i = j) : ((List.range m).map f).Nodup := by
  refine nodup_key fun i j y hi hj => ?_
  rw [List.getElem?_map] at hi hj
  by_cases a : i < m
  · by_cases b : j < m
    · rw [List.getElem?_range a] at hi
      rw [List.getElem?_range b] at hj
      exact h i j a b ((Option.some.inj hi).trans (Option.some.inj hj).symm)
    · rw [List.getElem?_eq_none (by rw [List.length_range]; omega)] at hj
      cases hj
  · rw [List.getElem?_eq_none (by rw [List.length_range]; omega)] at hi
    cases hi
theorem getD_at {l : List Nat} {i : Nat} (h : i < l.length) : l[i]? = some (l.getD i 0) := by
  rw [List.getElem?_eq_getElem h, List.getD_eq_getElem?_getD, List.getElem?_eq_getElem h]
  rfl
theorem getD_mem {l : List Nat} {i : Nat} (h : i < l.length) : l.getD i 0 ∈ l := List.mem_of_getElem? (getD_at h)
theorem getD_inj {l : List Nat} (hn : l.Nodup) {i j : Nat} (hi : i < l.length) (hj : j < l.length) (h : l.getD i 0 = l.getD j 0) : i = j :=
  nd_ix hn (getD_at hi) (by rw [h]; exact getD_at hj)
theorem nam_one {c : Nat} (h : c ∈ letters) : nam [c] := ⟨c, [], rfl, h, (fun _ z => nomatch z), by show 0 ≤ 7; omega⟩
theorem nam_snoc {l : List Nat} {c : Nat} (h : nam l) (hc : c ∈ signs) (hl : l.length ≤ 7) : nam (l ++ [c]) := by
  obtain ⟨a, r, rfl, h2, h3, h4⟩ := h
  refine ⟨a, r ++ [c], rfl, h2, fun x hx => ?_, ?_⟩
  · rcases List.mem_append.mp hx with hx | hx
    · exact h3 x hx
    · rw [List.mem_singleton.mp hx]
      exact hc
  · rw [List.length_append, List.length_singleton]
    rw [List.length_cons] at hl
    omega
theorem nam_cons {l : List Nat} {c : Nat} (hc : c ∈ letters) (hl : ∀ x ∈ l, x ∈ signs) (h7 : l.length ≤ 7) : nam (c :: l) := ⟨c, l, rfl, hc, hl, h7⟩
/-- a sign put into a stem -/
theorem nam_put {w : List Nat} {c t p : Nat} (hw : nam w) (ht : t ≤ 7) (hp : p ≤ (w.take t).length) (h : p = 0 → c ∈ letters) (h2 : c ∈ signs) :
    nam ((w.take t).take p ++ [c] ++ (w.take t).drop p) := by
  have hm : ∀ x ∈ w.take t, x ∈ signs := fun x hx => nam_signs hw x (List.mem_of_mem_take hx)
  have hl : (w.take t).length ≤ 7 := by rw [List.length_take]; omega
  cases p with
  | zero =>
    rw [List.take_zero, List.nil_append, List.drop_zero]
    exact nam_cons (h rfl) hm hl
  | succ p =>
    obtain ⟨a, r, hw1, ha, hr, h7⟩ := hw
    cases t with
    | zero =>
      rw [List.take_zero] at hp
      exact absurd hp (by show ¬ p + 1 ≤ 0; omega)
    | succ t =>
      rw [hw1, List.take_succ_cons] at hm hl hp ⊢
      rw [List.take_succ_cons, List.drop_succ_cons, List.append_assoc]
      rw [List.length_cons] at hl hp
      refine ⟨a, (r.take t).take p ++ ([c] ++ (r.take t).drop p), rfl, ha, fun x hx => ?_, ?_⟩
      · rcases List.mem_append.mp hx with hx | hx
        · exact hm x (List.mem_cons_of_mem _ (List.mem_of_mem_take hx))
        · rcases List.mem_append.mp hx with hx | hx
          · rw [List.mem_singleton.mp hx]
            exact h2
          · exact hm x (List.mem_cons_of_mem _ (List.mem_of_mem_drop hx))
      · rw [List.length_append, List.length_append, List.length_take, List.length_drop, List.length_singleton]
        omega
theorem put_at {w : List Nat} {c p : Nat} (hp : p ≤ w.length) : (w.take p ++ [c] ++ w.drop p)[p]? = some c := by
  rw [List.append_assoc, List.getElem?_append_right (by rw [List.length_take]; omega), List.length_take, Nat.min_eq_left hp, Nat.sub_self]
  rfl
theorem str_letters : Str.ofString "abcdefghijklmnopqrstuvwxyz" = tx letters := by decide +kernel
theorem str_digits : Str.ofString "0123456789" = tx digits := by decide +kernel
theorem rv_cats {a b : List Nat} {H : Hp} (h : a.length + b.length ≤ 100000) : RV rCatS (.str (tx a)) (.str (tx b)) H (.str (tx (a ++ b))) := by
  intro H1 _ Q q
  refine ⟨tx a, tx b, rfl, rfl, sz_of h, ?_⟩
  rw [tx_app]
  exact q H1 (Ex.refl H1)
theorem fresh_wo {H H' : Hp} {p d : Addr} {n m : Nat} {Hk : Hp} (h0 : Pl Hk p n H) (h : Pl (Wo H p) p m H') (hd : H' d = none) : H d = none := by
  cases e : H d with
  | none => rfl
  | some o =>
    have hp : d ≠ p := h.ne hd
    have := h.ex d o (wo_at e hp)
    rw [hd] at this
    cases this
theorem Pl.back {Hk H H' : Hp} {p : Addr} {n m : Nat} (h0 : Pl Hk p n H) (h : Pl (Wo H p) p m H') : Pl Hk p m H' := h.sub h0.wo h0.no
theorem cutV0 (xs : List V) (k : Nat) : cutV xs none (some (k : Int)) = xs.take k := by
  unfold cutV
  rw [HT.sIx_nat, HT.sIx_none, List.drop_zero, Nat.sub_zero, ← List.take_take, List.take_length]
theorem cutV1 (xs : List V) (k : Nat) : cutV xs (some (k : Int)) none = xs.drop k := by
  unfold cutV
  rw [HT.sIx_nat, HT.sIx_none]
  by_cases h : k ≤ xs.length
  · rw [Nat.min_eq_left h, ← List.length_drop, List.take_length]
  · rw [List.drop_of_length_le (by omega), List.drop_of_length_le (by omega), List.take_nil]
theorem vtx_take (xs : List (List Nat)) (k : Nat) : (vtx xs).take k = vtx (xs.take k) := List.map_take.symm
theorem vtx_drop (xs : List (List Nat)) (k : Nat) : (vtx xs).drop k = vtx (xs.drop k) := List.map_drop.symm
theorem vtx_rep (xs : List (List Nat)) : ∀ k, (List.replicate k (vtx xs)).flatten = vtx (List.replicate k xs).flatten
  | 0 => rfl
  | k + 1 => by
    rw [List.replicate_succ, List.flatten_cons, List.replicate_succ, List.flatten_cons, vtx_rep xs k, vtx_app]
theorem rep_len {α : Type} (xs : List α) : ∀ k, (List.replicate k xs).flatten.length = k * xs.length
  | 0 => by rw [Nat.zero_mul]; rfl
  | k + 1 => by
    rw [List.replicate_succ, List.flatten_cons, List.length_append, rep_len xs k, Nat.succ_mul]
    omega
theorem rep_mem {α : Type} {xs : List α} {y : α} {k : Nat} (h : y ∈ (List.replicate k xs).flatten) : y ∈ xs := by
  obtain ⟨l, hl, hy⟩ := List.mem_flatten.mp h
  rw [(List.mem_replicate.mp hl).2] at hy
  exact hy
end Vp

set_option Elab.async false
set_option linter.all false
set_option maxRecDepth 100000
set_option maxHeartbeats 4000000
/-! o op y by an own operator, y of a built-in type; what the head says of it. -/
namespace Vw
open PySem PySem.Spec PyProof.Rows L2 Vl Evl Vp Vo Vc Vh
/-- values of built-in types, with the type's name -/
def Wr (y : V) (H : Hp) (t : String) : Prop := (∃ b, y = .bl b ∧ t = "bool") ∨ (∃ i, y = .int i ∧ t = "int") ∨ (∃ z, y = .str z ∧ t = "str") ∨ (y = .non ∧ t = "NoneType") ∨
  (∃ a xs, y = .ref a ∧ H a = some (.tup xs) ∧ t = "tuple") ∨ (∃ a xs, y = .ref a ∧ H a = some (.lst xs) ∧ t = "list")
theorem Wr.tyx {K : PySem.W.Frag} {y : V} {H : Hp} {t : String} (h : Wr y H t) : TyX K H y (.type t) := by
  rcases h with ⟨b, rfl, rfl⟩ | ⟨b, rfl, rfl⟩ | ⟨b, rfl, rfl⟩ | ⟨rfl, rfl⟩ | ⟨a, xs, rfl, ha, rfl⟩ | ⟨a, xs, rfl, ha, rfl⟩
  · exact .base (.bl b)
  · exact .base (.int b)
  · exact .base (.str b)
  · exact .base .non
  · exact .base (.tup ha)
  · exact .base (.lst ha)
theorem Wr.mem {y : V} {H : Hp} {t : String} (h : Wr y H t) : t ∈ ["bool", "int", "str", "NoneType", "tuple", "list"] := by
  rcases h with ⟨b, rfl, rfl⟩ | ⟨b, rfl, rfl⟩ | ⟨b, rfl, rfl⟩ | ⟨rfl, rfl⟩ | ⟨a, xs, rfl, ha, rfl⟩ | ⟨a, xs, rfl, ha, rfl⟩ <;> decide
theorem looks_ty {M : Model} {s : Shared} {v : Value} {t : String} (h : s.TypeIs v t) : PySem.W.Looks M s.heap (typeOf v) (.type t) := fun A Q E s' k q => by
  refine wpAny_typeOf ?_ q
  cases v with
  | ref a =>
    obtain ⟨o, h1, h2⟩ := (show ∃ o, s.heap.get? a = some o ∧ o.cls = .type t from h)
    exact ⟨o, k _ _ h1, h2⟩
  | _ => exact h
theorem Wr.looks {X : Cx} {pins : List (Addr × Obj)} {st : L2.St} {H : Hp} {s : Shared} {y : V} {u : Value} {t : String} (I : Inv X pins st H s) (r : RelV y u) (h : Wr y H t) : PySem.W.Looks (model X.prog X.w) s.heap (typeOf u) (.type t) := by
  rcases h with ⟨b, rfl, rfl⟩ | ⟨b, rfl, rfl⟩ | ⟨b, rfl, rfl⟩ | ⟨rfl, rfl⟩ | ⟨a, xs, rfl, ha, rfl⟩ | ⟨a, xs, rfl, ha, rfl⟩
  · cases r
    exact .of_pure rfl
  · obtain ⟨t, rfl⟩ := r
    exact .of_pure rfl
  · obtain ⟨t, rfl⟩ := r
    exact .of_pure rfl
  · cases r
    exact .of_pure rfl
  · cases r
    obtain ⟨its, r', ht, hz⟩ := I.tuple (xs := xs) (.inl (.inl ha))
    exact looks_ty (IsTup.typeIs ht)
  · cases r
    obtain ⟨its, r', ht, hz⟩ := I.list (xs := xs) (sq_of ha)
    exact looks_ty ht.isList.typeIs
abbrev tyNames : List String := ["bool", "int", "str", "NoneType", "tuple", "list"]
structure Ow (P : Program) (w : World) (K : PySem.W.Frag) (mg : Str → Option Value) (base : Heap) (C : Addr) (CX : CXT) (k : Nat) (nm : String) (sp : Sp) : Prop where
  ex : ∃ (f : Addr) (fd : FuncData) (ps : List Str), FnOk P w K mg base CX k f fd ps sp ∧ OwnOp K C nm f ∧ L2.Binds K fd ps []
  far : ∀ t ∈ tyNames, Far K C nm t
def tOw (C : Addr) (sp : Sp) (E : L2.St → XK) (ta tb : TE) : TE := fun st H Q => ta st H fun x H1 => tb st H1 fun y H2 => ∃ o dx fs t, x = .ref o ∧ H2 o = some (.ins C dx fs) ∧ Wr y H2 t ∧ sp [x, y] H2 Q (E st)
section
variable {X : Cx} {C : Addr} {j k : Nat} {sp : Sp} {E : L2.St → XK} {pos : Pos} {a b : Expr} {ta tb : TE} {op : Operator}
theorem pe_owX (T : Ow X.prog X.w X.K X.mg X.base C (L2.CX X.prog X.w) k op.info.2 sp) (hr : Room j X.A) (hx : ∀ st, PassesAt (L2.CX X.prog X.w) X st (E st)) (ha : PE X a ta) (hi : PE X b tb) (hk : k ≤ j := by decide) : PE X (.BinOp a op b pos) (tOw C sp E ta tb) := by
  obtain ⟨f, fd, ps, F, W, B⟩ := T.ex
  exact pe_binO W (fun y H t h => T.far t h.mem) (fun pins st H s y u t I r h => Wr.looks I r h) F (hr.mono hk) B hx ha hi
theorem pe_owN (T : Ow X.prog X.w X.K X.mg X.base C (L2.CX X.prog X.w) k op.info.2 sp) (hr : Room j X.A) (ha : PE X a ta) (hi : PE X b tb) (hk : k ≤ j := by decide) : PE X (.BinOp a op b pos) (tOw C sp (fun _ => nil0) ta tb) :=
  pe_owX (E := fun _ => nil0) T hr (fun σ => Vtr.passNo σ) ha hi hk
end
/-! the head -/
def opB (K : Fg) (C : Addr) (nm : String) : Bool := PySem.W.selfFirst K C && (He.eqO (PySem.W.findIn K (.ref C) (PySem.dunder nm)) (some (some (.ref (He.ma K C (PySem.dunder nm))))) && (PySem.W.isFn K (.ref (He.ma K C (PySem.dunder nm))) && He.eqO (PySem.W.findIn K (.ref C) (dunderR nm)) (some none)))
def farB (K : Fg) (C : Addr) (nm t : String) : Bool := (PySem.W.findIn K (.type t) (PySem.dunder nm)).isSome && ((PySem.W.findIn K (.type t) (dunderR nm)).isSome && decide (PySem.W.subIn K (.type t) (.ref C) = some false))
def owF (x : Str) (nm : String) : Fact := fun K => opB K (He.ga K x) nm && tyNames.all fun t => farB K (He.ga K x) nm t
theorem owF_ok {x : Str} {nm : String} {K : Fg} (h : owF x nm K = true) : OwnOp K (He.ga K x) nm (He.ma K (He.ga K x) (PySem.dunder nm)) ∧ ∀ t ∈ tyNames, Far K (He.ga K x) nm t := by
  obtain ⟨h, g⟩ := He.ba h
  obtain ⟨h1, h⟩ := He.ba h
  obtain ⟨h2, h⟩ := He.ba h
  obtain ⟨h3, h4⟩ := He.ba h
  refine ⟨⟨h1, He.eqO_ok h2, h3, He.eqO_ok h4⟩, fun t ht => ?_⟩
  obtain ⟨g1, g⟩ := He.ba (List.all_eq_true.mp g t ht)
  obtain ⟨g2, g3⟩ := He.ba g
  exact ⟨Option.isSome_iff_exists.mp g1, Option.isSome_iff_exists.mp g2, of_decide_eq_true g3⟩
/-- what the class is not -/
def tyF (x : Str) : Fact := fun K => tyNames.all fun t => PySem.W.notFirst K (He.ga K x) (.type t) && decide (PySem.W.kitOne K (.type t) (.ref (He.ga K x)) = some false)
theorem tyF_ok {x : Str} {K : Fg} (h : tyF x K = true) : (∀ t ∈ tyNames, PySem.W.notFirst K (He.ga K x) (.type t) = true) ∧ ∀ t ∈ tyNames, PySem.W.kitOne K (.type t) (.ref (He.ga K x)) = some false := by
  refine ⟨fun t ht => (He.ba (List.all_eq_true.mp h t ht)).1, fun t ht => of_decide_eq_true (He.ba (List.all_eq_true.mp h t ht)).2⟩
/-- isinstance(o, C) -/
def insF (x : Str) : Fact := fun K => He.eqO (PySem.W.findIn K (.ref (He.ga K x)) "__class__") (some (some (.builtin "object.__class__"))) && (decide (PySem.W.mroIn K (He.ga K x) (.type "object") = some true) && decide (PySem.W.kitOne K (.ref (He.ga K x)) (.ref (He.ga K x)) = some true))
theorem insF_ok {x : Str} {K : Fg} (c : L2.Cls K (He.ga K x)) (h : insF x K = true) (hk : takB K = true) : C8.InsC K (He.ga K x) := by
  obtain ⟨h1, h⟩ := He.ba h
  obtain ⟨h2, h3⟩ := He.ba h
  obtain ⟨k1, k2⟩ := He.ba hk
  exact ⟨c, He.eqO_ok h1, He.eqO_ok k1, of_decide_eq_true k2, of_decide_eq_true h2, of_decide_eq_true h3⟩
def neF (x : Str) : Fact := fun K => Vo.neB K (He.ga K x) (He.ma K (He.ga K x) "__eq__")
end Vw

set_option maxRecDepth 100000
namespace K14
open PySem
def top (i : Nat) : Stmt := PySem.Challenge.pw_alsoshown_k14_patterns_compared.main.body.getD i (.Pass ⟨0, 0, 0, 0⟩)
end K14

set_option Elab.async false
set_option linter.all false
set_option maxRecDepth 100000
set_option maxHeartbeats 4000000
namespace K14
open PySem PySem.Spec PyProof.Rows L2 Vl Evl Vp
abbrev sCell : Stmt := top 60
abbrev sPool : Stmt := top 61
abbrev sTake : Stmt := top 62
abbrev FnP (K : PySem.W.Frag) (x : Str) (st : Stmt) (f : Addr) (fd : FuncData) : Prop := FunD K x x (defArgs st) (defBody st) (defScope st) [] [] f fd
section
variable {P : Program} {w : World} {K : PySem.W.Frag} {mg : Str → Option Value} {base : Heap}
theorem scC : FnScope ["_law_script", "_law_k"] ["_law_script", "_law_k"] (defScope sCell) := ⟨rfl, rfl, rfl, by decide +kernel, rfl, by decide +kernel, by decide +kernel⟩
theorem ok_cell {f : Addr} {fd : FuncData} (F : FnP K "_law_cell" sCell f fd) (mL : mg "len" = none) :
    FnOk P w K mg base CX0 1 f fd ["_law_script", "_law_k"] (spCell K) := by
  refine F.ok (CX := CX0) scC (fun vs H Q E h => ?_) (fun cdv A outer s H vs Q E hr h => ?_)
  · obtain ⟨l, ns, j, rfl, _⟩ := h
    rfl
  · refine ⟨_, pss_cons (ps_if (pt_cmpR op_lt (pv 1) (pe_callB call_len (by rfl) mL boot_len (pa_cons (pv 0) pa_nil)) (nomark _))
        (pss_one (ps_ret (pe_ix ix_seq (pv 0) (pv 1) fun _ _ => rfl))) pss_nil)
      (pss_one (ps_ret pe_int)), ?_⟩
    obtain ⟨l, ns, j, rfl, hs, q⟩ := h
    refine ⟨_, rfl, _, rfl, V.ref l, (ns.map V.int).length, rfl, .inl ⟨_, hs, rfl⟩, (j : Nat), ((ns.map V.int).length : Nat), rfl, rfl, _, rfl, ?_⟩
    by_cases hj : j < ns.length
    · rw [decide_eq_true (show ((j : Nat) : Int) < (((ns.map V.int).length : Nat) : Int) by rw [List.length_map]; omega)]
      refine iteT ?_
      exact ⟨_, rfl, _, rfl, .inl ⟨l, _, _, _, rfl, rfl, hs, atI_cell hj, q⟩⟩
    · rw [decide_eq_false (show ¬ ((j : Nat) : Int) < (((ns.map V.int).length : Nat) : Int) by rw [List.length_map]; omega)]
      refine iteF ?_
      rw [cell_out hj] at q
      exact q
theorem scP : FnScope ["_law_cell_here", "_law_folded"] ["_law_cell_here"] (defScope sPool) := ⟨rfl, rfl, rfl, by decide +kernel, rfl, by decide +kernel, by decide +kernel⟩
theorem ok_pool {f : Addr} {fd : FuncData} (F : FnP K "_law_pool" sPool f fd) (mI : mg "int" = none) :
    FnOk P w K mg base CX0 1 f fd ["_law_cell_here"] spPool := by
  refine F.ok (CX := CX0) scP (fun vs H Q E h => ?_) (fun cdv A outer s H vs Q E hr h => ?_)
  · obtain ⟨c, rfl, _⟩ := h
    rfl
  · refine ⟨_, pss_cons (ps_set (i := 1) scP.nd rfl (by first | exact Or.inl rfl | exact Or.inr rfl) (pe_op op_mul pe_int (pv 0)))
      (pss_cut (ps_if (pt_cmpR op_lt (pv 0) pe_int (nomark _)) (pss_one (ps_set (i := 1) scP.nd rfl (by first | exact Or.inl rfl | exact Or.inr rfl) (pe_op op_sub (pe_op op_sub pe_int (pe_op op_mul pe_int (pv 0))) pe_int))) pss_nil)
      (pss_cons (ps_if (pt_cmpR op_ge (pv 1) (pe_op op_pow pe_int pe_int) (nomark _)) (pss_one (ps_ret (pe_lst (pa_cons (pv 1) (pa_cons (pe_op op_mod (pe_callTy call_int1 (by rfl) mI (by decide +kernel) (pa_cons (pv 1) pa_nil)) pe_int) (pa_cons pe_int pa_nil)))))) pss_nil)
      (pss_one (ps_ret (pe_lst (pa_cons pe_int (pa_cons (pe_op op_mod (pe_callTy call_int1 (by rfl) mI (by decide +kernel) (pa_cons (pv 1) pa_nil)) pe_int) (pa_cons pe_int pa_nil)))))))), ?_⟩
    obtain ⟨c, rfl, q⟩ := h
    refine s_asg (v := .int (2 * c)) (ev_op ev_c (ev_var rfl) (rv_I (.inl ⟨by decide, by decide⟩))) fun H1 e1 => ?_
    refine ⟨fun st H2 => Ex H H2 ∧ ∃ g : Int, st = [some (.int c), some (.int g)], ?_, ?_⟩
    · refine s_if (b := decide (c < 0)) (et_test (ev_op (ev_var rfl) ev_c rv_I0)) (fun _ H2 e2 => ?_) (fun _ H2 e2 => ?_)
      · refine s_asg (v := .int (0 - 2 * c - 1)) (ev_op (ev_op ev_c (ev_op ev_c (ev_var rfl) (rv_I (.inl ⟨by decide, by decide⟩))) rv_I0) ev_c rv_I0) fun H3 e3 => ?_
        exact ⟨e1.trans (e2.trans e3), _, rfl⟩
      · exact ⟨e1.trans e2, _, rfl⟩
    rintro _ H2 ⟨e2, g, rfl⟩
    have fin : ∀ (a : Int) (H3 : Hp), Ex H H3 → ∀ p, H3 p = none → Q (.ref p) (upd H3 p (.lst [.int a, .int (g % 1000000007), .int 0])) := fun a H3 e3 p np =>
      q p _ (fresh_back e3 np) (e3.trans (Ex.new np)) ⟨a, _, 0, upd_same, Int.emod_nonneg _ (by decide), Int.emod_lt_of_pos _ (by decide), Int.le_refl 0, Int.le_refl 0⟩
    have ei : Ev (tOp (rI (fun _ j => 0 < j) fun i j => .int (i % j)) (tCB (fun xs H Q => (∃ i, xs = [.int i] ∧ Q (.int i) H) ∨ ∃ k, xs = [.bl k] ∧ Q (.int (if k then 1 else 0)) H) (tCons (tVar 1) tNil)) (tC (.int 1000000007)))
        [some (.int c), some (.int g)] H2 (.int (g % 1000000007)) :=
      ev_op (ev_cb (ea_cons (ev_var rfl) ea_nil) (fun H1 _ Q q => .inl ⟨_, rfl, q H1 (Ex.refl H1)⟩)) ev_c (rv_I (by show (0 : Int) < 1000000007; decide))
    refine s_seq ?_
    refine s_if (b := decide ((10 : Int) ^ (18 : Int).toNat ≤ g)) (et_test (ev_op (ev_var rfl) (ev_op ev_c ev_c (rv_I ⟨by decide, by decide, by decide⟩)) rv_I0)) (fun _ H3 e3 => ?_) (fun _ H3 e3 => ?_)
    · exact ⟨_, rfl, ei.mono e3 H3 (Ex.refl H3) _ fun H4 e4 => ⟨by show 3 ≤ sizeLine; decide, fun p np => fin g H4 (e2.trans (e3.trans e4)) p np⟩⟩
    · exact ei.mono e3 H3 (Ex.refl H3) _ fun H4 e4 => ⟨by show 3 ≤ sizeLine; decide, fun p np => fin 0 H4 (e2.trans (e3.trans e4)) p np⟩
theorem scT : FnScope ["_law_pool_here", "_law_many", "_law_draw", "_law_mixed"] ["_law_pool_here", "_law_many"] (defScope sTake) := ⟨rfl, rfl, rfl, by decide +kernel, rfl, by decide +kernel, by decide +kernel⟩
theorem ok_take {f : Addr} {fd : FuncData} (F : FnP K "_law_take" sTake f fd) (mI : mg "int" = none) :
    FnOk P w K mg base CX0 1 f fd ["_law_pool_here", "_law_many"] spTake := by
  refine F.ok (CX := CX0) scT (fun vs H Q E h => ?_) (fun cdv A outer s H vs Q E hr h => ?_)
  · obtain ⟨p, m, Hk, n, rfl, _⟩ := h
    rfl
  · refine ⟨_, pss_cons (ps_if (pt_cmpR op_gt (pe_ix ix_list (pv 0) pe_int fun _ _ => rfl) pe_int (nomark _))
        (pss_cons (ps_set (i := 2) scT.nd rfl (by first | exact Or.inl rfl | exact Or.inr rfl) (pe_op op_mod (pe_callTy call_int1 (by rfl) mI (by decide +kernel) (pa_cons (pe_ix ix_list (pv 0) pe_int fun _ _ => rfl) pa_nil)) (pv 1)))
        (pss_cons (ps_asg (pe_op op_fdivN (pe_ix ix_list (pv 0) pe_int fun _ _ => rfl) (pv 1)) (pg_sub (pv 0) pe_int set_list))
        (pss_one (ps_ret (pv 2))))) pss_nil)
      (pss_cons (ps_asg (pe_op op_add (pe_ix ix_list (pv 0) pe_int fun _ _ => rfl) pe_int) (pg_sub (pv 0) pe_int set_list))
      (pss_cons (ps_set (i := 3) scT.nd rfl (by first | exact Or.inl rfl | exact Or.inr rfl) (pe_op op_mod (pe_callTy call_int1 (by rfl) mI (by decide +kernel) (pa_cons (pe_op op_pow (pe_op op_add (pe_op op_add (pe_ix ix_list (pv 0) pe_int fun _ _ => rfl) (pe_op op_mul pe_int (pe_ix ix_list (pv 0) pe_int fun _ _ => rfl))) pe_int) pe_int) pa_nil)) pe_int))
      (pss_one (ps_ret (pe_op op_mod (pe_op op_mod (pe_callTy call_int1 (by rfl) mI (by decide +kernel) (pa_cons (pe_op op_mul (pe_op op_add (pv 3) (pe_ix ix_list (pv 0) pe_int fun _ _ => rfl)) pe_int) pa_nil)) pe_int) (pv 1)))))), ?_⟩
    obtain ⟨p, m, Hk, n, rfl, hm, hm2, hp, hn, q⟩ := h
    obtain ⟨a, b, c, ha, hb0, hb1, hc0, hc1⟩ := hp.at_
    have it : ∀ (j : Nat) (x : Int) (us : List V) (H1 : Hp), H1 p = some (.lst us) → us[j]? = some (.int x) → ∀ {t2 t3 : Option V}, Ev (tOp (rIxL K) (tVar 0) (tC (.int (j : Int)))) [some (.ref p), some (.int m), t2, t3] H1 (.int x) := fun j x us H1 h1 h2 t2 t3 =>
      ev_op (ev_var rfl) ev_c (rv_ixL (sq_of h1) (at_of rfl h2))
    have ti : ∀ {te : TE} {st : L2.St} {H1 : Hp} {i : Int}, Ev te st H1 (.int i) → Ev (tCB (fun xs H Q => (∃ i, xs = [.int i] ∧ Q (.int i) H) ∨ ∃ k, xs = [.bl k] ∧ Q (.int (if k then 1 else 0)) H) (tCons te tNil)) st H1 (.int i) :=
      fun h => ev_cb (ea_cons h ea_nil) (fun H1 _ Q q => .inl ⟨_, rfl, q H1 (Ex.refl H1)⟩)
    refine s_seq ?_
    refine s_if (b := decide (0 < a)) (et_test (ev_op (it 0 a _ H ha rfl) ev_c rv_I0)) (fun _ H1 e1 => ?_) (fun _ H1 e1 => ?_)
    · have h1 := e1 _ _ ha
      refine s_seq ?_
      refine s_asg (v := .int (a % m)) (ev_op (ti (it 0 a _ H1 h1 rfl)) (ev_var rfl) (rv_I (show 0 < m by omega))) fun H2 e2 => ?_
      dsimp only
      refine s_seq ?_
      refine s_setL (j := 0) (v := .int (a.fdiv m)) (e2 _ _ h1) (ev_op (it 0 a _ H2 (e2 _ _ h1) rfl) (ev_var rfl) (rv_I ⟨show m ≠ 0 by omega, show m.natAbs < 1073741824 by omega⟩)) (ev_var rfl) ev_c (by show 0 < 3; omega) fun H3 e3 => ?_
      dsimp only
      refine s_ret (v := .int (a % m)) (ev_var rfl) fun H4 e4 => ?_
      refine q _ _ (Int.emod_nonneg _ (by omega)) (Int.emod_lt_of_pos _ (by omega)) ?_
      refine ⟨hp.no, (Ex.mut (hp.ex.trans (e1.trans (e2.trans e3))) hp.no).trans e4, a.fdiv m, b, c, e4 _ _ upd_same, hb0, hb1, hc0, by omega⟩
    · have h1 := e1 _ _ ha
      dsimp only
      refine s_seq ?_
      refine s_setL (j := 2) (v := .int (c + 1)) h1 (ev_op (it 2 c _ H1 h1 rfl) ev_c rv_I0) (ev_var rfl) ev_c (by show 2 < 3; omega) fun H2 e2 => ?_
      have h2 : (upd H2 p (.lst [.int a, .int b, .int (c + 1)])) p = some (.lst [.int a, .int b, .int (c + 1)]) := upd_same
      have x2 : Ex Hk (upd H2 p (.lst [.int a, .int b, .int (c + 1)])) := Ex.mut (hp.ex.trans (e1.trans e2)) hp.no
      show tSeq _ _ _ _ (upd H2 p (.lst [.int a, .int b, .int (c + 1)]))
      generalize upd H2 p (.lst [.int a, .int b, .int (c + 1)]) = H3 at h2 x2
      refine s_seq ?_
      refine s_asg (v := .int ((b + 7919 * (c + 1) + 104729) ^ (5 : Int).toNat % 2147483647)) (ev_op (ti (ev_op (ev_op (ev_op (it 1 b _ H3 h2 rfl) (ev_op ev_c (it 2 (c + 1) _ H3 h2 rfl) (rv_I (.inl ⟨by decide, by decide⟩))) rv_I0) ev_c rv_I0) ev_c (rv_I ⟨by decide, by decide, by show (b + 7919 * (c + 1) + 104729).natAbs < 2 ^ 64; omega⟩))) ev_c (rv_I (by show (0 : Int) < 2147483647; decide))) fun H4 e4 => ?_
      dsimp only
      have hz0 : 0 ≤ (b + 7919 * (c + 1) + 104729) ^ (5 : Int).toNat % 2147483647 := Int.emod_nonneg _ (by decide)
      have hz1 : (b + 7919 * (c + 1) + 104729) ^ (5 : Int).toNat % 2147483647 < 2147483647 := Int.emod_lt_of_pos _ (by decide)
      generalize (b + 7919 * (c + 1) + 104729) ^ (5 : Int).toNat % 2147483647 = z at hz0 hz1
      have h4 := e4 _ _ h2
      refine s_ret (v := .int ((z + (c + 1)) * 40692 % 2147483629 % m)) (ev_op (ev_op (ti (ev_op (ev_op (ev_var rfl) (it 2 (c + 1) _ H4 h4 rfl) rv_I0) ev_c (rv_I (.inr ⟨by decide, by decide⟩)))) ev_c (rv_I (by show (0 : Int) < 2147483629; decide))) (ev_var rfl) (rv_I (show 0 < m by omega))) fun H5 e5 => ?_
      refine q _ _ (Int.emod_nonneg _ (by omega)) (Int.emod_lt_of_pos _ (by omega)) ?_
      exact ⟨hp.no, x2.trans (e4.trans e5), a, b, c + 1, e5 _ _ h4, hb0, hb1, by omega, by omega⟩
end
end K14

set_option Elab.async false
set_option linter.all false
set_option maxRecDepth 100000
set_option maxHeartbeats 4000000
namespace K14
open PySem PySem.Spec PyProof.Rows L2 Vl Evl Vp
abbrev sNames : Stmt := top 63
abbrev nN : List Str := ["_law_pool_here", "_law_many", "_law_letters", "_law_signs", "_law_word", "_law_k", "_law_kind", "_law_start", "_law_stem", "_law_place", "_law_told", "_law_names_here", "_law_sign"]
section
variable {P : Program} {w : World} {K : PySem.W.Frag} {mg : Str → Option Value} {base : Heap}
theorem scN : FnScope nN ["_law_pool_here", "_law_many"] (defScope sNames) := ⟨rfl, rfl, rfl, by decide +kernel, rfl, by decide +kernel, by decide +kernel⟩
theorem ok_names {f fT : Addr} {fd fdT : FuncData} (F : FnP K "_law_names" sNames f fd) (FT : FnP K "_law_take" sTake fT fdT) (gT : mg "_law_take" = some (.ref fT)) (mI : mg "int" = none) (mL : mg "len" = none) (mR : mg "range" = none) :
    FnOk P w K mg base CX0 2 f fd ["_law_pool_here", "_law_many"] spNames := by
  have GT : FnOk P w K mg base CX0 1 fT fdT ["_law_pool_here", "_law_many"] spTake := ok_take FT mI
  have bT : Binds K fdT ["_law_pool_here", "_law_many"] [] := FT.bindsN fun _ _ _ _ _ _ us hl => match us, hl with | [_, _], _ => rfl
  have kT := FT.kp
  refine F.ok (CX := CX0) scN (fun vs H Q E h => ?_) (fun cdv A outer s H vs Q E hr h => ?_)
  · obtain ⟨p, m, Hk, n, rfl, _⟩ := h
    rfl
  · have hr1 : Room 1 _ := hr
    refine ⟨_, (pss_cons (ps_set (i := 2) scN.nd rfl (by first | exact Or.inl rfl | exact Or.inr rfl) pe_str)
      (pss_cons (ps_set (i := 3) scN.nd rfl (by first | exact Or.inl rfl | exact Or.inr rfl) (pe_op op_add_str (pv 2) pe_str))
      (pss_cons (ps_set (i := 4) scN.nd rfl (by first | exact Or.inl rfl | exact Or.inr rfl) (pe_ix ix_str (pv 2) (pe_call GT hr1 (by rfl) gT kT bT .nil pass0 (pa_cons (pv 0) (pa_cons pe_int pa_nil))) fun _ _ => rfl))
      (pss_cons (ps_for (passes_of rfl) rfl (pi_range1 (by rfl) mR (pa_cons pe_int pa_nil)) (pg_name (i := 5) scN.nd rfl (by first | exact Or.inl rfl | exact Or.inr rfl)) (pss_one (ps_set (i := 4) scN.nd rfl (by first | exact Or.inl rfl | exact Or.inr rfl) (pe_op op_add_str (pv 4) (pe_ix ix_str (pv 3) (pe_call GT hr1 (by rfl) gT kT bT .nil pass0 (pa_cons (pv 0) (pa_cons pe_int pa_nil))) fun _ _ => rfl)))))
      (pss_cons (ps_set (i := 6) scN.nd rfl (by first | exact Or.inl rfl | exact Or.inr rfl) (pe_call GT hr1 (by rfl) gT kT bT .nil pass0 (pa_cons (pv 0) (pa_cons pe_int pa_nil))))
      (pss_cons (ps_set (i := 7) scN.nd rfl (by first | exact Or.inl rfl | exact Or.inr rfl) (pe_call GT hr1 (by rfl) gT kT bT .nil pass0 (pa_cons (pv 0) (pa_cons pe_int pa_nil))))
      (pss_cons (ps_if (pt_cmpR op_eq (pv 6) pe_int (nomark _)) (pss_one (ps_ret (pe_lc (own := [("_law_k", 5)]) (g := gName 5) (tt := tYes) (te := (tSl rSlS (tVar 4) tNoPart (tPart (tOp (rI0 fun i j => .int (i + j)) (tVar 5) (tC (.int 1)))))) rfl scN.nd (pi_range1 (by rfl) mR (pa_cons (pv 1) pa_nil)) (blkOk_by (own := [("_law_k", 5)]) (N := nN) (sc := defScope sNames) (by decide +kernel)) (fun _ _ _ _ _ => (pg_name (i := 5) scN.nd rfl (by first | exact Or.inl rfl | exact Or.inr rfl))) (fun _ _ _ _ _ => pts_nil) (fun _ _ _ _ _ => (pe_slice sl_str (pv 4) po_none (po_some (pe_op op_add (pv 5) pe_int))))))) pss_nil)
      (pss_cons (ps_if (pt_cmpR op_eq (pv 6) pe_int (nomark _)) (pss_one (ps_ret (pe_lc (own := [("_law_k", 5)]) (g := gName 5) (tt := tYes) (te := (tOp rCatS (tOp rIxS (tVar 2) (tOp (rI (fun _ j => 0 < j) fun i j => .int (i % j)) (tOp (rI0 fun i j => .int (i + j)) (tVar 7) (tOp (rI CMul fun i j => .int (i * j)) (tC (.int 3)) (tVar 5))) (tC (.int 26)))) (tSl rSlS (tVar 4) tNoPart (tPart (tCall spTake [] E0 (tCons (tVar 0) (tCons (tC (.int 8)) tNil))))))) rfl scN.nd (pi_range1 (by rfl) mR (pa_cons (pv 1) pa_nil)) (blkOk_by (own := [("_law_k", 5)]) (N := nN) (sc := defScope sNames) (by decide +kernel)) (fun _ _ _ _ _ => (pg_name (i := 5) scN.nd rfl (by first | exact Or.inl rfl | exact Or.inr rfl))) (fun _ _ _ _ _ => pts_nil) (fun _ _ _ _ _ => (pe_op op_add_str (pe_ix ix_str (pv 2) (pe_op op_mod (pe_op op_add (pv 7) (pe_op op_mul pe_int (pv 5))) pe_int) fun _ _ => rfl) (pe_slice sl_str (pv 4) po_none (po_some (pe_call GT hr1 (by rfl) gT kT bT .nil pass0 (pa_cons (pv 0) (pa_cons pe_int pa_nil)))))))))) pss_nil)
      (pss_cons (ps_set (i := 8) scN.nd rfl (by first | exact Or.inl rfl | exact Or.inr rfl) (pe_slice sl_str (pv 4) po_none (po_some (pe_call GT hr1 (by rfl) gT kT bT .nil pass0 (pa_cons (pv 0) (pa_cons pe_int pa_nil))))))
      (pss_cons (ps_set (i := 9) scN.nd rfl (by first | exact Or.inl rfl | exact Or.inr rfl) (pe_call GT hr1 (by rfl) gT kT bT .nil pass0 (pa_cons (pv 0) (pa_cons (pe_op op_add (pe_callB call_len_str (by rfl) mL boot_len (pa_cons (pv 8) pa_nil)) pe_int) pa_nil))))
      (pss_cons (ps_set (i := 10) scN.nd rfl (by first | exact Or.inl rfl | exact Or.inr rfl) (pe_ifExp (pt_cmpR op_eq (pv 9) pe_int (nomark _)) (pv 2) (pv 3)))
      (pss_cons (ps_set (i := 11) scN.nd rfl (by first | exact Or.inl rfl | exact Or.inr rfl) (pe_lst pa_nil))
      (pss_cons (ps_for (passes_of rfl) rfl (pi_range1 (by rfl) mR (pa_cons (pv 1) pa_nil)) (pg_name (i := 5) scN.nd rfl (by first | exact Or.inl rfl | exact Or.inr rfl)) (pss_cons (ps_set (i := 12) scN.nd rfl (by first | exact Or.inl rfl | exact Or.inr rfl) (pe_ix ix_str (pv 10) (pe_op op_mod (pe_op op_add (pv 7) (pe_op op_mul pe_int (pv 5))) (pe_callB call_len_str (by rfl) mL boot_len (pa_cons (pv 10) pa_nil))) fun _ _ => rfl)) (pss_one (ps_expr (pe_bm PySem.F.plainAttrs_list PySem.F.slot_list_append PySem.F.type_list_append mt_append (pv 11) (pa_cons (pe_op op_add_str (pe_op op_add_str (pe_slice sl_str (pv 8) po_none (po_some (pv 9))) (pv 12)) (pe_slice sl_str (pv 8) (po_some (pv 9)) po_none)) pa_nil))))))
      (pss_one (ps_ret (pv 11)))))))))))))))), ?_⟩
    obtain ⟨p, m, Hk, n, rfl, hm, hp0, hn, q⟩ := h
    have hp := hp0.re
    have wk : (Wo H p) p = none := wo_self _ _
    -- letters, signs
    refine s_asg (v := .str (tx letters)) (ev_is ev_c (by rw [str_letters])) fun H1 e1 => ?_
    refine s_asg (v := .str (tx signs)) (ev_is (ev_op (y := .str (tx digits)) (ev_var rfl) (ev_is ev_c (by rw [str_digits])) (rv_cats (by decide))) rfl) fun H2 e2 => ?_
    have hp2 := hp.grow (e1.trans e2)
    -- word
    refine ⟨_, rfl, _, rfl, p, 26, Wo H p, n, rfl, by omega, by omega, hp2, by omega, ?_⟩
    intro r H3 r0 r1 hp3
    obtain ⟨j, rfl⟩ := Int.eq_ofNat_of_zero_le r0
    have hj : j < letters.length := by show j < 26; omega
    refine ⟨tx letters, _, _, rfl, rfl, (by show 26 ≤ sizeLine; decide), text_at (zs := letters) hj, ?_⟩
    dsimp only
    refine s_seq ?_
    refine s_forR1 (n := 7) (ea_cons ev_c ea_nil) (by omega) (fun i st H' => ∃ l t5, st = [some (.ref p), some (.int (m : Int)), some (.str (tx letters)), some (.str (tx signs)), some (.str (tx l)), t5, none, none, none, none, none, none, none] ∧ nam l ∧ l.length = i + 1 ∧ Pl (Wo H p) p (n + 1 + i) H') ?_ ?_ ?_
    · exact fun H4 e4 => ⟨[letters.getD j 0], none, rfl, nam_one (getD_mem hj), rfl, hp3.grow e4⟩
    · rintro i _ H4 hi ⟨l, t5, rfl, hl, hlen, hpl⟩
      refine ⟨_, rfl, _, rfl, _, rfl, p, 36, Wo H p, _, rfl, by omega, by omega, hpl, by omega, ?_⟩
      intro r H5 r0 r1 hp5
      obtain ⟨k, rfl⟩ := Int.eq_ofNat_of_zero_le r0
      have hk : k < signs.length := by show k < 36; omega
      refine ⟨tx signs, _, _, rfl, rfl, (by show 36 ≤ sizeLine; decide), text_at (zs := signs) hk, ?_⟩
      refine ⟨tx l, tx [signs.getD k 0], rfl, rfl, sz_of (by rw [tx_len, tx_len, List.length_singleton]; omega), ?_⟩
      refine ⟨l ++ [signs.getD k 0], some (.int (i : Int)), ?_, nam_snoc hl (getD_mem hk) (by omega), by rw [List.length_append, List.length_singleton, hlen], by rw [show n + 1 + (i + 1) = n + 1 + i + 1 by omega]; exact hp5⟩
      rw [tx_app]
      rfl
    rintro _ H4 ⟨l, t5, rfl, hl, hlen, hp4⟩
    have hlen8 : l.length = 8 := hlen
    -- kind, start
    refine ⟨_, rfl, p, 4, Wo H p, _, rfl, by omega, by omega, hp4, by show n + 1 + 7 ≤ 100000; omega, ?_⟩
    intro kd H5 kd0 kd1 hp5
    refine ⟨_, rfl, p, 36, Wo H p, _, rfl, by omega, by omega, hp5, by show n + 1 + 7 + 1 ≤ 100000; omega, ?_⟩
    intro sr H6 sr0 sr1 hp6
    obtain ⟨s0, rfl⟩ := Int.eq_ofNat_of_zero_le sr0
    dsimp only
    refine s_seq ?_
    refine s_if (b := decide (V.int kd = V.int 0)) (et_test (ev_op (ev_var rfl) ev_c (rv_eq rfl))) (fun _ H7 e7 => ?_) (fun _ H7 e7 => ?_)
    · -- kind 0
      have hp7 := hp6.grow e7
      refine s_retL (xs := vtx ((List.range m).map fun k => l.take (k + 1))) ?_ fun d H8 nd e8 h8 => ?_
      · have key := el_lcR1 (σ := [some (.ref p), some (.int (m : Int)), some (.str (tx letters)), some (.str (tx signs)), some (.str (tx l)), t5, some (.int kd), some (.int (s0 : Int)), none, none, none, none, none]) (H := H7) (t := tYes)
          (te := (tSl rSlS (tVar 4) tNoPart (tPart (tOp (rI0 fun i j => .int (i + j)) (tVar 5) (tC (.int 1)))))) (ta := tCons (tVar 1) tNil) (j := 5) (vs := [5]) (n := (m : Int)) (fun _ => true) (fun k => .str (tx (l.take (k + 1)))) (ea_cons (ev_var rfl) ea_nil) (by omega) (fun _ => rfl)
          (fun j H2 e hj H3 e3 Q q => q H3 (Ex.refl H3)) (fun j H2 e hj _ => ?_)
        · rw [show ((m : Int)).toNat = m from rfl] at key
          have e0 : given m (fun _ => true) (fun k => V.str (tx (l.take (k + 1)))) = vtx ((List.range m).map fun k => l.take (k + 1)) := by
            unfold given vtx
            rw [List.filter_eq_self.mpr (fun _ _ => rfl), List.map_map]
            rfl
          rw [e0] at key
          exact key
        · intro H3 e3 Q q
          refine ⟨_, rfl, _, rfl, _, _, rfl, rfl, _, rfl, tx l, rfl, sz_of (by rw [tx_len]; omega), ?_⟩
          rw [show ((j : Int) + 1) = ((j + 1 : Nat) : Int) by omega, tx_cut0]
          exact q H3 (Ex.refl H3)
      · refine q d _ H8 (fresh_wo hp0 hp7 nd) (hp0.back ((hp7.grow e8).cnt (by omega))) h8 (by rw [List.length_map, List.length_range]) ⟨fun y hy => ?_, nodup_range fun i j hi hj e => ?_⟩
        · obtain ⟨k, _, rfl⟩ := List.mem_map.mp hy
          exact nam_take hl k
        · have := congrArg List.length e
          rw [List.length_take, List.length_take] at this
          omega
    dsimp only
    refine s_seq ?_
    refine s_if (b := decide (V.int kd = V.int 1)) (et_test (ev_op (ev_var rfl) ev_c (rv_eq rfl))) (fun _ H8 e8 => ?_) (fun _ H8 e8 => ?_)
    · -- kind 1
      have hp8 := hp6.grow (e7.trans e8)
      refine ⟨_, rfl, (m : Int), rfl, by omega, by omega, fun Dl hD => lc_range (lo := 0) (n := m) (fun i H' => ∃ ys, H' Dl = some (.lst (vtx ys)) ∧ ys.length = i ∧ (∀ (j : Nat) (y : List Nat), ys[j]? = some y → nam y ∧ y.head? = some (letters.getD ((s0 + 3 * j) % 26) 0)) ∧ Pl (Wo H p) p (n + 10 + i) H')
        ⟨[], upd_same, rfl, (fun j y h => by simp at h), (hp8.new hD).cnt (by show n + 1 + 7 + 1 + 1 ≤ n + 10 + 0; omega)⟩ ?_ ?_⟩
      · rintro i H9 hi ⟨ys, h1, h2, h3, h4⟩
        refine ⟨rfl, ?_⟩
        unfold tYes
        dsimp only
        rw [if_pos rfl]
        have em : Ev (tOp (rI (fun _ j => 0 < j) fun i j => .int (i % j)) (tOp (rI0 fun i j => .int (i + j)) (tVar 7) (tOp (rI CMul fun i j => .int (i * j)) (tC (.int 3)) (tVar 5))) (tC (.int 26))) [some (.ref p), some (.int (m : Int)), some (.str (tx letters)), some (.str (tx signs)), some (.str (tx l)), some (.int (0 + (i : Int))), some (.int kd), some (.int (s0 : Int)), none, none, none, none, none] H9 (.int (((s0 + 3 * i) % 26 : Nat) : Int)) :=
          ev_is (ev_op (ev_op (ev_var rfl) (ev_op ev_c (ev_var rfl) (rv_I (.inl ⟨by decide, by decide⟩))) rv_I0) ev_c (rv_I (by show (0 : Int) < 26; decide))) (congrArg V.int (show ((s0 : Int) + 3 * (0 + (i : Int))) % 26 = (((s0 + 3 * i) % 26 : Nat) : Int) by omega))
        have hx : (s0 + 3 * i) % 26 < letters.length := Nat.mod_lt _ (by decide)
        refine ⟨_, rfl, em H9 (Ex.refl H9) _ fun H10 e10 => ?_⟩
        refine ⟨tx letters, _, _, rfl, rfl, (by show 26 ≤ sizeLine; decide), text_at (zs := letters) hx, ?_⟩
        have h10 := h4.grow e10
        have hDp : Dl ≠ p := hp8.ne hD
        refine ⟨_, rfl, _, rfl, p, 8, Wo H10 p, _, rfl, by omega, by omega, h10.re, by omega, ?_⟩
        intro r H11 r0 r1 hp11
        obtain ⟨t, rfl⟩ := Int.eq_ofNat_of_zero_le r0
        refine ⟨_, rfl, tx l, rfl, sz_of (by rw [tx_len]; omega), ?_⟩
        rw [tx_cut0]
        refine ⟨tx [letters.getD ((s0 + 3 * i) % 26) 0], tx (l.take t), rfl, rfl, sz_of (by rw [tx_len, tx_len, List.length_singleton, List.length_take]; omega), ?_⟩
        rw [tx_app]
        have hDl : H11 Dl = some (.lst (vtx ys)) := hp11.ex _ _ (wo_at (e10 _ _ h1) hDp)
        refine ⟨vtx ys, hDl, sz_lt (by rw [vtx_len]; omega), ys ++ [letters.getD ((s0 + 3 * i) % 26) 0 :: l.take t], ?_, by rw [List.length_append, List.length_singleton, h2], ?_, ?_⟩
        · rw [upd_same, vtx_app]
          rfl
        · intro j y hy
          by_cases hj : j < ys.length
          · rw [List.getElem?_append_left hj] at hy
            exact h3 j y hy
          · have hj2 := (List.getElem?_eq_some_iff.mp hy).1
            rw [List.length_append, List.length_singleton] at hj2
            obtain rfl : j = ys.length := by omega
            rw [List.getElem?_append_right (Nat.le_refl _), Nat.sub_self] at hy
            obtain rfl := Option.some.inj hy
            rw [h2]
            exact ⟨nam_cons (getD_mem hx) (fun x hx => nam_signs hl x (List.mem_of_mem_take hx)) (by rw [List.length_take]; omega), rfl⟩
        · have hb : Pl (Wo H p) p (n + 10 + (i + 1)) H11 := (hp11.sub h10.wo h10.no).cnt (by omega)
          refine ⟨hb.no, Ex.mut hb.ex ?_, ?_⟩
          · cases e : (Wo H p) Dl with
            | none => rfl
            | some o =>
              have := hp8.ex _ _ e
              rw [hD] at this
              cases this
          · obtain ⟨a, b, c, k1, k2⟩ := hb.at_
            exact ⟨a, b, c, by rw [upd_ne hDp.symm]; exact k1, k2⟩
      · rintro H9 ⟨ys, h1, h2, h3, h4⟩
        refine q Dl ys H9 (fresh_wo hp0 hp8 hD) (hp0.back (h4.cnt (by omega))) h1 h2 ⟨fun y hy => ?_, nodup_key fun i j y hi hj => ?_⟩
        · obtain ⟨j, hj⟩ := List.getElem?_of_mem hy
          exact (h3 j y hj).1
        · have a1 := (h3 i y hi).2
          have a2 := (h3 j y hj).2
          have li := (List.getElem?_eq_some_iff.mp hi).1
          have lj := (List.getElem?_eq_some_iff.mp hj).1
          rw [a1] at a2
          exact mod3 (by omega) (by omega) (getD_inj nodup_letters (Nat.mod_lt _ (by decide)) (Nat.mod_lt _ (by decide)) (Option.some.inj a2))
    -- kind 2, 3
    have hp8 := hp6.grow (e7.trans e8)
    refine ⟨_, rfl, _, rfl, p, 8, Wo H p, _, rfl, by omega, by omega, hp8, by show n + 1 + 7 + 1 + 1 ≤ 100000; omega, ?_⟩
    intro r H9 r0 r1 hp9
    obtain ⟨t, rfl⟩ := Int.eq_ofNat_of_zero_le r0
    refine ⟨_, rfl, tx l, rfl, sz_of (by rw [tx_len]; omega), ?_⟩
    rw [tx_cut0]
    have hst : (l.take t).length ≤ 7 := by rw [List.length_take]; omega
    -- place
    refine ⟨_, rfl, _, rfl, tx (l.take t), rfl, sz_of (by rw [tx_len]; omega), ((l.take t).length : Int), 1, rfl, rfl, ?_⟩
    refine ⟨p, ((l.take t).length : Int) + 1, Wo H p, _, rfl, by omega, by omega, hp9, by show n + 1 + 7 + 1 + 1 + 1 ≤ 100000; omega, ?_⟩
    intro r H10 r0 r1 hp10
    obtain ⟨g, rfl⟩ := Int.eq_ofNat_of_zero_le r0
    have hg : g ≤ (l.take t).length := by omega
    -- told
    obtain ⟨told, htold, hn2, hts, htl, hlen2⟩ : ∃ told : List Nat, told = (if V.int (g : Int) = V.int 0 then letters else Vp.signs) ∧ told.Nodup ∧ (∀ c ∈ told, c ∈ Vp.signs) ∧ (g = 0 → ∀ c ∈ told, c ∈ letters) ∧ (told.length = 26 ∨ told.length = 36) := by
      by_cases h0 : g = 0
      · refine ⟨letters, by rw [if_pos (by rw [h0]; rfl)], nodup_letters, fun c hc => letters_signs hc, fun _ c hc => hc, .inl rfl⟩
      · refine ⟨Vp.signs, by rw [if_neg (fun z => h0 (by have := V.int.inj z; omega))], nodup_signs, fun c hc => hc, fun z => absurd z h0, .inr rfl⟩
    refine s_asg (v := .str (tx told)) (ev_if (b := decide (V.int (g : Int) = V.int 0)) (et_test (ev_op (ev_var rfl) ev_c (rv_eq rfl))) (fun h => ev_is (ev_var rfl) (by rw [htold, if_pos (of_decide_eq_true h)])) (fun h => ev_is (ev_var rfl) (by rw [htold, if_neg (of_decide_eq_false h)]))) fun H11 e11 => ?_
    -- names = []
    refine ⟨by show 0 ≤ sizeLine; omega, fun d nd => ?_⟩
    have hp11 := hp10.grow e11
    have hdp : d ≠ p := hp11.ne nd
    have wd : (Wo H p) d = none := by
      cases e : (Wo H p) d with
      | none => rfl
      | some o =>
        have := hp11.ex _ _ e
        rw [nd] at this
        cases this
    let f : Nat → List Nat := fun k => (l.take t).take g ++ [told.getD ((s0 + 7 * k) % told.length) 0] ++ (l.take t).drop g
    have hmod : ∀ k, (s0 + 7 * k) % told.length < told.length := fun k => Nat.mod_lt _ (by omega)
    dsimp only
    refine s_seq ?_
    refine s_forR1 (n := (m : Int)) (ea_cons (ev_var rfl) ea_nil) (by omega) (fun i st H' => ∃ t5 t12, st = [some (.ref p), some (.int (m : Int)), some (.str (tx letters)), some (.str (tx signs)), some (.str (tx l)), t5, some (.int kd), some (.int (s0 : Int)), some (.str (tx (l.take t))), some (.int (g : Int)), some (.str (tx told)), some (.ref d), t12] ∧ H' d = some (.lst (vtx ((List.range i).map f))) ∧ Pl (Wo H p) p (n + 20) H') ?_ ?_ ?_
    · exact fun H12 e12 => ⟨t5, none, rfl, e12 _ _ upd_same, ((hp11.new nd).grow e12).cnt (by omega)⟩
    · rintro i _ H12 hi ⟨t5', t12, rfl, hd12, hp12⟩
      refine s_seq ?_
      refine s_asg (v := .str (tx [told.getD ((s0 + 7 * i) % told.length) 0])) (ev_op (ev_var rfl) (y := .int (((s0 + 7 * i) % told.length : Nat) : Int)) (ev_is (ev_op (ev_op (ev_var rfl) (ev_op ev_c (ev_var rfl) (rv_I (.inl ⟨by decide, by decide⟩))) rv_I0) (ev_cb (z := .int (told.length : Int)) (ea_cons (ev_var rfl) ea_nil) (fun H1 _ Q q => ⟨tx told, rfl, sz_of (by rw [tx_len]; omega), q H1 (Ex.refl H1)⟩)) (rv_I (show (0 : Int) < (told.length : Int) by omega))) ?_) ?_) fun H13 e13 => ?_
      · refine congrArg V.int ?_
        rw [Int.natCast_emod, Int.natCast_add, Int.natCast_mul]
        rfl
      · intro H1 _ Q q
        exact ⟨tx told, _, _, rfl, rfl, sz_of (by rw [tx_len]; omega), text_at (zs := told) (hmod i), q H1 (Ex.refl H1)⟩
      dsimp only
      refine s_app (xs := vtx ((List.range i).map f)) (v := .str (tx (f i))) (e13 _ _ hd12) (ev_var rfl) ?_ (by rw [vtx_len, List.length_map, List.length_range]; omega) fun H14 e14 => ?_
      · intro H1 _ Q q
        have c0 := tx_cut0 (l.take t) g
        have c1 := tx_cut1 (l.take t) g
        refine ⟨_, rfl, _, rfl, _, rfl, tx (l.take t), rfl, sz_of (by rw [tx_len]; omega), ?_⟩
        rw [c0]
        refine ⟨_, rfl, tx ((l.take t).take g), tx [told.getD ((s0 + 7 * i) % told.length) 0], rfl, rfl, sz_of (by rw [tx_len, tx_len, List.length_take, List.length_singleton]; omega), ?_⟩
        rw [tx_app]
        refine ⟨_, rfl, _, rfl, _, rfl, tx (l.take t), rfl, sz_of (by rw [tx_len]; omega), ?_⟩
        rw [c1]
        refine ⟨tx ((l.take t).take g ++ [told.getD ((s0 + 7 * i) % told.length) 0]), tx ((l.take t).drop g), rfl, rfl, sz_of (by rw [tx_len, tx_len, List.length_append, List.length_take, List.length_singleton, List.length_drop]; omega), ?_⟩
        rw [tx_app]
        exact q H1 (Ex.refl H1)
      · refine ⟨some (.int (i : Int)), _, rfl, ?_, ?_⟩
        · rw [upd_same, List.range_succ, List.map_append, vtx_app]
          rfl
        · have hb := hp12.grow (e13.trans e14)
          refine ⟨hb.no, Ex.mut hb.ex wd, ?_⟩
          obtain ⟨a, b, c, k1, k2⟩ := hb.at_
          exact ⟨a, b, c, by rw [upd_ne hdp.symm]; exact k1, k2⟩
    rintro _ H12 ⟨t5', t12, rfl, hd12, hp12⟩
    refine ⟨_, rfl, ?_⟩
    refine q d _ H12 (fresh_wo hp0 hp11 nd) (hp0.back (hp12.cnt (by omega))) hd12 (by rw [List.length_map, List.length_range]; rfl) ⟨fun y hy => ?_, nodup_range fun i j hi hj e => ?_⟩
    · obtain ⟨k, _, rfl⟩ := List.mem_map.mp hy
      exact nam_put hl (by omega) hg (fun h0 => htl h0 _ (getD_mem (hmod k))) (hts _ (getD_mem (hmod k)))
    · have a1 := put_at (c := told.getD ((s0 + 7 * i) % told.length) 0) hg
      have a2 := put_at (c := told.getD ((s0 + 7 * j) % told.length) 0) hg
      have e2 : (l.take t).take g ++ [told.getD ((s0 + 7 * i) % told.length) 0] ++ (l.take t).drop g = (l.take t).take g ++ [told.getD ((s0 + 7 * j) % told.length) 0] ++ (l.take t).drop g := e
      rw [e2, a2] at a1
      have hi' : i < m := hi
      have hj' : j < m := hj
      exact mod7 hlen2 (by omega) (by omega) (getD_inj hn2 (hmod i) (hmod j) (Option.some.inj a1).symm)
end
end K14

set_option Elab.async false
set_option linter.all false
set_option maxRecDepth 100000
set_option maxHeartbeats 2000000
/-! Masks: numbers from 0 on as ints, by |, &, ^, <<, and the lowest bit. -/
namespace Vb
open PySem PySem.Spec PyProof.Rows L2 Evl Bits
theorem or_nat (a b : Nat) : Builtin.bitOr (a : Int) (b : Int) = ((a ||| b : Nat) : Int) := by
  rw [bitOr_pp (Int.natCast_nonneg a) (Int.natCast_nonneg b)] <;> rfl
theorem xor_nat (a b : Nat) : Builtin.bitXor (a : Int) (b : Int) = ((a ^^^ b : Nat) : Int) := by
  rw [bitXor_pp (Int.natCast_nonneg a) (Int.natCast_nonneg b)] <;> rfl
theorem and_nat (a b : Nat) : Builtin.bitAnd (a : Int) (b : Int) = ((a &&& b : Nat) : Int) := by
  rw [bitAnd_pp (Int.natCast_nonneg a) (Int.natCast_nonneg b)] <;> rfl
theorem rv_or {H : Hp} {a b : Nat} : RV (rI0 fun i j => .int (Builtin.bitOr i j)) (.int (a : Nat)) (.int (b : Nat)) H (.int ((a ||| b : Nat))) := fun H1 e Q q => ⟨a, b, rfl, rfl, by show Q (.int (Builtin.bitOr (a : Int) (b : Int))) H1; rw [or_nat]; exact q H1 (Ex.refl _)⟩
theorem rv_and {H : Hp} {a b : Nat} : RV (rI0 fun i j => .int (Builtin.bitAnd i j)) (.int (a : Nat)) (.int (b : Nat)) H (.int ((a &&& b : Nat))) := fun H1 e Q q => ⟨a, b, rfl, rfl, by show Q (.int (Builtin.bitAnd (a : Int) (b : Int))) H1; rw [and_nat]; exact q H1 (Ex.refl _)⟩
theorem rv_xor {H : Hp} {a b : Nat} : RV (rI0 fun i j => .int (Builtin.bitXor i j)) (.int (a : Nat)) (.int (b : Nat)) H (.int ((a ^^^ b : Nat))) := fun H1 e Q q => ⟨a, b, rfl, rfl, by show Q (.int (Builtin.bitXor (a : Int) (b : Int))) H1; rw [xor_nat]; exact q H1 (Ex.refl _)⟩
/-- 1 << n -/
theorem rv_shl {H : Hp} {n : Nat} (h : n ≤ 1000000) : RV (rI CPow fun i j => .int (i * 2 ^ j.toNat)) (.int 1) (.int (n : Nat)) H (.int ((2 ^ n : Nat))) := fun H1 e Q q => ⟨1, n, rfl, rfl, ⟨by omega, by omega, by decide⟩, by
  have : (1 : Int) * 2 ^ (n : Int).toNat = ((2 ^ n : Nat) : Int) := by
    rw [Int.one_mul, Int.toNat_natCast, Int.natCast_pow]
    rfl
  show Q (.int ((1 : Int) * 2 ^ (n : Int).toNat)) H1
  rw [this]
  exact q H1 (Ex.refl _)⟩
/-- the lowest bit of m -/
def low : Nat → Nat
  | 0 => 0
  | m + 1 => if (m + 1) % 2 = 1 then 0 else low ((m + 1) / 2) + 1
decreasing_by omega
theorem low_odd {m : Nat} (h : m % 2 = 1) : low m = 0 := by
  cases m with
  | zero => omega
  | succ k => unfold low; rw [if_pos h]
theorem low_even {m : Nat} (h : m % 2 = 0) (hm : 0 < m) : low m = low (m / 2) + 1 := by
  cases m with
  | zero => omega
  | succ k =>
    rw [low, if_neg (by omega)]
theorem and_pred : ∀ (n : Nat) (m : Nat), m ≤ n → 0 < m → m = (m &&& (m - 1)) + 2 ^ low m
  | 0, m, h, h0 => by omega
  | n + 1, m, h, h0 => by
    rcases Nat.mod_two_eq_zero_or_one m with e | e
    · have h2 : 0 < m / 2 := by omega
      have ih := and_pred n (m / 2) (by omega) h2
      rw [low_even e h0]
      have key : m &&& (m - 1) = 2 * (m / 2 &&& (m / 2 - 1)) := by
        refine Nat.eq_of_testBit_eq fun i => ?_
        cases i with
        | zero =>
          rw [Nat.testBit_and, Nat.testBit_zero, Nat.testBit_zero, Nat.testBit_zero]
          have h3 : ¬ (m % 2 = 1) := by omega
          have h4 : ¬ ((2 * (m / 2 &&& (m / 2 - 1))) % 2 = 1) := by omega
          rw [decide_eq_false h3, decide_eq_false h4]
          rfl
        | succ i =>
          rw [Nat.testBit_and, Nat.testBit_succ, Nat.testBit_succ, Nat.testBit_succ]
          have h3 : (m - 1) / 2 = m / 2 - 1 := by omega
          have h4 : 2 * (m / 2 &&& (m / 2 - 1)) / 2 = (m / 2 &&& (m / 2 - 1)) := by omega
          rw [h3, h4, Nat.testBit_and]
      rw [key, Nat.pow_succ]
      omega
    · rw [low_odd e]
      have key : m &&& (m - 1) = m - 1 := by
        refine Nat.eq_of_testBit_eq fun i => ?_
        cases i with
        | zero =>
          rw [Nat.testBit_and, Nat.testBit_zero, Nat.testBit_zero]
          have h3 : ¬ ((m - 1) % 2 = 1) := by omega
          rw [decide_eq_false h3, Bool.and_false]
        | succ i =>
          rw [Nat.testBit_and, Nat.testBit_succ, Nat.testBit_succ]
          have h3 : (m - 1) / 2 = m / 2 := by omega
          rw [h3, Bool.and_self]
      rw [key]
      show m = m - 1 + 1
      omega
theorem low_bit : ∀ (n m : Nat), m ≤ n → 0 < m → m.testBit (low m) = true
  | 0, m, h, h0 => by omega
  | n + 1, m, h, h0 => by
    rcases Nat.mod_two_eq_zero_or_one m with e | e
    · rw [low_even e h0, Nat.testBit_succ]
      exact low_bit n (m / 2) (by omega) (by omega)
    · rw [low_odd e, Nat.testBit_zero, decide_eq_true e]
/-- m & -m -/
theorem low_int {m : Nat} (h : 0 < m) : Builtin.bitAnd (m : Int) (-(m : Int)) = ((2 ^ low m : Nat) : Int) := by
  unfold Builtin.bitAnd
  rw [decide_eq_true (show (0 : Int) ≤ (m : Int) from Int.natCast_nonneg m), decide_eq_false (show ¬ (0 : Int) ≤ -(m : Int) by omega)]
  show (m : Int) - (((m : Int).toNat &&& (Builtin.bitNot (-(m : Int))).toNat : Nat) : Int) = _
  have e : (Builtin.bitNot (-(m : Int))).toNat = m - 1 := by
    unfold Builtin.bitNot
    omega
  rw [e, Int.toNat_natCast]
  have := and_pred m m (Nat.le_refl _) h
  omega
theorem rv_low {H : Hp} {m : Nat} (h : 0 < m) : RV (rI0 fun i j => .int (Builtin.bitAnd i j)) (.int (m : Nat)) (.int (-(m : Int))) H (.int ((2 ^ low m : Nat))) := fun H1 e Q q => ⟨m, -(m : Int), rfl, rfl, by show Q (.int (Builtin.bitAnd (m : Int) (-(m : Int)))) H1; rw [low_int h]; exact q H1 (Ex.refl _)⟩
theorem bits_pow (v : Nat) : Builtin.Int.intBits ((2 ^ v : Nat) : Int) = v + 1 := by
  unfold Builtin.Int.intBits
  have h : ¬ ((((2 ^ v : Nat) : Int) == 0) = true) := by
    have := Nat.two_pow_pos v
    simp only [beq_iff_eq]
    omega
  rw [if_neg h, Int.natAbs_natCast, Nat.log2_two_pow]
theorem xor_low_bit {m p : Nat} (h : 0 < m) : (m ^^^ 2 ^ low m).testBit p = true ↔ m.testBit p = true ∧ p ≠ low m := by
  rw [Nat.testBit_xor, Nat.testBit_two_pow]
  have := low_bit m m (Nat.le_refl _) h
  by_cases e : p = low m
  · subst e
    rw [this, decide_eq_true rfl]
    exact ⟨fun z => Bool.noConfusion z, fun z => absurd rfl z.2⟩
  · rw [decide_eq_false (fun z => e z.symm), Bool.xor_false]
    exact ⟨fun z => ⟨z, e⟩, fun z => z.1⟩
theorem xor_pred : ∀ (n : Nat) (m : Nat), m ≤ n → 0 < m → m ^^^ 2 ^ low m = m &&& (m - 1)
  | 0, m, h, h0 => by omega
  | n + 1, m, h, h0 => by
    rcases Nat.mod_two_eq_zero_or_one m with e | e
    · have ih := xor_pred n (m / 2) (by omega) (by omega)
      rw [low_even e h0]
      refine Nat.eq_of_testBit_eq fun i => ?_
      cases i with
      | zero =>
        rw [Nat.testBit_and, Nat.testBit_xor, Nat.testBit_zero, Nat.testBit_zero]
        have h3 : ¬ (m % 2 = 1) := by omega
        have h4 : ¬ (2 ^ (low (m / 2) + 1) % 2 = 1) := by rw [Nat.pow_succ]; omega
        rw [decide_eq_false h3, decide_eq_false h4]
        rfl
      | succ i =>
        rw [Nat.testBit_and, Nat.testBit_xor, Nat.testBit_succ, Nat.testBit_succ, Nat.testBit_succ]
        have h3 : (m - 1) / 2 = m / 2 - 1 := by omega
        have h4 : 2 ^ (low (m / 2) + 1) / 2 = 2 ^ low (m / 2) := by rw [Nat.pow_succ]; omega
        rw [h3, h4, ← Nat.testBit_xor, ih, Nat.testBit_and]
    · rw [low_odd e]
      refine Nat.eq_of_testBit_eq fun i => ?_
      cases i with
      | zero =>
        rw [Nat.testBit_and, Nat.testBit_xor, Nat.testBit_zero, Nat.testBit_zero, Nat.testBit_zero]
        have h3 : ¬ ((m - 1) % 2 = 1) := by omega
        rw [decide_eq_false h3, decide_eq_true e]
        rfl
      | succ i =>
        rw [Nat.testBit_and, Nat.testBit_xor, Nat.testBit_succ, Nat.testBit_succ, Nat.testBit_succ]
        have h3 : (m - 1) / 2 = m / 2 := by omega
        have h4 : 2 ^ 0 / 2 = 0 := by decide
        rw [h3, h4, Nat.zero_testBit, Bool.xor_false, Bool.and_self]
theorem xor_low_lt {m : Nat} (h : 0 < m) : m ^^^ 2 ^ low m < m := by
  have h1 := and_pred m m (Nat.le_refl _) h
  rw [xor_pred m m (Nat.le_refl _) h]
  have := Nat.two_pow_pos (low m)
  omega
end Vb

set_option Elab.async false
set_option linter.all false
/-! Patterns: trees, their words, and the atoms that read them (first, last, follow). -/
namespace Vg
abbrev Nm := List Nat
/-- a pattern's tree; an atom: none_of (true) or any_of (false), and its names -/
inductive Tr where
  | atom (neg : Bool) (ns : List Nm)
  | thn (a b : Tr)
  | eith (a b : Tr)
  | rep (a : Tr)
  | opt (a : Tr)
abbrev At := Bool × List Nm
def takes (t : At) (x : Nm) : Bool := decide (x ∈ t.2) != t.1
inductive Star (P : List Nm → Prop) : List Nm → Prop
  | nil : Star P []
  | app {u v : List Nm} : P u → Star P v → Star P (u ++ v)
/-- the words -/
def Tr.L : Tr → List Nm → Prop
  | .atom neg ns, w => ∃ x, w = [x] ∧ takes (neg, ns) x = true
  | .thn a b, w => ∃ u v, w = u ++ v ∧ a.L u ∧ b.L v
  | .eith a b, w => a.L w ∨ b.L w
  | .rep a, w => Star a.L w
  | .opt a, w => w = [] ∨ a.L w
def Tr.nul : Tr → Bool
  | .atom _ _ => false
  | .thn a b => a.nul && b.nul
  | .eith a b => a.nul || b.nul
  | .rep _ => true
  | .opt _ => true
def Tr.ats : Tr → List At
  | .atom neg ns => [(neg, ns)]
  | .thn a b => a.ats ++ b.ats
  | .eith a b => a.ats ++ b.ats
  | .rep a => a.ats
  | .opt a => a.ats
abbrev Tr.sz (t : Tr) : Nat := t.ats.length
/-- the atoms are numbered from n on -/
def Tr.Fst : Tr → Nat → Nat → Prop
  | .atom _ _, n, q => q = n
  | .thn a b, n, q => a.Fst n q ∨ (a.nul = true ∧ b.Fst (n + a.sz) q)
  | .eith a b, n, q => a.Fst n q ∨ b.Fst (n + a.sz) q
  | .rep a, n, q => a.Fst n q
  | .opt a, n, q => a.Fst n q
def Tr.Lst : Tr → Nat → Nat → Prop
  | .atom _ _, n, q => q = n
  | .thn a b, n, q => b.Lst (n + a.sz) q ∨ (b.nul = true ∧ a.Lst n q)
  | .eith a b, n, q => a.Lst n q ∨ b.Lst (n + a.sz) q
  | .rep a, n, q => a.Lst n q
  | .opt a, n, q => a.Lst n q
def Tr.Fl : Tr → Nat → Nat → Nat → Prop
  | .atom _ _, _, _, _ => False
  | .thn a b, n, p, q => a.Fl n p q ∨ b.Fl (n + a.sz) p q ∨ (a.Lst n p ∧ b.Fst (n + a.sz) q)
  | .eith a b, n, p, q => a.Fl n p q ∨ b.Fl (n + a.sz) p q
  | .rep a, n, p, q => a.Fl n p q ∨ (a.Lst n p ∧ a.Fst n q)
  | .opt a, n, p, q => a.Fl n p q
def Lb (as : List At) (n p : Nat) (x : Nm) : Prop := n ≤ p ∧ ∃ t, as[p - n]? = some t ∧ takes t x = true
theorem Tr.sz_pos : ∀ t : Tr, 0 < t.sz
  | .atom _ _ => Nat.zero_lt_one
  | .thn a b => by have := a.sz_pos; show 0 < (a.ats ++ b.ats).length; rw [List.length_append]; exact Nat.lt_of_lt_of_le this (Nat.le_add_right _ _)
  | .eith a b => by have := a.sz_pos; show 0 < (a.ats ++ b.ats).length; rw [List.length_append]; exact Nat.lt_of_lt_of_le this (Nat.le_add_right _ _)
  | .rep a => a.sz_pos
  | .opt a => a.sz_pos
theorem sz_thn (a b : Tr) : (Tr.thn a b).sz = a.sz + b.sz := List.length_append
theorem sz_eith (a b : Tr) : (Tr.eith a b).sz = a.sz + b.sz := List.length_append
theorem fst_in : ∀ (t : Tr) (n q : Nat), t.Fst n q → n ≤ q ∧ q < n + t.sz
  | .atom _ _, n, q, h => by have h : q = n := h; subst h; exact ⟨Nat.le_refl _, Nat.lt_succ_self _⟩
  | .thn a b, n, q, h => by
    rw [sz_thn]
    rcases h with h | ⟨_, h⟩
    · have := fst_in a n q h; omega
    · have := fst_in b _ q h; omega
  | .eith a b, n, q, h => by
    rw [sz_eith]
    rcases h with h | h
    · have := fst_in a n q h; omega
    · have := fst_in b _ q h; omega
  | .rep a, n, q, h => fst_in a n q h
  | .opt a, n, q, h => fst_in a n q h
theorem lst_in : ∀ (t : Tr) (n q : Nat), t.Lst n q → n ≤ q ∧ q < n + t.sz
  | .atom _ _, n, q, h => by have h : q = n := h; subst h; exact ⟨Nat.le_refl _, Nat.lt_succ_self _⟩
  | .thn a b, n, q, h => by
    rw [sz_thn]
    rcases h with h | ⟨_, h⟩
    · have := lst_in b _ q h; omega
    · have := lst_in a _ q h; omega
  | .eith a b, n, q, h => by
    rw [sz_eith]
    rcases h with h | h
    · have := lst_in a n q h; omega
    · have := lst_in b _ q h; omega
  | .rep a, n, q, h => lst_in a n q h
  | .opt a, n, q, h => lst_in a n q h
theorem fl_in : ∀ (t : Tr) (n p q : Nat), t.Fl n p q → (n ≤ p ∧ p < n + t.sz) ∧ n ≤ q ∧ q < n + t.sz
  | .thn a b, n, p, q, h => by
    rw [sz_thn]
    rcases h with h | h | ⟨h1, h2⟩
    · have := fl_in a n p q h; omega
    · have := fl_in b _ p q h; omega
    · have := lst_in a n p h1; have := fst_in b _ q h2; omega
  | .eith a b, n, p, q, h => by
    rw [sz_eith]
    rcases h with h | h
    · have := fl_in a n p q h; omega
    · have := fl_in b _ p q h; omega
  | .rep a, n, p, q, h => by
    rcases h with h | ⟨h1, h2⟩
    · exact fl_in a n p q h
    · exact ⟨lst_in a n p h1, fst_in a n q h2⟩
  | .opt a, n, p, q, h => fl_in a n p q h
/-- from atom p, that reads the first letter, to r, that reads the last one -/
inductive Pt (E : Nat → Nat → Prop) (lb : Nat → Nm → Prop) : Nat → List Nm → Nat → Prop
  | one {p : Nat} {x : Nm} : lb p x → Pt E lb p [x] p
  | cons {p q r : Nat} {x : Nm} {w : List Nm} : lb p x → E p q → Pt E lb q w r → Pt E lb p (x :: w) r
section
variable {E E' : Nat → Nat → Prop} {lb lb' : Nat → Nm → Prop}
theorem Pt.ne {p r : Nat} {w : List Nm} (h : Pt E lb p w r) : w ≠ [] := by cases h <;> exact List.cons_ne_nil _ _
theorem Pt.mono (hE : ∀ p q, E p q → E' p q) (hl : ∀ p x, lb p x → lb' p x) {p r : Nat} {w : List Nm} (h : Pt E lb p w r) : Pt E' lb' p w r := by
  induction h with
  | one h => exact .one (hl _ _ h)
  | cons h e _ ih => exact .cons (hl _ _ h) (hE _ _ e) ih
theorem Pt.app {p r q s : Nat} {u v : List Nm} (h : Pt E lb p u r) (e : E r q) (h2 : Pt E lb q v s) : Pt E lb p (u ++ v) s := by
  induction h with
  | one h => exact .cons h e h2
  | cons h e' _ ih => exact .cons h e' (ih e)
theorem Pt.last {p r : Nat} {w : List Nm} (h : Pt E lb p w r) : ∃ x, lb r x := by
  induction h with
  | one h => exact ⟨_, h⟩
  | cons _ _ _ ih => exact ih
end
theorem lb_left {a b : List At} {n p : Nat} {x : Nm} (h : p < n + a.length) : Lb (a ++ b) n p x ↔ Lb a n p x := by
  unfold Lb
  constructor
  · rintro ⟨h1, t, h2, h3⟩
    rw [List.getElem?_append_left (by omega)] at h2
    exact ⟨h1, t, h2, h3⟩
  · rintro ⟨h1, t, h2, h3⟩
    exact ⟨h1, t, by rw [List.getElem?_append_left (by omega)]; exact h2, h3⟩
theorem lb_right {a b : List At} {n p : Nat} {x : Nm} (h : n + a.length ≤ p) : Lb (a ++ b) n p x ↔ Lb b (n + a.length) p x := by
  unfold Lb
  have e : p - n - a.length = p - (n + a.length) := by omega
  constructor
  · rintro ⟨h1, t, h2, h3⟩
    rw [List.getElem?_append_right (by omega), e] at h2
    exact ⟨h, t, h2, h3⟩
  · rintro ⟨h1, t, h2, h3⟩
    exact ⟨by omega, t, by rw [List.getElem?_append_right (by omega), e]; exact h2, h3⟩
theorem lb_lt {a : List At} {n p : Nat} {x : Nm} (h : Lb a n p x) : n ≤ p ∧ p < n + a.length := by
  obtain ⟨h1, t, h2, _⟩ := h
  have := (List.getElem?_eq_some_iff.mp h2).1
  omega
abbrev Tr.Pw (t : Tr) (n : Nat) : Nat → List Nm → Nat → Prop := Pt (t.Fl n) (Lb t.ats n)
/-- a path of the two sides' edges that begins in the second one stays there -/
theorem pt_right {a b : Tr} {n : Nat} {E : Nat → Nat → Prop} (hE : ∀ p q, n + a.sz ≤ p → E p q → b.Fl (n + a.sz) p q) {p r : Nat} {w : List Nm} (h : Pt E (Lb (a.ats ++ b.ats) n) p w r) (hp : n + a.sz ≤ p) : b.Pw (n + a.sz) p w r := by
  induction h with
  | one h => exact .one ((lb_right hp).mp h)
  | cons h e _ ih =>
    have e' := hE _ _ hp e
    exact .cons ((lb_right hp).mp h) e' (ih (fl_in b _ _ _ e').2.1)
theorem pt_left {a b : Tr} {n : Nat} {E : Nat → Nat → Prop} (hE : ∀ p q, p < n + a.sz → E p q → a.Fl n p q) {p r : Nat} {w : List Nm} (h : Pt E (Lb (a.ats ++ b.ats) n) p w r) (hp : p < n + a.sz) : a.Pw n p w r := by
  induction h with
  | one h => exact .one ((lb_left hp).mp h)
  | cons h e _ ih =>
    have e' := hE _ _ hp e
    exact .cons ((lb_left hp).mp h) e' (ih (fl_in a _ _ _ e').2.2)
theorem pt_cross {a b : Tr} {n : Nat} {p r : Nat} {w : List Nm} (h : Pt ((Tr.thn a b).Fl n) (Lb (a.ats ++ b.ats) n) p w r) (hp : p < n + a.sz) :
    (a.Pw n p w r) ∨ ∃ u v p' q', w = u ++ v ∧ a.Pw n p u p' ∧ a.Lst n p' ∧ b.Fst (n + a.sz) q' ∧ b.Pw (n + a.sz) q' v r := by
  induction h with
  | one h => exact .inl (.one ((lb_left hp).mp h))
  | @cons p q r x w h e hrest ih =>
    rcases e with e | e | ⟨e1, e2⟩
    · have hq := (fl_in a _ _ _ e).2.2
      rcases ih hq with k | ⟨u, v, p', q', rfl, k1, k2, k3, k4⟩
      · exact .inl (.cons ((lb_left hp).mp h) e k)
      · exact .inr ⟨x :: u, v, p', q', rfl, .cons ((lb_left hp).mp h) e k1, k2, k3, k4⟩
    · have := (fl_in b _ _ _ e).1.1
      omega
    · refine .inr ⟨[x], w, p, q, rfl, .one ((lb_left hp).mp h), e1, e2, pt_right (a := a) (fun p' q' hp' e' => ?_) hrest (fst_in b _ _ e2).1⟩
      rcases e' with e' | e' | ⟨e', _⟩
      · have := (fl_in a _ _ _ e').1; omega
      · exact e'
      · have := lst_in a _ _ e'; omega
theorem star_app {P : List Nm → Prop} {u v : List Nm} (h : Star P u) (h2 : Star P v) : Star P (u ++ v) := by
  induction h with
  | nil => exact h2
  | app hu _ ih => rw [List.append_assoc]; exact .app hu ih
/-- words, by paths -/
theorem words_iff : ∀ (t : Tr) (n : Nat), (t.nul = true ↔ t.L []) ∧ ∀ w, w ≠ [] → (t.L w ↔ ∃ p r, t.Fst n p ∧ t.Lst n r ∧ t.Pw n p w r)
  | .atom neg ns, n => by
    refine ⟨⟨fun h => Bool.noConfusion (show false = true from h), fun ⟨x, h, _⟩ => nomatch h⟩, fun w hw => ⟨fun ⟨x, e, h⟩ => ?_, fun ⟨p, r, h1, h2, h3⟩ => ?_⟩⟩
    · subst e
      exact ⟨n, n, rfl, rfl, .one ⟨Nat.le_refl _, (neg, ns), by simp [Tr.ats], h⟩⟩
    · cases h3 with
      | one h =>
        obtain ⟨g1, t, g2, g3⟩ := h
        have e : p = n := h1
        subst e
        simp [Tr.ats] at g2
        exact ⟨_, rfl, by rw [g2]; exact g3⟩
      | cons _ e _ => exact e.elim
  | .thn a b, n => by
    obtain ⟨na, la⟩ := words_iff a n
    obtain ⟨nb, lb⟩ := words_iff b (n + a.sz)
    refine ⟨?_, fun w hw => ⟨?_, ?_⟩⟩
    · show (a.nul && b.nul) = true ↔ _
      rw [Bool.and_eq_true, na, nb]
      exact ⟨fun ⟨h1, h2⟩ => ⟨[], [], rfl, h1, h2⟩, fun ⟨u, v, e, h1, h2⟩ => by
        have := List.append_eq_nil_iff.mp e.symm
        rw [this.1] at h1; rw [this.2] at h2; exact ⟨h1, h2⟩⟩
    · rintro ⟨u, v, rfl, hu, hv⟩
      have upA : ∀ {p r w}, a.Pw n p w r → (Tr.thn a b).Pw n p w r := fun {p r w} h => by
        have key : ∀ {p r w}, Pt (a.Fl n) (Lb a.ats n) p w r → Pt ((Tr.thn a b).Fl n) (Lb (a.ats ++ b.ats) n) p w r := fun {p r w} h => by
          refine Pt.mono (fun _ _ e => .inl e) (fun p x h => (lb_left (lb_lt h).2).mpr h) h
        exact key h
      have upB : ∀ {p r w}, b.Pw (n + a.sz) p w r → (Tr.thn a b).Pw n p w r := fun {p r w} h => Pt.mono (lb' := Lb (a.ats ++ b.ats) n) (fun _ _ e => .inr (.inl e)) (fun p x h => (lb_right (lb_lt h).1).mpr h) h
      by_cases eu : u = []
      · subst eu
        have hv' : v ≠ [] := hw
        obtain ⟨p, r, h1, h2, h3⟩ := (lb v hv').mp hv
        exact ⟨p, r, .inr ⟨na.mpr hu, h1⟩, .inl h2, upB h3⟩
      · obtain ⟨p, r, h1, h2, h3⟩ := (la u eu).mp hu
        by_cases ev : v = []
        · subst ev
          rw [List.append_nil]
          exact ⟨p, r, .inl h1, .inr ⟨nb.mpr hv, h2⟩, upA h3⟩
        · obtain ⟨p', r', g1, g2, g3⟩ := (lb v ev).mp hv
          exact ⟨p, r', .inl h1, .inl g2, (upA h3).app (.inr (.inr ⟨h2, g1⟩)) (upB g3)⟩
    · rintro ⟨p, r, h1, h2, h3⟩
      have hB : ∀ p' q', n + a.sz ≤ p' → (Tr.thn a b).Fl n p' q' → b.Fl (n + a.sz) p' q' := fun p' q' hp' e' => by
        rcases e' with e' | e' | ⟨e', _⟩
        · have := (fl_in a _ _ _ e').1; omega
        · exact e'
        · have := lst_in a _ _ e'; omega
      have hend : ∀ {q v r}, b.Fst (n + a.sz) q → b.Pw (n + a.sz) q v r → (Tr.thn a b).Lst n r → b.L v := fun {q v r} g1 g2 g3 => by
        have hr : n + a.sz ≤ r := by
          obtain ⟨x, hx⟩ := g2.last
          exact (lb_lt hx).1
        rcases g3 with g3 | ⟨_, g3⟩
        · exact (lb v g2.ne).mpr ⟨q, r, g1, g3, g2⟩
        · have := lst_in a _ _ g3; omega
      rcases h1 with h1 | ⟨ha, h1⟩
      · have hp := (fst_in a _ _ h1).2
        rcases pt_cross (show Pt ((Tr.thn a b).Fl n) (Lb (a.ats ++ b.ats) n) p w r from h3) hp with k | ⟨u, v, p', q', rfl, k1, k2, k3, k4⟩
        · have hr : r < n + a.sz := by
            obtain ⟨x, hx⟩ := k.last
            exact (lb_lt hx).2
          rcases h2 with h2 | ⟨hb, h2⟩
          · have := lst_in b _ _ h2; omega
          · exact ⟨w, [], (List.append_nil w).symm, (la w hw).mpr ⟨p, r, h1, h2, k⟩, nb.mp hb⟩
        · exact ⟨u, v, rfl, (la u k1.ne).mpr ⟨p, p', h1, k2, k1⟩, hend k3 k4 h2⟩
      · exact ⟨[], w, rfl, na.mp ha, hend h1 (pt_right (a := a) hB (show Pt ((Tr.thn a b).Fl n) (Lb (a.ats ++ b.ats) n) p w r from h3) (fst_in b _ _ h1).1) h2⟩
  | .eith a b, n => by
    obtain ⟨na, la⟩ := words_iff a n
    obtain ⟨nb, lb⟩ := words_iff b (n + a.sz)
    refine ⟨?_, fun w hw => ⟨?_, ?_⟩⟩
    · show (a.nul || b.nul) = true ↔ _
      rw [Bool.or_eq_true, na, nb]
      exact Iff.rfl
    · rintro (h | h)
      · obtain ⟨p, r, h1, h2, h3⟩ := (la w hw).mp h
        exact ⟨p, r, .inl h1, .inl h2, Pt.mono (lb' := Lb (a.ats ++ b.ats) n) (fun _ _ e => .inl e) (fun p x h => (lb_left (lb_lt h).2).mpr h) h3⟩
      · obtain ⟨p, r, h1, h2, h3⟩ := (lb w hw).mp h
        exact ⟨p, r, .inr h1, .inr h2, Pt.mono (lb' := Lb (a.ats ++ b.ats) n) (fun _ _ e => .inr e) (fun p x h => (lb_right (lb_lt h).1).mpr h) h3⟩
    · rintro ⟨p, r, h1, h2, h3⟩
      have h3 : Pt ((Tr.eith a b).Fl n) (Lb (a.ats ++ b.ats) n) p w r := h3
      rcases h1 with h1 | h1
      · have k : a.Pw n p w r := pt_left (b := b) (fun p' q' hp' e' => by
          rcases e' with e' | e'
          · exact e'
          · have := (fl_in b _ _ _ e').1; omega) h3 (fst_in a _ _ h1).2
        obtain ⟨x, hx⟩ := k.last
        have hr : r < n + a.sz := (lb_lt hx).2
        rcases h2 with h2 | h2
        · exact .inl ((la w hw).mpr ⟨p, r, h1, h2, k⟩)
        · have := lst_in b _ _ h2; omega
      · have k : b.Pw (n + a.sz) p w r := pt_right (a := a) (fun p' q' hp' e' => by
          rcases e' with e' | e'
          · have := (fl_in a _ _ _ e').1; omega
          · exact e') h3 (fst_in b _ _ h1).1
        obtain ⟨x, hx⟩ := k.last
        have hr := (lb_lt hx).1
        rcases h2 with h2 | h2
        · have := lst_in a _ _ h2; omega
        · exact .inr ((lb w hw).mpr ⟨p, r, h1, h2, k⟩)
  | .rep a, n => by
    obtain ⟨na, la⟩ := words_iff a n
    refine ⟨⟨fun _ => .nil, fun _ => rfl⟩, fun w hw => ⟨?_, ?_⟩⟩
    · intro hz
      have key : ∀ w, Star a.L w → w ≠ [] → ∃ p r, a.Fst n p ∧ a.Lst n r ∧ (Tr.rep a).Pw n p w r := by
        intro w h
        induction h with
        | nil => exact fun z => absurd rfl z
        | @app u v hu _ ih =>
          intro hw
          by_cases eu : u = []
          · subst eu
            exact ih hw
          · obtain ⟨p, r, h1, h2, h3⟩ := (la u eu).mp hu
            have h3' : (Tr.rep a).Pw n p u r := Pt.mono (lb' := Lb a.ats n) (fun _ _ e => .inl e) (fun _ _ h => h) h3
            by_cases ev : v = []
            · subst ev
              rw [List.append_nil]
              exact ⟨p, r, h1, h2, h3'⟩
            · obtain ⟨p', r', g1, g2, g3⟩ := ih ev
              exact ⟨p, r', h1, g2, h3'.app (.inr ⟨h2, g1⟩) g3⟩
      exact key w hz hw
    · rintro ⟨p, r, h1, h2, h3⟩
      have h1 : a.Fst n p := h1
      have h2 : a.Lst n r := h2
      have key : ∀ {p r w}, (Tr.rep a).Pw n p w r → a.Lst n r → ∃ u v p', w = u ++ v ∧ a.Pw n p u p' ∧ a.Lst n p' ∧ Star a.L v := by
        intro p r w h0 hr
        have h : Pt ((Tr.rep a).Fl n) (Lb a.ats n) p w r := h0
        clear h0
        induction h with
        | one h => exact ⟨_, [], _, rfl, .one h, hr, .nil⟩
        | @cons p q r x w h e _ ih =>
          obtain ⟨u, v, p', rfl, k1, k2, k3⟩ := ih hr
          rcases e with e | ⟨e1, e2⟩
          · exact ⟨x :: u, v, p', rfl, .cons h e k1, k2, k3⟩
          · exact ⟨[x], u ++ v, p, rfl, .one h, e1, .app ((la u k1.ne).mpr ⟨q, p', e2, k2, k1⟩) k3⟩
      obtain ⟨u, v, p', rfl, k1, k2, k3⟩ := key h3 h2
      exact .app ((la u k1.ne).mpr ⟨p, p', h1, k2, k1⟩) k3
  | .opt a, n => by
    obtain ⟨na, la⟩ := words_iff a n
    refine ⟨⟨fun _ => .inl rfl, fun _ => rfl⟩, fun w hw => ?_⟩
    show (w = [] ∨ a.L w) ↔ _
    rw [or_iff_right hw, la w hw]
    exact Iff.rfl
/-! read letter by letter: the sets of atoms that are reached -/
def Stp (E : Nat → Nat → Prop) (lb : Nat → Nm → Prop) (T : Nat → Prop) (x : Nm) : Nat → Prop := fun q => (∃ p, T p ∧ E p q) ∧ lb q x
def Rch (E : Nat → Nat → Prop) (lb : Nat → Nm → Prop) (T : Nat → Prop) (w : List Nm) : Nat → Prop := w.foldl (Stp E lb) T
theorem rch_iff {E : Nat → Nat → Prop} {lb : Nat → Nm → Prop} : ∀ (w : List Nm) (T : Nat → Prop) (r : Nat), w ≠ [] → (Rch E lb T w r ↔ ∃ p0 p, T p0 ∧ E p0 p ∧ Pt E lb p w r)
  | [], _, _, h => absurd rfl h
  | [x], T, r, _ => by
    show ((∃ p, T p ∧ E p r) ∧ lb r x) ↔ _
    constructor
    · rintro ⟨⟨p, h1, h2⟩, h3⟩
      exact ⟨p, r, h1, h2, .one h3⟩
    · rintro ⟨p0, p, h1, h2, h3⟩
      cases h3 with
      | one h => exact ⟨⟨p0, h1, h2⟩, h⟩
      | cons _ _ h => exact absurd rfl h.ne
  | x :: y :: w, T, r, _ => by
    show Rch E lb (Stp E lb T x) (y :: w) r ↔ _
    rw [rch_iff (y :: w) (Stp E lb T x) r (List.cons_ne_nil _ _)]
    constructor
    · rintro ⟨p0, p, ⟨⟨p1, h1, h2⟩, h3⟩, h4, h5⟩
      exact ⟨p1, p0, h1, h2, .cons h3 h4 h5⟩
    · rintro ⟨p0, p, h1, h2, h3⟩
      cases h3 with
      | @cons _ q _ _ _ h e g => exact ⟨p, q, ⟨⟨p0, h1, h2⟩, h⟩, e, g⟩
/-- the atoms of t from 0 on, and the beginning behind them -/
def Tr.Ex (t : Tr) (p q : Nat) : Prop := (p < t.sz ∧ t.Fl 0 p q) ∨ (p = t.sz ∧ t.Fst 0 q)
theorem ex_path (t : Tr) {p r : Nat} {w : List Nm} (hp : p < t.sz) : Pt t.Ex (Lb t.ats 0) p w r ↔ t.Pw 0 p w r := by
  constructor
  · intro h
    induction h with
    | one h => exact .one h
    | cons h e _ ih =>
      rcases e with ⟨_, e⟩ | ⟨e, _⟩
      · exact .cons h e (ih (by have := (fl_in t _ _ _ e).2.2; omega))
      · omega
  · intro h
    induction h with
    | one h => exact .one h
    | cons h e _ ih => exact .cons h (.inl ⟨hp, e⟩) (ih (by have := (fl_in t _ _ _ e).2.2; omega))
/-- a word, by what is reached behind it -/
theorem word_iff (t : Tr) (w : List Nm) : t.L w ↔ ∃ r, Rch t.Ex (Lb t.ats 0) (fun p => p = t.sz) w r ∧ ((r < t.sz ∧ t.Lst 0 r) ∨ (r = t.sz ∧ t.nul = true)) := by
  obtain ⟨h0, hw⟩ := words_iff t 0
  by_cases e : w = []
  · subst e
    rw [← h0]
    constructor
    · exact fun h => ⟨t.sz, rfl, .inr ⟨rfl, h⟩⟩
    · rintro ⟨r, h1, h2⟩
      have h1 : r = t.sz := h1
      rcases h2 with h2 | h2
      · omega
      · exact h2.2
  · rw [hw w e]
    constructor
    · rintro ⟨p, r, h1, h2, h3⟩
      have hp := (fst_in t _ _ h1).2
      rw [Nat.zero_add] at hp
      exact ⟨r, (rch_iff w _ r e).mpr ⟨t.sz, p, rfl, .inr ⟨rfl, h1⟩, (ex_path t hp).mpr h3⟩, .inl ⟨by have := (lst_in t _ _ h2).2; omega, h2⟩⟩
    · rintro ⟨r, h1, h2⟩
      obtain ⟨p0, p, e0, h3, h4⟩ := (rch_iff w _ r e).mp h1
      subst e0
      rcases h3 with ⟨h3, _⟩ | ⟨_, h3⟩
      · omega
      · have hp := (fst_in t _ _ h3).2
        rw [Nat.zero_add] at hp
        have h5 := (ex_path t hp).mp h4
        obtain ⟨x, hx⟩ := h5.last
        have hr := (lb_lt hx).2
        rcases h2 with ⟨_, h2⟩ | ⟨h2, _⟩
        · exact ⟨p, r, h3, h2, h5⟩
        · have : t.ats.length = t.sz := rfl
          omega
end Vg

set_option Elab.async false
set_option linter.all false
/-! The atoms linked: steps (a tree written behind its parts), a pile of (empty, first, last), the masks of what follows. -/
namespace Vg
inductive Op where
  | atom (neg : Bool) (ns : List Nm)
  | thn
  | eith
  | rep
  | opt
def Tr.steps : Tr → List Op
  | .atom neg ns => [.atom neg ns]
  | .thn a b => a.steps ++ (b.steps ++ [.thn])
  | .eith a b => a.steps ++ (b.steps ++ [.eith])
  | .rep a => a.steps ++ [.rep]
  | .opt a => a.steps ++ [.opt]
def Op.ar : Op → Nat
  | .atom _ _ => 0
  | .thn => 2
  | .eith => 2
  | .rep => 1
  | .opt => 1
/-- from a pile of d things the steps never lack one -/
def wf : Nat → List Op → Prop
  | _, [] => True
  | d, o :: r => o.ar ≤ d ∧ wf (d - o.ar + 1) r
def dep : Nat → List Op → Nat
  | d, [] => d
  | d, o :: r => dep (d - o.ar + 1) r
theorem wf_app : ∀ (d : Nat) (xs ys : List Op), wf d (xs ++ ys) ↔ wf d xs ∧ wf (dep d xs) ys
  | _, [], _ => ⟨fun h => ⟨trivial, h⟩, fun h => h.2⟩
  | d, o :: r, ys => by
    show (o.ar ≤ d ∧ wf _ (r ++ ys)) ↔ _
    rw [wf_app]
    exact ⟨fun ⟨a, b, c⟩ => ⟨⟨a, b⟩, c⟩, fun ⟨⟨a, b⟩, c⟩ => ⟨a, b, c⟩⟩
theorem dep_app : ∀ (d : Nat) (xs ys : List Op), dep d (xs ++ ys) = dep (dep d xs) ys
  | _, [], _ => rfl
  | d, o :: r, ys => dep_app _ r ys
theorem tree_wf : ∀ (t : Tr) (d : Nat), wf d t.steps ∧ dep d t.steps = d + 1
  | .atom _ _, d => ⟨⟨Nat.zero_le _, trivial⟩, rfl⟩
  | .thn a b, d => by
    obtain ⟨a1, a2⟩ := tree_wf a d
    obtain ⟨b1, b2⟩ := tree_wf b (d + 1)
    show wf d (a.steps ++ (b.steps ++ [Op.thn])) ∧ dep d (a.steps ++ (b.steps ++ [Op.thn])) = d + 1
    rw [wf_app, dep_app, a2, wf_app, dep_app, b2]
    exact ⟨⟨a1, b1, show 2 ≤ d + 1 + 1 by omega, trivial⟩, show d + 1 + 1 - 2 + 1 = d + 1 by omega⟩
  | .eith a b, d => by
    obtain ⟨a1, a2⟩ := tree_wf a d
    obtain ⟨b1, b2⟩ := tree_wf b (d + 1)
    show wf d (a.steps ++ (b.steps ++ [Op.eith])) ∧ dep d (a.steps ++ (b.steps ++ [Op.eith])) = d + 1
    rw [wf_app, dep_app, a2, wf_app, dep_app, b2]
    exact ⟨⟨a1, b1, show 2 ≤ d + 1 + 1 by omega, trivial⟩, show d + 1 + 1 - 2 + 1 = d + 1 by omega⟩
  | .rep a, d => by
    obtain ⟨a1, a2⟩ := tree_wf a d
    show wf d (a.steps ++ [Op.rep]) ∧ dep d (a.steps ++ [Op.rep]) = d + 1
    rw [wf_app, dep_app, a2]
    exact ⟨⟨a1, show 1 ≤ d + 1 by omega, trivial⟩, show d + 1 - 1 + 1 = d + 1 by omega⟩
  | .opt a, d => by
    obtain ⟨a1, a2⟩ := tree_wf a d
    show wf d (a.steps ++ [Op.opt]) ∧ dep d (a.steps ++ [Op.opt]) = d + 1
    rw [wf_app, dep_app, a2]
    exact ⟨⟨a1, show 1 ≤ d + 1 by omega, trivial⟩, show d + 1 - 1 + 1 = d + 1 by omega⟩
/-- (empty, first, last) -/
abbrev Fr := Bool × Nat × Nat
/-- what f follows, put to the atoms of l -/
def addF (fol : List Nat) (l f : Nat) : List Nat := fol.mapIdx fun p m => if l.testBit p then m ||| f else m
def orF (a b : Fr) : Fr := (a.1 || b.1, a.2.1 ||| b.2.1, a.2.2 ||| b.2.2)
def joinF (a b : Fr) : Fr := (a.1 && b.1, (if a.1 then a.2.1 ||| b.2.1 else a.2.1), (if b.1 then a.2.2 ||| b.2.2 else b.2.2))
/-- the pile, its top ahead, and what follows -/
def lnk : List Fr × List Nat → Op → List Fr × List Nat
  | (s, fol), .atom _ _ => ((false, 2 ^ fol.length, 2 ^ fol.length) :: s, fol ++ [0])
  | (b :: a :: s, fol), .thn => (joinF a b :: s, addF fol a.2.2 b.2.1)
  | (b :: a :: s, fol), .eith => (orF a b :: s, fol)
  | (a :: s, fol), .rep => ((true, a.2.1, a.2.2) :: s, addF fol a.2.2 a.2.1)
  | (a :: s, fol), .opt => ((true, a.2.1, a.2.2) :: s, fol)
  | x, _ => x
theorem addF_get (fol : List Nat) (l f p : Nat) : (addF fol l f)[p]? = (fol[p]?).map fun m => if l.testBit p then m ||| f else m := by
  unfold addF
  rw [List.getElem?_mapIdx]
theorem addF_len (fol : List Nat) (l f : Nat) : (addF fol l f).length = fol.length := List.length_mapIdx
/-- a tree's steps, done: its own (empty, first, last) on the pile, its masks behind the others -/
structure Lnkd (t : Tr) (s : List Fr) (fol : List Nat) (x : List Fr × List Nat) : Prop where
  pile : ∃ F L : Nat, x.1 = (t.nul, F, L) :: s ∧ (∀ q, F.testBit q = true ↔ t.Fst fol.length q) ∧ ∀ q, L.testBit q = true ↔ t.Lst fol.length q
  len : x.2.length = fol.length + t.sz
  old : ∀ p, p < fol.length → x.2[p]? = fol[p]?
  new : ∀ p m, fol.length ≤ p → x.2[p]? = some m → ∀ q, m.testBit q = true ↔ t.Fl fol.length p q
theorem lnk_tree : ∀ (t : Tr) (s : List Fr) (fol : List Nat), Lnkd t s fol (t.steps.foldl lnk (s, fol))
  | .atom neg ns, s, fol => by
    refine ⟨⟨2 ^ fol.length, 2 ^ fol.length, rfl, fun q => ?_, fun q => ?_⟩, ?_, fun p hp => ?_, fun p m hp hm q => ?_⟩
    · rw [Nat.testBit_two_pow, decide_eq_true_iff]
      exact eq_comm
    · rw [Nat.testBit_two_pow, decide_eq_true_iff]
      exact eq_comm
    · show (fol ++ [0]).length = _
      rw [List.length_append]
      rfl
    · show (fol ++ [0])[p]? = _
      rw [List.getElem?_append_left hp]
    · have hm : (fol ++ [0])[p]? = some m := hm
      rw [List.getElem?_append_right hp] at hm
      have h1 := (List.getElem?_eq_some_iff.mp hm).1
      have e : p - fol.length = 0 := by simpa using h1
      rw [e] at hm
      have : m = 0 := (Option.some.inj hm).symm
      subst this
      rw [Nat.zero_testBit]
      exact ⟨fun z => Bool.noConfusion z, fun z => z.elim⟩
  | .thn a b, s, fol => by
    have A := lnk_tree a s fol
    obtain ⟨F1, L1, e1, f1, l1⟩ := A.pile
    generalize hx : a.steps.foldl lnk (s, fol) = x at A e1
    obtain ⟨s1, fol1⟩ := x
    have e1 : s1 = (a.nul, F1, L1) :: s := e1
    subst e1
    have B := lnk_tree b ((a.nul, F1, L1) :: s) fol1
    obtain ⟨F2, L2, e2, f2, l2⟩ := B.pile
    generalize hy : b.steps.foldl lnk ((a.nul, F1, L1) :: s, fol1) = y at B e2
    obtain ⟨s2, fol2⟩ := y
    have e2 : s2 = (b.nul, F2, L2) :: (a.nul, F1, L1) :: s := e2
    subst e2
    have n1 : fol1.length = fol.length + a.sz := A.len
    have n2 : fol2.length = fol1.length + b.sz := B.len
    have tot : (Tr.thn a b).steps.foldl lnk (s, fol) = (joinF (a.nul, F1, L1) (b.nul, F2, L2) :: s, addF fol2 L1 F2) := by
      show (a.steps ++ (b.steps ++ [Op.thn])).foldl lnk (s, fol) = _
      rw [List.foldl_append, hx, List.foldl_append, hy]
      rfl
    rw [tot]
    rw [n1] at f2 l2
    refine ⟨⟨_, _, rfl, fun q => ?_, fun q => ?_⟩, ?_, fun p hp => ?_, fun p m hp hm q => ?_⟩
    · show ((if a.nul then F1 ||| F2 else F1).testBit q = true) ↔ (a.Fst fol.length q ∨ (a.nul = true ∧ b.Fst (fol.length + a.sz) q))
      rw [← f1, ← f2]
      cases a.nul <;> simp
    · show ((if b.nul then L1 ||| L2 else L2).testBit q = true) ↔ (b.Lst (fol.length + a.sz) q ∨ (b.nul = true ∧ a.Lst fol.length q))
      rw [← l1, ← l2]
      cases b.nul <;> simp [or_comm]
    · show (addF fol2 L1 F2).length = fol.length + (a.ats ++ b.ats).length
      rw [addF_len, n2, n1, List.length_append, Nat.add_assoc]
    · show (addF fol2 L1 F2)[p]? = _
      rw [addF_get, B.old p (by omega), A.old p hp]
      have : L1.testBit p = false := by
        rw [← Bool.not_eq_true, l1]
        intro z
        have := lst_in a _ _ z
        omega
      rw [this]
      simp
    · have hm : (addF fol2 L1 F2)[p]? = some m := hm
      rw [addF_get] at hm
      obtain ⟨m0, h0, rfl⟩ := Option.map_eq_some_iff.mp hm
      have key : (m0.testBit q = true ↔ a.Fl fol.length p q ∨ b.Fl (fol.length + a.sz) p q) := by
        by_cases hp1 : p < fol1.length
        · rw [B.old p hp1] at h0
          rw [A.new p m0 hp h0 q]
          exact ⟨.inl, fun z => z.elim id fun z => by have := (fl_in b _ _ _ z).1; omega⟩
        · rw [B.new p m0 (by omega) h0 q]
          rw [n1]
          exact ⟨.inr, fun z => z.elim (fun z => by have := (fl_in a _ _ _ z).1; omega) id⟩
      show _ ↔ (a.Fl fol.length p q ∨ b.Fl (fol.length + a.sz) p q ∨ (a.Lst fol.length p ∧ b.Fst (fol.length + a.sz) q))
      rw [← l1, ← f2, ← or_assoc, ← key]
      cases L1.testBit p <;> simp
  | .eith a b, s, fol => by
    have A := lnk_tree a s fol
    obtain ⟨F1, L1, e1, f1, l1⟩ := A.pile
    generalize hx : a.steps.foldl lnk (s, fol) = x at A e1
    obtain ⟨s1, fol1⟩ := x
    have e1 : s1 = (a.nul, F1, L1) :: s := e1
    subst e1
    have B := lnk_tree b ((a.nul, F1, L1) :: s) fol1
    obtain ⟨F2, L2, e2, f2, l2⟩ := B.pile
    generalize hy : b.steps.foldl lnk ((a.nul, F1, L1) :: s, fol1) = y at B e2
    obtain ⟨s2, fol2⟩ := y
    have e2 : s2 = (b.nul, F2, L2) :: (a.nul, F1, L1) :: s := e2
    subst e2
    have n1 : fol1.length = fol.length + a.sz := A.len
    have n2 : fol2.length = fol1.length + b.sz := B.len
    have tot : (Tr.eith a b).steps.foldl lnk (s, fol) = (orF (a.nul, F1, L1) (b.nul, F2, L2) :: s, fol2) := by
      show (a.steps ++ (b.steps ++ [Op.eith])).foldl lnk (s, fol) = _
      rw [List.foldl_append, hx, List.foldl_append, hy]
      rfl
    rw [tot]
    rw [n1] at f2 l2
    refine ⟨⟨_, _, rfl, fun q => ?_, fun q => ?_⟩, ?_, fun p hp => ?_, fun p m hp hm q => ?_⟩
    · show ((F1 ||| F2).testBit q = true) ↔ (a.Fst fol.length q ∨ b.Fst (fol.length + a.sz) q)
      rw [← f1, ← f2]
      simp
    · show ((L1 ||| L2).testBit q = true) ↔ (a.Lst fol.length q ∨ b.Lst (fol.length + a.sz) q)
      rw [← l1, ← l2]
      simp
    · show fol2.length = fol.length + (a.ats ++ b.ats).length
      rw [n2, n1, List.length_append, Nat.add_assoc]
    · show fol2[p]? = _
      rw [B.old p (by omega), A.old p hp]
    · have h0 : fol2[p]? = some m := hm
      show _ ↔ (a.Fl fol.length p q ∨ b.Fl (fol.length + a.sz) p q)
      by_cases hp1 : p < fol1.length
      · rw [B.old p hp1] at h0
        rw [A.new p m hp h0 q]
        exact ⟨.inl, fun z => z.elim id fun z => by have := (fl_in b _ _ _ z).1; omega⟩
      · rw [B.new p m (by omega) h0 q, n1]
        exact ⟨.inr, fun z => z.elim (fun z => by have := (fl_in a _ _ _ z).1; omega) id⟩
  | .rep a, s, fol => by
    have A := lnk_tree a s fol
    obtain ⟨F1, L1, e1, f1, l1⟩ := A.pile
    generalize hx : a.steps.foldl lnk (s, fol) = x at A e1
    obtain ⟨s1, fol1⟩ := x
    have e1 : s1 = (a.nul, F1, L1) :: s := e1
    subst e1
    have n1 : fol1.length = fol.length + a.sz := A.len
    have tot : (Tr.rep a).steps.foldl lnk (s, fol) = ((true, F1, L1) :: s, addF fol1 L1 F1) := by
      show (a.steps ++ [Op.rep]).foldl lnk (s, fol) = _
      rw [List.foldl_append, hx]
      rfl
    rw [tot]
    refine ⟨⟨F1, L1, rfl, f1, l1⟩, ?_, fun p hp => ?_, fun p m hp hm q => ?_⟩
    · show (addF fol1 L1 F1).length = _
      rw [addF_len, n1]
      rfl
    · show (addF fol1 L1 F1)[p]? = _
      rw [addF_get, A.old p hp]
      have : L1.testBit p = false := by
        rw [← Bool.not_eq_true, l1]
        intro z
        have := lst_in a _ _ z
        omega
      rw [this]
      simp
    · have hm : (addF fol1 L1 F1)[p]? = some m := hm
      rw [addF_get] at hm
      obtain ⟨m0, h0, rfl⟩ := Option.map_eq_some_iff.mp hm
      show _ ↔ (a.Fl fol.length p q ∨ (a.Lst fol.length p ∧ a.Fst fol.length q))
      rw [← l1, ← f1, ← A.new p m0 hp h0 q]
      cases L1.testBit p <;> simp
  | .opt a, s, fol => by
    have A := lnk_tree a s fol
    obtain ⟨F1, L1, e1, f1, l1⟩ := A.pile
    generalize hx : a.steps.foldl lnk (s, fol) = x at A e1
    obtain ⟨s1, fol1⟩ := x
    have e1 : s1 = (a.nul, F1, L1) :: s := e1
    subst e1
    have tot : (Tr.opt a).steps.foldl lnk (s, fol) = ((true, F1, L1) :: s, fol1) := by
      show (a.steps ++ [Op.opt]).foldl lnk (s, fol) = _
      rw [List.foldl_append, hx]
      rfl
    rw [tot]
    exact ⟨⟨F1, L1, rfl, f1, l1⟩, A.len, A.old, A.new⟩
def opAts : Op → List At
  | .atom neg ns => [(neg, ns)]
  | _ => []
theorem ats_steps : ∀ t : Tr, t.steps.flatMap opAts = t.ats
  | .atom _ _ => rfl
  | .thn a b => by
    show (a.steps ++ (b.steps ++ [Op.thn])).flatMap opAts = a.ats ++ b.ats
    rw [List.flatMap_append, List.flatMap_append, ats_steps a, ats_steps b]
    simp [opAts]
  | .eith a b => by
    show (a.steps ++ (b.steps ++ [Op.eith])).flatMap opAts = a.ats ++ b.ats
    rw [List.flatMap_append, List.flatMap_append, ats_steps a, ats_steps b]
    simp [opAts]
  | .rep a => by
    show (a.steps ++ [Op.rep]).flatMap opAts = a.ats
    rw [List.flatMap_append, ats_steps a]
    simp [opAts]
  | .opt a => by
    show (a.steps ++ [Op.opt]).flatMap opAts = a.ats
    rw [List.flatMap_append, ats_steps a]
    simp [opAts]
/-! what the object keeps, and how it reads a word -/
/-- for a tree: what was linked -/
structure Auto (t : Tr) (F L : Nat) (fol : List Nat) : Prop where
  fst : ∀ q, F.testBit q = true ↔ t.Fst 0 q
  lst : ∀ q, L.testBit q = true ↔ t.Lst 0 q
  len : fol.length = t.sz
  fol : ∀ p m, fol[p]? = some m → ∀ q, m.testBit q = true ↔ t.Fl 0 p q
theorem auto_of (t : Tr) : ∃ F L fol, t.steps.foldl lnk ([], []) = ([(t.nul, F, L)], fol) ∧ Auto t F L fol := by
  have A := lnk_tree t [] []
  obtain ⟨F, L, e, f, l⟩ := A.pile
  refine ⟨F, L, _, Prod.ext e rfl, f, l, ?_, fun p m h q => A.new p m (Nat.zero_le _) h q⟩
  rw [A.len]
  exact Nat.zero_add _
/-- the atoms that take x -/
def takM (as : List At) (x : Nm) : Nat := (List.range as.length).foldl (fun m p => if (match as[p]? with | some t => takes t x | none => false) then m ||| 2 ^ p else m) 0
/-- all that follow the atoms of m -/
def aftM (fs : List Nat) (m : Nat) : Nat := (List.range fs.length).foldl (fun a p => if m.testBit p then a ||| (fs[p]?).getD 0 else a) 0
theorem fold_bits {c : Nat → Bool} {g : Nat → Nat} (q : Nat) : ∀ (l : List Nat) (a : Nat), (l.foldl (fun m p => if c p then m ||| g p else m) a).testBit q = true ↔ a.testBit q = true ∨ ∃ p ∈ l, c p = true ∧ (g p).testBit q = true
  | [], a => by simp
  | p :: l, a => by
    rw [List.foldl_cons, fold_bits q l]
    cases h : c p <;> simp [h, or_assoc]
theorem takM_bit (as : List At) (x : Nm) (q : Nat) : (takM as x).testBit q = true ↔ Lb as 0 q x := by
  unfold takM
  rw [fold_bits]
  rw [Nat.zero_testBit]
  unfold Lb
  constructor
  · rintro (h | ⟨p, hp, h1, h2⟩)
    · exact Bool.noConfusion h
    · rw [Nat.testBit_two_pow, decide_eq_true_iff] at h2
      subst h2
      cases e : as[p]? with
      | none => rw [e] at h1; exact Bool.noConfusion h1
      | some t => rw [e] at h1; exact ⟨Nat.zero_le _, t, by simpa using e, h1⟩
  · rintro ⟨_, t, h1, h2⟩
    rw [Nat.sub_zero] at h1
    refine .inr ⟨q, List.mem_range.mpr (List.getElem?_eq_some_iff.mp h1).1, by rw [h1]; exact h2, ?_⟩
    rw [Nat.testBit_two_pow, decide_eq_true_iff]
theorem aftM_bit (fs : List Nat) (m q : Nat) : (aftM fs m).testBit q = true ↔ ∃ p f, m.testBit p = true ∧ fs[p]? = some f ∧ f.testBit q = true := by
  unfold aftM
  rw [fold_bits, Nat.zero_testBit]
  constructor
  · rintro (h | ⟨p, hp, h1, h2⟩)
    · exact Bool.noConfusion h
    · have := List.mem_range.mp hp
      rw [List.getElem?_eq_getElem this] at h2
      exact ⟨p, _, h1, List.getElem?_eq_getElem this, h2⟩
  · rintro ⟨p, f, h1, h2, h3⟩
    exact .inr ⟨p, List.mem_range.mpr (List.getElem?_eq_some_iff.mp h2).1, h1, by rw [h2]; exact h3⟩
/-- one letter read -/
def rdM (as : List At) (fs : List Nat) (m : Nat) (x : Nm) : Nat := aftM fs m &&& takM as x
theorem rd_bits {t : Tr} {F L : Nat} {fol : List Nat} (A : Auto t F L fol) {T : Nat → Prop} : ∀ (w : List Nm) (m : Nat) (T : Nat → Prop), (∀ q, m.testBit q = true ↔ T q) → ∀ q, (w.foldl (rdM t.ats (fol ++ [F])) m).testBit q = true ↔ Rch t.Ex (Lb t.ats 0) T w q
  | [], m, T, h, q => h q
  | x :: w, m, T, h, q => by
    rw [List.foldl_cons]
    refine rd_bits A (T := T) w _ (Stp t.Ex (Lb t.ats 0) T x) (fun q => ?_) q
    show ((aftM (fol ++ [F]) m) &&& takM t.ats x).testBit q = true ↔ _
    rw [Nat.testBit_and, Bool.and_eq_true, takM_bit, aftM_bit]
    refine and_congr_left fun _ => ?_
    constructor
    · rintro ⟨p, f, h1, h2, h3⟩
      refine ⟨p, (h p).mp h1, ?_⟩
      have hl := (List.getElem?_eq_some_iff.mp h2).1
      rw [List.length_append] at hl
      have hl : p < fol.length + 1 := hl
      by_cases hp : p < fol.length
      · rw [List.getElem?_append_left hp] at h2
        exact .inl ⟨by rw [← A.len]; exact hp, (A.fol p f h2 q).mp h3⟩
      · have e : p = fol.length := by omega
        subst e
        rw [List.getElem?_append_right (Nat.le_refl _), Nat.sub_self] at h2
        have : F = f := Option.some.inj h2
        subst this
        exact .inr ⟨A.len, (A.fst q).mp h3⟩
    · rintro ⟨p, h1, h2⟩
      rcases h2 with ⟨h2, h3⟩ | ⟨h2, h3⟩
      · rw [← A.len] at h2
        refine ⟨p, fol[p], (h p).mpr h1, by rw [List.getElem?_append_left h2]; exact List.getElem?_eq_getElem h2, ?_⟩
        exact (A.fol p _ (List.getElem?_eq_getElem h2) q).mpr h3
      · rw [← A.len] at h2
        subst h2
        exact ⟨fol.length, F, (h _).mpr h1, by rw [List.getElem?_append_right (Nat.le_refl _), Nat.sub_self]; rfl, (A.fst q).mpr h3⟩
theorem pos_bit {m : Nat} : 0 < m ↔ ∃ q, m.testBit q = true := by
  constructor
  · intro h
    exact Nat.exists_testBit_of_ne_zero (by omega)
  · rintro ⟨q, h⟩
    rcases Nat.eq_zero_or_pos m with e | e
    · rw [e, Nat.zero_testBit] at h
      exact Bool.noConfusion h
    · exact e
/-- the ends: the last atoms, and the beginning where the empty word is one -/
def endM (t : Tr) (L : Nat) : Nat := if t.nul then L ||| 2 ^ t.sz else L
theorem has_word {t : Tr} {F L : Nat} {fol : List Nat} (A : Auto t F L fol) (w : List Nm) : 0 < (w.foldl (rdM t.ats (fol ++ [F])) (2 ^ t.sz) &&& endM t L) ↔ t.L w := by
  rw [pos_bit, word_iff]
  refine exists_congr fun r => ?_
  rw [Nat.testBit_and, Bool.and_eq_true, rd_bits A (T := fun _ => True) w (2 ^ t.sz) (fun p => p = t.sz) (fun q => by rw [Nat.testBit_two_pow, decide_eq_true_iff]; exact eq_comm) r]
  refine and_congr_right fun hr => ?_
  unfold endM
  have hL : L.testBit r = true ↔ r < t.sz ∧ t.Lst 0 r := by
    rw [A.lst]
    exact ⟨fun z => ⟨by have := (lst_in t _ _ z).2; omega, z⟩, fun z => z.2⟩
  cases hn : t.nul with
  | false =>
    rw [if_neg (by decide), hL]
    exact ⟨.inl, fun z => z.elim id fun z => Bool.noConfusion z.2⟩
  | true =>
    rw [if_pos rfl, Nat.testBit_or, Bool.or_eq_true, hL, Nat.testBit_two_pow, decide_eq_true_iff]
    exact or_congr_right ⟨fun z => ⟨z.symm, rfl⟩, fun z => z.1.symm⟩
end Vg

set_option Elab.async false
set_option linter.all false
set_option maxRecDepth 100000
set_option maxHeartbeats 2000000
/-! Sequences that go round: the least of all turns tells them apart. -/
namespace Vr
open PySem PySem.Spec PyProof.Rows L2 Vl Vp
def dtx (a : List (List Nat)) : List PyData := a.map fun l => PyData.str (tx l)
def wd (a : List (List Nat)) : PyData := .tuple (dtx a)
def ltW (a b : List (List Nat)) : Bool := PySem.W.dataLt (wd a) (wd b)
theorem key_inj : ∀ {a b : List (List Nat)}, PySem.W.keyToksAll (dtx a) = PySem.W.keyToksAll (dtx b) → a = b
  | [], [], _ => rfl
  | [], x :: r, h => by
    unfold dtx at h
    simp only [List.map_nil, List.map_cons, PySem.W.keyToksAll] at h
    cases List.cons.inj h |>.1
  | x :: r, [], h => by
    unfold dtx at h
    simp only [List.map_nil, List.map_cons, PySem.W.keyToksAll] at h
    cases List.cons.inj h |>.1
  | x :: r, y :: t, h => by
    unfold dtx at h
    simp only [List.map_cons, PySem.W.keyToksAll, PySem.W.keyToks, List.cons_append, List.nil_append] at h
    obtain ⟨_, h⟩ := List.cons.inj h
    obtain ⟨h1, h2⟩ := List.cons.inj h
    have e1 : x = y := Sum.inr.inj h1
    have e2 : r = t := key_inj h2
    rw [e1, e2]
theorem lt_irr (a : List (List Nat)) : ltW a a = false := PyProof.Rows.lex_irrefl (O := itemOrd) _
theorem lt_trans {a b c : List (List Nat)} (h1 : ltW a b = true) (h2 : ltW b c = true) : ltW a c = true := PyProof.Rows.lex_trans (O := itemOrd) _ _ _ h1 h2
theorem lt_total {a b : List (List Nat)} (h1 : ltW a b = false) (h2 : ltW b a = false) : a = b := by
  have := PyProof.Rows.lex_total (O := itemOrd) _ _ h1 h2
  unfold wd at this
  rw [PySem.W.keyToks, PySem.W.keyToks] at this
  exact key_inj this
theorem le_trans {a b c : List (List Nat)} (h1 : ltW b a = false) (h2 : ltW c b = false) : ltW c a = false := by
  cases e : ltW c a with
  | false => rfl
  | true =>
    rcases PyProof.Rows.lex_negTrans (O := itemOrd) (PySem.W.keyToks (wd c)) (PySem.W.keyToks (wd b)) (PySem.W.keyToks (wd a)) e with h | h
    · exact absurd h2 (by rw [show ltW c b = true from h]; decide)
    · exact absurd h1 (by rw [show ltW b a = true from h]; decide)
/-- begun elsewhere -/
def rot {α : Type} (a : List α) (k : Nat) : List α := a.drop k ++ a.take k
theorem rot_zero {α : Type} (a : List α) : rot a 0 = a := by
  unfold rot
  rw [List.take_zero, List.append_nil, List.drop_zero]
theorem rot_len {α : Type} (a : List α) (k : Nat) : (rot a k).length = a.length := by
  unfold rot
  rw [List.length_append, List.length_drop, List.length_take]
  omega
theorem rot_at {α : Type} {a : List α} {k i : Nat} (hk : k ≤ a.length) (hi : i < a.length) : (rot a k)[i]? = a[(i + k) % a.length]? := by
  unfold rot
  by_cases h : i < a.length - k
  · rw [List.getElem?_append_left (by rw [List.length_drop]; exact h), List.getElem?_drop, Nat.mod_eq_of_lt (by omega), Nat.add_comm]
  · rw [List.getElem?_append_right (by rw [List.length_drop]; omega), List.length_drop, List.getElem?_take_of_lt (by omega), Nat.mod_eq_sub_mod (by omega), Nat.mod_eq_of_lt (by omega)]
    congr 1
    omega
theorem rot_rot {α : Type} {a : List α} {k j : Nat} (hk : k < a.length) (hj : j < a.length) : rot (rot a k) j = rot a ((k + j) % a.length) := by
  refine List.ext_getElem? fun i => ?_
  have hn : (k + j) % a.length < a.length := Nat.mod_lt _ (by omega)
  by_cases hi : i < a.length
  · rw [rot_at (by rw [rot_len]; omega) (by rw [rot_len]; exact hi), rot_len, rot_at (by omega) (Nat.mod_lt _ (by omega)), rot_at (by omega) hi, Nat.mod_add_mod, Nat.add_mod_mod]
    congr 2
    omega
  · rw [List.getElem?_eq_none (by rw [rot_len, rot_len]; omega), List.getElem?_eq_none (by rw [rot_len]; omega)]
theorem rot_back {α : Type} {a : List α} {k : Nat} (hk : k < a.length) : rot (rot a k) ((a.length - k) % a.length) = a := by
  rw [rot_rot hk (Nat.mod_lt _ (by omega)), Nat.add_mod_mod, show k + (a.length - k) = a.length by omega, Nat.mod_self, rot_zero]
/-- the least of the turns 0 .. k -/
def lt1 (a : List (List Nat)) : Nat → List (List Nat)
  | 0 => a
  | k + 1 => if ltW (rot a (k + 1)) (lt1 a k) = true then rot a (k + 1) else lt1 a k
theorem lt1_turn (a : List (List Nat)) : ∀ k, ∃ j, j ≤ k ∧ lt1 a k = rot a j
  | 0 => ⟨0, by omega, (rot_zero a).symm⟩
  | k + 1 => by
    obtain ⟨j, h1, h2⟩ := lt1_turn a k
    unfold lt1
    by_cases h : ltW (rot a (k + 1)) (lt1 a k) = true
    · rw [if_pos h]
      exact ⟨k + 1, by omega, rfl⟩
    · rw [if_neg h]
      exact ⟨j, by omega, h2⟩
theorem lt1_least (a : List (List Nat)) : ∀ k j, j ≤ k → ltW (rot a j) (lt1 a k) = false
  | 0, j, h => by
    obtain rfl : j = 0 := by omega
    rw [rot_zero]
    exact lt_irr a
  | k + 1, j, h => by
    unfold lt1
    by_cases g : ltW (rot a (k + 1)) (lt1 a k) = true
    · rw [if_pos g]
      by_cases e : j = k + 1
      · rw [e]
        exact lt_irr _
      · refine le_trans (b := lt1 a k) ?_ (lt1_least a k j (by omega))
        cases z : ltW (lt1 a k) (rot a (k + 1)) with
        | false => rfl
        | true =>
          have := lt_trans z g
          rw [lt_irr] at this
          cases this
    · rw [if_neg g]
      by_cases e : j = k + 1
      · rw [e]
        exact Bool.eq_false_iff.mpr g
      · exact lt1_least a k j (by omega)
def least (a : List (List Nat)) : List (List Nat) := lt1 a (a.length - 1)
theorem lt1_len (a : List (List Nat)) (k : Nat) : (lt1 a k).length = a.length := by
  obtain ⟨j, _, h⟩ := lt1_turn a k
  rw [h, rot_len]
theorem least_len (a : List (List Nat)) : (least a).length = a.length := lt1_len _ _
def Turn (a b : List (List Nat)) : Prop := ∃ k, k < a.length ∧ rot a k = b
theorem Turn.sub {a b : List (List Nat)} (h : Turn a b) : ltW (least b) (least a) = false := by
  obtain ⟨k, hk, rfl⟩ := h
  obtain ⟨j, hj, e⟩ := lt1_turn (rot a k) ((rot a k).length - 1)
  rw [rot_len] at hj
  have e2 : least (rot a k) = rot a ((k + j) % a.length) := e.trans (rot_rot hk (by omega))
  rw [e2]
  have := Nat.mod_lt (k + j) (show 0 < a.length by omega)
  exact lt1_least a _ _ (by omega)
theorem Turn.symm {a b : List (List Nat)} (h : Turn a b) : Turn b a := by
  obtain ⟨k, hk, rfl⟩ := h
  exact ⟨(a.length - k) % a.length, by rw [rot_len]; exact Nat.mod_lt _ (by omega), rot_back hk⟩
theorem least_iff {a b : List (List Nat)} (ha : 1 ≤ a.length) (hb : 1 ≤ b.length) : least a = least b ↔ Turn a b := by
  constructor
  · intro h
    obtain ⟨i, hi, e1⟩ := lt1_turn a (a.length - 1)
    obtain ⟨j, hj, e2⟩ := lt1_turn b (b.length - 1)
    have e : rot a i = rot b j := e1.symm.trans (h.trans e2)
    have hl : a.length = b.length := by
      have := congrArg List.length e
      rw [rot_len, rot_len] at this
      exact this
    have hb2 := rot_back (a := b) (k := j) (by omega)
    rw [← e, rot_rot (a := a) (by omega) (by rw [hl]; exact Nat.mod_lt _ (by omega))] at hb2
    exact ⟨_, Nat.mod_lt _ (by omega), hb2⟩
  · intro h
    exact lt_total h.symm.sub h.sub
/-- compared as data -/
theorem alike_dtx : ∀ a b : List (List Nat), PySem.W.alikeAll (dtx a) (dtx b) = true
  | [], _ => by
    unfold dtx
    rw [List.map_nil, PySem.W.alikeAll]
  | x :: r, [] => by
    unfold dtx
    rw [List.map_nil, List.map_cons, PySem.W.alikeAll]
  | x :: r, y :: t => by
    have := alike_dtx r t
    unfold dtx at *
    rw [List.map_cons, List.map_cons, PySem.W.alikeAll, this, PySem.W.alike]
    rfl
theorem alike_wd (a b : List (List Nat)) : PySem.W.alike (wd a) (wd b) = true := by
  unfold wd
  rw [PySem.W.alike]
  exact alike_dtx a b
theorem dep_dtx : ∀ a : List (List Nat), PyData.depthAll (dtx a) = 0
  | [] => rfl
  | x :: r => by
    show max 0 (PyData.depthAll (dtx r)) = 0
    rw [dep_dtx r]
    rfl
theorem dep_wd (a : List (List Nat)) : (wd a).depth ≤ 1 := by
  show PyData.depthAll (dtx a) + 1 ≤ 1
  rw [dep_dtx]
  omega
theorem dpa_vtx {K : PySem.W.Frag} {H : Hp} : ∀ a : List (List Nat), DpAll K H (vtx a) (dtx a)
  | [] => .nil
  | x :: r => .cons (.str _) (dpa_vtx r)
theorem dp_wd {K : PySem.W.Frag} {H : Hp} {p : Addr} {a : List (List Nat)} (h : SqT K H p (vtx a)) : Dp K H (.ref p) (wd a) := .tup h (dpa_vtx a)
theorem vtx_inj {a b : List (List Nat)} (h : vtx a = vtx b) : a = b := by
  have : ∀ x y : List Nat, V.str (tx x) = V.str (tx y) → x = y := fun x y e => tx_inj (V.str.inj e)
  exact List.map_inj_right this |>.mp h
theorem vtx_rot (a : List (List Nat)) (k : Nat) : vtx (rot a k) = (vtx a).drop k ++ (vtx a).take k := by
  unfold rot
  rw [vtx_app, vtx_drop, vtx_take]
theorem vtx_rev (a : List (List Nat)) : (vtx a).reverse = vtx a.reverse := List.map_reverse.symm
end Vr

set_option Elab.async false
set_option linter.all false
set_option maxRecDepth 100000
set_option maxHeartbeats 2000000
/-! Tuples and lists of texts compared. -/
namespace Vda
open PySem PySem.Spec PyProof.Rows L2 Vl Evl Vp Vr
/-- texts of true signs -/
def Oks (a : List (List Nat)) : Prop := ∀ l ∈ a, ∀ c ∈ l, c < 1114112
theorem oks_nam {a : List (List Nat)} (h : ∀ l ∈ a, nam l) : Oks a := fun l hl c hc => by
  have hs : c ∈ Vp.signs := nam_signs (h l hl) c hc
  have all : ∀ c ∈ Vp.signs, c < 128 := by decide +kernel
  have := all c hs
  omega
theorem oks_cons {l : List Nat} {a : List (List Nat)} (h : ∀ c ∈ l, c < 1114112) (ha : Oks a) : Oks (l :: a) := fun x hx => by
  rcases List.mem_cons.mp hx with rfl | hx
  · exact h
  · exact ha x hx
theorem ok_nam {l : List Nat} (h : nam l) : ∀ c ∈ l, c < 1114112 := oks_nam (a := [l]) (fun x hx => by rw [List.mem_singleton.mp hx]; exact h) l List.mem_cons_self
theorem oks_nil : Oks [] := fun _ h => nomatch h
theorem lay_ok : ∀ a : List (List Nat), Oks a → PyData.canLayAll0 (dtx a) = true
  | [], _ => rfl
  | x :: r, h => by
    have hr := lay_ok r fun l hl => h l (List.mem_cons_of_mem _ hl)
    have hx : PyData.canLay0 (PyData.str (tx x)) = true := by
      show PyData.strOk (tx x) = true
      unfold PyData.strOk
      rw [← Array.all_toList, tx_list, List.all_eq_true]
      exact fun c hc => decide_eq_true (h x List.mem_cons_self c hc)
    show (PyData.canLay0 (PyData.str (tx x)) && PyData.canLayAll0 (dtx r)) = true
    rw [hx, hr]
    rfl
theorem sh_w {a : List (List Nat)} (h : Oks a) : SeqAt.shaped (wd a) = true := shaped_of (lay_ok a h) (by have := dep_wd a; omega)
def wls (a : List (List Nat)) : PyData := .list (dtx a)
theorem sh_l {a : List (List Nat)} (h : Oks a) : SeqAt.shaped (wls a) = true := shaped_of (lay_ok a h) (by
  show PyData.depthAll (dtx a) + 1 ≤ 64
  rw [dep_dtx]
  omega)
theorem eq_w (a b : List (List Nat)) : PyData.eqv (wd a) (wd b) = decide (a = b) := by
  by_cases h : a = b
  · rw [decide_eq_true h, h]
    exact PySem.W.eqv_refl_alike _ (alike_wd b b)
  · rw [decide_eq_false h]
    cases e : PyData.eqv (wd a) (wd b) with
    | false => rfl
    | true =>
      have k := (PySem.W.toks_eqv (wd a) (wd b) (alike_wd a b)).1 e
      unfold wd at k
      rw [PySem.W.keyToks, PySem.W.keyToks] at k
      exact absurd (key_inj k) h
theorem eq_l (a b : List (List Nat)) : PyData.eqv (wls a) (wls b) = decide (a = b) := by
  rw [← eq_w]
  unfold wls wd
  rw [PyData.eqv, PyData.eqv]
theorem dp_l {K : PySem.W.Frag} {H : Hp} {p : Addr} {a : List (List Nat)} (h : SqL K H p (vtx a)) : Dp K H (.ref p) (wls a) := .lst h (dpa_vtx a)
section
variable {K : PySem.W.Frag} {H : Hp} {p q : Addr} {a b : List (List Nat)}
theorem rv_eqT (h : SqT K H p (vtx a)) (h2 : SqT K H q (vtx b)) (oa : Oks a) (ob : Oks b) : RV (rEqD K) (.ref p) (.ref q) H (.bl (decide (a = b))) := fun H1 e1 Q q1 => by
  refine ⟨wd a, wd b, dp_wd (ex_t e1 h), dp_wd (ex_t e1 h2), sh_w oa, sh_w ob, ?_⟩
  rw [eq_w]
  exact q1 H1 (Ex.refl _)
theorem rv_neT (h : SqT K H p (vtx a)) (h2 : SqT K H q (vtx b)) (oa : Oks a) (ob : Oks b) : RV (rNeD K) (.ref p) (.ref q) H (.bl (!decide (a = b))) := fun H1 e1 Q q1 => by
  refine ⟨wd a, wd b, dp_wd (ex_t e1 h), dp_wd (ex_t e1 h2), sh_w oa, sh_w ob, ?_⟩
  rw [eq_w]
  exact q1 H1 (Ex.refl _)
theorem rv_eqL (h : SqL K H p (vtx a)) (h2 : SqL K H q (vtx b)) (oa : Oks a) (ob : Oks b) : RV (rEqD K) (.ref p) (.ref q) H (.bl (decide (a = b))) := fun H1 e1 Q q1 => by
  refine ⟨wls a, wls b, dp_l (ex_l e1 h), dp_l (ex_l e1 h2), sh_l oa, sh_l ob, ?_⟩
  rw [eq_l]
  exact q1 H1 (Ex.refl _)
theorem rv_neL (h : SqL K H p (vtx a)) (h2 : SqL K H q (vtx b)) (oa : Oks a) (ob : Oks b) : RV (rNeD K) (.ref p) (.ref q) H (.bl (!decide (a = b))) := fun H1 e1 Q q1 => by
  refine ⟨wls a, wls b, dp_l (ex_l e1 h), dp_l (ex_l e1 h2), sh_l oa, sh_l ob, ?_⟩
  rw [eq_l]
  exact q1 H1 (Ex.refl _)
end
end Vda

set_option Elab.async false
set_option linter.all false
set_option maxRecDepth 100000
set_option maxHeartbeats 2000000
/-! [k for k in d if ..], a dict locked meanwhile; tuple([..]). -/
namespace Vlk
open PySem PySem.Spec PyProof.Rows L2 Evl
/-- H, the dict at d locked -/
abbrev Lk (H : Hp) (d : Addr) (od : Obj) (kvs : List (Key × V)) : Hp := upd H d (.frz od (.dK kvs))
section
variable {K : PySem.W.Frag} {σ : L2.St} {H : Hp}
theorem lk_get {d b : Addr} {od : Obj} {kvs : List (Key × V)} {o : HO} (h : H b = some o) (hn : b ≠ d) : Lk H d od kvs b = some o := by
  show upd H d _ b = _
  rw [upd_ne hn]
  exact h
theorem dget_frz {d : Addr} {od : Obj} {kvs : List (Key × V)} {k : Key} (h : H d = some (.frz od (.dK kvs))) : DGet H d (kV k) (valV kvs k) := .inl ⟨kvs, k, .inr ⟨od, h⟩, rfl, rfl⟩
/-- the keys of d for which the test says yes -/
theorem el_keys {td : TE} {tt : TT} {j : Nat} {d : Addr} {kvs : List (Key × V)} (c : Key × V → Bool) (hd : H d = some (.dK kvs)) (hz : kvs.length ≤ 40000) (hw : ∀ x, wipe ((wipe σ [j]).set j (some x)) [j] = wipe σ [j])
    (hj : ∀ x, ((wipe σ [j]).set j (some x))[j]? = some (some x))
    (htd : ∀ H1 od, Ex H H1 → Ev td σ (Lk H1 d od kvs) (.ref d))
    (ht : ∀ (H1 : Hp) (od : Obj) (i : Nat) (kv : Key × V), Ex H H1 → kvs[i]? = some kv → EvT tt ((wipe σ [j]).set j (some (kV kv.1))) (Lk H1 d od kvs) (c kv)) :
    EvL (tLockE (tLc (iKeys td) (gName j) tt (tVar j) [j])) σ H ((kvs.filter c).map fun kv => kV kv.1) := by
  intro H1 e1 Q q
  refine ⟨d, .dK kvs, e1 _ _ hd, trivial, fun od => ?_⟩
  have hlk : (Lk H1 d od kvs) d = some (.frz od (.dK kvs)) := upd_same
  refine htd H1 od e1 _ (Ex.refl _) _ fun H2 e2 => ?_
  refine ⟨d, od, rfl, .inl ⟨kvs, e2 _ _ hlk, fun D nD => ?_⟩⟩
  have ndd : D ≠ d := fun z => by rw [z, e2 _ _ hlk] at nD; cases nD
  have hn2 : (Lk H1 d od kvs) D = none := fresh_back e2 nD
  have hn1 : H1 D = none := by
    have := hn2
    rw [show (Lk H1 d od kvs) D = H1 D from upd_ne ndd] at this
    exact this
  refine lc_it walk_keys (fun i H3 => Ex (Lk H1 d od kvs) H3 ∧ H3 D = some (.lst (((kvs.take i).filter c).map fun kv => kV kv.1))) ⟨Ex.mut e2 hn2, by rw [List.take_zero]; exact upd_same⟩ (fun i H3 _ h => h.1 _ _ hlk) ?_ ?_
  · rintro i x H3 H4 hi ⟨e3, hD⟩ ⟨rfl, k, v, hk, rfl⟩
    have htk : kvs.take (i + 1) = kvs.take i ++ [(k, v)] := by rw [List.take_succ, hk]; rfl
    refine ⟨hw _, ?_⟩
    have hc := ht H1 od i (k, v) e1 hk
    refine hc H4 e3 _ fun H5 e5 => ?_
    cases hcv : c (k, v) with
    | true =>
      rw [if_pos rfl]
      refine ⟨kV k, hj _, _, e5 _ _ hD, ?_, Ex.mut (e3.trans e5) hn2, ?_⟩
      · refine sz_lt ?_
        rw [List.length_map]
        have := List.length_filter_le c (kvs.take i)
        rw [List.length_take] at this
        omega
      · rw [upd_same, htk, List.filter_append, List.map_append, List.filter_cons_of_pos hcv]
        rfl
    | false =>
      rw [if_neg (by decide)]
      refine ⟨e3.trans e5, ?_⟩
      rw [e5 _ _ hD, htk, List.filter_append, List.filter_cons_of_neg (by rw [hcv]; decide), List.filter_nil, List.append_nil]
  · rintro H3 ⟨e3, hD⟩
    rw [List.take_length] at hD
    have ne : D ≠ d := ndd
    refine ⟨e3 _ _ hlk, q D _ hn1 (fun b o hb => ?_) (by rw [upd_ne ne]; exact hD)⟩
    by_cases hbd : b = d
    · rw [hbd, upd_same]
      rw [hbd, e1 _ _ hd] at hb
      exact hb
    · rw [upd_ne hbd]
      exact e3 _ _ (lk_get hb hbd)
/-- tuple(a new list) -/
theorem eu_tupleL {te : TE} {xs : List V} (h : EvL te σ H xs) : EvU (tCB (fun vs H Q => ∃ p ys, vs = [.ref p] ∧ ((SqL K H p ys ∧ ∀ l, H l = none → Q (.ref l) (upd H l (.tup ys))) ∨ (SqT K H p ys ∧ Q (.ref p) H))) (tCons te tNil)) σ H xs := by
  intro H1 e1 Q q
  refine h H1 e1 _ fun p H2 hp e2 h2 => ?_
  exact ⟨p, xs, rfl, .inl ⟨sq_of h2, fun l hl => q l _ (fresh_back e2 hl) (e2.trans (Ex.new hl)) upd_same⟩⟩
theorem ev_fld {te : TE} {o C dx : Addr} {fs : List (Str × V)} {f : Str} {v : V} (h : Ev te σ H (.ref o)) (ho : H o = some (.ins C dx fs)) (c : Cls K C) (n : NoAttr K C f) (hl : fs.lookup f = some v) : Ev (tFld K te f) σ H v :=
  fun H1 e Q q => h H1 e _ fun H2 e2 => ⟨o, C, dx, fs, v, rfl, (e.trans e2) _ _ ho, c, n, hl, q H2 e2⟩
theorem dget_ex {H' : Hp} {a : Addr} {y : V} {r : Option V} (e : Ex H H') (h : DGet H a y r) : DGet H' a y r := by
  rcases h with ⟨kvs, k, h1, h2, h3⟩ | ⟨kvs, k, b, h1, h2, h3, h4⟩
  · exact .inl ⟨kvs, k, ex_rd e h1, h2, h3⟩
  · exact .inr ⟨kvs, k, b, ex_rd e h1, h2, e _ _ h3, h4⟩
theorem ev_dget {td ty : TE} {d : Addr} {y v : V} (h : Ev td σ H (.ref d)) (h2 : Ev ty σ H y) (hg : DGet H d y (some v)) : Ev (tDGet td ty) σ H v :=
  fun H1 e Q q => h H1 e _ fun H2 e2 => h2 H2 (e.trans e2) _ fun H3 e3 => ⟨d, v, rfl, dget_ex ((e.trans e2).trans e3) hg, q H3 (e2.trans e3)⟩
end
end Vlk

set_option Elab.async false
set_option linter.all false
set_option maxRecDepth 100000
set_option maxHeartbeats 2000000
/-! What comes to data: whatever objects hold it. -/
namespace Ve
open PySem PySem.Spec PyProof.Rows L2 Vl Evl Vp Vr Vc Vlk Vda
mutual
theorem dp_ex {K : PySem.W.Frag} {H H' : Hp} (e : Ex H H') : ∀ {v : V} {d : PyData}, Dp K H v d → Dp K H' v d
  | _, _, .non => .non
  | _, _, .bl b => .bl b
  | _, _, .int i => .int i
  | _, _, .str x => .str x
  | _, _, .lst h hs => .lst (ex_l e h) (dpa_ex e hs)
  | _, _, .tup h hs => .tup (ex_t e h) (dpa_ex e hs)
theorem dpa_ex {K : PySem.W.Frag} {H H' : Hp} (e : Ex H H') : ∀ {v : List V} {d : List PyData}, DpAll K H v d → DpAll K H' v d
  | _, _, .nil => .nil
  | _, _, .cons h hs => .cons (dp_ex e h) (dpa_ex e hs)
end
def EvD (K : PySem.W.Frag) (te : TE) (σ : L2.St) (H : Hp) (d : PyData) : Prop := ∀ H1, Ex H H1 → ∀ Q : VK, (∀ v H2, Ex H1 H2 → Dp K H2 v d → Q v H2) → te σ H1 Q
def EvDA (K : PySem.W.Frag) (ta : TA) (σ : L2.St) (H : Hp) (ds : List PyData) : Prop := ∀ H1, Ex H H1 → ∀ Q : List V → Hp → Prop, (∀ vs H2, Ex H1 H2 → DpAll K H2 vs ds → Q vs H2) → ta σ H1 Q
def SpD (K : PySem.W.Frag) (sp : Sp) (vs : List V) (H : Hp) (d : PyData) : Prop := ∀ H1, Ex H H1 → ∀ Q : VK, (∀ v H2, Ex H1 H2 → Dp K H2 v d → Q v H2) → ∀ E : XK, sp vs H1 Q E
section
variable {K : PySem.W.Frag} {σ : L2.St} {H H' : Hp} {te ta tb : TE} {t : TA} {d e : PyData} {v : V}
theorem EvD.mono (x : Ex H H') (h : EvD K te σ H d) : EvD K te σ H' d := fun H1 a Q q => h H1 (x.trans a) Q q
theorem ed_ev (h : Ev te σ H v) (hd : Dp K H v d) : EvD K te σ H d := fun H1 e Q q => h H1 e Q fun H2 e2 => q v H2 e2 (dp_ex (e.trans e2) hd)
theorem ed_str {s : List Nat} (h : Ev te σ H (.str (tx s))) : EvD K te σ H (.str (tx s)) := ed_ev h (.str _)
theorem ed_U {xs : List V} {ds : List PyData} (h : EvU te σ H xs) (hd : DpAll K H xs ds) : EvD K te σ H (.tuple ds) := fun H1 e Q q => h H1 e Q fun p H2 _ e2 hp => q _ H2 e2 (.tup (.inl (.inl hp)) (dpa_ex (e.trans e2) hd))
theorem ed_L {xs : List V} {ds : List PyData} (h : EvL te σ H xs) (hd : DpAll K H xs ds) : EvD K te σ H (.list ds) := fun H1 e Q q => h H1 e Q fun p H2 _ e2 hp => q _ H2 e2 (.lst (sq_of hp) (dpa_ex (e.trans e2) hd))
theorem ed_Un {xs : List (List Nat)} (h : EvU te σ H (vtx xs)) : EvD K te σ H (wd xs) := ed_U h (dpa_vtx xs)
theorem ed_Ln {xs : List (List Nat)} (h : EvL te σ H (vtx xs)) : EvD K te σ H (wls xs) := ed_L h (dpa_vtx xs)
theorem eda_nil : EvDA K tNil σ H [] := fun H1 _ Q q => q [] H1 (Ex.refl _) .nil
theorem eda_cons {ds : List PyData} (h : EvD K te σ H d) (hr : EvDA K t σ H ds) : EvDA K (tCons te t) σ H (d :: ds) := fun H1 e Q q =>
  h H1 e _ fun v H2 e2 h2 => hr H2 (e.trans e2) _ fun vs H3 e3 h3 => q _ H3 (e2.trans e3) (.cons (dp_ex e3 h2) h3)
theorem dpa_len : ∀ {vs : List V} {ds : List PyData}, DpAll K H vs ds → vs.length = ds.length
  | _, _, .nil => rfl
  | _, _, .cons h hs => by
    rw [List.length_cons, List.length_cons, dpa_len hs]
theorem ed_tup {ds : List PyData} (h : EvDA K t σ H ds) (hl : ds.length ≤ 100000) : EvD K (tTup t) σ H (.tuple ds) := fun H1 e Q q =>
  h H1 e _ fun vs H2 e2 h2 => ⟨by rw [dpa_len h2]; exact sz_of hl, fun p hp => q _ _ (e2.trans (Ex.new hp)) (.tup (.inl (.inl upd_same)) (dpa_ex (Ex.new hp) h2))⟩
theorem ed_lst {ds : List PyData} (h : EvDA K t σ H ds) (hl : ds.length ≤ 100000) : EvD K (tLst t) σ H (.list ds) := fun H1 e Q q =>
  h H1 e _ fun vs H2 e2 h2 => ⟨by rw [dpa_len h2]; exact sz_of hl, fun p hp => q _ _ (e2.trans (Ex.new hp)) (.lst (sq_of upd_same) (dpa_ex (Ex.new hp) h2))⟩
theorem ev_eqD (h : EvD K ta σ H d) (h2 : EvD K tb σ H e) (s1 : SeqAt.shaped d = true) (s2 : SeqAt.shaped e = true) : Ev (tOp (rEqD K) ta tb) σ H (.bl (PyData.eqv d e)) := fun H1 x Q q =>
  h H1 x _ fun v H2 e2 hv => h2 H2 (x.trans e2) _ fun u H3 e3 hu => ⟨d, e, dp_ex e3 hv, hu, s1, s2, q H3 (e2.trans e3)⟩
theorem ev_neD (h : EvD K ta σ H d) (h2 : EvD K tb σ H e) (s1 : SeqAt.shaped d = true) (s2 : SeqAt.shaped e = true) : Ev (tOp (rNeD K) ta tb) σ H (.bl (!PyData.eqv d e)) := fun H1 x Q q =>
  h H1 x _ fun v H2 e2 hv => h2 H2 (x.trans e2) _ fun u H3 e3 hu => ⟨d, e, dp_ex e3 hv, hu, s1, s2, q H3 (e2.trans e3)⟩
theorem sh_lay (h : SeqAt.shaped d = true) : d.canLay0 = true := by
  unfold SeqAt.shaped at h
  exact (Bool.and_eq_true_iff.mp h).1
/-- the same data: equal -/
theorem ev_same (h : EvD K ta σ H d) (h2 : EvD K tb σ H d) (s : SeqAt.shaped d = true) : Ev (tOp (rEqD K) ta tb) σ H (.bl true) := by
  have := ev_eqD h h2 s s
  rw [SeqAt.eqv_refl d (sh_lay s)] at this
  exact this
theorem ev_unlike (h : EvD K ta σ H d) (h2 : EvD K tb σ H d) (s : SeqAt.shaped d = true) : Ev (tOp (rNeD K) ta tb) σ H (.bl false) := by
  have := ev_neD h h2 s s
  rw [SeqAt.eqv_refl d (sh_lay s)] at this
  exact this
theorem ed_fu {sp : Sp} {E : L2.St → XK} {vs : List V} (h : EvA t σ H vs) (hs : SpD K sp vs H d) : EvD K (tFu sp E t) σ H d := fun H1 e Q q =>
  h H1 e _ fun H2 e2 => hs H2 (e.trans e2) Q (fun v H3 e3 => q v H3 (e2.trans e3)) (E σ)
theorem et_yes : EvT tYes σ H true := fun H1 _ Q q => q H1 (Ex.refl _)
/-- tuple(a list that stands) -/
theorem eu_tupleA {p : Addr} {xs : List V} (h : Ev te σ H (.ref p)) (hx : SqL K H p xs) : EvU (tCB (fun vs H Q => ∃ p ys, vs = [.ref p] ∧ ((SqL K H p ys ∧ ∀ l, H l = none → Q (.ref l) (upd H l (.tup ys))) ∨ (SqT K H p ys ∧ Q (.ref p) H))) (tCons te tNil)) σ H xs := fun H1 e Q q =>
  h H1 e _ fun H2 e2 => ⟨p, xs, rfl, .inl ⟨ex_l (e.trans e2) hx, fun l hl => q l _ (fresh_back e2 hl) (e2.trans (Ex.new hl)) upd_same⟩⟩
theorem ev_lenA {p : Addr} {xs : List V} (h : Ev te σ H (.ref p)) (hx : SqL K H p xs) : Ev (tCB (fun vs H Q => ∃ x n, vs = [x] ∧ LenV K x H n ∧ Q (.int n) H) (tCons te tNil)) σ H (.int (xs.length : Nat)) := fun H1 e Q q =>
  h H1 e _ fun H2 e2 => ⟨.ref p, xs.length, rfl, .inl ⟨xs, ex_l (e.trans e2) hx, rfl⟩, q H2 e2⟩
theorem ev_ixA {p : Addr} {xs : List V} {i : Nat} (h : Ev te σ H (.ref p)) (hx : SqL K H p xs) (hi : xs[i]? = some v) : Ev (tOp (rIxL K) te (tC (.int (i : Nat)))) σ H v := ev_op h ev_c (rv_ixL hx (at_of rfl hi))
/-! comprehensions by their items -/
theorem given_map {α : Type} {ys : List α} (c : α → Bool) (w : α → V) (f : Nat → Bool) (v : Nat → V) (h : ∀ (i : Nat) (y : α), ys[i]? = some y → f i = c y ∧ v i = w y) : ∀ n, n ≤ ys.length → given n f v = ((ys.take n).filter c).map w
  | 0, _ => by rw [List.take_zero]; rfl
  | n + 1, hn => by
    have hlt : n < ys.length := by omega
    have hy : ys[n]? = some ys[n] := List.getElem?_eq_getElem hlt
    obtain ⟨h1, h2⟩ := h n _ hy
    have ih := given_map c w f v h n (by omega)
    have ht : ys.take (n + 1) = ys.take n ++ [ys[n]] := by rw [List.take_succ, hy]; rfl
    rw [ht, List.filter_append, List.map_append]
    cases hc : c ys[n] with
    | true =>
      rw [given_yes (by rw [h1]; exact hc), ih, List.filter_cons_of_pos hc, h2]
      rfl
    | false =>
      rw [given_no (by rw [h1]; exact hc), ih, List.filter_cons_of_neg (by rw [hc]; decide)]
      show _ = _ ++ []
      rw [List.append_nil]
theorem el_lcA {α : Type} {ys : List α} {g : α → V} {a : Addr} {tl : TE} {j : Nat} {vs : List Nat} {tt : TT} (c : α → Bool) (w : α → V) (h : Ev tl σ H (.ref a)) (hx : SqL K H a (ys.map g)) (hz : ys.length ≤ 40000) (hw : ∀ x, wipe ((wipe σ vs).set j (some x)) vs = wipe σ vs)
    (ht : ∀ (y : α) (H1 : Hp), Ex H H1 → y ∈ ys → EvT tt ((wipe σ vs).set j (some (g y))) H1 (c y)) (he : ∀ (y : α) (H1 : Hp), Ex H H1 → y ∈ ys → c y = true → Ev te ((wipe σ vs).set j (some (g y))) H1 (w y)) :
    EvL (tLc (iList K tl) (gName j) tt te vs) σ H ((ys.filter c).map w) := by
  have key := el_lcL (K := K) (σ := σ) (H := H) (te := te) (t := tt) (j := j) (vs := vs) (fun i => match ys[i]? with | some y => c y | none => false) (fun i => match ys[i]? with | some y => w y | none => .non) h hx (by rw [List.length_map]; exact hz) hw
    (fun i x H1 e hi => by
      rw [List.getElem?_map] at hi
      obtain ⟨y, hy, rfl⟩ := Option.map_eq_some_iff.mp hi
      rw [hy]
      exact ht y H1 e (List.mem_of_getElem? hy))
    (fun i x H1 e hi hf => by
      rw [List.getElem?_map] at hi
      obtain ⟨y, hy, rfl⟩ := Option.map_eq_some_iff.mp hi
      rw [hy] at hf ⊢
      exact he y H1 e (List.mem_of_getElem? hy) hf)
  rw [given_map c w _ _ (fun i y hy => by rw [hy]; exact ⟨rfl, rfl⟩) _ (by rw [List.length_map]; exact Nat.le_refl _), List.length_map, List.take_length] at key
  exact key
theorem el_lcM {α : Type} {ys : List α} {g : α → V} {a : Addr} {tl : TE} {j : Nat} {vs : List Nat} (w : α → V) (h : Ev tl σ H (.ref a)) (hx : SqL K H a (ys.map g)) (hz : ys.length ≤ 40000) (hw : ∀ x, wipe ((wipe σ vs).set j (some x)) vs = wipe σ vs)
    (he : ∀ (y : α) (H1 : Hp), Ex H H1 → y ∈ ys → Ev te ((wipe σ vs).set j (some (g y))) H1 (w y)) :
    EvL (tLc (iList K tl) (gName j) tYes te vs) σ H (ys.map w) := by
  have := el_lcA (K := K) (tt := tYes) (te := te) (fun _ => true) w h hx hz hw (fun y H1 _ _ => et_yes) (fun y H1 e hy _ => he y H1 e hy)
  rw [List.filter_eq_self.mpr (fun _ _ => rfl)] at this
  exact this
theorem s_forNUn {D : Ends} {tu : TS} {xs : List V} {tl : TE} {j : Nat} (h : EvU tl σ H xs) (Pv : Addr → Nat → L2.St → Hp → Prop) (h0 : ∀ p H1, H p = none → Ex H H1 → H1 p = some (.tup xs) → Pv p 0 σ H1) (hl : ∀ p i σ' H', i ≤ xs.length → Pv p i σ' H' → SqT K H' p xs)
    (hs : ∀ p i x σ' H', xs[i]? = some x → Pv p i σ' H' → tu { D with nx := Pv p (i + 1), ct := Pv p (i + 1), bk := D.nx } (σ'.set j (some x)) H') (hd : ∀ p σ' H', Pv p xs.length σ' H' → D.nx σ' H') : tFor (iTup K tl) (gName j) tu D σ H :=
  h H (Ex.refl H) _ fun p H1 hp e h1 => ⟨p, rfl, ⟨xs, .inl (.inl h1)⟩, for_tup (Pv p) (h0 p H1 hp e h1) (hl p) (hs p) (hd p)⟩
theorem et_notin {ty td : TE} {d : Addr} {y : V} {o : Option V} (h1 : Ev ty σ H y) (h2 : Ev td σ H (.ref d)) (hg : DGet H d y o) : EvT (tB (tDNotIn ty td)) σ H (!o.isSome) := fun H1 e Q q =>
  h1 H1 e _ fun H2 e2 => h2 H2 (e.trans e2) _ fun H3 e3 => ⟨d, o, rfl, dget_ex ((e.trans e2).trans e3) hg, _, rfl, q H3 (e2.trans e3)⟩
theorem et_in {ty td : TE} {d : Addr} {y : V} {o : Option V} (h1 : Ev ty σ H y) (h2 : Ev td σ H (.ref d)) (hg : DGet H d y o) : EvT (tB (tDIn ty td)) σ H o.isSome := fun H1 e Q q =>
  h1 H1 e _ fun H2 e2 => h2 H2 (e.trans e2) _ fun H3 e3 => ⟨d, o, rfl, dget_ex ((e.trans e2).trans e3) hg, _, rfl, q H3 (e2.trans e3)⟩
theorem et_truL {p : Addr} {xs : List V} (h : Ev te σ H (.ref p)) (hx : SqL K H p xs) : EvT (fun σ H Q => te σ H fun x H' => ∃ k, TruV K x H' k ∧ Q k H') σ H (!xs.isEmpty) := fun H1 e Q q =>
  h H1 e _ fun H2 e2 => ⟨_, .inl ⟨xs, ex_l (e.trans e2) hx, rfl⟩, q H2 e2⟩
theorem q_forNUn {D : Ends} {tu tz : TS} {xs : List V} {tl : TE} {j : Nat} (h : EvU tl σ H xs) (Pv : Addr → Nat → L2.St → Hp → Prop) (h0 : ∀ p H1, H p = none → Ex H H1 → H1 p = some (.tup xs) → Pv p 0 σ H1) (hl : ∀ p i σ' H', i ≤ xs.length → Pv p i σ' H' → SqT K H' p xs)
    (hs : ∀ p i x σ' H', xs[i]? = some x → Pv p i σ' H' → tu { D with nx := Pv p (i + 1), ct := Pv p (i + 1), bk := tz D } (σ'.set j (some x)) H') (hd : ∀ p σ' H', Pv p xs.length σ' H' → tz D σ' H') : tSeq (tFor (iTup K tl) (gName j) tu) tz D σ H :=
  h H (Ex.refl H) _ fun p H1 hp e h1 => ⟨p, rfl, ⟨xs, .inl (.inl h1)⟩, for_tup (Pv p) (h0 p H1 hp e h1) (hl p) (hs p) (hd p)⟩
end
end Ve

set_option Elab.async false
set_option linter.all false
set_option maxRecDepth 100000
set_option maxHeartbeats 2000000
/-! enumerate(x), for .. in x: x a list or a tuple. -/
namespace PySem
open Sem (wp)
theorem vmeets_enumerate {v : Value} {o : Obj} {H : Heap → Prop} (B : Begins v o H) :
    Meets (Builtin.«enumerate.__new__» ⟨[.type "enumerate", v], []⟩) (fun _ R s => H s.heap ∧
      R (.ok (.ret (.ref (s.heap.push o).objs.size))) { s with heap := (s.heap.push o).push { cls := .type "enumerate", data := .fields #[.none, .bool false, .ref s.heap.objs.size, rawInt 0, .none, .none] } }) :=
  .of_wp fun prog w A R s h => by
    obtain ⟨hp, g, d, tk, os⟩ := s; obtain ⟨h1, h⟩ := h
    have hsub := sub_enumerate
    have q1 : ∀ {A' : Around} {E : Value → Shared → Prop} {Q : Value → Shared → Prop}, Q (.ref hp.objs.size) ⟨hp.push o, g, d, tk, os⟩ → wpAny (model prog w) A' (pyIter v) Q E ⟨hp, g, d, tk, os⟩ :=
      fun q => B.iter prog w _ _ ⟨hp, g, d, tk, os⟩ _ h1 q
    wp_walk using q1
    refine wpAny_stack_any fun st => wpAny_pure ?_
    split
    · rename_i c _ _ _ _ _
      cases (c == Value.type "enumerate")
      · wp_walk using q1
        exact ⟨_, rfl, h⟩
      · wp_walk using q1
        exact ⟨_, rfl, h⟩
    · wp_walk using q1
      exact ⟨_, rfl, h⟩
section
variable {prog : Program} {w : World} {A : Around} {E : Value → Shared → Prop} {s : Shared}
theorem vcall_enumerate {v : Value} {o : Obj} {H : Heap → Prop} {Q : Value → Shared → Prop} (B : Begins v o H) (h1 : H s.heap)
    (h : ∀ h', IsEnum h' (s.heap.objs.size + 1) s.heap.objs.size 0 .none → h'.get? s.heap.objs.size = some o → h'.objs.size = s.heap.objs.size + 2 →
      (∀ b o, s.heap.get? b = some o → h'.get? b = some o) → Q (.ref (s.heap.objs.size + 1)) { s with heap := h' }) :
    wpAny (model prog w) A (call (.type "enumerate") [v]) Q E s := by
  refine callType_new F.called_enumerate (by decide) (F.typeCall_enumerate_1 _) (F.newCall_enumerate_1 _) (fun obj => F.args_object_init_2 obj _) F.entry_enumerate_new
    (vmeets_enumerate B) ⟨h1, ?_⟩
  have hz : (s.heap.push o).objs.size = s.heap.objs.size + 1 := Heap.size_push ..
  show _ ∧ _
  rw [hz]
  have he : IsEnum ((s.heap.push o).push { cls := .type "enumerate", data := .fields #[.none, .bool false, .ref s.heap.objs.size, rawInt 0, .none, .none] }) (s.heap.objs.size + 1) s.heap.objs.size 0 .none := by
    have := Heap.get?_push_size (s.heap.push o) (o := { cls := .type "enumerate", data := .fields #[.none, .bool false, .ref s.heap.objs.size, rawInt 0, .none, .none] }) rfl
    rw [hz] at this; exact this
  refine ⟨⟨_, he, rfl⟩, h _ he (Heap.get?_push_of_some _ (Heap.get?_push_size _ B.free)) (by rw [Heap.size_push, hz]) fun b o x => Heap.get?_push_of_some _ (Heap.get?_push_of_some _ x)⟩
end
end PySem
namespace Ven
open PySem PySem.Spec PyProof.Rows L2 Evl Ve
/-- the tuple at a, each item in a new pair -/
def IteT (K : PySem.W.Frag) (a : Addr) : It :=
  ⟨fun i H => ∃ (xs : List V) (x : V), SqT K H a xs ∧ xs[i]? = some x, fun i H v H' => ∃ T x, v = .ref T ∧ H T = none ∧ H' = upd H T (.tup [.int (i : Nat), x]) ∧ ∀ xs, SqT K H a xs → xs[i]? = some x, fun i H => ∃ xs : List V, SqT K H a xs ∧ xs.length ≤ i⟩
theorem turn_enumT {P : Program} {w : World} {K : PySem.W.Frag} {elts : List Expr} {kk : Nat} {tpos : Pos} (a e it : Addr) :
    Turn P w K (.Tuple elts kk tpos) (IteT K a) [e, it] e (fun i h => (∃ old, IsEnum h e it ((i : Nat) : Int) old) ∧ h.IsTupleIter it a i ∧ e ≠ it) where
  mem := by simp
  obj := fun i h st b hb => by
    obtain ⟨⟨old, he⟩, ⟨o, ho, hc, hd⟩, _⟩ := st
    have e' : b = e ∨ b = it := by simpa using hb
    rcases e' with z | z
    · rw [z]; exact ⟨_, he, fun v q => nomatch q⟩
    · rw [z]; exact ⟨o, ho, fun v q => by rw [hd] at q; cases q⟩
  keep := fun i h h' st k => let ⟨⟨old, he⟩, hi, hne⟩ := st; ⟨⟨old, k e (by simp) _ he⟩, hi.at fun o q => k it (by simp) o q, hne⟩
  item := by
    intro X hP hw hK hc i pins s σ H E I hf st hg
    subst hP hw hK
    obtain ⟨⟨old, he⟩, hit, hne⟩ := st
    obtain ⟨xs, x, hq, hx⟩ := hg
    obtain ⟨its, rv, p, hz⟩ := I.tuple hq
    obtain ⟨u, hu, ru⟩ := rv.get hx
    have hel : e < s.heap.objs.size := Heap.lt_size he
    have hil : it < s.heap.objs.size := by obtain ⟨_, q, _⟩ := hit; exact Heap.lt_size q
    have pt : s.heap.IsTuple a its.toArray := p
    have hta : a ≠ it := fun z => by
      obtain ⟨o1, h1, c1, d1⟩ := hit
      obtain ⟨o2, h2, c2, _⟩ := pt
      rw [z, h1] at h2
      cases h2
      rw [c1] at c2
      exact absurd c2 (by decide)
    have hea : e ≠ a := fun z => by
      obtain ⟨o2, h2, c2, _⟩ := pt
      rw [← z] at h2
      have h3 := he
      unfold IsEnum at h3
      rw [h3] at h2
      cases h2
      have c3 : Value.type "enumerate" = Value.type "tuple" := c2
      injection c3 with c4
      exact absurd c4 (by decide)
    have hh1 : X.A.in1.handled = none := I.ok.hd hc
    refine wpAny_pyNext_enum_itemD (i := i) (Draws.tuple hh1 it a hta its.toArray) he ⟨hit, pt⟩ (by
      have := (List.getElem?_eq_some_iff.mp hu).1
      simpa using this) hne (by simp [hne, hea]) fun y h' tk hy ho hs' hT hsz hk => ?_
    have hyu : y = u := by
      have : its.toArray[i]? = some u := by simpa using hu
      rw [this] at hy
      exact (Option.some.inj hy).symm
    subst hyu
    obtain ⟨hit', _⟩ := hs'
    refine ⟨_, rfl, wpAny_letOwnedTupleGo_enum (s := { s with heap := h', toks := tk + 1 }) ho fun h'' he' sb => ?_⟩
    have hT2 : h''.get? s.heap.objs.size = some { cls := .type "tuple", data := .seq #[.int i tk, y] } := (sb.2 _ (Nat.ne_of_gt hel)).trans hT
    have new : ObjOk X.prog X.w (upd H s.heap.objs.size (.tup [.int (i : Nat), x])) h'' s.heap.objs.size (.tup [.int (i : Nat), x]) :=
      ⟨by show 2 ≤ sizeLine; decide, [.int i tk, y], .cons ⟨_, rfl⟩ (.cons ru .nil), ⟨_, hT2, rfl, _, rfl⟩⟩
    have I1 : Inv X pins σ (upd H s.heap.objs.size (.tup [.int (i : Nat), x])) { s with heap := h'', toks := tk + 1 } :=
      I.turnedNew (ch := [e, it]) (fun b ob hb q => (sb.2 b (fun z => hb (by simp [z]))).trans (hk b ob (fun z => hb (by simp [z])) (fun z => hb (by simp [z])) q)) hf (Nat.le_refl _) new
    refine ⟨.ref s.heap.objs.size, _, I1, rfl, ⟨_, x, rfl, I.hok.fresh (Nat.le_refl _), rfl, fun ys hy => by rw [I.tuple_inj hy hq]; exact hx⟩, ⟨⟨y, ?_⟩, hit'.at fun o q => (sb.2 it (Ne.symm hne)).trans q, hne⟩, fun b hb => ?_⟩
    · have e1 : ((i + 1 : Nat) : Int) = (i : Int) + 1 := by omega
      rw [e1]; exact he'
    · have hb' : b < s.heap.objs.size := by
        have e' : b = e ∨ b = it := by simpa using hb
        rcases e' with z | z
        · rw [z]; exact hel
        · rw [z]; exact hil
      rw [upd_ne (Nat.ne_of_lt hb')]
      exact (hf b hb).1
  done := by
    intro X hP hw hK hc i pins s σ H E I hf st hg
    subst hP hw hK
    obtain ⟨⟨old, he⟩, hit, hne⟩ := st
    obtain ⟨xs, hq, hx⟩ := hg
    obtain ⟨its, rv, p, hz⟩ := I.tuple hq
    obtain ⟨f0, f1, f2, f3, f4, f5⟩ := hf it (by simp)
    have hl := rv.length
    have pt : s.heap.IsTuple a its.toArray := p
    have hh1 : X.A.in1.handled = none := I.ok.hd hc
    have hT : s.TypeIs (.ref e) "enumerate" := ⟨_, he, rfl⟩
    unfold pyNext
    refine wpAny_bind (wpAny_attempt (wpAny_callSpecial?_slot (name := Str.ofString "__next__") hT F.slot_enumerate_next
      (wpAny_call_entry F.slot_enumerate_next hT F.entry_enumerate_next ?_ (F.args_enumerate_next_1 _))))
    show wpAny _ _ (field (.ref e) 2 >>= _) _ _ _
    refine wpAny_bind (wpAny_field he rfl (x := .ref it) rfl ?_)
    refine wpAny_bind (wpAny_nextOf_tuple_end hh1 hit pt (by simp; omega) fun h' x he' hx' => ?_)
    obtain ⟨o, ho, hc⟩ := hx'
    refine wpAny_bind (wpAny_isInstance (T := "StopIteration") (b := true) ⟨o, ho, hc⟩ isSubtype_stop ?_)
    exact wpAny_pure ⟨rfl, I.turned (t' := s.toks) (fun b o hb q => he' b o hb q) f0 f1 f3 f4 f5⟩
  self := fun A i s Q E st h => let ⟨⟨_, he⟩, _⟩ := st; wpAny_pyIter_enum he h
/-- a list or a tuple -/
def SqA (K : PySem.W.Frag) (H : Hp) (a : Addr) (xs : List V) : Prop := SqL K H a xs ∨ SqT K H a xs
theorem ex_a {K : PySem.W.Frag} {H H' : Hp} {a : Addr} {xs : List V} (e : Ex H H') (h : SqA K H a xs) : SqA K H' a xs := h.imp (ex_l e) (ex_t e)
def iEnumA (K : PySem.W.Frag) (ta : TA) : TI := fun σ H R => ta σ H fun vs H1 => ∃ a xs, vs = [.ref a] ∧ ((SqL K H1 a xs ∧ R (Ite K a) H1) ∨ (SqT K H1 a xs ∧ R (IteT K a) H1))
theorem pi_enumA {X : Cx} {e : Expr} {ta : TA} {p pos tpos : Pos} {elts : List Expr} {kk : Nat} (hg : Gl X "enumerate") (hm : X.mg "enumerate" = none) (ha : PA X [e] ta) (hs : starEach [e] X.env = [(false, eval e X.env)] := by rfl) :
    PI X (.Tuple elts kk tpos) (.Call (.Name "enumerate" p) [e] [] pos) (iEnumA X.K ta) := by
  refine ⟨fun pins s σ H R I h => ?_⟩
  refine Call_ (ld_blt I hg hm boot_enumerate (PyProof.Rows.callWith_type1 (thn (ha.run pos pins s σ H _ I h) fun us s1 ⟨vs, H1, I1, r1, q1⟩ => ?_) hs rfl))
  obtain ⟨a, xs, ex, q⟩ := q1
  subst ex
  cases r1 with
  | cons r rr =>
    cases rr
    cases r
    have fin : ∀ {o : Obj} {Hh : Heap → Prop} {J : It} {St : Nat → Heap → Prop}, Begins (.ref a) o Hh → Hh s1.heap → Turn X.prog X.w X.K (.Tuple elts kk tpos) J [s1.heap.objs.size + 1, s1.heap.objs.size] (s1.heap.objs.size + 1) St →
        (∀ h', IsEnum h' (s1.heap.objs.size + 1) s1.heap.objs.size 0 .none → h'.get? s1.heap.objs.size = some o → St 0 h') → R J H1 →
        wpAny (model X.prog X.w) X.A (call (.type "enumerate") [.ref a]) (fun v => wpAny (model X.prog X.w) X.A (pyIter v) (PIE X pins σ (.Tuple elts kk tpos) R) X.xe) X.xe s1 := fun B hB T hst q => by
      refine vcall_enumerate B hB fun h' he hit hsz hk => wpAny_pyIter_enum he ?_
      have I2 : Inv X pins σ H1 { s1 with heap := h' } := I1.kept (t' := s1.toks) hk
      refine ⟨s1.heap.objs.size + 1, [s1.heap.objs.size + 1, s1.heap.objs.size], _, _, H1, rfl, I2, T, hst h' he hit, fun b hb => ?_, q⟩
      have e' : b = s1.heap.objs.size + 1 ∨ b = s1.heap.objs.size := by simpa using hb
      have hle : s1.heap.objs.size ≤ b := by
        rcases e' with z | z
        · rw [z]; exact Nat.le_add_right _ _
        · rw [z]; exact Nat.le_refl _
      exact I1.fpOk hle (I1.hok.fresh hle)
    rcases q with ⟨hq, q⟩ | ⟨hq, q⟩
    · obtain ⟨its, rv, p', hz⟩ := I1.list hq
      exact fin (begins_list a its.toArray) p'.isList (turn_enum a _ _) (fun h' he hit => ⟨⟨.none, he⟩, ⟨_, hit, rfl, rfl⟩, Nat.succ_ne_self _⟩) q
    · obtain ⟨its, rv, p', hz⟩ := I1.tuple hq
      exact fin (begins_tuple a its.toArray) (show s1.heap.IsTuple a its.toArray from p') (turn_enumT a _ _) (fun h' he hit => ⟨⟨.none, he⟩, ⟨_, hit, rfl, rfl⟩, Nat.succ_ne_self _⟩) q
def iSeqA (K : PySem.W.Frag) (tl : TE) : TI := fun σ H R => tl σ H fun x H1 => ∃ a, x = .ref a ∧ (((∃ xs, SqL K H1 a xs) ∧ R (Itl K a) H1) ∨ ((∃ xs, SqT K H1 a xs) ∧ R (Itt K a) H1))
theorem pi_seqA {X : Cx} {tg l : Expr} {tl : TE} (hl : PE X l tl) : PI X tg l (iSeqA X.K tl) := by
  refine ⟨fun pins s σ H R I h => ?_⟩
  refine thn (hl.run pins s σ H _ I h) fun v s1 ⟨x, H1, I1, r1, q1⟩ => ?_
  obtain ⟨a, e, ⟨⟨xs, hq⟩, q⟩ | ⟨⟨xs, hq⟩, q⟩⟩ := q1
  · subst e
    cases r1
    obtain ⟨its, rv, p, hz⟩ := I1.list hq
    refine wpAny_pyIter_list p.isList ?_
    refine ⟨s1.heap.objs.size, [s1.heap.objs.size], _, _, H1, rfl, I1.kept (t' := s1.toks) fun b o e => Heap.get?_push_of_some _ e, turn_list a _, ⟨_, Heap.get?_push_size _ rfl, rfl, rfl⟩, fun b hb => ?_, q⟩
    have e : b = s1.heap.objs.size := by simpa using hb
    subst e
    exact I1.fpOk (Nat.le_refl _) (I1.hok.fresh (Nat.le_refl _))
  · subst e
    cases r1
    obtain ⟨its, rv, p, hz⟩ := I1.tuple hq
    refine wpAny_pyIter_tuple (show s1.heap.IsTuple a its.toArray from p) ?_
    refine ⟨s1.heap.objs.size, [s1.heap.objs.size], _, _, H1, rfl, I1.kept (t' := s1.toks) fun b o e => Heap.get?_push_of_some _ e, turn_tuple a _, ⟨_, Heap.get?_push_size _ rfl, rfl, rfl⟩, fun b hb => ?_, q⟩
    have e : b = s1.heap.objs.size := by simpa using hb
    subst e
    exact I1.fpOk (Nat.le_refl _) (I1.hok.fresh (Nat.le_refl _))
/-! their readings -/
section
variable {K : PySem.W.Frag} {σ : L2.St} {H : Hp} {D : Ends} {tu : TS} {g : TG} {a : Addr} {xs : List V}
def YEn (xs : List V) : Nat → Hp → V → Hp → Prop := fun i H v H' => ∃ T x, v = .ref T ∧ H T = none ∧ H' = upd H T (.tup [.int (i : Nat), x]) ∧ xs[i]? = some x
theorem walk_en : Walk (Ite K a) xs.length (fun H => SqL K H a xs) (YEn xs) :=
  ⟨fun i _ hi q => ⟨xs, xs[i], q, by simp [hi]⟩, fun _ q => ⟨xs, q, Nat.le_refl _⟩, fun _ _ _ _ _ q y => let ⟨T, x, h1, h2, h3, h4⟩ := y; ⟨T, x, h1, h2, h3, h4 xs q⟩⟩
theorem walk_enT : Walk (IteT K a) xs.length (fun H => SqT K H a xs) (YEn xs) :=
  ⟨fun i _ hi q => ⟨xs, xs[i], q, by simp [hi]⟩, fun _ q => ⟨xs, q, Nat.le_refl _⟩, fun _ _ _ _ _ q y => let ⟨T, x, h1, h2, h3, h4⟩ := y; ⟨T, x, h1, h2, h3, h4 xs q⟩⟩
theorem s_forEn {ta : TA} (h : EvA ta σ H [.ref a]) (hx : SqA K H a xs) (Pv : Nat → L2.St → Hp → Prop) (h0 : ∀ H1, Ex H H1 → Pv 0 σ H1) (hl : ∀ i σ' H', Pv i σ' H' → Ex H H')
    (hs : ∀ i x T σ' H', xs[i]? = some x → Pv i σ' H' → H' T = none → g (.ref T) σ' (upd H' T (.tup [.int (i : Nat), x])) fun σ2 H2 => tu { D with nx := Pv (i + 1), ct := Pv (i + 1), bk := D.nx } σ2 H2) (hd : ∀ σ' H', Pv xs.length σ' H' → D.nx σ' H') : tFor (iEnumA K ta) g tu D σ H :=
  h H (Ex.refl H) _ fun H1 e => ⟨a, xs, rfl, by
    rcases hx with hx | hx
    · exact .inl ⟨ex_l e hx, for_it walk_en Pv (h0 H1 e) (fun i σ' H' _ p => ex_l (hl i σ' H' p) hx) (fun i v σ' H' H2 _ p ⟨T, x, e1, e2, e3, e4⟩ => by subst e1 e3; exact hs i x T σ' H' e4 p e2) hd⟩
    · exact .inr ⟨ex_t e hx, for_it walk_enT Pv (h0 H1 e) (fun i σ' H' _ p => ex_t (hl i σ' H' p) hx) (fun i v σ' H' H2 _ p ⟨T, x, e1, e2, e3, e4⟩ => by subst e1 e3; exact hs i x T σ' H' e4 p e2) hd⟩⟩
theorem s_forSq {tl : TE} (h : Ev tl σ H (.ref a)) (hx : SqA K H a xs) (Pv : Nat → L2.St → Hp → Prop) (h0 : ∀ H1, Ex H H1 → Pv 0 σ H1) (hl : ∀ i σ' H', Pv i σ' H' → Ex H H')
    (hs : ∀ i x σ' H', xs[i]? = some x → Pv i σ' H' → g x σ' H' fun σ2 H2 => tu { D with nx := Pv (i + 1), ct := Pv (i + 1), bk := D.nx } σ2 H2) (hd : ∀ σ' H', Pv xs.length σ' H' → D.nx σ' H') : tFor (iSeqA K tl) g tu D σ H :=
  h H (Ex.refl H) _ fun H1 e => ⟨a, rfl, by
    rcases hx with hx | hx
    · exact .inl ⟨⟨xs, ex_l e hx⟩, for_list Pv (h0 H1 e) (fun i σ' H' _ p => ex_l (hl i σ' H' p) hx) hs hd⟩
    · exact .inr ⟨⟨xs, ex_t e hx⟩, for_tup Pv (h0 H1 e) (fun i σ' H' _ p => ex_t (hl i σ' H' p) hx) hs hd⟩⟩
theorem ev_lenQ {te : TE} (h : Ev te σ H (.ref a)) (hx : SqA K H a xs) : Ev (tCB (fun vs H Q => ∃ x n, vs = [x] ∧ LenV K x H n ∧ Q (.int n) H) (tCons te tNil)) σ H (.int (xs.length : Nat)) := fun H1 e Q q =>
  h H1 e _ fun H2 e2 => ⟨.ref a, xs.length, rfl, (ex_a (e.trans e2) hx).imp (fun h => ⟨xs, h, rfl⟩) (fun h => ⟨xs, h, rfl⟩), q H2 e2⟩
end
end Ven

set_option Elab.async false
set_option linter.all false
set_option maxRecDepth 100000
set_option maxHeartbeats 2000000
/-! set(xs) and sorted(set) where the members are texts: any kind of key whose value tells it. -/
namespace Vst
open PySem PySem.Spec PyProof.Rows L2
section
variable {κ : Type} [DecidableEq κ] {P : Program} {w : World}
/-- the key that a row of the table holds -/
def kof (f : Value → κ) (e : Int × Value) : κ := f e.2
/-- a set's object, walkable: S its members, n their number -/
structure Tab (knd : PySem.KeyKind P w κ) (f : Value → κ) (a : Addr) (S : κ → Bool) (o : Obj) (es : Array (Int × Value)) (ep : Nat) (t : SetTable) : Prop where
  ex : o.ExactSet
  dat : o.data = .set es ep t
  el : ElemsOf knd es.toList
  nd : (es.toList.map (kof f)).Nodup
  mem : ∀ k, S k = true ↔ k ∈ es.toList.map (kof f)
  few : es.size < scanBound
  fits : t.fits es.size = true
  ris : Ris t.place.toList
  led : w.params.followText "set-order" = true ∨ t.led = true
def SetG (knd : PySem.KeyKind P w κ) (f : Value → κ) (h : Heap) (a : Addr) (S : κ → Bool) (n : Nat) : Prop :=
  ∃ o es ep t, h.get? a = some o ∧ Tab knd f a S o es ep t ∧ es.size = n
variable {knd : PySem.KeyKind P w κ} {f : Value → κ} {h h' : Heap} {a : Addr} {S : κ → Bool} {n : Nat}
theorem SetG.keep (R : SetG knd f h a S n) (k : ∀ o, h.get? a = some o → h'.get? a = some o) : SetG knd f h' a S n := by
  obtain ⟨o, es, ep, t, ho, r⟩ := R
  exact ⟨o, es, ep, t, k o ho, r⟩
theorem SetG.congr {S' : κ → Bool} {n' : Nat} (R : SetG knd f h a S n) (e : ∀ k, S k = S' k) (en : n = n') : SetG knd f h a S' n' := by
  have q : S = S' := funext e
  rw [← q, ← en]; exact R
theorem mem_kof (hf : ∀ k v, knd.is k v = true → f v = k) {l : List (Int × Value)} (g : ElemsOf knd l) (k : κ) : k ∈ l.map (kof f) ↔ ∃ e ∈ l, knd.is k e.2 = true := by
  rw [List.mem_map]
  constructor
  · rintro ⟨e, he, q⟩
    obtain ⟨⟨k0, h1, _⟩, _⟩ := g e he
    refine ⟨e, he, ?_⟩
    have e0 : k0 = k := (hf k0 _ h1).symm.trans q
    rw [← e0]
    exact h1
  · rintro ⟨e, he, q⟩
    exact ⟨e, he, hf k _ q⟩
end
section
variable {κ : Type} [DecidableEq κ] {P : Program} {w : World} {A : Around} {E : Value → Shared → Prop} {s : Shared} {a : Addr} {S : κ → Bool} {n : Nat} {knd : PySem.KeyKind P w κ} {f : Value → κ}
theorem put_at {h : Heap} {o : Obj} {es es1 : Array (Int × Value)} {ep : Nat} {t t1 : SetTable} (ho : h.get? a = some o) (hd : o.data = .set es ep t) :
    (h.update a (Obj.putSet es1 t1)).get? a = some { o with data := .set es1 (ep + 1) t1 } := by
  have q := Heap.get?_update_self (Obj.putSet es1 t1) ho (by rw [putSet_of es1 t1 hd]; rfl)
  rwa [putSet_of es1 t1 hd] at q
/-- the new table laid, and laid wider where it is too full -/
theorem laid_tail {g : Bool → Sem Unit} (hg : ∀ (b : Bool) (s₁ : Shared) (Q' : Unit → Shared → Prop), Q' () s₁ → wpAny (model P w) A (g b) Q' E s₁)
    {o : Obj} {es : Array (Int × Value)} {ep : Nat} {t : SetTable} (ho : s.heap.get? a = some o) (hd : o.data = .set es ep t)
    {es1 : Array (Int × Value)} {t2 : SetTable} {S' : κ → Bool} (T : ∀ o1 ep1, o1.ExactSet → o1.data = .set es1 ep1 t2 → Tab knd f a S' o1 es1 ep1 t2) (hex : o.ExactSet) {wasDummy : Bool} {R : Option Bool → Shared → Prop}
    (hR : ∀ h', Heap.SameBut a s.heap h' → SetG knd f h' a S' es1.size → R (some true) { s with heap := h' }) :
    wpAny (model P w) A (do
        storeSet a es1 t2
        if (!wasDummy && t2.tooFull) = true then do
            g (relayAll t2 es1 (SetTable.grown es1.size)).2.2
            storeSet a (relayAll t2 es1 (SetTable.grown es1.size)).1 (relayAll t2 es1 (SetTable.grown es1.size)).2.1
            pure (some true)
          else pure (some true)) R E s := by
  have T1 := T { o with data := .set es1 (ep + 1) t2 } (ep + 1) hex rfl
  refine wpAny_bind (wpAny_storeSet_of ho hd ?_ (fits_of_scanBound T1.few))
  have ho1 := put_at (es1 := es1) (t1 := t2) ho hd
  have sb1 := Heap.SameBut.update s.heap a (Obj.putSet es1 t2)
  split
  · have pm := relayAll_perm t2 es1 (SetTable.grown es1.size)
    have hf3 := relayAll_fits t2 es1 (SetTable.grown es1.size)
    have hr3 := relayAll_ris t2 es1 (SetTable.grown es1.size)
    have hl3 := relayAll_led t2 es1 (SetTable.grown es1.size)
    generalize relayAll t2 es1 (SetTable.grown es1.size) = Z at pm hf3 hr3 hl3 ⊢
    obtain ⟨es2, t3, gave⟩ := Z
    dsimp only at pm hf3 hr3 hl3 ⊢
    have hsz : es2.size = es1.size := by rw [← Array.length_toList, pm.length_eq, Array.length_toList]
    have hb2 : es2.size < scanBound := by rw [hsz]; exact T1.few
    refine wpAny_bind (hg _ _ _ ?_)
    refine wpAny_bind (wpAny_storeSet_of ho1 rfl ?_ (fits_of_scanBound hb2))
    refine wpAny_pure (hR _ (sb1.trans (Heap.SameBut.update _ a _)) ⟨_, es2, ep + 1 + 1, t3, put_at (es1 := es2) (t1 := t3) ho1 rfl, ?_, hsz⟩)
    exact { ex := hex, dat := rfl, el := fun e he => T1.el e (pm.mem_iff.mp he), nd := (pm.map (kof f)).nodup_iff.mpr T1.nd, mem := fun k => (T1.mem k).trans (pm.map (kof f)).mem_iff.symm,
            few := hb2, fits := hf3, ris := hr3, led := T1.led.imp id fun z => by rw [hl3]; exact z }
  · exact wpAny_pure (hR _ sb1 ⟨_, es1, _, t2, ho1, T1, rfl⟩)

theorem add_hashed (hf : ∀ k v, knd.is k v = true → f v = k) {k : κ} {v : Value} (hkey : knd.is k v = true) (hsc : v.scannable = true) {Q : Bool → Shared → Prop} (R : SetG knd f s.heap a S n) (room : n + 1 < scanBound)
    (hQ : ∀ h', Heap.SameBut a s.heap h' → SetG knd f h' a (fun j => S j || decide (j = k)) (if S k = true then n else n + 1) → Q (!S k) { s with heap := h' }) :
    wpAny (model P w) A (setAddHashed a v (knd.hash k)) Q E s := by
  obtain ⟨o, es, ep, t, ho, T, hn⟩ := R
  have hd := T.dat
  have hel := T.el
  have hb := T.few
  have hft := T.fits
  unfold setAddHashed setAddHashedIn
  refine wpAny_holding (wpAny_bind (wpAny_setState_of ho hd hft ?_))
  dsimp only
  rw [byScan_of hsc hb hel]
  simp only [↓reduceIte]
  unfold setAddByScan
  refine wpAny_bind ?_
  refine wpAny_bind (wpAny_rule ?_)
  refine wpAny_bind (wpAny_setScan_of hkey ho hd hft hel ?_)
  cases hfi : List.findIdx? (fun e => knd.is k e.2) es.toList with
  | some j =>
    dsimp only
    obtain ⟨hj, pj, _⟩ := List.findIdx?_eq_some_iff_getElem.mp hfi
    have hSk : S k = true := (T.mem k).2 ((mem_kof hf hel k).2 ⟨es.toList[j], List.getElem_mem hj, pj⟩)
    refine wpAny_pure (wpAny_pure ?_)
    have q := hQ s.heap (Heap.SameBut.refl a s.heap) (SetG.congr ⟨o, es, ep, t, ho, T, hn⟩ (fun i => ?_) (by rw [if_pos hSk]))
    · rw [hSk] at q
      exact q
    · by_cases hi : i = k
      · rw [hi, hSk]; rfl
      · rw [decide_eq_false hi, Bool.or_false]
  | none =>
    dsimp only
    have hnk : k ∉ es.toList.map (kof f) := fun z => by
      obtain ⟨e, he, q⟩ := (mem_kof hf hel k).1 z
      have c := List.findIdx?_eq_none_iff.mp hfi e he
      rw [q] at c
      cases c
    have hSk : S k = false := by
      cases q : S k with
      | false => rfl
      | true => exact absurd ((T.mem k).1 q) hnk
    have hgw : ∀ (b : Bool) {s₁ : Shared} {Q' : Unit → Shared → Prop}, Q' () s₁ → wpAny (model P w) A (match b with | true => rule "set.scan.the-table-gave-way" | false => pure ()) Q' E s₁ :=
      fun b s₁ Q' q => by cases b <;> first | exact wpAny_pure q | exact wpAny_rule q
    have pm := layNew_perm t es (knd.hash k) v
    have hf1 := layNew_fits t es (knd.hash k) v
    have hr1 := layNew_ris t es (knd.hash k) v T.ris
    have hl1 := layNew_led t es (knd.hash k) v
    generalize layNew t es (knd.hash k) v = Z at pm hf1 hr1 hl1 ⊢
    obtain ⟨es1, t1, wasDummy, gave⟩ := Z
    dsimp only at pm hf1 hr1 hl1 ⊢
    rw [Array.toList_push] at pm
    have pc : es1.toList.Perm ((knd.hash k, v) :: es.toList) := pm.trans (List.perm_append_singleton _ _)
    have fk : kof f (knd.hash k, v) = k := hf k v hkey
    have pk : (es1.toList.map (kof f)).Perm (k :: es.toList.map (kof f)) := by
      have q := pc.map (kof f)
      rw [List.map_cons, fk] at q
      exact q
    have hsz : es1.size = n + 1 := by rw [← Array.length_toList, pc.length_eq, List.length_cons, Array.length_toList, hn]
    have Tn : ∀ t2 : SetTable, t2.fits es1.size = true → Ris t2.place.toList → t2.led = t.led → ∀ o1 ep1, o1.ExactSet → o1.data = .set es1 ep1 t2 → Tab knd f a (fun j => S j || decide (j = k)) o1 es1 ep1 t2 := fun t2 x1 x2 x3 o1 ep1 y1 y2 =>
      { ex := y1, dat := y2
        el := fun e he => by
          rcases List.mem_cons.mp (pc.mem_iff.mp he) with z | z
          · rw [z]; exact ⟨⟨k, hkey, rfl⟩, hsc⟩
          · exact hel e z
        nd := pk.nodup_iff.mpr (List.nodup_cons.mpr ⟨hnk, T.nd⟩)
        mem := fun i => by
          rw [Bool.or_eq_true, decide_eq_true_eq, T.mem i, pk.mem_iff, List.mem_cons]
          exact Or.comm
        few := by rw [hsz]; exact room
        fits := x1, ris := x2, led := T.led.imp id fun z => by rw [x3]; exact z }
    have fin : ∀ h', Heap.SameBut a s.heap h' → SetG knd f h' a (fun j => S j || decide (j = k)) es1.size → Q true { s with heap := h' } := fun h' sb r => by
      have q := hQ h' sb
      rw [hSk] at q
      rw [hsz] at r
      exact q r
    refine wpAny_bind (hgw _ ?_)
    split
    · refine wpAny_bind ?_
      rw [hashByValue_scannable 8 hsc]
      refine wpAny_pure ?_
      refine laid_tail ?_ ho hd (Tn _ ?_ ?_ ?_) T.ex ?_
      · intro b s₁ Q' q; cases b <;> first | exact wpAny_pure q | exact wpAny_rule q
      · first | (split <;> first | exact hf1 | exact SetTable.fits_plain_off hf1) | exact hf1
      · first | (split <;> exact hr1) | exact hr1
      · first | (split <;> exact hl1) | exact hl1
      · intro h' sb r; dsimp only; exact wpAny_pure (fin h' sb r)
    · refine wpAny_bind (wpAny_pure ?_)
      simp only [↓reduceIte]
      refine laid_tail ?_ ho hd (Tn _ hf1 hr1 hl1) T.ex ?_
      · intro b s₁ Q' q; cases b <;> first | exact wpAny_pure q | exact wpAny_rule q
      · intro h' sb r; dsimp only; exact wpAny_pure (fin h' sb r)
end
/-! ### texts -/
def strV : Value → Str
  | .str x _ => x
  | _ => Str.empty
theorem strV_is {P : Program} {w : World} (k : Str) (v : Value) (h : (PySem.strKind P w).is k v = true) : strV v = k := by
  obtain ⟨t, rfl⟩ := Value.isStrOf_shape h
  rfl
abbrev SetS (P : Program) (w : World) (h : Heap) (a : Addr) (S : Str → Bool) (n : Nat) : Prop := SetG (PySem.strKind P w) strV h a S n
section
variable {P : Program} {w : World} {A : Around} {E : Value → Shared → Prop} {s : Shared}
theorem led_fresh (w : World) : w.params.followText "set-order" = true ∨ (SetTable.fresh 0 0 (!w.params.followText "set-order")).led = true := by
  show _ ∨ (!w.params.followText "set-order") = true
  cases w.params.followText "set-order"
  · exact .inr rfl
  · exact .inl rfl
theorem setS_fresh {h : Heap} {a : Addr} (ho : h.get? a = some { cls := .type "set", dict := none, data := .set #[] 0 (.fresh 0 0 (!w.params.followText "set-order")) }) : SetS P w h a (fun _ => false) 0 :=
  ⟨_, #[], 0, SetTable.fresh 0 0 (!w.params.followText "set-order"), ho, { ex := ⟨rfl, rfl, rfl⟩, dat := rfl, el := fun e he => by simp at he, nd := by simp, mem := fun k => by simp, few := by decide, fits := by rfl, ris := List.Pairwise.nil, led := led_fresh w }, rfl⟩
/-- how many different ones -/
def diff : List Str → Nat
  | [] => 0
  | x :: r => if x ∈ r then diff r else diff r + 1
theorem take_more {α : Type} {l : List α} {i : Nat} {x : α} (h : l[i]? = some x) : l.take (i + 1) = l.take i ++ [x] := by
  rw [List.take_succ, h]
  rfl
def seen (xs : List Str) (i : Nat) (k : Str) : Bool := decide (k ∈ xs.take i)
/-- set.update's loop over texts -/
theorem upd_loop {I : Addr} {fp wr : List Addr} {G : Array GenState → Array GenState → Prop} {n : Nat} {Pv : Nat → Value → Prop} {St : Nat → Shared → Prop} {R : Result → Shared → Prop}
    (W : WalksS P w A.in1 I fp wr G n Pv St) (S : Addr) (hSf : S ∉ fp) (xs : List Str) (hn : xs.length = n) (hfew : n + 1 < scanBound) (hval : ∀ i v, Pv i v → ∃ x t, xs[i]? = some x ∧ v = .str x t) :
    ∀ (k i : Nat) (s : Shared), n - i = k → i ≤ n → St i s → (∃ m, m ≤ i ∧ SetS P w s.heap S (seen xs i) m) →
      (∀ s' m, m ≤ n → Moved (S :: wr) G s s' → SetS P w s'.heap S (seen xs n) m → R (.ok (.ret .none)) s') →
      codeAny (model P w) A (.builtin "set.update.loop" ⟨[.ref S, .ref I], []⟩) R s := by
  have hSw : S ∉ wr := fun h => hSf (W.sub _ h)
  have hsub : ∀ b ∈ wr, b ∈ S :: wr := fun b hb => List.mem_cons_of_mem _ hb
  intro k
  induction k with
  | zero =>
    intro i s hk hi hst ⟨m, hm, hS⟩ hR
    have hin : i = n := by omega
    subst hin
    refine codeAny_builtin F.entry_set_update_loop ?_
    rw [Around.under_plainId F.plain_set_update_loop _]
    show wpAny _ A.in1 (pyNext (.ref I) >>= _) _ _ s
    refine wpAny_bind (W.done s _ _ hst fun s' mv => ?_)
    show wpAny _ A.in1 (ret Value.none) _ _ s'
    exact wpAny_pure (hR s' m hm (mv.mono hsub) (hS.keep fun o e => mv.heap S o hSw e))
  | succ k ih =>
    intro i s hk hi hst ⟨m, hm, hS⟩ hR
    have hlt : i < n := by omega
    refine codeAny_builtin F.entry_set_update_loop ?_
    rw [Around.under_plainId F.plain_set_update_loop _]
    show wpAny _ A.in1 (pyNext (.ref I) >>= _) _ _ s
    refine wpAny_bind (W.item i s _ _ hlt hst fun v s' hP hst' mv => ?_)
    obtain ⟨x, tk, hx, rfl⟩ := hval i v hP
    have hS' : SetS P w s'.heap S (seen xs i) m := hS.keep fun o e => mv.heap S o hSw e
    show wpAny _ A.in1 (holding [Value.str x tk] (setAdd S (.str x tk)) >>= _) _ _ s'
    refine wpAny_bind (wpAny_holding ?_)
    unfold setAdd
    refine wpAny_holding ?_
    refine wpAny_bind ((PySem.strKind P w).pyHash (k := x) (strKind_is _ _ _ _) ?_)
    refine add_hashed (knd := PySem.strKind P w) (f := strV) (s := { s' with toks := s'.toks + 1 }) strV_is (strKind_is _ _ _ _) rfl hS' (by omega) fun h' hsb hS2 => ?_
    have hS3 : SetS P w h' S (seen xs (i + 1)) (if seen xs i x = true then m else m + 1) := hS2.congr (fun j => by
      unfold seen
      rw [take_more hx]
      by_cases h1 : j ∈ xs.take i
      · rw [decide_eq_true h1, decide_eq_true (List.mem_append_left _ h1)]; rfl
      · by_cases h2 : j = x
        · have hm2 : j ∈ xs.take i ++ [x] := by rw [h2]; exact List.mem_append_right _ List.mem_cons_self
          rw [decide_eq_true hm2, decide_eq_true h2, Bool.or_true]
        · rw [decide_eq_false h1, decide_eq_false h2, decide_eq_false]
          · rfl
          · intro z
            rcases List.mem_append.mp z with z | z
            · exact h1 z
            · exact h2 (List.mem_singleton.mp z)) rfl
    refine wpAny_pure ⟨plainId_quiet F.plain_set_update_loop _, ih (i + 1) _ (by omega) hlt (W.frame _ s' _ _ hst' (Nat.le_add_right _ _) fun b hb o e => ?_) ⟨_, by split <;> omega, hS3⟩ fun s'' m'' hm'' mv'' hS'' => ?_⟩
    · rw [hsb.2 b (fun h : b = S => hSf (by rw [← h]; exact hb))]; exact e
    · refine hR s'' m'' hm'' (Moved.trans W.gtrans ((mv.mono hsub).then_heap (Nat.le_add_right _ _) fun b o hb e => ?_) mv'') hS''
      rw [hsb.2 b (fun h : b = S => hb (by rw [h]; exact List.mem_cons_self))]; exact e
abbrev blank (w : World) : Obj := { cls := .type "set", dict := none, data := .set #[] 0 (.fresh 0 0 (!w.params.followText "set-order")) }
theorem hval_of : ∀ {us : Array Value} {xs : List Str}, StrsAre us.toList xs → ∀ {i : Nat} {v : Value}, us[i]? = some v → ∃ x t, xs[i]? = some x ∧ v = .str x t := by
  intro us xs h i v hv
  have hv2 : us.toList[i]? = some v := by rw [Array.getElem?_toList]; exact hv
  revert hv2
  generalize us.toList = l at h
  clear hv
  intro hv2
  induction h generalizing i with
  | nil => simp at hv2
  | cons x t hr ih =>
    cases i with
    | zero =>
      simp at hv2
      exact ⟨x, t, rfl, hv2.symm⟩
    | succ i =>
      simp only [List.getElem?_cons_succ] at hv2
      obtain ⟨y, u, h1, h2⟩ := ih hv2
      exact ⟨y, u, h1, h2⟩
end
end Vst

set_option Elab.async false
set_option linter.all false
set_option maxRecDepth 100000
set_option maxHeartbeats 2000000
namespace Vst
open PySem PySem.Spec PyProof.Rows L2
section
variable {P : Program} {w : World} {A : Around} {E : Value → Shared → Prop} {s : Shared}
set_option maxHeartbeats 3200000 in
/-- set(xs), a list of texts -/
theorem call_set_list {l : Addr} {items : Array Value} {xs : List Str} {Q : Value → Shared → Prop} (hh : A.handled = none) (hl : s.heap.IsList l items) (hi : StrsAre items.toList xs) (hfew : xs.length + 1 < scanBound)
    (h : ∀ (h' : Heap) (tk m : Nat), m ≤ xs.length → SetS P w h' s.heap.objs.size (fun k => decide (k ∈ xs)) m → (∀ b o, b < s.heap.objs.size → s.heap.get? b = some o → h'.get? b = some o) → Q (.ref s.heap.objs.size) { s with heap := h', toks := tk }) :
    wpAny (model P w) A (call (.type "set") [.ref l]) Q E s := by
  obtain ⟨c, tl, hmro⟩ := PySem.F.called_set.mro
  have hmade := PySem.F.called_set.made
  have hsub := PySem.F.called_set.sub
  refine wpAny_call (codeAny_of_tree ?_)
  show wpAny _ _ (callAny (.type "set") _) _ _ _
  refine wpAny_pure ⟨Code.quiet_builtin _ (by decide +kernel), codeAny_builtin PySem.F.entry_type_call ?_⟩
  rw [Around.under_plain (weight_type_call_type "set" [.ref l] []) rfl]
  have h1 := PySem.F.called_set.notType
  have h2 := PySem.F.called_set.canCreate
  have hct := PySem.F.typeCall_set_1 (.ref l)
  have hsz : xs.length = items.size := by rw [← StrsAre.len_eq hi, Array.length_toList]
  have hsee : seen xs items.size = fun k => decide (k ∈ xs) := by
    unfold seen
    rw [← hsz, List.take_length]
  repeat (any_goals (first | assumption | wp_step))

  refine codeAny_mono (code_set_led1 (.ref l) (E := E) (Q₁ := fun obj s₁ => obj = .ref s.heap.objs.size ∧ s₁ = { s with heap := s.heap.push (blank w) }) ⟨rfl, rfl⟩) fun r s₁ hr => ?_
  cases r with
  | error e => exact hr
  | ok fl =>
    cases fl with
    | ret obj =>
      obtain ⟨rfl, rfl⟩ := hr
      have hS : (s.heap.push (blank w)).get? s.heap.objs.size = some (blank w) := Heap.get?_push_size _ rfl
      have hT : Shared.TypeIs { s with heap := s.heap.push (blank w) } (.ref s.heap.objs.size) "set" := ⟨_, hS, rfl⟩
      have hli := PySem.F.called_set.init.lookup
      have hbi := PySem.F.called_set.init.bind (.ref s.heap.objs.size)
      repeat (any_goals (first | assumption | wp_step))

      refine codeAny_mono (codeAny_call_builtin (R := wants (fun r s₂ => r = .none ∧ ∃ h' tk m, s₂ = { s with heap := h', toks := tk } ∧ m ≤ xs.length ∧ SetS P w h' s.heap.objs.size (fun k => decide (k ∈ xs)) m ∧
          (∀ b o, b < s.heap.objs.size → s.heap.get? b = some o → h'.get? b = some o)) E) PySem.F.called_set.init.plain PySem.F.entry_set_init (check_set_init_1 hT ?_)) fun r₂ s₂ hr₂ => ?_
      · obtain ⟨ol, hol, hcl, nl, hdl⟩ := hl
        obtain ⟨ocls, odict, odata, oslots⟩ := ol
        simp only at hcl hdl
        subst hcl; subst hdl
        have hol' : (s.heap.push (blank w)).get? l = some { cls := .type "list", dict := odict, data := .seq items nl, slots := oslots } := Heap.get?_push_of_some _ hol
        have hsls := PySem.F.sub_list_set
        have hslf := PySem.F.sub_list_frozenset
        have hne : (Value.type "list" == Value.type "dict") = false := by decide
        have hl1 : (s.heap.push (blank w)).IsList l items := ⟨_, hol', rfl, nl, rfl⟩
        unfold Builtin.«set.__init__» noKeywords Builtin.Frozenset.updateFrom
        generalize hPI : pyIter = PI
        wp_walk
        subst hPI

        refine wpAny_pyIter_list hl1 ?_
        refine wpAny_bind (wpAny_runValue ?_)
        have hlS : l < s.heap.objs.size := Heap.lt_size hol
        have hh3 : A.in1.in1.in1.handled = none := by simp [hh]
        have hneI : l ≠ (s.heap.push (blank w)).objs.size := by
          rw [Heap.size_push]; exact Nat.ne_of_lt (Nat.lt_succ_of_lt hlS)
        have hSf : s.heap.objs.size ∉ [(s.heap.push (blank w)).objs.size, l] := by
          rw [Heap.size_push]; simp only [List.mem_cons, List.mem_singleton, List.not_mem_nil, or_false, not_or]
          exact ⟨Nat.ne_of_lt (Nat.lt_succ_self _), Nat.ne_of_gt hlS⟩
        refine upd_loop ((Walks.list hh3 _ l hneI items).toS) s.heap.objs.size
          hSf xs hsz (by rw [← hsz]; exact hfew) (fun i v hv => hval_of hi hv) (items.size - 0) 0 _ (by omega) (Nat.zero_le _)
          ⟨⟨_, Heap.get?_push_size _ rfl, rfl, rfl⟩, (hl1.push _)⟩ ?hS0 ?hR
        case hS0 =>
          have hget : ((s.heap.push (blank w)).push { cls := .type "list_iterator", data := .fields #[.ref l, .int 0 0] }).get? s.heap.objs.size = some (blank w) := Heap.get?_push_of_some _ hS
          exact ⟨0, Nat.le_refl _, (setS_fresh hget).congr (fun k => by unfold seen; rw [List.take_zero]; rfl) rfl⟩
        case hR =>
          intro s' m hm mv hS'
          obtain ⟨h', g', d', tk', os'⟩ := s'
          have eg : g' = s.gens := mv.gens
          have ed : d' = s.drawn := mv.drawn
          have eo : os' = s.os := mv.os
          subst eg; subst ed; subst eo
          show wpAny _ _ _ _ _ _
          refine wpAny_pure ?_
          show wpAny _ _ (ret Value.none) _ _ _
          rw [hsee] at hS'
          refine wpAny_pure ⟨rfl, h', tk', m, rfl, by rw [hsz]; exact hm, hS', fun b o hb e => ?_⟩
          have hb1 : b ≠ s.heap.objs.size := Nat.ne_of_lt hb
          have hb2 : b ≠ (s.heap.push (blank w)).objs.size := by
            rw [Heap.size_push]; exact Nat.ne_of_lt (Nat.lt_succ_of_lt hb)
          exact mv.heap b o (by simp only [List.mem_cons, List.mem_singleton, List.not_mem_nil, or_false, not_or]; exact ⟨hb1, hb2⟩) (Heap.get?_push_of_some _ (Heap.get?_push_of_some _ e))

      · cases r₂ with
        | error e => exact hr₂
        | ok fl₂ =>
          cases fl₂ with
          | ret r =>
            obtain ⟨rfl, h', tk, m, rfl, hm, hS', hk'⟩ := hr₂
            repeat (any_goals (first | assumption | wp_step))
            exact h _ _ _ hm hS' hk'
          | _ => exact hr₂.elim
    | _ => exact hr.elim
set_option maxHeartbeats 3200000 in
/-- set(xs), a tuple of texts -/
theorem call_set_tuple {l : Addr} {items : Array Value} {xs : List Str} {Q : Value → Shared → Prop} (hh : A.handled = none) (hl : s.heap.IsTuple l items) (hi : StrsAre items.toList xs) (hfew : xs.length + 1 < scanBound)
    (h : ∀ (h' : Heap) (tk m : Nat), m ≤ xs.length → SetS P w h' s.heap.objs.size (fun k => decide (k ∈ xs)) m → (∀ b o, b < s.heap.objs.size → s.heap.get? b = some o → h'.get? b = some o) → Q (.ref s.heap.objs.size) { s with heap := h', toks := tk }) :
    wpAny (model P w) A (call (.type "set") [.ref l]) Q E s := by
  obtain ⟨c, tl, hmro⟩ := PySem.F.called_set.mro
  have hmade := PySem.F.called_set.made
  have hsub := PySem.F.called_set.sub
  refine wpAny_call (codeAny_of_tree ?_)
  show wpAny _ _ (callAny (.type "set") _) _ _ _
  refine wpAny_pure ⟨Code.quiet_builtin _ (by decide +kernel), codeAny_builtin PySem.F.entry_type_call ?_⟩
  rw [Around.under_plain (weight_type_call_type "set" [.ref l] []) rfl]
  have h1 := PySem.F.called_set.notType
  have h2 := PySem.F.called_set.canCreate
  have hct := PySem.F.typeCall_set_1 (.ref l)
  have hsz : xs.length = items.size := by rw [← StrsAre.len_eq hi, Array.length_toList]
  have hsee : seen xs items.size = fun k => decide (k ∈ xs) := by
    unfold seen
    rw [← hsz, List.take_length]
  repeat (any_goals (first | assumption | wp_step))

  refine codeAny_mono (code_set_led1 (.ref l) (E := E) (Q₁ := fun obj s₁ => obj = .ref s.heap.objs.size ∧ s₁ = { s with heap := s.heap.push (blank w) }) ⟨rfl, rfl⟩) fun r s₁ hr => ?_
  cases r with
  | error e => exact hr
  | ok fl =>
    cases fl with
    | ret obj =>
      obtain ⟨rfl, rfl⟩ := hr
      have hS : (s.heap.push (blank w)).get? s.heap.objs.size = some (blank w) := Heap.get?_push_size _ rfl
      have hT : Shared.TypeIs { s with heap := s.heap.push (blank w) } (.ref s.heap.objs.size) "set" := ⟨_, hS, rfl⟩
      have hli := PySem.F.called_set.init.lookup
      have hbi := PySem.F.called_set.init.bind (.ref s.heap.objs.size)
      repeat (any_goals (first | assumption | wp_step))

      refine codeAny_mono (codeAny_call_builtin (R := wants (fun r s₂ => r = .none ∧ ∃ h' tk m, s₂ = { s with heap := h', toks := tk } ∧ m ≤ xs.length ∧ SetS P w h' s.heap.objs.size (fun k => decide (k ∈ xs)) m ∧
          (∀ b o, b < s.heap.objs.size → s.heap.get? b = some o → h'.get? b = some o)) E) PySem.F.called_set.init.plain PySem.F.entry_set_init (check_set_init_1 hT ?_)) fun r₂ s₂ hr₂ => ?_
      · obtain ⟨ol, hol, hcl, nl, hdl⟩ := hl
        obtain ⟨ocls, odict, odata, oslots⟩ := ol
        simp only at hcl hdl
        subst hcl; subst hdl
        have hol' : (s.heap.push (blank w)).get? l = some { cls := .type "tuple", dict := odict, data := .seq items nl, slots := oslots } := Heap.get?_push_of_some _ hol
        have hsls := PySem.F.sub_tuple_set
        have hslf := PySem.F.sub_tuple_frozenset
        have hne : (Value.type "tuple" == Value.type "dict") = false := by decide
        have hl1 : (s.heap.push (blank w)).IsTuple l items := ⟨_, hol', rfl, nl, rfl⟩
        unfold Builtin.«set.__init__» noKeywords Builtin.Frozenset.updateFrom
        generalize hPI : pyIter = PI
        wp_walk
        subst hPI

        refine wpAny_pyIter_tuple hl1 ?_
        refine wpAny_bind (wpAny_runValue ?_)
        have hlS : l < s.heap.objs.size := Heap.lt_size hol
        have hh3 : A.in1.in1.in1.handled = none := by simp [hh]
        have hneI : l ≠ (s.heap.push (blank w)).objs.size := by
          rw [Heap.size_push]; exact Nat.ne_of_lt (Nat.lt_succ_of_lt hlS)
        have hSf : s.heap.objs.size ∉ [(s.heap.push (blank w)).objs.size, l] := by
          rw [Heap.size_push]; simp only [List.mem_cons, List.mem_singleton, List.not_mem_nil, or_false, not_or]
          exact ⟨Nat.ne_of_lt (Nat.lt_succ_self _), Nat.ne_of_gt hlS⟩
        refine upd_loop ((Walks.tuple hh3 _ l hneI items).toS) s.heap.objs.size
          hSf xs hsz (by rw [← hsz]; exact hfew) (fun i v hv => hval_of hi hv) (items.size - 0) 0 _ (by omega) (Nat.zero_le _)
          ⟨⟨_, Heap.get?_push_size _ rfl, rfl, rfl⟩, (hl1.push _)⟩ ?hS0 ?hR
        case hS0 =>
          have hget : ((s.heap.push (blank w)).push { cls := .type "tuple_iterator", data := .fields #[.ref l, .int 0 0] }).get? s.heap.objs.size = some (blank w) := Heap.get?_push_of_some _ hS
          exact ⟨0, Nat.le_refl _, (setS_fresh hget).congr (fun k => by unfold seen; rw [List.take_zero]; rfl) rfl⟩
        case hR =>
          intro s' m hm mv hS'
          obtain ⟨h', g', d', tk', os'⟩ := s'
          have eg : g' = s.gens := mv.gens
          have ed : d' = s.drawn := mv.drawn
          have eo : os' = s.os := mv.os
          subst eg; subst ed; subst eo
          show wpAny _ _ _ _ _ _
          refine wpAny_pure ?_
          show wpAny _ _ (ret Value.none) _ _ _
          rw [hsee] at hS'
          refine wpAny_pure ⟨rfl, h', tk', m, rfl, by rw [hsz]; exact hm, hS', fun b o hb e => ?_⟩
          have hb1 : b ≠ s.heap.objs.size := Nat.ne_of_lt hb
          have hb2 : b ≠ (s.heap.push (blank w)).objs.size := by
            rw [Heap.size_push]; exact Nat.ne_of_lt (Nat.lt_succ_of_lt hb)
          exact mv.heap b o (by simp only [List.mem_cons, List.mem_singleton, List.not_mem_nil, or_false, not_or]; exact ⟨hb1, hb2⟩) (Heap.get?_push_of_some _ (Heap.get?_push_of_some _ e))

      · cases r₂ with
        | error e => exact hr₂
        | ok fl₂ =>
          cases fl₂ with
          | ret r =>
            obtain ⟨rfl, h', tk, m, rfl, hm, hS', hk'⟩ := hr₂
            repeat (any_goals (first | assumption | wp_step))
            exact h _ _ _ hm hS' hk'
          | _ => exact hr₂.elim
    | _ => exact hr.elim
end
end Vst

set_option Elab.async false
set_option linter.all false
set_option maxRecDepth 100000
set_option maxHeartbeats 2000000
/-! sorted(set(xs)) of texts: rules. -/
namespace Vst
open PySem PySem.Spec PyProof.Rows L2
section
variable {P : Program} {w : World} {A : Around} {E : Value → Shared → Prop} {s : Shared} {a : Addr} {S : Str → Bool} {n : Nat}
theorem sorted_setS {Q : Value → Shared → Prop} (R : SetS P w s.heap a S n) (hh : A.handled = none) (h64 : n < 64)
    (hQ : ∀ s' p (out : Array Value) (c : Nat) (ys : List Str), (∀ b o, s.heap.get? b = some o → s'.heap.get? b = some o) → s'.gens = s.gens → s'.os = s.os → s.heap.objs.size ≤ p →
      s'.heap.get? p = some (seqObj "list" out c) → StrsAre out.toList ys → ys.Nodup → (∀ k, k ∈ ys ↔ S k = true) → sortedS ys = true → Q (.ref p) s') :
    wpAny (model P w) A (call (.builtin "sorted") [.ref a]) Q E s := by
  obtain ⟨o, es, ep, t, ho, T, hn⟩ := R
  refine Calls.call_function_entry kind_sorted plain_sorted entry_sorted (args_sorted1 _) ?_
  unfold Builtin.«sorted»
  refine wpAny_bind (m := checkCount "sorted" 1 1 _) (wpAny_pure ?_)
  refine wpAny_bind (collect_set (A := A.in1) hh ⟨o, ho, T.ex.1, T.dat⟩ T.fits T.few T.ris T.led fun s1 vs k1 hz g1 o1 pm => ?_)
  have hvl : vs.length = n := by rw [pm.length_eq, List.length_map, Array.length_toList]; exact hn
  have hI : StrsAre vs (vs.map strOf) := strsAre_map vs fun v hv => by
    obtain ⟨e, he, q⟩ := List.mem_map.mp (pm.mem_iff.mp hv)
    obtain ⟨⟨k, h1, _⟩, _⟩ := T.el e he
    obtain ⟨tk, h2⟩ := Value.isStrOf_shape h1
    exact ⟨k, tk, by rw [← q]; exact h2⟩
  have es2 : (es.toList.map (·.2)).map strOf = es.toList.map (kof strV) := by
    rw [List.map_map]
    refine List.map_congr_left fun e he => ?_
    obtain ⟨⟨k, h1, _⟩, _⟩ := T.el e he
    obtain ⟨tk, h2⟩ := Value.isStrOf_shape h1
    show strOf e.2 = strV e.2
    rw [h2]
    rfl
  have pk : (vs.map strOf).Perm (es.toList.map (kof strV)) := by
    have q := pm.map strOf
    rw [es2] at q
    exact q
  refine wpAny_bind (wpAny_newList ?_ (by rw [hvl, sizeLine_eq]; omega))
  have hoL : (s1.heap.push (seqObj "list" vs.toArray 0)).get? s1.heap.objs.size = some (seqObj "list" vs.toArray 0) := Heap.get?_push_size _ rfl
  refine wpAny_bind (wpAny_holding (wpAny_call_entry slot_list_sort ⟨_, hoL, rfl⟩ entry_list_sort
    (list_sort_treeK strKind_oneLt hoL hI.keysOf (fun v₁ v₂ rest e => keyKind_strs (by rw [← e]; exact hI)) (by rw [hvl]; exact h64) fun st' hp hs => ⟨_, rfl, ?_⟩) (args_list_sort _)))
  obtain ⟨ys, a1, a2, a3⟩ := sorted_out_str hI hp hs
  obtain ⟨c, hc⟩ := sortedHeap_at (vs := vs) (out := (arrOf st').map (·.2)) hoL
  have pn : ys.Perm (es.toList.map (kof strV)) := a2.trans pk
  refine wpAny_pure ⟨_, rfl, hQ _ s1.heap.objs.size _ c ys (fun b u e => ?_) g1 o1 hz hc a1 (pn.nodup_iff.mpr T.nd) (fun k => by rw [pn.mem_iff, ← T.mem k]) a3⟩
  have q := k1 b u e
  have hlt := Heap.lt_size q
  show (sortedHeap (s1.heap.push (seqObj "list" vs.toArray 0)) s1.heap.objs.size vs _).get? b = some u
  rw [sortedHeap_old (Nat.ne_of_lt hlt) (by rw [size_push']; exact Nat.lt_succ_of_lt hlt)]
  exact Heap.get?_push_of_some _ q
end
/-! ### rules -/
/-- the set of texts at a -/
def SetSO (P : Program) (w : World) (a : Addr) (S : Str → Bool) (n : Nat) : HO := .ext fun h => SetS P w h a S n
theorem setSO_new {P : Program} {w : World} {H : Hp} {h : Heap} {a : Addr} {S : Str → Bool} {n : Nat} (R : SetS P w h a S n) : ObjOk P w H h a (SetSO P w a S n) := by
  have ⟨o, _, _, _, ho, _⟩ := R
  exact ⟨R, ⟨o, ho⟩, fun h1 h2 p k => SetG.keep p k⟩
section
variable {X : Cx}
def rSetS (K : PySem.W.Frag) (P : Program) (w : World) : List V → Hp → VK → Prop := fun vs H Q => ∃ (l : Addr) (xs : List Str), vs = [V.ref l] ∧ (SqL K H l (xs.map V.str) ∨ SqT K H l (xs.map V.str)) ∧ xs.length ≤ 1000 ∧
  ∀ a m, H a = none → m ≤ xs.length → Q (.ref a) (upd H a (SetSO P w a (fun k => decide (k ∈ xs)) m))
theorem few_of {n : Nat} (h : n ≤ 1000) : n + 1 < scanBound := by unfold scanBound; omega
/-- set(xs): a list or a tuple of texts -/
theorem cr_setS (hc : X.calm = true) : CallR X (.type "set") (rSetS X.K X.prog X.w) := by
  intro pins s σ H vs us Q I r h
  obtain ⟨l, xs, rfl, hl, hf, q⟩ := h
  rw [Vals.ref1 r]
  have hn : H s.heap.objs.size = none := I.hok.fresh (Nat.le_refl _)
  rcases hl with hl | hl
  · obtain ⟨its, rv, pl, hz⟩ := I.list hl
    refine call_set_list (P := X.prog) (w := X.w) (I.ok.hd hc) pl.isList (by simpa using strsAre_of rv) (few_of hf) fun h' tk m hm R k => ?_
    exact ⟨.ref s.heap.objs.size, upd H s.heap.objs.size (SetSO X.prog X.w s.heap.objs.size _ m), I.laid (t' := tk) (fun b o e => k b o (Heap.lt_size e) e) (Nat.le_refl _) (setSO_new R), rfl, q _ m hn hm⟩
  · obtain ⟨its, rv, pl, hz⟩ := I.tuple hl
    refine call_set_tuple (P := X.prog) (w := X.w) (I.ok.hd hc) pl (by simpa using strsAre_of rv) (few_of hf) fun h' tk m hm R k => ?_
    exact ⟨.ref s.heap.objs.size, upd H s.heap.objs.size (SetSO X.prog X.w s.heap.objs.size _ m), I.laid (t' := tk) (fun b o e => k b o (Heap.lt_size e) e) (Nat.le_refl _) (setSO_new R), rfl, q _ m hn hm⟩
def rSortedSt (P : Program) (w : World) : List V → Hp → VK → Prop := fun vs H Q => ∃ (a : Addr) (S : Str → Bool) (n : Nat), vs = [V.ref a] ∧ H a = some (SetSO P w a S n) ∧ n < 64 ∧
  ∀ (ys : List Str) (p : Addr), ys.Nodup → (∀ k, k ∈ ys ↔ S k = true) → sortedS ys = true → ys.length < 64 → H p = none → Q (.ref p) (upd H p (.lst (ys.map V.str)))
/-- sorted(set of texts) -/
theorem cr_sortedSt (hc : X.calm = true) : CallR X (.builtin "sorted") (rSortedSt X.prog X.w) := by
  intro pins s σ H vs us Q I r h
  obtain ⟨a, S, n, rfl, ha, h64, q⟩ := h
  have R : SetS X.prog X.w s.heap a S n := (I.hok a _ ha).1
  rw [Vals.ref1 r]
  have hsize : ∀ ys : List Str, ys.Nodup → (∀ k, k ∈ ys ↔ S k = true) → ys.length = n := by
    intro ys nd hm
    obtain ⟨o, es, ep, t, ho, T, hn⟩ := R
    have p : ys.Perm (es.toList.map (kof strV)) := (List.perm_ext_iff_of_nodup nd T.nd).mpr fun k => (hm k).trans (T.mem k)
    rw [p.length_eq, List.length_map, Array.length_toList]
    exact hn
  refine sorted_setS R (I.ok.hd hc) h64 fun s' p out c ys k g o hp hg hout nd hm hs => ?_
  have hlen0 := hsize ys nd hm
  have hlen : (ys.map V.str).length ≤ sizeLine := by rw [List.length_map, sizeLine_eq]; omega
  have hn : H p = none := I.hok.fresh hp
  have J : Inv X pins σ (upd H p (.lst (ys.map V.str))) { s with heap := s'.heap, gens := s'.gens, drawn := s'.drawn, toks := s'.toks } :=
    I.call (ch := []) (Un.laid k hp hn) (I.hok.laid k hp ⟨hlen, out.toList, c, vals_of_strs hout, hg⟩) (by rw [g]; exact I.bare) (fun _ z => nomatch z)
  have e : s' = { s with heap := s'.heap, gens := s'.gens, drawn := s'.drawn, toks := s'.toks } := by
    cases s'
    cases s
    cases o
    rfl
  rw [e]
  exact ⟨.ref p, _, J, rfl, q ys p nd hm hs (by omega) hn⟩
end
end Vst

set_option Elab.async false
set_option linter.all false
/-! The least piece of which a sequence is a multiple; it is the same for all multiples of the sequence. -/
namespace Vq
variable {α : Type}
/-- k times the sequence -/
def rp (k : Nat) (a : List α) : List α := (List.replicate k a).flatten
theorem rp_len (a : List α) : ∀ k, (rp k a).length = k * a.length
  | 0 => by rw [Nat.zero_mul]; rfl
  | k + 1 => by
    unfold rp
    rw [List.replicate_succ, List.flatten_cons, List.length_append, Nat.succ_mul]
    have := rp_len a k
    unfold rp at this
    omega
theorem rp_at (a : List α) : ∀ k i, i < k * a.length → (rp k a)[i]? = a[i % a.length]?
  | 0, i, h => by omega
  | k + 1, i, h => by
    have ih := rp_at a k
    unfold rp at ih ⊢
    rw [List.replicate_succ, List.flatten_cons]
    by_cases hi : i < a.length
    · rw [List.getElem?_append_left hi, Nat.mod_eq_of_lt hi]
    · rw [List.getElem?_append_right (by omega), ih (i - a.length) (by rw [Nat.succ_mul] at h; omega), ← Nat.mod_eq_sub_mod (by omega)]
/-- the sequence gone without end -/
def goes (a : List α) (i : Nat) : Option α := a[i % a.length]?
def Per (f : Nat → Option α) (s : Nat) : Prop := ∀ i, f (i + s) = f i
theorem Per.mul {f : Nat → Option α} {s : Nat} (h : Per f s) : ∀ k i, f (i + s * k) = f i
  | 0, i => by rw [Nat.mul_zero, Nat.add_zero]
  | k + 1, i => by
    rw [Nat.mul_succ, ← Nat.add_assoc, h, h.mul k]
theorem Per.mod {f : Nat → Option α} {s : Nat} (h : Per f s) (i : Nat) : f (i % s) = f i := by
  have := h.mul (i / s) (i % s)
  rw [← this]
  congr 1
  exact Nat.mod_add_div i s
theorem Per.rest {f : Nat → Option α} {a b : Nat} (ha : Per f a) (hb : Per f b) : Per f (b % a) := fun i => by
  rw [← ha.mul (b / a) (i + b % a), Nat.add_assoc, Nat.mod_add_div, hb]
theorem Per.gcd {f : Nat → Option α} (a b : Nat) : Per f a → Per f b → Per f (Nat.gcd a b) := by
  refine Nat.gcd.induction (P := fun a b => Per f a → Per f b → Per f (Nat.gcd a b)) a b (fun n _ hn => ?_) (fun m n hm ih h1 h2 => ?_)
  · rw [Nat.gcd_zero_left]
    exact hn
  · rw [Nat.gcd_rec]
    exact ih (h1.rest h2) h1
theorem per_len (a : List α) : Per (goes a) a.length := fun i => by
  unfold goes
  rw [Nat.add_mod_right]
/-- s lanes, gone again and again, are the sequence -/
def Siz (a : List α) (s : Nat) : Prop := 1 ≤ s ∧ rp (a.length / s) (a.take s) = a
theorem siz_iff {a : List α} {s : Nat} (ha : 1 ≤ a.length) (hs : 1 ≤ s) : Siz a s ↔ s ∣ a.length ∧ Per (goes a) s := by
  constructor
  · rintro ⟨_, h⟩
    have hl := congrArg List.length h
    rw [rp_len, List.length_take] at hl
    have hle : s ≤ a.length := by
      rcases Nat.lt_or_ge a.length s with q | q
      · rw [Nat.div_eq_of_lt q, Nat.zero_mul] at hl
        omega
      · exact q
    rw [Nat.min_eq_left hle] at hl
    have hd : s ∣ a.length := ⟨a.length / s, by rw [Nat.mul_comm]; exact hl.symm⟩
    have at_ : ∀ i, i < a.length → a[i]? = a[i % s]? := fun i hi => by
      have q := rp_at (a.take s) (a.length / s) i (by rw [List.length_take, Nat.min_eq_left hle, hl]; exact hi)
      rw [h, List.length_take, Nat.min_eq_left hle, List.getElem?_take, if_pos (Nat.mod_lt _ hs)] at q
      exact q
    refine ⟨hd, fun i => ?_⟩
    unfold goes
    rw [at_ _ (Nat.mod_lt _ ha), at_ _ (Nat.mod_lt i ha), Nat.mod_mod_of_dvd _ hd, Nat.mod_mod_of_dvd _ hd, Nat.add_mod_right]
  · rintro ⟨hd, hp⟩
    have hle : s ≤ a.length := Nat.le_of_dvd ha hd
    have hl : (a.take s).length = s := by rw [List.length_take, Nat.min_eq_left hle]
    have hm : a.length / s * s = a.length := Nat.div_mul_cancel hd
    refine ⟨hs, List.ext_getElem? fun i => ?_⟩
    by_cases hi : i < a.length
    · rw [rp_at _ _ _ (by rw [hl, hm]; exact hi), hl, List.getElem?_take, if_pos (Nat.mod_lt _ hs)]
      have q := hp.mod i
      unfold goes at q
      rw [Nat.mod_eq_of_lt hi, Nat.mod_eq_of_lt (Nat.lt_of_lt_of_le (Nat.mod_lt _ hs) hle)] at q
      exact q
    · rw [List.getElem?_eq_none (by rw [rp_len, hl, hm]; omega), List.getElem?_eq_none (by omega)]
/-- the least such number -/
def Rt (a : List α) (s : Nat) : Prop := Siz a s ∧ ∀ t, 1 ≤ t → t < s → ¬ Siz a t
theorem Rt.one {a : List α} {s t : Nat} (h : Rt a s) (g : Rt a t) : s = t := by
  rcases Nat.lt_trichotomy s t with q | q | q
  · exact absurd h.1 (g.2 s h.1.1 q)
  · exact q
  · exact absurd g.1 (h.2 t g.1.1 q)
theorem siz_self {a : List α} (ha : 1 ≤ a.length) : Siz a a.length := (siz_iff ha ha).mpr ⟨Nat.dvd_refl _, per_len a⟩
theorem Rt.le {a : List α} {s : Nat} (ha : 1 ≤ a.length) (h : Rt a s) : s ≤ a.length := Nat.le_of_dvd ha ((siz_iff ha h.1.1).mp h.1).1
theorem goes_rp (a : List α) (k : Nat) (hk : 1 ≤ k) (ha : 1 ≤ a.length) (i : Nat) : goes (rp k a) i = goes a i := by
  unfold goes
  have h0 : 0 < k * a.length := Nat.mul_pos hk ha
  rw [rp_at _ _ _ (by rw [rp_len]; exact Nat.mod_lt _ h0), rp_len, Nat.mod_mod_of_dvd _ ⟨k, Nat.mul_comm _ _⟩]
theorem Rt.rp {a : List α} {s k : Nat} (ha : 1 ≤ a.length) (hk : 1 ≤ k) (h : Rt a s) : Rt (rp k a) s := by
  have h0 : 1 ≤ (Vq.rp k a).length := by rw [rp_len]; exact Nat.mul_pos hk ha
  have e : goes (Vq.rp k a) = goes a := funext (goes_rp a k hk ha)
  obtain ⟨hd, hp⟩ := (siz_iff ha h.1.1).mp h.1
  refine ⟨(siz_iff h0 h.1.1).mpr ⟨by rw [rp_len]; exact Nat.dvd_trans hd ⟨k, Nat.mul_comm _ _⟩, by rw [e]; exact hp⟩, fun t ht hts hz => ?_⟩
  obtain ⟨_, hpt⟩ := (siz_iff h0 ht).mp hz
  rw [e] at hpt
  have hg := Per.gcd t a.length hpt (per_len a)
  have g1 : 1 ≤ Nat.gcd t a.length := Nat.gcd_pos_of_pos_left _ ht
  have g2 : Nat.gcd t a.length ≤ t := Nat.gcd_le_left _ ht
  exact h.2 _ g1 (by omega) ((siz_iff ha g1).mpr ⟨Nat.gcd_dvd_right _ _, hg⟩)
theorem rp_take {a : List α} {s k : Nat} (hk : 1 ≤ k) (hs : s ≤ a.length) : (Vq.rp k a).take s = a.take s := by
  obtain ⟨j, rfl⟩ := Nat.exists_eq_add_of_le hk
  rw [Nat.add_comm]
  unfold Vq.rp
  rw [List.replicate_succ, List.flatten_cons, List.take_append_of_le_length hs]
theorem rp_div {a : List α} {s k : Nat} (hd : s ∣ a.length) : (Vq.rp k a).length / s = a.length / s * k := by
  rw [rp_len, Nat.mul_div_assoc _ hd, Nat.mul_comm]
end Vq

set_option Elab.async false
set_option linter.all false
set_option maxRecDepth 100000
set_option maxHeartbeats 2000000
/-! Comprehensions over a tuple that stands, over a list or a tuple; all(..) of such. -/
namespace Vlt
open PySem PySem.Spec PyProof.Rows L2 Vl Evl Vp Ve Ven
section
variable {K : PySem.W.Frag} {te tl : TE} {tt : TT} {σ : L2.St} {H : Hp}
theorem el_lcTA {α : Type} {ys : List α} {g : α → V} {a : Addr} {j : Nat} {vs : List Nat} (c : α → Bool) (w : α → V) (h : Ev tl σ H (.ref a)) (hx : SqT K H a (ys.map g)) (hz : ys.length ≤ 40000) (hw : ∀ x, wipe ((wipe σ vs).set j (some x)) vs = wipe σ vs)
    (ht : ∀ (y : α) (H1 : Hp), Ex H H1 → y ∈ ys → EvT tt ((wipe σ vs).set j (some (g y))) H1 (c y)) (he : ∀ (y : α) (H1 : Hp), Ex H H1 → y ∈ ys → c y = true → Ev te ((wipe σ vs).set j (some (g y))) H1 (w y)) :
    EvL (tLc (iTup K tl) (gName j) tt te vs) σ H ((ys.filter c).map w) := fun H0 e Q q => h H0 e _ fun H1 e1 => ⟨a, rfl, ⟨ys.map g, ex_t (e.trans e1) hx⟩, fun Dl hD => by
  have hgm := given_map c w (fun i => match ys[i]? with | some y => c y | none => false) (fun i => match ys[i]? with | some y => w y | none => .non) (fun i y hy => by rw [hy]; exact ⟨rfl, rfl⟩) ys.length (Nat.le_refl _)
  rw [List.take_length] at hgm
  refine lc_tup (xs := ys.map g) (Cw H1 (fun i => match ys[i]? with | some y => c y | none => false) (fun i => match ys[i]? with | some y => w y | none => .non) Dl) ⟨hD, Ex.new hD, upd_same⟩ (fun i H' _ p => ex_t ((e.trans e1).trans p.2.1) hx) (fun i x H' hi p => ⟨hw x, ?_⟩)
    (fun H' p => q Dl H' (fresh_back e1 p.1) (e1.trans p.2.1) (by have h2 := p.2.2; rw [List.length_map, hgm] at h2; exact h2))
  rw [List.getElem?_map] at hi
  obtain ⟨y, hy, rfl⟩ := Option.map_eq_some_iff.mp hi
  have hm := List.mem_of_getElem? hy
  refine cw_turn p (by have := (List.getElem?_eq_some_iff.mp hy).1; omega) ?_ ?_
  · rw [hy]
    exact ht y H1 (e.trans e1) hm
  · rw [hy]
    exact fun hf => he y H1 (e.trans e1) hm hf⟩
theorem el_lcTM {α : Type} {ys : List α} {g : α → V} {a : Addr} {j : Nat} {vs : List Nat} (w : α → V) (h : Ev tl σ H (.ref a)) (hx : SqT K H a (ys.map g)) (hz : ys.length ≤ 40000) (hw : ∀ x, wipe ((wipe σ vs).set j (some x)) vs = wipe σ vs)
    (he : ∀ (y : α) (H1 : Hp), Ex H H1 → y ∈ ys → Ev te ((wipe σ vs).set j (some (g y))) H1 (w y)) : EvL (tLc (iTup K tl) (gName j) tYes te vs) σ H (ys.map w) := by
  have := el_lcTA (K := K) (tt := tYes) (te := te) (fun _ => true) w h hx hz hw (fun y H1 _ _ => et_yes) (fun y H1 e hy _ => he y H1 e hy)
  rw [List.filter_eq_self.mpr (fun _ _ => rfl)] at this
  exact this
theorem ev_all {bs : List Bool} (h : EvL te σ H (bs.map V.bl)) : Ev (tCB (rAll K) (tCons te tNil)) σ H (.bl (bs.all id)) := fun H1 e Q q => h H1 e _ fun p H2 np e2 hp => ⟨p, bs, rfl, sq_of hp, q H2 e2⟩
theorem given_all {n : Nat} (v : Nat → V) : given n (fun _ => true) v = (List.range n).map v := by
  unfold given
  rw [List.filter_eq_self.mpr (fun _ _ => rfl)]
theorem lc_seqL {i : Nat} {g : TG} {vs : List Nat} {Q : VK} (h : tLc (iList K (tVar i)) g tt te vs σ H Q) : tLc (iSeqA K (tVar i)) g tt te vs σ H Q := by
  obtain ⟨v, hv, a, e, hs, r⟩ := h
  exact ⟨v, hv, a, e, .inl ⟨hs, r⟩⟩
theorem lc_seqT {i : Nat} {g : TG} {vs : List Nat} {Q : VK} (h : tLc (iTup K (tVar i)) g tt te vs σ H Q) : tLc (iSeqA K (tVar i)) g tt te vs σ H Q := by
  obtain ⟨v, hv, a, e, hs, r⟩ := h
  exact ⟨v, hv, a, e, .inr ⟨hs, r⟩⟩
/-- over a list or a tuple that a variable holds -/
theorem el_lcSM {α : Type} {ys : List α} {g : α → V} {a : Addr} {i j : Nat} {vs : List Nat} (w : α → V) (h : σ[i]? = some (some (.ref a))) (hx : SqA K H a (ys.map g)) (hz : ys.length ≤ 40000) (hw : ∀ x, wipe ((wipe σ vs).set j (some x)) vs = wipe σ vs)
    (he : ∀ (y : α) (H1 : Hp), Ex H H1 → y ∈ ys → Ev te ((wipe σ vs).set j (some (g y))) H1 (w y)) : EvL (tLc (iSeqA K (tVar i)) (gName j) tYes te vs) σ H (ys.map w) := fun H1 e Q q => by
  rcases hx with hx | hx
  · exact lc_seqL (el_lcM w (ev_var h) hx hz hw he H1 e Q q)
  · exact lc_seqT (el_lcTM w (ev_var h) hx hz hw he H1 e Q q)
end
end Vlt

set_option Elab.async false
set_option linter.all false
set_option maxRecDepth 100000
set_option maxHeartbeats 4000000
/-! Texts: repeated, cut, joined; the windows of a text that goes round. -/
namespace Vtx
open PySem PySem.Spec PyProof.Rows L2 Vl Evl Vp
theorem fold_rep (b : List Nat) : ∀ (k : Nat) (acc : Array Nat), (List.replicate k b.toArray).foldl (· ++ ·) acc = acc ++ (Vq.rp k b).toArray
  | 0, acc => by
    show acc = acc ++ ([] : List Nat).toArray
    simp
  | k + 1, acc => by
    rw [List.replicate_succ, List.foldl_cons, fold_rep b k]
    unfold Vq.rp
    rw [List.replicate_succ, List.flatten_cons, Array.append_assoc]
    congr 1
    rw [List.append_toArray]
theorem rp_one' {α : Type} (xs : List α) : Vq.rp 1 xs = xs := by
  unfold Vq.rp
  rw [List.replicate_succ, List.replicate_zero, List.flatten_cons, List.flatten_nil, List.append_nil]
theorem mul_tx (l : List Nat) (k : Nat) : Txt.mul (tx l) (k : Int) = tx (Vq.rp k l) := by
  unfold Txt.mul
  by_cases h : (k : Int) < 1
  · rw [if_pos h]
    have : k = 0 := by omega
    subst this
    rfl
  · rw [if_neg h]
    split
    · rename_i hc
      rw [Bool.or_eq_true, beq_iff_eq, beq_iff_eq] at hc
      rcases hc with hc | hc
      · have : k = 1 := by omega
        subst this
        rw [rp_one']
      · have : l = [] := List.eq_nil_of_length_eq_zero (by rw [tx_len] at hc; exact hc)
        subst this
        have : Vq.rp k ([] : List Nat) = [] := List.eq_nil_of_length_eq_zero (by rw [Vq.rp_len]; rfl)
        rw [this]
    · show Str.mk ((List.replicate k l.toArray).foldl (· ++ ·) #[]) = _
      rw [fold_rep]
      show Str.mk (#[] ++ (Vq.rp k l).toArray) = Str.mk (Vq.rp k l).toArray
      rw [Array.empty_append]
def rRepS : R2 := fun x y H Q => ∃ (l : List Nat) (k : Nat), x = .str (tx l) ∧ y = .int (k : Nat) ∧ l.length ≤ 1000 ∧ k ≤ 1000 ∧ Q (.str (tx (Vq.rp k l))) H
section
variable {X : Cx}
def rIxQ (K : PySem.W.Frag) : R2 := fun x y H Q => rIxL K x y H Q ∨ rIxT K x y H Q
theorem ix_seq : IxR X (rIxQ X.K) := by
  intro value slice pins s σ H x y v u Q I rx ry h hs
  exact h.elim (fun h => ix_list value slice pins s σ H x y v u Q I rx ry h hs) (fun h => ix_tup value slice pins s σ H x y v u Q I rx ry h hs)
theorem op_repS : OpR X (binaryOp .Mult) rRepS := by
  intro pins s σ H x y v u Q I rx ry h
  obtain ⟨l, k, rfl, rfl, hl, hk, q⟩ := h
  obtain ⟨t, rfl⟩ := rx
  obtain ⟨t', rfl⟩ := ry
  exact SB.mul (mulOk_of 1000 1000 (by rw [tx_len]; exact hl) (by omega) (by omega) (by omega) (by omega)) fun t2 tk => ⟨.str (tx (Vq.rp k l)), H, I.tok _, ⟨t2, by rw [mul_tx]⟩, q⟩
end
section
variable {K : PySem.W.Frag} {σ : L2.St} {H : Hp} {ta tb te : TE} {l : List Nat}
theorem rv_repS {k : Nat} (hl : l.length ≤ 1000) (hk : k ≤ 1000) : RV rRepS (.str (tx l)) (.int (k : Nat)) H (.str (tx (Vq.rp k l))) := rv_val fun H1 _ Q q => ⟨l, k, rfl, rfl, hl, hk, q⟩
theorem ev_slS {tl th : TO} {lo hi : Option Int} (h : Ev te σ H (.str (tx l))) (h1 : EvO tl σ H lo) (h2 : EvO th σ H hi) (hz : l.length ≤ 100000) : Ev (tSl rSlS te tl th) σ H (.str (cutS (tx l) lo hi)) := fun H1 e Q q =>
  h H1 e _ fun H2 e2 => h1 H2 (e.trans e2) _ fun H3 e3 => h2 H3 ((e.trans e2).trans e3) _ fun H4 e4 => ⟨tx l, rfl, sz_of (by rw [tx_len]; exact hz), q H4 ((e2.trans e3).trans e4)⟩
theorem cut_pq (l : List Nat) (p q : Nat) : cutS (tx l) (some (p : Int)) (some (q : Int)) = tx ((l.drop p).take (q - p)) := by
  unfold cutS
  rw [HT.sIx_nat, HT.sIx_nat]
  show Str.mk (((l.drop (min p l.length)).take (min q l.length - min p l.length)).toArray) = Str.mk _
  congr 2
  by_cases hp : p ≤ l.length
  · rw [Nat.min_eq_left hp]
    by_cases hq : q ≤ l.length
    · rw [Nat.min_eq_left hq]
    · rw [Nat.min_eq_right (by omega)]
      rw [List.take_of_length_le (by rw [List.length_drop]; omega), List.take_of_length_le (by rw [List.length_drop]; omega)]
  · rw [Nat.min_eq_right (show l.length ≤ p by omega), List.drop_eq_nil_of_le (Nat.le_refl _), List.drop_eq_nil_of_le (by omega)]
    simp
theorem cut_last (l : List Nat) (h : 1 ≤ l.length) : cutS (tx l) none (some (-1)) = tx (l.take (l.length - 1)) := by
  unfold cutS
  have e : HT.sIx (tx l).length (tx l).length (some (-1)) = l.length - 1 := by
    rw [tx_len]
    unfold HT.sIx
    simp only
    split <;> omega
  rw [e]
  rfl
theorem cut_one (l : List Nat) : cutS (tx l) (some 1) none = tx (l.drop 1) := tx_cut1 l 1
theorem join_ones (cs : List Nat) : Txt.join Str.empty (cs.map fun c => tx [c]) = tx cs := by
  have go : ∀ (r acc : List Nat), ((r.map fun c => tx [c]).foldl (fun acc p => acc ++ Str.empty.cps ++ p.cps) acc.toArray) = (acc ++ r).toArray := by
    intro r
    induction r with
    | nil => intro acc; rw [List.append_nil]; rfl
    | cons c r ih =>
      intro acc
      rw [List.map_cons, List.foldl_cons]
      have : acc.toArray ++ Str.empty.cps ++ (tx [c]).cps = (acc ++ [c]).toArray := by
        show acc.toArray ++ #[] ++ [c].toArray = _
        rw [Array.append_empty, List.append_toArray]
      rw [this, ih, List.append_assoc]
      rfl
  unfold Txt.join Builtin.Str.glued
  cases cs with
  | nil => rfl
  | cons c r =>
    show Str.mk ((r.map fun c => tx [c]).foldl (fun acc p => acc ++ Str.empty.cps ++ p.cps) [c].toArray) = _
    rw [go r [c]]
    rfl
end
section
variable {K : PySem.W.Frag} {te tl : TE} {tt : TT} {σ : L2.St} {H : Hp}
theorem ev_lenS {l : List Nat} (h : Ev te σ H (.str (tx l))) (hz : l.length ≤ 100000) : Ev (tCB (fun vs H Q => ∃ x n, vs = [x] ∧ LenV K x H n ∧ Q (.int n) H) (tCons te tNil)) σ H (.int (l.length : Nat)) := fun H1 e Q q =>
  h H1 e _ fun H2 e2 => ⟨.str (tx l), l.length, rfl, ⟨sz_of (by rw [tx_len]; exact hz), (tx_len l).symm⟩, q H2 e2⟩
theorem ev_chain {r r' : R2} {ta tb tc : TE} {x y z : V} {k b : Bool} (ha : Ev ta σ H x) (hb : Ev tb σ H y) (h1 : RV r x y H (.bl k)) (hc : k = true → Ev tc σ H z) (h2 : RV r' y z H (.bl b)) : Ev (tChain r r' ta tb tc) σ H (.bl (k && b)) := fun H1 e Q q =>
  ha H1 e _ fun H2 e2 => hb H2 (e.trans e2) _ fun H3 e3 => h1 H3 ((e.trans e2).trans e3) _ fun H4 e4 => ⟨k, rfl, by
    cases k with
    | true => exact hc rfl H4 (((e.trans e2).trans e3).trans e4) _ fun H5 e5 => h2 H5 ((((e.trans e2).trans e3).trans e4).trans e5) _ fun H6 e6 => q H6 ((((e2.trans e3).trans e4).trans e5).trans e6)
    | false => exact q H4 ((e2.trans e3).trans e4)⟩
theorem rv_inS {c : Nat} {z : List Nat} : RV rInS (.str (tx [c])) (.str (tx z)) H (.bl (decide (c ∈ z))) := rv_val fun H1 _ Q q => by
  show ∃ (d : Nat) (u : Str), V.str (tx [c]) = .str ⟨#[d]⟩ ∧ V.str (tx z) = .str u ∧ Q (.bl (decide (d ∈ u.cps.toList))) H1
  exact ⟨c, tx z, rfl, rfl, q⟩
theorem ev_isi {v : V} {n t : String} {b : Bool} (h : Ev te σ H v) (ty : TyX K H v (.type t)) (hm : ∀ H1, Ex H H1 → TyX K H1 v (.type t)) (hk : kitB t n = some b) : Ev (tCB (rIsi K) (tCons te (tCons (tC (V.ty n)) tNil))) σ H (.bl b) := fun H1 e Q q => h H1 e _ fun H2 e2 =>
  ⟨v, .ty n, .type t, .type n, b, rfl, .ty _, hm H2 (e.trans e2), kit_ty hk, q H2 e2⟩
theorem ev_ixQ {ta : TE} {a : Addr} {xs : List V} {v : V} {i : Nat} (h : Ev ta σ H (.ref a)) (hx : Ven.SqA K H a xs) (hi : xs[i]? = some v) : Ev (tOp (rIxQ K) ta (tC (.int (i : Nat)))) σ H v := fun H1 e Q q =>
  h H1 e _ fun H2 e2 => by
    have ha : atI xs (i : Int) = some v := at_of rfl hi
    rcases Ven.ex_a (e.trans e2) hx with hx | hx
    · exact .inl ⟨a, xs, _, v, rfl, rfl, hx, ha, q H2 e2⟩
    · exact .inr ⟨a, xs, _, v, rfl, rfl, hx, ha, q H2 e2⟩
theorem el_lcSt {ys : List Nat} {j : Nat} {vs : List Nat} (w : Nat → V) (h : Ev tl σ H (.str (tx ys))) (hz : ys.length ≤ 40000) (hw : ∀ x, wipe ((wipe σ vs).set j (some x)) vs = wipe σ vs)
    (he : ∀ (y : Nat) (H1 : Hp), Ex H H1 → y ∈ ys → Ev te ((wipe σ vs).set j (some (.str (tx [y])))) H1 (w y)) : EvL (tLc (iStr tl) (gName j) tYes te vs) σ H (ys.map w) := fun H0 e Q q => h H0 e _ fun H1 e1 => ⟨tx ys, rfl, fun Dl hD => by
  have hgm := Ve.given_map (ys := ys) (fun _ => true) w (fun i => match ys[i]? with | some y => true | none => false) (fun i => match ys[i]? with | some y => w y | none => .non) (fun i y hy => by rw [hy]; exact ⟨rfl, rfl⟩) ys.length (Nat.le_refl _)
  rw [List.take_length, List.filter_eq_self.mpr (fun _ _ => rfl)] at hgm
  refine lc_it walk_str (Cw H1 (fun i => match ys[i]? with | some y => true | none => false) (fun i => match ys[i]? with | some y => w y | none => .non) Dl) ⟨hD, Ex.new hD, upd_same⟩ (fun _ _ _ _ => trivial) ?_ ?_
  · rintro i x H2 H3 hi p ⟨rfl, c, hcc, rfl⟩
    have hi2 : ys[i]? = some c := by
      rw [← Array.getElem?_toList] at hcc
      exact hcc
    have hm := List.mem_of_getElem? hi2
    refine ⟨hw _, cw_turn (v := fun i => match ys[i]? with | some y => w y | none => .non) (f := fun i => match ys[i]? with | some y => true | none => false) p (by have := (List.getElem?_eq_some_iff.mp hi2).1; omega) ?_ ?_⟩
    · rw [hi2]
      exact Ve.et_yes
    · rw [hi2]
      exact fun _ => he c H1 (e.trans e1) hm
  · intro H' p
    refine q Dl H' (fresh_back e1 p.1) (e1.trans p.2.1) ?_
    have h2 := p.2.2
    have hs : (tx ys).cps.size = ys.length := rfl
    rw [hs, hgm] at h2
    exact h2⟩
end
/-! windows of a text that goes round -/
def wn (t : List Nat) (s k : Nat) : List Nat := (List.range s).map fun i => t.getD ((k + i) % t.length) 0
theorem wn_len (t : List Nat) (s k : Nat) : (wn t s k).length = s := by unfold wn; rw [List.length_map, List.length_range]
theorem wn_get {t : List Nat} {s k i : Nat} (h : i < s) : (wn t s k)[i]? = some (t.getD ((k + i) % t.length) 0) := by
  unfold wn
  rw [List.getElem?_map, List.getElem?_range h]
  rfl
theorem rp_get {t : List Nat} : ∀ (m i : Nat), i < m * t.length → (Vq.rp m t)[i]? = some (t.getD (i % t.length) 0)
  | 0, i, h => by omega
  | m + 1, i, h => by
    have e : Vq.rp (m + 1) t = t ++ Vq.rp m t := by unfold Vq.rp; rw [List.replicate_succ, List.flatten_cons]
    have ht : 0 < t.length := by
      rcases Nat.eq_zero_or_pos t.length with z | z
      · rw [z] at h; omega
      · exact z
    rw [e]
    by_cases hi : i < t.length
    · rw [List.getElem?_append_left hi, Nat.mod_eq_of_lt hi, List.getD_eq_getElem?_getD, List.getElem?_eq_getElem hi]
      rfl
    · rw [List.getElem?_append_right (by omega), rp_get m (i - t.length) (by rw [Nat.succ_mul] at h; omega)]
      congr 2
      have : i = i - t.length + t.length := by omega
      rw [this, Nat.add_mod_right, Nat.add_sub_cancel]
theorem rp_win {t : List Nat} {m s k : Nat} (h : k + s ≤ m * t.length) : ((Vq.rp m t).drop k).take s = wn t s k := by
  apply List.ext_getElem?
  intro i
  by_cases hi : i < s
  · rw [List.getElem?_take, if_pos hi, List.getElem?_drop, rp_get m (k + i) (by omega), wn_get hi]
  · rw [List.getElem?_take, if_neg hi, List.getElem?_eq_none (by rw [wn_len]; omega)]
/-- the windows in their order -/
def wns (t : List Nat) (s : Nat) : List (List Nat) := (List.range t.length).map (wn t s)
theorem wns_len (t : List Nat) (s : Nat) : (wns t s).length = t.length := by unfold wns; rw [List.length_map, List.length_range]
theorem wns_get {t : List Nat} {s k : Nat} (h : k < t.length) : (wns t s)[k]? = some (wn t s k) := by
  unfold wns
  rw [List.getElem?_map, List.getElem?_range h]
  rfl
/-- text begun elsewhere -/
def rt (t : List Nat) (k : Nat) : List Nat := t.drop k ++ t.take k
theorem rt_len {t : List Nat} {k : Nat} (h : k ≤ t.length) : (rt t k).length = t.length := by
  unfold rt
  rw [List.length_append, List.length_drop, List.length_take, Nat.min_eq_left h]
  omega
theorem rt_get {t : List Nat} {k i : Nat} (h : k ≤ t.length) (hi : i < t.length) : (rt t k).getD i 0 = t.getD ((i + k) % t.length) 0 := by
  unfold rt
  rw [List.getD_eq_getElem?_getD, List.getD_eq_getElem?_getD]
  by_cases h2 : i < t.length - k
  · rw [List.getElem?_append_left (by rw [List.length_drop]; exact h2), List.getElem?_drop, Nat.mod_eq_of_lt (by omega), Nat.add_comm]
  · rw [List.getElem?_append_right (by rw [List.length_drop]; omega), List.length_drop, List.getElem?_take, if_pos (by omega)]
    congr 2
    have : i + k = (i + k - t.length) + t.length := by omega
    rw [this, Nat.add_mod_right, Nat.mod_eq_of_lt (by omega)]
    omega
theorem wn_rt {t : List Nat} {s k j : Nat} (h : k ≤ t.length) (h1 : 1 ≤ t.length) : wn (rt t k) s j = wn t s ((j + k) % t.length) := by
  unfold wn
  rw [rt_len h]
  refine List.map_congr_left fun i _ => ?_
  rw [rt_get h (Nat.mod_lt _ h1), Nat.mod_add_mod, Nat.mod_add_mod]
  congr 2
  omega
theorem wns_mem {t : List Nat} {s : Nat} {w : List Nat} : w ∈ wns t s ↔ ∃ k, k < t.length ∧ w = wn t s k := by
  unfold wns
  rw [List.mem_map]
  constructor
  · rintro ⟨k, hk, rfl⟩
    exact ⟨k, List.mem_range.mp hk, rfl⟩
  · rintro ⟨k, hk, rfl⟩
    exact ⟨k, List.mem_range.mpr hk, rfl⟩
theorem rt_mem {t : List Nat} {s k : Nat} (h : k ≤ t.length) (h1 : 1 ≤ t.length) (w : List Nat) : w ∈ wns (rt t k) s ↔ w ∈ wns t s := by
  rw [wns_mem, wns_mem, rt_len h]
  constructor
  · rintro ⟨j, hj, rfl⟩
    exact ⟨(j + k) % t.length, Nat.mod_lt _ h1, wn_rt h h1⟩
  · rintro ⟨j, hj, rfl⟩
    refine ⟨(j + (t.length - k)) % t.length, Nat.mod_lt _ h1, ?_⟩
    rw [wn_rt h h1, Nat.mod_add_mod, show j + (t.length - k) + k = j + t.length by omega, Nat.add_mod_right, Nat.mod_eq_of_lt hj]
/-- first letters -/
theorem heads {t : List Nat} {s : Nat} (hs : 1 ≤ s) : (wns t s).map (fun w => w.getD 0 0) = t := by
  apply List.ext_getElem?
  intro i
  rw [List.getElem?_map]
  by_cases hi : i < t.length
  · rw [wns_get hi, Option.map_some, List.getD_eq_getElem?_getD, wn_get (show 0 < s by omega), Nat.add_zero, Nat.mod_eq_of_lt hi, List.getD_eq_getElem?_getD, List.getElem?_eq_getElem hi]
    rfl
  · rw [List.getElem?_eq_none (by rw [wns_len]; omega), List.getElem?_eq_none (by omega)]
    rfl
theorem wns_rt {t : List Nat} {s k : Nat} (h : k ≤ t.length) (h1 : 1 ≤ t.length) : wns (rt t k) s = (wns t s).drop k ++ (wns t s).take k := by
  apply List.ext_getElem?
  intro i
  by_cases hi : i < t.length
  · rw [wns_get (by rw [rt_len h]; exact hi), wn_rt h h1]
    by_cases h2 : i < t.length - k
    · rw [List.getElem?_append_left (by rw [List.length_drop, wns_len]; exact h2), List.getElem?_drop, wns_get (by omega), Nat.mod_eq_of_lt (by omega), Nat.add_comm]
    · rw [List.getElem?_append_right (by rw [List.length_drop, wns_len]; omega), List.length_drop, wns_len, List.getElem?_take, if_pos (by omega), wns_get (by omega)]
      congr 2
      have : i + k = (i + k - t.length) + t.length := by omega
      rw [this, Nat.add_mod_right, Nat.mod_eq_of_lt (by omega)]
      omega
  · rw [List.getElem?_eq_none (by rw [wns_len, rt_len h]; omega), List.getElem?_eq_none (by rw [List.length_append, List.length_drop, List.length_take, wns_len]; omega)]
/-- one window's end is the next one's start -/
theorem wn_next {t : List Nat} {s k : Nat} (hs : 1 ≤ s) : (wn t s k).drop 1 = (wn t s (k + 1)).take (s - 1) := by
  apply List.ext_getElem?
  intro i
  rw [List.getElem?_drop]
  by_cases hi : i < s - 1
  · rw [List.getElem?_take, if_pos hi, wn_get (by omega), wn_get (by omega)]
    congr 3
    omega
  · rw [List.getElem?_eq_none (by rw [wn_len]; omega), List.getElem?_take, if_neg hi]
theorem wn_mod {t : List Nat} {s k : Nat} : wn t s (k % t.length) = wn t s k := by
  unfold wn
  refine List.map_congr_left fun i _ => ?_
  rw [Nat.mod_add_mod]
theorem wn_mem {t : List Nat} {s k c : Nat} (h1 : 1 ≤ t.length) (h : c ∈ wn t s k) : c ∈ t := by
  unfold wn at h
  obtain ⟨i, _, rfl⟩ := List.mem_map.mp h
  exact getD_mem (Nat.mod_lt _ h1)
end Vtx

set_option Elab.async false
set_option linter.all false
/-! Sorted lists of texts: there is one of each lot. -/
namespace Vsr
open PySem PySem.Spec PyProof.Rows Vp
theorem lt_tri : ∀ a b : List Nat, ltCps a b = false → ltCps b a = false → a = b
  | [], [], _, _ => rfl
  | [], _ :: _, h, _ => by cases h
  | _ :: _, [], _, h => by cases h
  | a :: r, b :: t, h1, h2 => by
    unfold ltCps at h1 h2
    rw [Bool.or_eq_false_iff] at h1 h2
    have e1 := of_decide_eq_false h1.1
    have e2 := of_decide_eq_false h2.1
    have e : a = b := by omega
    subst e
    have h3 := h1.2
    have h4 := h2.2
    rw [beq_self_eq_true, Bool.true_and] at h3 h4
    rw [lt_tri r t h3 h4]
theorem le_tr : ∀ a b c : List Nat, ltCps b a = false → ltCps c b = false → ltCps c a = false
  | [], _, [], _, _ => rfl
  | [], _, _ :: _, _, _ => rfl
  | _ :: _, [], _, h, _ => by cases h
  | _ :: _, _ :: _, [], _, h => by cases h
  | a :: r, b :: t, c :: u, h1, h2 => by
    unfold ltCps at h1 h2 ⊢
    rw [Bool.or_eq_false_iff] at h1 h2 ⊢
    have e1 := of_decide_eq_false h1.1
    have e2 := of_decide_eq_false h2.1
    refine ⟨decide_eq_false (by omega), ?_⟩
    by_cases e : c = a
    · subst e
      have e3 : b = c := by omega
      subst e3
      have h3 := h1.2
      have h4 := h2.2
      rw [beq_self_eq_true, Bool.true_and] at h3 h4 ⊢
      exact le_tr r t u h3 h4
    · rw [beq_eq_false_iff_ne.mpr e, Bool.false_and]
def leS (a b : Str) : Prop := ltCps b.cps.toList a.cps.toList = false
theorem pw_of : ∀ (l : List Str) (p : Str), risingS p l = true → (p :: l).Pairwise leS
  | [], p, _ => List.pairwise_singleton _ _
  | x :: r, p, h => by
    unfold risingS at h
    obtain ⟨h1, h2⟩ := Bool.and_eq_true_iff.mp h
    have ih := pw_of r x h2
    have hx : leS p x := by
      unfold leS
      cases e : ltCps x.cps.toList p.cps.toList with
      | false => rfl
      | true => rw [e] at h1; cases h1
    refine List.pairwise_cons.mpr ⟨fun y hy => ?_, ih⟩
    rcases List.mem_cons.mp hy with rfl | hy
    · exact hx
    · exact le_tr _ _ _ hx ((List.pairwise_cons.mp ih).1 y hy)
theorem pw_sorted : ∀ l : List Str, sortedS l = true → l.Pairwise leS
  | [], _ => .nil
  | x :: r, h => pw_of r x h
theorem sorted_one {u v : List Str} (hu : sortedS u = true) (hv : sortedS v = true) (p : u.Perm v) : u = v :=
  List.Perm.eq_of_pairwise (le := leS) (fun a b _ _ h1 h2 => by
    rw [tx_of a, tx_of b, lt_tri _ _ h2 h1]) (pw_sorted u hu) (pw_sorted v hv) p
end Vsr

set_option Elab.async false
set_option linter.all false
set_option maxRecDepth 100000
set_option maxHeartbeats 4000000
/-! raise out of a loop over a dict: the dict is open again. -/
namespace Vul
open PySem PySem.Spec PyProof.Rows L2
def Open (H0 : Hp) (W : WX) : WX := fun cls x σ H => ∃ d od u, H d = some (.frz od u) ∧ (∀ o' u', H0 d ≠ some (.frz o' u')) ∧ W cls x σ (upd H d u)
theorem takes_open {X : Cx} {W : WX} (t : Takes X W) : Takes X (Open X.H_0 W) := fun u s' ⟨a, B, sI, pins, σ, H, cls, x, e, I, nb, up, sky, na, os, ag, d, od, uu, hf, hn, w⟩ =>
  t u s' ⟨a, B, sI, pins, σ, upd H d uu, cls, x, e, I.unlock hf hn, nb, up, sky, (upd_ne (fun z => by rw [z, hf] at na; cases na)).trans na, os, ag, w⟩
end Vul

set_option Elab.async false
set_option linter.all false
set_option maxRecDepth 100000
set_option maxHeartbeats 4000000
/-! Sorted texts, each once. -/
namespace Vtx
open PySem PySem.Spec PyProof.Rows L2 Vl Evl Vp Ven
/-- ys: the texts of xs in ascending order, each once -/
structure Srt (ys xs : List (List Nat)) : Prop where
  nd : ys.Nodup
  mem : ∀ k, k ∈ ys ↔ k ∈ xs
  so : sortedS (ys.map tx) = true
theorem map_tx_mem {a : List (List Nat)} {k : List Nat} : tx k ∈ a.map tx ↔ k ∈ a := by
  rw [List.mem_map]
  constructor
  · rintro ⟨b, hb, e⟩
    rw [← tx_inj e]
    exact hb
  · exact fun h => ⟨k, h, rfl⟩
theorem perm_of {α : Type} [DecidableEq α] : ∀ {xs ys : List α}, xs.Nodup → ys.Nodup → (∀ k, k ∈ xs ↔ k ∈ ys) → xs.Perm ys
  | [], ys, _, _, h => by
    have : ys = [] := List.eq_nil_iff_forall_not_mem.mpr fun k hk => nomatch (h k).mpr hk
    rw [this]
  | x :: xs, ys, n1, n2, h => by
    have hx : x ∈ ys := (h x).mp List.mem_cons_self
    refine List.Perm.trans ?_ (List.perm_cons_erase hx).symm
    refine (perm_of (List.nodup_cons.mp n1).2 (n2.erase x) fun k => ?_).cons x
    rw [n2.mem_erase_iff]
    constructor
    · intro hk
      exact ⟨fun z => (List.nodup_cons.mp n1).1 (z ▸ hk), (h k).mp (List.mem_cons_of_mem _ hk)⟩
    · rintro ⟨h1, h2⟩
      rcases List.mem_cons.mp ((h k).mpr h2) with z | z
      · exact absurd z h1
      · exact z
theorem map_tx_inj : ∀ {a b : List (List Nat)}, a.map tx = b.map tx → a = b
  | [], [], _ => rfl
  | [], _ :: _, h => by cases h
  | _ :: _, [], h => by cases h
  | x :: a, y :: b, h => by
    rw [List.map_cons, List.map_cons] at h
    injection h with h1 h2
    rw [tx_inj h1, map_tx_inj h2]
theorem Srt.one {ys xs ys' xs' : List (List Nat)} (h : Srt ys xs) (h' : Srt ys' xs') (e : ∀ k, k ∈ xs ↔ k ∈ xs') : ys = ys' := by
  have p : ys.Perm ys' := perm_of h.nd h'.nd fun k => by rw [h.mem, h'.mem, e]
  exact map_tx_inj (Vsr.sorted_one h.so h'.so (p.map tx))
theorem Srt.of {ys xs xs' : List (List Nat)} (h : Srt ys xs) (e : ∀ k, k ∈ xs ↔ k ∈ xs') : Srt ys xs' := ⟨h.nd, fun k => (h.mem k).trans (e k), h.so⟩
theorem nodup_le {α : Type} [DecidableEq α] : ∀ {ys xs : List α}, ys.Nodup → (∀ k, k ∈ ys → k ∈ xs) → ys.length ≤ xs.length
  | [], _, _, _ => Nat.zero_le _
  | y :: ys, xs, n, h => by
    have hy := h y List.mem_cons_self
    have := nodup_le (ys := ys) (xs := xs.erase y) (List.nodup_cons.mp n).2 fun k hk => (List.mem_erase_of_ne (fun z => (List.nodup_cons.mp n).1 (by rw [← z]; exact hk))).mpr (h k (List.mem_cons_of_mem _ hk))
    rw [List.length_erase_of_mem hy] at this
    have := List.length_pos_of_mem hy
    rw [List.length_cons]
    omega
theorem of_map {α β : Type} (f : α → β) {l : List α} (h : (l.map f).Nodup) : l.Nodup := by
  induction l with
  | nil => exact .nil
  | cons x l ih =>
    rw [List.map_cons, List.nodup_cons] at h
    exact List.nodup_cons.mpr ⟨fun z => h.1 (List.mem_map_of_mem z), ih h.2⟩
theorem Srt.len {ys xs : List (List Nat)} (h : Srt ys xs) : ys.length ≤ xs.length := by
  exact nodup_le h.nd fun k hk => (h.mem k).mp hk
theorem vtx_map (xs : List (List Nat)) : vtx xs = (xs.map tx).map V.str := by
  unfold vtx
  rw [List.map_map]
  rfl
theorem strs_of (ys : List Str) : ∃ zs : List (List Nat), ys = zs.map tx := ⟨ys.map fun z => z.cps.toList, by
  rw [List.map_map]
  exact (List.map_id ys).symm.trans (List.map_congr_left fun z _ => tx_of z)⟩
section
variable {P : Program} {w : World} {K : PySem.W.Frag} {H : Hp} {a : Addr} {xs : List (List Nat)} {Q : VK}
/-- sorted(set(xs)) -/
theorem ss_of (hx : SqA K H a (vtx xs)) (hz : xs.length < 64) (q : ∀ p ys H2, H p = none → Ex H H2 → H2 p = some (.lst (vtx ys)) → Srt ys xs → Q (.ref p) H2) :
    Vst.rSetS K P w [.ref a] H fun v H1 => Vst.rSortedSt P w [v] H1 Q := by
  rw [vtx_map] at hx
  refine ⟨a, xs.map tx, rfl, hx, by rw [List.length_map]; omega, fun sa m ns hm => ?_⟩
  rw [List.length_map] at hm
  refine ⟨sa, _, m, rfl, upd_same, by omega, fun ys p nd hk hs hl np => ?_⟩
  obtain ⟨zs, rfl⟩ := strs_of ys
  have e := (Ex.new (o := Vst.SetSO P w sa (fun k => decide (k ∈ xs.map tx)) m) ns)
  refine q p zs _ (fresh_back e np) (e.trans (Ex.new np)) (by rw [upd_same, vtx_map]) ⟨?_, fun k => ?_, hs⟩
  · exact of_map tx nd
  · rw [← map_tx_mem (a := zs), hk, decide_eq_true_iff, map_tx_mem]
/-- sorted(xs), each once -/
theorem so_of (hx : SqL K H a (vtx xs)) (nd : xs.Nodup) (hz : xs.length < 64) (q : ∀ p ys H2, H p = none → Ex H H2 → H2 p = some (.lst (vtx ys)) → Srt ys xs → Q (.ref p) H2) : rSortedS K [.ref a] H Q := by
  rw [vtx_map] at hx
  refine ⟨a, xs.map tx, rfl, hx, by rw [List.length_map]; omega, fun ys p hp hs np => ?_⟩
  obtain ⟨zs, rfl⟩ := strs_of ys
  have hm : ∀ k, k ∈ zs ↔ k ∈ xs := fun k => by rw [← map_tx_mem (a := zs), hp.mem_iff, map_tx_mem]
  refine q p zs _ np (Ex.new np) (by rw [upd_same, vtx_map]) ⟨?_, hm, hs⟩
  refine of_map tx (hp.nodup_iff.mpr ?_)
  exact List.Pairwise.map tx (fun a b h z => h (tx_inj z)) nd
end
section
variable {K : PySem.W.Frag} {σ : L2.St} {H : Hp}
open Vlk
theorem el_catA {σ : L2.St} {H : Hp} {ta tb : TE} {a : Addr} {xs zs : List V} (h : Ev ta σ H (.ref a)) (hx : H a = some (.lst xs)) (h2 : EvL tb σ H zs) (hz : xs.length + zs.length ≤ 100000) : EvL (tOp rCat ta tb) σ H (xs ++ zs) := fun H1 e Q q =>
  h H1 e _ fun H2 e2 => h2 H2 (e.trans e2) _ fun p H3 np e3 hp => ⟨a, p, xs, zs, rfl, rfl, ((e.trans e2).trans e3) _ _ hx, hp, sz_of hz, fun r nr => q r _ (fresh_back (e2.trans e3) nr) ((e2.trans e3).trans (Ex.new nr)) upd_same⟩
theorem s_cons {A : TE} {R : TA} {Q : List V → Hp → Prop} (h : A σ H fun x H1 => R σ H1 fun xs H2 => Q (x :: xs) H2) : tCons A R σ H Q := h
theorem s_nil {Q : List V → Hp → Prop} (h : Q [] H) : tNil σ H Q := h
theorem s_cb {r : List V → Hp → VK → Prop} {t : TA} {Q : VK} (h : t σ H fun vs H1 => r vs H1 Q) : tCB r t σ H Q := h
theorem s_retR {te : TE} {D : Ends} (h : te σ H D.rt) : tRet te D σ H := h
theorem s_lstR {t : TA} {Q : VK} (h : t σ H fun vs H1 => vs.length ≤ 100000 ∧ ∀ p, H1 p = none → Q (.ref p) (upd H1 p (.lst vs))) (hm : ∀ {R R' : List V → Hp → Prop}, (∀ vs H1, R vs H1 → R' vs H1) → t σ H R → t σ H R') : tLst t σ H Q := hm (fun vs H1 z => ⟨sz_of z.1, z.2⟩) h
theorem given_one (b : Bool) (v : V) : given 1 (fun _ => b) (fun _ => v) = if b = true then [v] else [] := by
  cases b <;> rfl
theorem ex_open {H H' : Hp} {d : Addr} {od : Obj} {kvs : List (Key × V)} (hd : H d = some (.dK kvs)) (e : Ex (Lk H d od kvs) H') : Ex H (upd H' d (.dK kvs)) := fun b o hb => by
  by_cases h : b = d
  · rw [h, upd_same]
    rw [h, hd] at hb
    exact hb
  · rw [upd_ne h]
    exact e _ _ (lk_get hb h)
/-- [e for k in d], d locked meanwhile -/
theorem el_keysV {td te : TE} {j : Nat} {d : Addr} {kvs : List (Key × V)} (wv : Key → V) (hd : H d = some (.dK kvs)) (hz : kvs.length ≤ 40000) (hw : ∀ x, wipe ((wipe σ [j]).set j (some x)) [j] = wipe σ [j])
    (htd : ∀ H1 od, Ex H H1 → Ev td σ (Lk H1 d od kvs) (.ref d))
    (he : ∀ (H1 : Hp) (od : Obj) (kv : Key × V), Ex H H1 → kv ∈ kvs → Ev te ((wipe σ [j]).set j (some (kV kv.1))) (Lk H1 d od kvs) (wv kv.1)) :
    EvL (tLockE (tLc (iKeys td) (gName j) tYes te [j])) σ H (kvs.map fun kv => wv kv.1) := fun H1 e1 Q q => by
  refine ⟨d, .dK kvs, e1 _ _ hd, trivial, fun od => ?_⟩
  have hlk : (Lk H1 d od kvs) d = some (.frz od (.dK kvs)) := upd_same
  unfold tLc iKeys
  refine htd H1 od e1 _ (Ex.refl _) _ fun H2 e2 => ?_
  refine ⟨d, od, rfl, .inl ⟨kvs, e2 _ _ hlk, fun D nD => ?_⟩⟩
  have ndd : D ≠ d := fun z => by rw [z, e2 _ _ hlk] at nD; cases nD
  have hn2 : (Lk H1 d od kvs) D = none := fresh_back e2 nD
  have hn1 : H1 D = none := by
    have := hn2
    rw [show (Lk H1 d od kvs) D = H1 D from upd_ne ndd] at this
    exact this
  refine lc_it walk_keys (fun i H3 => Ex (Lk H1 d od kvs) H3 ∧ H3 D = some (.lst ((kvs.take i).map fun kv => wv kv.1))) ⟨Ex.mut e2 hn2, by rw [List.take_zero]; exact upd_same⟩ (fun i H3 _ h => h.1 _ _ hlk) ?_ ?_
  · rintro i x H3 H4 hi ⟨e3, hD⟩ ⟨rfl, k, v, hk, rfl⟩
    have htk : kvs.take (i + 1) = kvs.take i ++ [(k, v)] := by rw [List.take_succ, hk]; rfl
    refine ⟨hw _, ?_⟩
    refine he H1 od (k, v) e1 (List.mem_of_getElem? hk) H4 e3 _ fun H5 e5 => ?_
    refine ⟨_, e5 _ _ hD, sz_lt (by rw [List.length_map, List.length_take]; omega), Ex.mut (e3.trans e5) hn2, ?_⟩
    rw [upd_same, htk, List.map_append]
    rfl
  · rintro H3 ⟨e3, hD⟩
    rw [List.take_length] at hD
    refine ⟨e3 _ _ hlk, q D _ hn1 (ex_open (e1 _ _ hd) e3) (by rw [upd_ne ndd]; exact hD)⟩
end
end Vtx

set_option Elab.async false
set_option linter.all false
set_option maxRecDepth 100000
set_option maxHeartbeats 4000000
/-! sorted(set(texts)): few different ones out of many. -/
namespace Vst
open PySem PySem.Spec PyProof.Rows L2 Vl Evl Vp Ven Vtx
section
variable {X : Cx}
def rSortedSd (P : Program) (w : World) : List V → Hp → VK → Prop := fun vs H Q => ∃ (a : Addr) (S : Str → Bool) (n : Nat), vs = [V.ref a] ∧ H a = some (SetSO P w a S n) ∧ (∃ D : List Str, D.Nodup ∧ (∀ k, k ∈ D ↔ S k = true) ∧ D.length < 64) ∧
  ∀ (ys : List Str) (p : Addr), ys.Nodup → (∀ k, k ∈ ys ↔ S k = true) → sortedS ys = true → H p = none → Q (.ref p) (upd H p (.lst (ys.map V.str)))
theorem cr_sortedSd (hc : X.calm = true) : CallR X (.builtin "sorted") (rSortedSd X.prog X.w) := by
  intro pins s σ H vs us Q I r h
  obtain ⟨a, S, n, rfl, ha, ⟨D, d1, d2, d3⟩, q⟩ := h
  have R : SetS X.prog X.w s.heap a S n := (I.hok a _ ha).1
  have hn : n < 64 := by
    have : D.length = n := by
      obtain ⟨o, es, ep, t, ho, T, hn⟩ := id R
      have p : D.Perm (es.toList.map (kof strV)) := (List.perm_ext_iff_of_nodup d1 T.nd).mpr fun k => (d2 k).trans (T.mem k)
      rw [p.length_eq, List.length_map, Array.length_toList]
      exact hn
    omega
  exact cr_sortedSt hc pins s σ H [V.ref a] us Q I r ⟨a, S, n, rfl, ha, hn, fun ys p h1 h2 h3 _ h5 => q ys p h1 h2 h3 h5⟩
end
end Vst
namespace Vtx
open PySem PySem.Spec PyProof.Rows L2 Vl Evl Vp Ven
/-- each once -/
def dd : List (List Nat) → List (List Nat)
  | [] => []
  | x :: r => if x ∈ dd r then dd r else x :: dd r
theorem dd_mem {x : List Nat} : ∀ {xs : List (List Nat)}, x ∈ dd xs ↔ x ∈ xs
  | [] => Iff.rfl
  | y :: r => by
    unfold dd
    by_cases h : y ∈ dd r
    · rw [if_pos h, dd_mem, List.mem_cons]
      exact ⟨.inr, fun z => z.elim (fun z => by rw [z]; exact dd_mem.mp h) id⟩
    · rw [if_neg h, List.mem_cons, List.mem_cons, dd_mem]
theorem dd_nd : ∀ xs : List (List Nat), (dd xs).Nodup
  | [] => .nil
  | y :: r => by
    unfold dd
    by_cases h : y ∈ dd r
    · rw [if_pos h]
      exact dd_nd r
    · rw [if_neg h]
      exact List.nodup_cons.mpr ⟨h, dd_nd r⟩
theorem Srt.count {ys xs : List (List Nat)} (h : Srt ys xs) : ys.length = (dd xs).length := (perm_of h.nd (dd_nd xs) fun k => (h.mem k).trans dd_mem.symm).length_eq
theorem dd_same {xs ys : List (List Nat)} (h : ∀ k, k ∈ xs ↔ k ∈ ys) : (dd xs).length = (dd ys).length := (perm_of (dd_nd xs) (dd_nd ys) fun k => by rw [dd_mem, dd_mem, h]).length_eq
/-- few different ones -/
def Few (xs : List (List Nat)) : Prop := (dd xs).length ≤ 60
theorem few_of {xs D : List (List Nat)} (h : ∀ k, k ∈ xs → k ∈ D) (hl : D.length ≤ 60) : Few xs := Nat.le_trans (nodup_le (dd_nd xs) fun k hk => h k (dd_mem.mp hk)) hl
section
variable {P : Program} {w : World} {K : PySem.W.Frag} {H : Hp} {a : Addr} {xs : List (List Nat)} {Q : VK}
theorem ss_ofD (hx : SqA K H a (vtx xs)) (hz : xs.length ≤ 1000) (hd : Few xs) (q : ∀ p ys H2, H p = none → Ex H H2 → H2 p = some (.lst (vtx ys)) → Srt ys xs → Q (.ref p) H2) :
    Vst.rSetS K P w [.ref a] H fun v H1 => Vst.rSortedSd P w [v] H1 Q := by
  rw [vtx_map] at hx
  refine ⟨a, xs.map tx, rfl, hx, by rw [List.length_map]; omega, fun sa m ns hm => ?_⟩
  have hD : ((dd xs).map tx).length < 64 := by
    rw [List.length_map]
    unfold Few at hd
    omega
  refine ⟨sa, _, m, rfl, upd_same, ⟨(dd xs).map tx, List.Pairwise.map tx (fun a b h z => h (tx_inj z)) (dd_nd xs), fun k => ?_, hD⟩, fun ys p nd hk hs np => ?_⟩
  · rw [decide_eq_true_iff, List.mem_map, List.mem_map]
    exact ⟨fun ⟨x, hx, e⟩ => ⟨x, dd_mem.mp hx, e⟩, fun ⟨x, hx, e⟩ => ⟨x, dd_mem.mpr hx, e⟩⟩
  obtain ⟨zs, rfl⟩ := strs_of ys
  have e := (Ex.new (o := Vst.SetSO P w sa (fun k => decide (k ∈ xs.map tx)) m) ns)
  refine q p zs _ (fresh_back e np) (e.trans (Ex.new np)) (by rw [upd_same, vtx_map]) ⟨?_, fun k => ?_, hs⟩
  · exact of_map tx nd
  · rw [← map_tx_mem (a := zs), hk, decide_eq_true_iff, map_tx_mem]
end
end Vtx

set_option Elab.async false
set_option linter.all false
set_option maxRecDepth 100000
set_option maxHeartbeats 2000000
/-! C(..) of an own class whose __init__ may raise. -/
namespace Vnx
open PySem PySem.Spec PyProof.Rows L2 Vl Evl Vc
section
variable {X : Cx} {k j : Nat} {C : Addr} {sp : Sp} {E : L2.St → XK} {x : Str} {p pos : Pos} {e : Expr} {es : List Expr} {t : TA}
theorem make_at {pins : List (Addr × Obj)} {st : L2.St} {G : Hp} {sh : Shared} {R : VK} {vals : List Value} {ws : List V} {f : Addr} {fd : FuncData} {pars : List Str} (M : Mk X.K C f)
    (F : FnOk X.prog X.w X.K X.mg X.base (L2.CX X.prog X.w) k f fd pars sp) (room : Room (k + 1) X.A) (bd : L2.Binds X.K fd pars []) (px : PassesAt (L2.CX X.prog X.w) X st (E st)) (J : Inv X pins st G sh) (rv : Vals ws vals)
    (todo : ∀ o d, G o = none → G d = none → d ≠ o → sp (.ref o :: ws) (upd (upd G d (.own o)) o (.ins C d [])) (fun v G2 => v = .non ∧ R (.ref o) G2) (E st)) :
    wpAny (model X.prog X.w) X.A (call (.ref C) vals) (EP X pins st R) X.xe sh := by
  have size0 := J.hok.fresh (Nat.le_refl _)
  have size1 := J.hok.fresh (Nat.le_succ _)
  have now := todo (sh.heap.objs.size + 1) sh.heap.objs.size size1 size0 (Nat.ne_of_lt (Nat.lt_succ_self _))
  have J2 := Inv.made (C := C) J
  have all : Vals (V.ref (sh.heap.objs.size + 1) :: ws) (Value.ref (sh.heap.objs.size + 1) :: vals) := .cons rfl rv
  have len : (Value.ref (sh.heap.objs.size + 1) :: vals ++ []).length = pars.length := by
    rw [List.append_nil, ← all.length]
    exact F.len _ _ _ _ now
  have bnd := bd _ (Value.ref (sh.heap.objs.size + 1) :: vals) J2.kIn len
  rw [List.append_nil] at bnd
  have ran := F.run _ X.stack _ _ ⟨Value.ref (sh.heap.objs.size + 1) :: vals, []⟩ (Value.ref (sh.heap.objs.size + 1) :: vals) _ _ (E st) (room.make C vals []) (J2.env0.make C vals []) bnd all now
  refine wpAny_call (make_map (f := f) J.kIn M.makes M.init (beq_iff_eq.mp M.fn) (codeAny_mono ran fun r s' got => ?_))
  match r, got with
  | .error err, got => exact px pins _ _ err s' J2 got
  | .ok (.ret u), got =>
    obtain ⟨v, G', J3, rv', ev, q3⟩ := J2.after got
    subst ev
    exact ⟨rv', ⟨V.ref (sh.heap.objs.size + 1), G', J3, rfl, q3⟩⟩
  | .ok .next, got => exact got.elim
  | .ok .brk, got => exact got.elim
  | .ok .cont, got => exact got.elim
theorem pe_nwX (T : Nw X.prog X.w X.K X.mg X.base C (L2.CX X.prog X.w) k x sp) (room : Room j X.A) (gl : Gl X x) (px : ∀ st, PassesAt (L2.CX X.prog X.w) X st (E st)) (args : PA X (e :: es) t) (hk : k + 1 ≤ j := by decide) (dbg : (x == ("__debug__" : Str)) = false := by decide)
    (stars : starEach (e :: es) X.env = (false, eval e X.env) :: starEach es X.env := by rfl) (plain : (backTo pos (starEach es X.env)).any (·.1) = false := by rfl) : PE X (.Call (.Name x p) (e :: es) [] pos) (tNw C sp E t) := by
  obtain ⟨f, fd, pars, F, M, bd, gC⟩ := T.ex
  refine ⟨fun pins sh st G R J todo => ?_⟩
  refine wpAny_Call_Name_kw (ld_glob J gl gC ?_ dbg)
  have got := args.run pos pins sh st G _ J todo
  refine PySem.W.callWith_K (h₀ := X.base) J.ok.mod.kin M.kp (thn got fun vals s1 ⟨ws, G1, J1, rv, q⟩ => ⟨J1.kIn, make_at M F (room.mono hk) bd (px st) J1 rv q⟩) stars plain
end
end Vnx

set_option Elab.async false
set_option linter.all false
set_option maxRecDepth 100000
set_option maxHeartbeats 4000000
/-! Patterns as the program keeps them: steps. What the steps' kinds are; names in order; masks' places. -/
namespace K14
open PySem PySem.Spec PyProof.Rows L2 Vl Evl Vp Vc Ve Ven Vg Vb
def kAny : List Nat := [97, 110, 121]
def kNone : List Nat := [110, 111, 110, 101]
def kThen : List Nat := [116, 104, 101, 110]
def kEither : List Nat := [101, 105, 116, 104, 101, 114]
def kRep : List Nat := [114, 101, 112, 101, 97, 116, 101, 100]
def kOpt : List Nat := [111, 112, 116, 105, 111, 110, 97, 108]
def kd : Op → List Nat
  | .atom false _ => kAny
  | .atom true _ => kNone
  | .thn => kThen
  | .eith => kEither
  | .rep => kRep
  | .opt => kOpt
def nms : Op → List Nm
  | .atom _ ns => ns
  | _ => []
def isAt : Op → Bool
  | .atom _ _ => true
  | _ => false
def isJn : Op → Bool
  | .thn => true
  | .eith => true
  | _ => false
/-- a step: its kind, its names -/
def StepAt (H : Hp) (p : Addr) (o : Op) : Prop := ∃ a, H p = some (.tup [.str (tx (kd o)), .ref a]) ∧ H a = some (.tup (vtx (nms o)))
theorem StepAt.mono {H H' : Hp} {p : Addr} {o : Op} (e : Ex H H') (h : StepAt H p o) : StepAt H' p o := by
  obtain ⟨a, h1, h2⟩ := h
  exact ⟨a, e _ _ h1, e _ _ h2⟩
abbrev Rw : Type := Addr × Op
def rfs {α : Type} (rs : List (Addr × α)) : List V := rs.map fun r => V.ref r.1
theorem rfs_len {α : Type} (rs : List (Addr × α)) : (rfs rs).length = rs.length := List.length_map _
theorem rfs_at {α : Type} {rs : List (Addr × α)} {i : Nat} {r : Addr × α} (h : rs[i]? = some r) : (rfs rs)[i]? = some (.ref r.1) := by
  unfold rfs
  rw [List.getElem?_map, h]
  rfl
theorem rfs_of {α : Type} {rs : List (Addr × α)} {i : Nat} {v : V} (h : (rfs rs)[i]? = some v) : ∃ r, rs[i]? = some r ∧ v = .ref r.1 := by
  unfold rfs at h
  rw [List.getElem?_map] at h
  obtain ⟨r, h1, h2⟩ := Option.map_eq_some_iff.mp h
  exact ⟨r, h1, h2.symm⟩
def ops (rs : List Rw) : List Op := rs.map (·.2)
/-- the steps of a pattern -/
def StepsAt (K : PySem.W.Frag) (H : Hp) (s : Addr) (rs : List Rw) : Prop := SqT K H s (rfs rs) ∧ ∀ r ∈ rs, StepAt H r.1 r.2
theorem StepsAt.mono {K : PySem.W.Frag} {H H' : Hp} {s : Addr} {rs : List Rw} (e : Ex H H') (h : StepsAt K H s rs) : StepsAt K H' s rs := ⟨ex_t e h.1, fun r hr => (h.2 r hr).mono e⟩
abbrev sIa : Stmt := top 7
abbrev sIj : Stmt := top 8
abbrev sIo : Stmt := top 9
abbrev sEi : Stmt := top 18
abbrev sJo : Stmt := top 19
abbrev sPi : Stmt := top 16
def spIs (g : Op → Bool) : Sp := fun vs H Q _ => ∃ p o, vs = [.ref p] ∧ StepAt H p o ∧ ∀ H', Ex H H' → Q (.bl (g o)) H'
def frV (f : Fr) : List V := [.bl f.1, .int (f.2.1 : Nat), .int (f.2.2 : Nat)]
def spFr (g : Fr → Fr → Fr) : Sp := fun vs H Q _ => ∃ p q a b, vs = [.ref p, .ref q] ∧ H p = some (.tup (frV a)) ∧ H q = some (.tup (frV b)) ∧ ∀ t H', H t = none → Ex H H' → H' t = some (.tup (frV (g a b))) → Q (.ref t) H'
/-- a tuple of the different names, in order -/
def spIo (K : PySem.W.Frag) : Sp := fun vs H Q _ => ∃ (p : Addr) (xs : List Nm), vs = [.ref p] ∧ SqA K H p (vtx xs) ∧ xs.length ≤ 60 ∧ ∀ t ys H', H t = none → Ex H H' → H' t = some (.tup (vtx ys)) → Vtx.Srt ys xs → Q (.ref t) H'
def intV (ns : List Nat) : List V := ns.map fun n => V.int (n : Nat)
def spPi : Sp := fun vs H Q _ => ∃ m : Nat, vs = [.int (m : Nat)] ∧ m < 2 ^ 100 ∧ ∀ l ps H', H l = none → Ex H H' → H' l = some (.lst (intV ps)) → (∀ p, p ∈ ps ↔ m.testBit p = true) → ps.Nodup → ps.length ≤ 100 → Q (.ref l) H'
structure Cn (mg : Str → Option Value) : Prop where
  any : ∃ t, mg "ANY" = some (.str (tx kAny) t)
  none : ∃ t, mg "NONE" = some (.str (tx kNone) t)
  thn : ∃ t, mg "THEN" = some (.str (tx kThen) t)
  eith : ∃ t, mg "EITHER" = some (.str (tx kEither) t)
  rep : ∃ t, mg "REPEATED" = some (.str (tx kRep) t)
  opt : ∃ t, mg "OPTIONAL" = some (.str (tx kOpt) t)
section
variable {K : PySem.W.Frag} {σ : L2.St} {H : Hp} {te : TE} {v : V}
theorem ev_ixTA {p : Addr} {xs : List V} {i : Nat} (h : Ev te σ H (.ref p)) (hx : SqT K H p xs) (hi : xs[i]? = some v) : Ev (tOp (rIxT K) te (tC (.int (i : Nat)))) σ H v := ev_op h ev_c (rv_ixT hx (at_of rfl hi))
def rTupA (K : PySem.W.Frag) : List V → Hp → VK → Prop := fun vs H Q => ∃ p ys, vs = [.ref p] ∧ ((SqL K H p ys ∧ ∀ l, H l = none → Q (.ref l) (upd H l (.tup ys))) ∨ (SqT K H p ys ∧ Q (.ref p) H))
/-- a new tuple of the different ones in order -/
def EvSo (te : TE) (σ : L2.St) (H : Hp) (xs : List Nm) : Prop := ∀ H1, Ex H H1 → ∀ Q : VK, (∀ t ys H2, H1 t = none → Ex H1 H2 → H2 t = some (.tup (vtx ys)) → Vtx.Srt ys xs → Q (.ref t) H2) → te σ H1 Q
theorem ev_so {P : Program} {w : World} {a : Addr} {xs : List Nm} (h : Ev te σ H (.ref a)) (hx : SqA K H a (vtx xs)) (hz : xs.length < 64) :
    EvSo (tCB (rTupA K) (tCons (tCB (Vst.rSortedSt P w) (tCons (tCB (Vst.rSetS K P w) (tCons te tNil)) tNil)) tNil)) σ H xs := fun H1 e1 Q q => h H1 e1 _ fun H2 e2 =>
  Vtx.ss_of (P := P) (w := w) (Q := fun v H4 => rTupA K [v] H4 Q) (ex_a (e1.trans e2) hx) hz fun p ys H3 n3 e3 h3 hS => ⟨p, _, rfl, .inl ⟨sq_of h3, fun t nt => q t ys _ (fresh_back (e2.trans e3) nt) ((e2.trans e3).trans (Ex.new nt)) upd_same hS⟩⟩
theorem ev_ixF {p : Addr} {f : Fr} {i : Nat} (h : Ev te σ H (.ref p)) (hx : H p = some (.tup (frV f))) (hi : (frV f)[i]? = some v) : Ev (tOp (rIxT K) te (tC (.int (i : Nat)))) σ H v := ev_ixTA h (st_of hx) hi
end
section
variable {P : Program} {w : World} {K : PySem.W.Frag} {mg : Str → Option Value} {base : Heap}
theorem scIa : FnScope ["step"] ["step"] (defScope sIa) := ⟨rfl, rfl, rfl, by decide +kernel, rfl, by decide +kernel, by decide +kernel⟩
theorem ok_ia {f : Addr} {fd : FuncData} (F : FnP K "is_atom" sIa f fd) (CN : Cn mg) : FnOk P w K mg base L2.CX0 1 f fd ["step"] (spIs isAt) := by
  obtain ⟨tANY, gANY⟩ := CN.any
  obtain ⟨tNONE, gNONE⟩ := CN.none
  refine F.ok (CX := L2.CX0) scIa (fun vs H Q E h => ?_) (fun cdv A outer s H vs Q E hr h => ?_)
  · obtain ⟨p, o, rfl, _⟩ := h
    rfl
  · refine ⟨_, (pss_one (ps_ret (pe_cmpR op_in_seq (pe_ix ix_tup (pv 0) pe_int fun _ _ => rfl) (pe_tup (pa_cons (pe_glob (v := V.str (tx kAny)) (by rfl) gANY ⟨tANY, rfl⟩) (pa_cons (pe_glob (v := V.str (tx kNone)) (by rfl) gNONE ⟨tNONE, rfl⟩) pa_nil))) rfl))), ?_⟩
    obtain ⟨p, o, rfl, ⟨a, h1, h2⟩, k⟩ := h
    refine s_ret (v := .bl (isAt o)) (ev_is (ev_inU (x := .str (tx (kd o))) (xs := [.str (tx kAny), .str (tx kNone)]) (ev_ixTA (i := 0) (ev_var rfl) (st_of h1) rfl) (eu_tup (ea_cons ev_c (ea_cons ev_c ea_nil)) (by show 2 ≤ 100000; omega)) rfl rfl) ?_) k
    cases o with
    | atom b ns => cases b <;> rfl
    | _ => rfl
theorem scIj : FnScope ["step"] ["step"] (defScope sIj) := ⟨rfl, rfl, rfl, by decide +kernel, rfl, by decide +kernel, by decide +kernel⟩
theorem ok_ij {f : Addr} {fd : FuncData} (F : FnP K "is_join" sIj f fd) (CN : Cn mg) : FnOk P w K mg base L2.CX0 1 f fd ["step"] (spIs isJn) := by
  obtain ⟨tTHEN, gTHEN⟩ := CN.thn
  obtain ⟨tEITHER, gEITHER⟩ := CN.eith
  refine F.ok (CX := L2.CX0) scIj (fun vs H Q E h => ?_) (fun cdv A outer s H vs Q E hr h => ?_)
  · obtain ⟨p, o, rfl, _⟩ := h
    rfl
  · refine ⟨_, (pss_one (ps_ret (pe_cmpR op_in_seq (pe_ix ix_tup (pv 0) pe_int fun _ _ => rfl) (pe_tup (pa_cons (pe_glob (v := V.str (tx kThen)) (by rfl) gTHEN ⟨tTHEN, rfl⟩) (pa_cons (pe_glob (v := V.str (tx kEither)) (by rfl) gEITHER ⟨tEITHER, rfl⟩) pa_nil))) rfl))), ?_⟩
    obtain ⟨p, o, rfl, ⟨a, h1, h2⟩, k⟩ := h
    refine s_ret (v := .bl (isJn o)) (ev_is (ev_inU (x := .str (tx (kd o))) (xs := [.str (tx kThen), .str (tx kEither)]) (ev_ixTA (i := 0) (ev_var rfl) (st_of h1) rfl) (eu_tup (ea_cons ev_c (ea_cons ev_c ea_nil)) (by show 2 ≤ 100000; omega)) rfl rfl) ?_) k
    cases o with
    | atom b ns => cases b <;> rfl
    | _ => rfl
theorem scIo : FnScope ["names"] ["names"] (defScope sIo) := ⟨rfl, rfl, rfl, by decide +kernel, rfl, by decide +kernel, by decide +kernel⟩
theorem ok_io {f : Addr} {fd : FuncData} (F : FnP K "in_order" sIo f fd) (mTuple : mg "tuple" = none) (mSorted : mg "sorted" = none) (mSet : mg "set" = none) : FnOk P w K mg base L2.CX0 1 f fd ["names"] (spIo K) := by
  refine F.ok (CX := L2.CX0) scIo (fun vs H Q E h => ?_) (fun cdv A outer s H vs Q E hr h => ?_)
  · obtain ⟨p, xs, rfl, _⟩ := h
    rfl
  · refine ⟨_, (pss_one (ps_ret (pe_callTy call_tuple_of (by rfl) mTuple boot_tuple (pa_cons (pe_callB (Vst.cr_sortedSt rfl) (by rfl) mSorted boot_sorted (pa_cons (pe_callTy (Vst.cr_setS rfl) (by rfl) mSet boot_set (pa_cons (pv 0) pa_nil)) pa_nil)) pa_nil)))), ?_⟩
    obtain ⟨p, xs, rfl, hp, hz, k⟩ := h
    exact ev_so (P := P) (w := w) (K := K) (ev_var rfl) hp (by omega) H (Ex.refl _) _ k
theorem scEi : FnScope ["one", "two"] ["one", "two"] (defScope sEi) := ⟨rfl, rfl, rfl, by decide +kernel, rfl, by decide +kernel, by decide +kernel⟩
theorem ok_ei {f : Addr} {fd : FuncData} (F : FnP K "_either" sEi f fd) : FnOk P w K mg base L2.CX0 1 f fd ["one", "two"] (spFr orF) := by
  refine F.ok (CX := L2.CX0) scEi (fun vs H Q E h => ?_) (fun cdv A outer s H vs Q E hr h => ?_)
  · obtain ⟨p, q, a, b, rfl, _⟩ := h
    rfl
  · refine ⟨_, (pss_one (ps_ret (pe_tup (pa_cons (pe_or (pe_ix ix_tup (pv 0) pe_int fun _ _ => rfl) (pe_one (pe_ix ix_tup (pv 1) pe_int fun _ _ => rfl))) (pa_cons (pe_op op_or (pe_ix ix_tup (pv 0) pe_int fun _ _ => rfl) (pe_ix ix_tup (pv 1) pe_int fun _ _ => rfl)) (pa_cons (pe_op op_or (pe_ix ix_tup (pv 0) pe_int fun _ _ => rfl) (pe_ix ix_tup (pv 1) pe_int fun _ _ => rfl)) pa_nil)))))), ?_⟩
    obtain ⟨p, q, a, b, rfl, hp, hq, k⟩ := h
    have v0 : Ev (tVar 0) [some (.ref p), some (.ref q)] H (.ref p) := ev_var rfl
    have v1 : Ev (tVar 1) [some (.ref p), some (.ref q)] H (.ref q) := ev_var rfl
    exact s_retU (xs := frV (orF a b)) (eu_tup (ea_cons (ev_orV (ev_ixF (i := 0) v0 hp rfl) fun _ => ev_ixF (i := 0) v1 hq rfl) (ea_cons (ev_op (ev_ixF (i := 1) v0 hp rfl) (ev_ixF (i := 1) v1 hq rfl) rv_or) (ea_cons (ev_op (ev_ixF (i := 2) v0 hp rfl) (ev_ixF (i := 2) v1 hq rfl) rv_or) ea_nil))) (by show 3 ≤ 100000; omega)) k
theorem scJo : FnScope ["one", "two", "first", "last"] ["one", "two"] (defScope sJo) := ⟨rfl, rfl, rfl, by decide +kernel, rfl, by decide +kernel, by decide +kernel⟩
theorem ok_jo {f : Addr} {fd : FuncData} (F : FnP K "_joined" sJo f fd) : FnOk P w K mg base L2.CX0 1 f fd ["one", "two"] (spFr joinF) := by
  refine F.ok (CX := L2.CX0) scJo (fun vs H Q E h => ?_) (fun cdv A outer s H vs Q E hr h => ?_)
  · obtain ⟨p, q, a, b, rfl, _⟩ := h
    rfl
  · refine ⟨_, (pss_cons (ps_set (i := 2) scJo.nd rfl (by first | exact Or.inl rfl | exact Or.inr rfl) (pe_ifExp (pt_val (pe_ix ix_tup (pv 0) pe_int fun _ _ => rfl)) (pe_op op_or (pe_ix ix_tup (pv 0) pe_int fun _ _ => rfl) (pe_ix ix_tup (pv 1) pe_int fun _ _ => rfl)) (pe_ix ix_tup (pv 0) pe_int fun _ _ => rfl)))
      (pss_cons (ps_set (i := 3) scJo.nd rfl (by first | exact Or.inl rfl | exact Or.inr rfl) (pe_ifExp (pt_val (pe_ix ix_tup (pv 1) pe_int fun _ _ => rfl)) (pe_op op_or (pe_ix ix_tup (pv 0) pe_int fun _ _ => rfl) (pe_ix ix_tup (pv 1) pe_int fun _ _ => rfl)) (pe_ix ix_tup (pv 1) pe_int fun _ _ => rfl)))
      (pss_one (ps_ret (pe_tup (pa_cons (pe_and (pe_ix ix_tup (pv 0) pe_int fun _ _ => rfl) (pe_one (pe_ix ix_tup (pv 1) pe_int fun _ _ => rfl))) (pa_cons (pv 2) (pa_cons (pv 3) pa_nil)))))))), ?_⟩
    obtain ⟨p, q, a, b, rfl, hp, hq, k⟩ := h
    refine q_asg (v := .int ((joinF a b).2.1 : Nat)) ?_ fun H1 e1 => ?_
    · refine ev_if (et_B (ev_ixF (i := 0) (ev_var rfl) hp rfl)) (fun z => ?_) fun z => ?_
      · refine ev_is (ev_op (ev_ixF (i := 1) (ev_var rfl) hp rfl) (ev_ixF (i := 1) (ev_var rfl) hq rfl) rv_or) ?_
        show _ = V.int ((if a.1 then a.2.1 ||| b.2.1 else a.2.1 : Nat) : Int)
        rw [if_pos z]
      · refine ev_is (ev_ixF (i := 1) (ev_var rfl) hp rfl) ?_
        show _ = V.int ((if a.1 then a.2.1 ||| b.2.1 else a.2.1 : Nat) : Int)
        rw [if_neg (by rw [z]; decide)]
    refine q_asg (v := .int ((joinF a b).2.2 : Nat)) ?_ fun H2 e2 => ?_
    · have hp1 := e1 _ _ hp
      have hq1 := e1 _ _ hq
      refine ev_if (et_B (ev_ixF (i := 0) (ev_var rfl) hq1 rfl)) (fun z => ?_) fun z => ?_
      · refine ev_is (ev_op (ev_ixF (i := 2) (ev_var rfl) hp1 rfl) (ev_ixF (i := 2) (ev_var rfl) hq1 rfl) rv_or) ?_
        show _ = V.int ((if b.1 then a.2.2 ||| b.2.2 else b.2.2 : Nat) : Int)
        rw [if_pos z]
      · refine ev_is (ev_ixF (i := 2) (ev_var rfl) hq1 rfl) ?_
        show _ = V.int ((if b.1 then a.2.2 ||| b.2.2 else b.2.2 : Nat) : Int)
        rw [if_neg (by rw [z]; decide)]
    have e := e1.trans e2
    exact s_retU (xs := frV (joinF a b)) (eu_tup (ea_cons (ev_andV (ev_ixF (i := 0) (ev_var rfl) (e _ _ hp) rfl) fun _ => ev_ixF (i := 0) (ev_var rfl) (e _ _ hq) rfl) (ea_cons (ev_var rfl) (ea_cons (ev_var rfl) ea_nil))) (by show 3 ≤ 100000; omega)) fun t H3 nt e3 ht => k t H3 (fresh_back e nt) (e.trans e3) ht
theorem scPi : FnScope ["mask", "places", "lowest"] ["mask"] (defScope sPi) := ⟨rfl, rfl, rfl, by decide +kernel, rfl, by decide +kernel, by decide +kernel⟩
theorem bit_lt {m p n : Nat} (h : m < 2 ^ n) (hp : m.testBit p = true) : p < n := by
  rcases Nat.lt_or_ge p n with h1 | h1
  · exact h1
  · rw [Nat.testBit_lt_two_pow (Nat.lt_of_lt_of_le h (Nat.pow_le_pow_right (by decide) h1))] at hp
    exact Bool.noConfusion hp
theorem nodup_bits {ps : List Nat} {n : Nat} (nd : ps.Nodup) (h : ∀ p ∈ ps, p < n) : ps.length ≤ n := by
  have := Vtx.nodup_le nd (fun k hk => List.mem_range.mpr (h k hk))
  rwa [List.length_range] at this
theorem ok_pi {f : Addr} {fd : FuncData} (F : FnP K "places_in" sPi f fd) : FnOk P w K mg base L2.CX0 1 f fd ["mask"] spPi := by
  refine F.ok (CX := L2.CX0) scPi (fun vs H Q E h => ?_) (fun cdv A outer s H vs Q E hr h => ?_)
  · obtain ⟨m, rfl, _⟩ := h
    rfl
  · refine ⟨_, (pss_cons (ps_set (i := 1) scPi.nd rfl (by first | exact Or.inl rfl | exact Or.inr rfl) (pe_lst pa_nil))
      (pss_cons (ps_while (passes_of rfl) (pt_cmpR op_gt (pv 0) pe_int (nomark _)) (pss_cons (ps_set (i := 2) scPi.nd rfl (by first | exact Or.inl rfl | exact Or.inr rfl) (pe_op op_and (pv 0) (pe_un un_neg (pv 0))))
      (pss_cons (ps_expr (pe_bm PySem.F.plainAttrs_list PySem.F.slot_list_append PySem.F.type_list_append mt_append (pv 1) (pa_cons (pe_op op_sub (pe_bits (pv 2)) pe_int) pa_nil)))
      (pss_one (ps_set (i := 0) scPi.nd rfl (by first | exact Or.inl rfl | exact Or.inr rfl) (pe_op op_xor (pv 0) (pv 2)))))))
      (pss_one (ps_ret (pv 1))))), ?_⟩
    obtain ⟨m, rfl, hm, k⟩ := h
    refine q_asgL (xs := []) (el_lst ea_nil (by show 0 ≤ 100000; omega)) fun l H1 nl e1 hl => ?_
    refine q_while (fun n st H' => ∃ (m' : Nat) (ps : List Nat) (t2 : Option V), st = [some (.int (m' : Nat)), some (.ref l), t2] ∧ m' = n ∧ Ex H H' ∧ H' l = some (.lst (intV ps)) ∧ ps.Nodup ∧ (∀ p, m.testBit p = true ↔ p ∈ ps ∨ m'.testBit p = true) ∧ ∀ p ∈ ps, m'.testBit p = false) m ⟨m, [], none, rfl, rfl, e1, hl, .nil, fun p => ⟨.inr, fun z => z.elim (fun z => nomatch z) id⟩, fun _ h => nomatch h⟩ ?_
    rintro n st H2 ⟨m', ps, t2, rfl, rfl, e2, hl2, nd, hb, hno⟩
    refine ⟨decide (0 < (m' : Int)), et_test (ev_op (ev_var rfl) ev_c rv_I0), fun hpos H3 e3 => ?_, fun hz H3 e3 => ?_⟩
    · have hpos : 0 < m' := by
        have := of_decide_eq_true hpos
        omega
      refine ⟨_, fun σ2 H4 h => h, ?_⟩
      refine q_asg (v := .int ((2 ^ low m' : Nat) : Int)) (ev_op (ev_var rfl) (ev_un (ev_var rfl) ru_neg) (rv_low hpos)) fun H4 e4 => ?_
      have hl4 := e4 _ _ (e3 _ _ hl2)
      have hlen : ps.length ≤ 100 := nodup_bits nd fun p hp => bit_lt hm ((hb p).mpr (.inl hp))
      refine q_app (xs := intV ps) (v := .int ((low m' : Nat) : Int)) hl4 (ev_var rfl) ?_ (by unfold intV; rw [List.length_map]; omega) fun H5 e5 => ?_
      · refine ev_is (ev_op (x := .int ((low m' + 1 : Nat) : Int)) ?_ ev_c rv_I0) ?_
        · intro H5 e5 Q q
          refine ⟨_, rfl, _, rfl, ?_⟩
          rw [bits_pow]
          exact q H5 (Ex.refl _)
        · show V.int _ = V.int _
          congr 1
          omega
      refine s_asg (v := .int ((m' ^^^ 2 ^ low m' : Nat) : Int)) (ev_op (ev_var rfl) (ev_var rfl) rv_xor) fun H6 e6 => ?_
      refine ⟨m' ^^^ 2 ^ low m', xor_low_lt hpos, m' ^^^ 2 ^ low m', ps ++ [low m'], _, rfl, rfl, ?_, ?_, ?_, fun p => ?_, fun p hp => ?_⟩
      · exact (Ex.mut (((e2.trans e3).trans e4).trans e5) nl).trans e6
      · refine e6 _ _ ?_
        rw [upd_same]
        unfold intV
        rw [List.map_append]
        rfl
      · rw [List.nodup_append]
        refine ⟨nd, by simp, fun a ha b hb2 => ?_⟩
        rw [List.mem_singleton.mp hb2]
        intro z
        rw [z] at ha
        have h1 := hno _ ha
        rw [low_bit m' m' (Nat.le_refl _) hpos] at h1
        exact Bool.noConfusion h1
      · rw [hb p, xor_low_bit hpos, List.mem_append, List.mem_singleton]
        by_cases hp : p = low m'
        · rw [hp, low_bit m' m' (Nat.le_refl _) hpos]
          simp
        · simp [hp]
      · rw [← Bool.not_eq_true, xor_low_bit hpos]
        rintro ⟨h1, h2⟩
        rcases List.mem_append.mp hp with hp | hp
        · rw [hno p hp] at h1
          exact Bool.noConfusion h1
        · exact h2 (List.mem_singleton.mp hp)
    · have hz : m' = 0 := by
        have := of_decide_eq_false hz
        omega
      subst hz
      refine s_ret (ev_var rfl) fun H4 e4 => ?_
      refine k l ps H4 nl ((e2.trans e3).trans e4) (e4 _ _ (e3 _ _ hl2)) (fun p => ?_) nd (nodup_bits nd fun p hp => bit_lt hm ((hb p).mpr (.inl hp)))
      rw [hb p, Nat.zero_testBit]
      exact ⟨.inl, fun z => z.elim id fun z => Bool.noConfusion z⟩
end
end K14

set_option Elab.async false
set_option linter.all false
set_option maxRecDepth 100000
set_option maxHeartbeats 4000000
/-! The atoms linked. -/
namespace K14
open PySem PySem.Spec PyProof.Rows L2 Vl Evl Vp Vc Ve Ven Vg Vb
abbrev sLk : Stmt := top 17
abbrev nLk : List Str := ["steps", "follow", "stack", "step", "behind", "before", "place", "empty", "first", "last"]
def spLk (K : PySem.W.Frag) : Sp := fun vs H Q _ => ∃ (s : Addr) (rs : List Rw) (t : Tr), vs = [.ref s] ∧ StepsAt K H s rs ∧ ops rs = t.steps ∧ rs.length ≤ 60 ∧
  ∀ p l F L fol H', H p = none → H l = none → p ≠ l → Ex H H' → H' p = some (.tup [.bl t.nul, .int (F : Nat), .int (L : Nat), .ref l]) → H' l = some (.lst (intV fol)) → Auto t F L fol → Q (.ref p) H'
theorem lnk_len {s : List Fr} {fol : List Nat} {o : Op} (h : o.ar ≤ s.length) : (lnk (s, fol) o).1.length = s.length - o.ar + 1 := by
  cases o with
  | atom b ns => rfl
  | thn =>
    match s, h with
    | b :: a :: s, _ => rfl
  | eith =>
    match s, h with
    | b :: a :: s, _ => rfl
  | rep =>
    match s, h with
    | a :: s, _ => rfl
  | opt =>
    match s, h with
    | a :: s, _ => rfl
theorem wf_at : ∀ {xs : List Op} {i : Nat} {o : Op} {d : Nat}, wf d xs → xs[i]? = some o → o.ar ≤ dep d (xs.take i)
  | x :: r, 0, o, d, h, e => by
    have : x = o := Option.some.inj e
    subst this
    exact h.1
  | x :: r, i + 1, o, d, h, e => wf_at (xs := r) (d := d - x.ar + 1) h.2 e
theorem dep_len : ∀ (xs : List Op) (s : List Fr) (fol : List Nat), wf s.length xs → (xs.foldl lnk (s, fol)).1.length = dep s.length xs
  | [], _, _, _ => rfl
  | o :: r, s, fol, h => by
    have h1 := lnk_len (fol := fol) h.1
    rw [List.foldl_cons]
    generalize e : lnk (s, fol) o = x at h1
    obtain ⟨s1, fol1⟩ := x
    have h1 : s1.length = s.length - o.ar + 1 := h1
    rw [dep_len r s1 fol1 (by rw [h1]; exact h.2), h1]
    rfl
theorem wf_pre : ∀ {xs : List Op} {d : Nat} (i : Nat), wf d xs → wf d (xs.take i)
  | [], _, i, _ => by rw [List.take_nil]; trivial
  | _ :: _, _, 0, _ => trivial
  | x :: r, d, i + 1, h => ⟨h.1, wf_pre (xs := r) i h.2⟩
/-- what f follows, put at these places -/
def addP (fol ps : List Nat) (f : Nat) : List Nat := fol.mapIdx fun p m => if p ∈ ps then m ||| f else m
theorem addP_get (fol ps : List Nat) (f p : Nat) : (addP fol ps f)[p]? = (fol[p]?).map fun m => if p ∈ ps then m ||| f else m := by
  unfold addP
  rw [List.getElem?_mapIdx]
theorem addP_len (fol ps : List Nat) (f : Nat) : (addP fol ps f).length = fol.length := List.length_mapIdx
theorem addP_nil (fol : List Nat) (f : Nat) : addP fol [] f = fol := by
  refine List.ext_getElem? fun p => ?_
  rw [addP_get]
  cases fol[p]? <;> simp
theorem addP_all {fol ps : List Nat} {l f : Nat} (h : ∀ p, p ∈ ps ↔ l.testBit p = true) : addP fol ps f = addF fol l f := by
  refine List.ext_getElem? fun p => ?_
  rw [addP_get, addF_get]
  simp only [h]
theorem addP_snoc {fol ps : List Nat} {f q m : Nat} (hq : fol[q]? = some m) (hn : q ∉ ps) : addP fol (ps ++ [q]) f = (addP fol ps f).set q (m ||| f) := by
  refine List.ext_getElem? fun p => ?_
  rw [addP_get, List.getElem?_set, addP_len, addP_get]
  have hl := (List.getElem?_eq_some_iff.mp hq).1
  by_cases e : q = p
  · subst e
    rw [if_pos rfl, if_pos hl, hq]
    simp
  · rw [if_neg e]
    have : (p ∈ ps ++ [q]) ↔ p ∈ ps := by
      rw [List.mem_append, List.mem_singleton]
      exact ⟨fun z => z.elim id fun z => absurd z.symm e, .inl⟩
    simp only [this]
def isOpt : Op → Bool
  | .opt => true
  | _ => false
def isEi : Op → Bool
  | .eith => true
  | _ => false
def isTh : Op → Bool
  | .thn => true
  | _ => false
theorem kd_opt (o : Op) : decide (V.str (tx (kd o)) = V.str (tx kOpt)) = isOpt o := by
  cases o with
  | atom b ns => cases b <;> rfl
  | _ => rfl
theorem kd_ei (o : Op) : decide (V.str (tx (kd o)) = V.str (tx kEither)) = isEi o := by
  cases o with
  | atom b ns => cases b <;> rfl
  | _ => rfl
theorem kd_th (o : Op) : decide (V.str (tx (kd o)) = V.str (tx kThen)) = isTh o := by
  cases o with
  | atom b ns => cases b <;> rfl
  | _ => rfl
theorem opt_of {o : Op} (h : isOpt o = true) : o = .opt := by cases o <;> first | rfl | exact Bool.noConfusion h
theorem ei_of {o : Op} (h : isEi o = true) : o = .eith := by cases o <;> first | rfl | exact Bool.noConfusion h
theorem th_of {o : Op} (h : isTh o = true) : o = .thn := by cases o <;> first | rfl | exact Bool.noConfusion h
theorem rep_of {o : Op} (h1 : isAt o = false) (h2 : isOpt o = false) (h3 : isEi o = false) (h4 : isTh o = false) : o = .rep := by
  cases o <;> first | rfl | exact Bool.noConfusion h1 | exact Bool.noConfusion h2 | exact Bool.noConfusion h3 | exact Bool.noConfusion h4
abbrev Pf : Type := Addr × Fr
/-- what is linked so far: the pile (its top ahead), what is known of frames, what follows -/
structure Lk (H H' : Hp) (fo st : Addr) (pl kp : List Pf) (fol : List Nat) (n : Nat) : Prop where
  ex : Ex H H'
  nfo : H fo = none
  nst : H st = none
  ne : fo ≠ st
  fo : H' fo = some (.lst (intV fol))
  st : H' st = some (.lst (rfs pl).reverse)
  sub : ∀ x ∈ pl, x ∈ kp
  fr : ∀ x ∈ kp, H' x.1 = some (.tup (frV x.2))
  lb : ∀ x ∈ kp, ∀ q, x.2.2.2.testBit q = true → q < n
section
variable {H H' H2 : Hp} {fo st : Addr} {pl kp : List Pf} {fol : List Nat} {n : Nat}
theorem Lk.mono (h : Lk H H' fo st pl kp fol n) (e : Ex H' H2) : Lk H H2 fo st pl kp fol n := ⟨h.ex.trans e, h.nfo, h.nst, h.ne, e _ _ h.fo, e _ _ h.st, h.sub, fun x hx => e _ _ (h.fr x hx), h.lb⟩
theorem Lk.up {m : Nat} (h : Lk H H' fo st pl kp fol n) (e : n ≤ m) : Lk H H' fo st pl kp fol m := ⟨h.ex, h.nfo, h.nst, h.ne, h.fo, h.st, h.sub, h.fr, fun x hx q hq => Nat.lt_of_lt_of_le (h.lb x hx q hq) e⟩
theorem ne_k {G : Hp} {a b : Addr} {xs ys : List V} (ha : G a = some (.tup xs)) (hb : G b = some (.lst ys)) : a ≠ b := fun z => by
  rw [z, hb] at ha
  cases ha
theorem Lk.setF (h : Lk H H' fo st pl kp fol n) (fol2 : List Nat) : Lk H (upd H' fo (.lst (intV fol2))) fo st pl kp fol2 n :=
  ⟨Ex.mut h.ex h.nfo, h.nfo, h.nst, h.ne, upd_same, (upd_ne h.ne.symm).trans h.st, h.sub, fun x hx => (upd_ne (ne_k (h.fr x hx) h.fo)).trans (h.fr x hx), h.lb⟩
theorem Lk.setS {pl2 : List Pf} (h : Lk H H' fo st pl kp fol n) (hs : ∀ x ∈ pl2, x ∈ kp) : Lk H (upd H' st (.lst (rfs pl2).reverse)) fo st pl2 kp fol n :=
  ⟨Ex.mut h.ex h.nst, h.nfo, h.nst, h.ne, (upd_ne h.ne).trans h.fo, upd_same, hs, fun x hx => (upd_ne (ne_k (h.fr x hx) h.st)).trans (h.fr x hx), h.lb⟩
theorem Lk.add (h : Lk H H' fo st pl kp fol n) {x : Pf} (hx : H' x.1 = some (.tup (frV x.2))) (hb : ∀ q, x.2.2.2.testBit q = true → q < n) : Lk H H' fo st pl (x :: kp) fol n :=
  ⟨h.ex, h.nfo, h.nst, h.ne, h.fo, h.st, fun y hy => List.mem_cons_of_mem _ (h.sub y hy), fun y hy => (List.mem_cons.mp hy).elim (fun z => z ▸ hx) (h.fr y), fun y hy => (List.mem_cons.mp hy).elim (fun z => z ▸ hb) (h.lb y)⟩
theorem rfs_cons (x : Pf) (pl : List Pf) : (rfs (x :: pl)).reverse = (rfs pl).reverse ++ [.ref x.1] := by
  unfold rfs
  rw [List.map_cons, List.reverse_cons]
/-- the top is taken away -/
theorem Lk.pop {x : Pf} (h : Lk H H' fo st (x :: pl) kp fol n) : (rfs (x :: pl)).reverse[(rfs (x :: pl)).reverse.length - 1]? = some (.ref x.1) ∧ Lk H (upd H' st (.lst (rfs (x :: pl)).reverse.dropLast)) fo st pl kp fol n := by
  have e : (rfs (x :: pl)).reverse.dropLast = (rfs pl).reverse := by rw [rfs_cons, List.dropLast_concat]
  rw [e]
  refine ⟨?_, h.setS fun y hy => h.sub y (List.mem_cons_of_mem _ hy)⟩
  rw [rfs_cons, List.length_append, List.getElem?_append_right (by show _ ≤ _ + 1 - 1; omega)]
  simp
theorem Lk.push {x : Pf} (h : Lk H H' fo st pl kp fol n) (hx : H' x.1 = some (.tup (frV x.2))) (hb : ∀ q, x.2.2.2.testBit q = true → q < n) : Lk H (upd H' st (.lst ((rfs pl).reverse ++ [.ref x.1]))) fo st (x :: pl) (x :: kp) fol n := by
  rw [← rfs_cons]
  exact (h.add hx hb).setS fun y hy => (List.mem_cons.mp hy).elim (fun z => z ▸ List.mem_cons_self) fun z => List.mem_cons_of_mem _ (h.sub y z)
end
section
variable {P : Program} {w : World} {K : PySem.W.Frag} {mg : Str → Option Value} {base : Heap}
theorem scLk : FnScope nLk ["steps"] (defScope sLk) := ⟨rfl, rfl, rfl, by decide +kernel, rfl, by decide +kernel, by decide +kernel⟩
theorem ok_lk {f : Addr} {fd : FuncData} (F : FnP K "_linked" sLk f fd) (CN : Cn mg) (TIa : Fu P w K mg base L2.CX0 1 "is_atom" (spIs isAt)) (TPi : Fu P w K mg base L2.CX0 1 "places_in" spPi) (TEi : Fu P w K mg base L2.CX0 1 "_either" (spFr orF)) (TJo : Fu P w K mg base L2.CX0 1 "_joined" (spFr joinF)) (mLen : mg "len" = none) :
    FnOk P w K mg base L2.CX0 2 f fd ["steps"] (spLk K) := by
  obtain ⟨tTHEN, gTHEN⟩ := CN.thn
  obtain ⟨tEITHER, gEITHER⟩ := CN.eith
  obtain ⟨tOPTIONAL, gOPTIONAL⟩ := CN.opt
  refine F.ok (CX := L2.CX0) scLk (fun vs H Q E h => ?_) (fun cdv A outer s H vs Q E hr h => ?_)
  · obtain ⟨s, rs, t, rfl, _⟩ := h
    rfl
  · refine ⟨_, (pss_cons (ps_set (i := 1) scLk.nd rfl (by first | exact Or.inl rfl | exact Or.inr rfl) (pe_lst pa_nil))
      (pss_cons (ps_set (i := 2) scLk.nd rfl (by first | exact Or.inl rfl | exact Or.inr rfl) (pe_lst pa_nil))
      (pss_cons (ps_for (passes_of rfl) rfl (pi_tup (pv 0)) (pg_name (i := 3) scLk.nd rfl (by first | exact Or.inl rfl | exact Or.inr rfl)) (pss_cons (ps_if (pt_val (pe_fu TIa hr (by rfl) (pa_cons (pv 3) pa_nil))) (pss_cons (ps_expr (pe_bm PySem.F.plainAttrs_list PySem.F.slot_list_append PySem.F.type_list_append mt_append (pv 2) (pa_cons (pe_tup (pa_cons pe_bl (pa_cons (pe_op op_shl pe_int (pe_callB call_len (by rfl) mLen boot_len (pa_cons (pv 1) pa_nil))) (pa_cons (pe_op op_shl pe_int (pe_callB call_len (by rfl) mLen boot_len (pa_cons (pv 1) pa_nil))) pa_nil)))) pa_nil)))
      (pss_cons (ps_expr (pe_bm PySem.F.plainAttrs_list PySem.F.slot_list_append PySem.F.type_list_append mt_append (pv 1) (pa_cons pe_int pa_nil)))
      (pss_one ps_continue))) pss_nil)
      (pss_cons (ps_set (i := 4) scLk.nd rfl (by first | exact Or.inl rfl | exact Or.inr rfl) (pe_bm0 PySem.F.plainAttrs_list PySem.F.slot_list_pop PySem.F.type_list_pop mt_pop (pv 2)))
      (pss_one (ps_if (pt_cmpR op_eq (pe_ix ix_tup (pv 3) pe_int fun _ _ => rfl) (pe_glob (v := V.str (tx kOpt)) (by rfl) gOPTIONAL ⟨tOPTIONAL, rfl⟩) (nomark _)) (pss_one (ps_expr (pe_bm PySem.F.plainAttrs_list PySem.F.slot_list_append PySem.F.type_list_append mt_append (pv 2) (pa_cons (pe_tup (pa_cons pe_bl (pa_cons (pe_ix ix_tup (pv 4) pe_int fun _ _ => rfl) (pa_cons (pe_ix ix_tup (pv 4) pe_int fun _ _ => rfl) pa_nil)))) pa_nil)))) (pss_one (ps_if (pt_cmpR op_eq (pe_ix ix_tup (pv 3) pe_int fun _ _ => rfl) (pe_glob (v := V.str (tx kEither)) (by rfl) gEITHER ⟨tEITHER, rfl⟩) (nomark _)) (pss_one (ps_expr (pe_bm PySem.F.plainAttrs_list PySem.F.slot_list_append PySem.F.type_list_append mt_append (pv 2) (pa_cons (pe_fu TEi hr (by rfl) (pa_cons (pe_bm0 PySem.F.plainAttrs_list PySem.F.slot_list_pop PySem.F.type_list_pop mt_pop (pv 2)) (pa_cons (pv 4) pa_nil))) pa_nil)))) (pss_cut (ps_set (i := 5) scLk.nd rfl (by first | exact Or.inl rfl | exact Or.inr rfl) (pe_ifExp (pt_cmpR op_eq (pe_ix ix_tup (pv 3) pe_int fun _ _ => rfl) (pe_glob (v := V.str (tx kThen)) (by rfl) gTHEN ⟨tTHEN, rfl⟩) (nomark _)) (pe_bm0 PySem.F.plainAttrs_list PySem.F.slot_list_pop PySem.F.type_list_pop mt_pop (pv 2)) (pv 4)))
      (pss_cons (ps_for (passes_of rfl) rfl (pi_list (pe_fu TPi hr (by rfl) (pa_cons (pe_ix ix_tup (pv 5) pe_int fun _ _ => rfl) pa_nil))) (pg_name (i := 6) scLk.nd rfl (by first | exact Or.inl rfl | exact Or.inr rfl)) (pss_one (ps_asg (pe_op op_or (pe_ix ix_list (pv 1) (pv 6) fun _ _ => rfl) (pe_ix ix_tup (pv 4) pe_int fun _ _ => rfl)) (pg_sub (pv 1) (pv 6) set_list))))
      (pss_one (ps_expr (pe_bm PySem.F.plainAttrs_list PySem.F.slot_list_append PySem.F.type_list_append mt_append (pv 2) (pa_cons (pe_ifExp (pt_cmpR op_eq (pe_ix ix_tup (pv 3) pe_int fun _ _ => rfl) (pe_glob (v := V.str (tx kThen)) (by rfl) gTHEN ⟨tTHEN, rfl⟩) (nomark _)) (pe_fu TJo hr (by rfl) (pa_cons (pv 5) (pa_cons (pv 4) pa_nil))) (pe_tup (pa_cons pe_bl (pa_cons (pe_ix ix_tup (pv 4) pe_int fun _ _ => rfl) (pa_cons (pe_ix ix_tup (pv 4) pe_int fun _ _ => rfl) pa_nil))))) pa_nil)))))))))))))
      (pss_cons (ps_asg (pe_ix ix_list (pv 2) pe_int fun _ _ => rfl) (pg_tup rfl (pgs_cons (pg_name (i := 7) scLk.nd rfl (by first | exact Or.inl rfl | exact Or.inr rfl)) (pgs_cons (pg_name (i := 8) scLk.nd rfl (by first | exact Or.inl rfl | exact Or.inr rfl)) (pgs_cons (pg_name (i := 9) scLk.nd rfl (by first | exact Or.inl rfl | exact Or.inr rfl)) pgs_nil)))))
      (pss_one (ps_ret (pe_tup (pa_cons (pv 7) (pa_cons (pv 8) (pa_cons (pv 9) (pa_cons (pv 1) pa_nil))))))))))), ?_⟩
    obtain ⟨sa, rs, t, rfl, hS, hops, hz, k⟩ := h
    refine q_asgL (xs := []) (el_lst ea_nil (by show 0 ≤ 100000; omega)) fun fo H1 nfo e1 hfo => ?_
    refine q_asgL (xs := []) (el_lst ea_nil (by show 0 ≤ 100000; omega)) fun st H2 nst e2 hst => ?_
    have hne : fo ≠ st := fun z => by
      rw [z, nst] at hfo
      cases hfo
    have L0 : Lk H H2 fo st [] [] [] 0 := ⟨e1.trans e2, nfo, fresh_back e1 nst, hne, e2 _ _ hfo, hst, (fun _ h => nomatch h), (fun _ h => nomatch h), fun _ h => nomatch h⟩
    have hwf : wf 0 (ops rs) := by rw [hops]; exact (tree_wf t 0).1
    refine q_forT (a := sa) (xs := rfs rs) (ev_var rfl) (ex_t (e1.trans e2) hS.1) (fun i st' H' => ∃ (t3 t4 t5 t6 : Option V) (pl kp : List Pf) (fol : List Nat), st' = [some (.ref sa), some (.ref fo), some (.ref st), t3, t4, t5, t6, none, none, none] ∧ Lk H H' fo st pl kp fol fol.length ∧ (pl.map (·.2), fol) = ((ops rs).take i).foldl lnk ([], []) ∧ fol.length ≤ i ∧ pl.length ≤ i)
      (fun H3 e3 => ⟨none, none, none, none, [], [], [], rfl, L0.mono e3, rfl, Nat.le_refl _, Nat.le_refl _⟩) (fun i st' H' _ ⟨_, _, _, _, _, _, _, _, h, _⟩ => ex_t h.ex hS.1) ?_ ?_
    · rintro i x st' H3 hx ⟨t3, t4, t5, t6, pl, kp, fol, rfl, L, hlk, hfl, hpl⟩
      obtain ⟨r, hr1, rfl⟩ := rfs_of hx
      have hi : i < rs.length := (List.getElem?_eq_some_iff.mp hr1).1
      have hop : (ops rs)[i]? = some r.2 := by
        unfold ops
        rw [List.getElem?_map, hr1]
        rfl
      have hsn : (ops rs).take (i + 1) = (ops rs).take i ++ [r.2] := by rw [List.take_succ, hop]; rfl
      have SA := (hS.2 r (List.mem_of_getElem? hr1)).mono L.ex
      have har : r.2.ar ≤ pl.length := by
        have h1 := wf_at hwf hop
        have h2 := dep_len ((ops rs).take i) [] [] (wf_pre i hwf)
        rw [← hlk] at h2
        simp only [List.length_map, List.length_nil] at h2
        rw [h2]
        exact h1
      have hnext : ((ops rs).take (i + 1)).foldl lnk ([], []) = lnk (pl.map (·.2), fol) r.2 := by
        rw [hsn, List.foldl_append, ← hlk]
        rfl
      obtain ⟨ra, op⟩ := r
      dsimp only at SA har hnext
      have hk0 : Ev (tOp (rIxT K) (tVar 3) (tC (.int 0))) [some (.ref sa), some (.ref fo), some (.ref st), some (.ref ra), t4, t5, t6, none, none, none] H3 (.str (tx (kd op))) := by
        obtain ⟨a, h1, h2⟩ := SA
        exact ev_ixTA (i := 0) (ev_var rfl) (st_of h1) rfl
      refine q_when (b := isAt op) (et_B (ev_fu (ea_cons (ev_var rfl) ea_nil) fun G1 g1 Q1 q1 E1 => ⟨ra, op, rfl, SA.mono g1, fun G2 g2 => q1 G2 g2⟩)) (fun hb H4 e4 => ?_) fun hb H4 e4 => ?_
      · obtain ⟨neg, ns, rfl⟩ : ∃ neg ns, op = .atom neg ns := by
          cases op with
          | atom neg ns => exact ⟨_, _, rfl⟩
          | _ => exact Bool.noConfusion hb
        have L4 := L.mono e4
        have hln : Ev (tOp (rI CPow fun i j => .int (i * 2 ^ j.toNat)) (tC (.int 1)) (tCB (fun xs H Q => ∃ x n, xs = [x] ∧ LenV K x H n ∧ Q (.int n) H) (tCons (tVar 1) tNil))) [some (.ref sa), some (.ref fo), some (.ref st), some (.ref ra), t4, t5, t6, none, none, none] H4 (.int ((2 ^ fol.length : Nat))) := by
          refine ev_op ev_c (ev_is (ev_lenA (ev_var rfl) (sq_of L4.fo)) ?_) (rv_shl (n := fol.length) (by omega))
          unfold intV
          rw [List.length_map]
        refine q_appU (l := st) (xs := (rfs pl).reverse) (ys := frV (false, 2 ^ fol.length, 2 ^ fol.length)) L4.st (ev_var rfl) (eu_tup (ea_cons ev_c (ea_cons hln (ea_cons hln ea_nil))) (by show 3 ≤ 100000; omega)) (by rw [List.length_reverse, rfs_len]; omega) fun p H5 np e5 hp => ?_
        have L5 := ((L4.mono e5).up (Nat.le_succ _)).push (x := (p, (false, 2 ^ fol.length, 2 ^ fol.length))) hp (fun q hq => by
          rw [Nat.testBit_two_pow, decide_eq_true_iff] at hq
          omega)
        refine q_app (l := fo) (xs := intV fol) (v := .int 0) L5.fo (ev_var rfl) ev_c (by unfold intV; rw [List.length_map]; omega) fun H6 e6 => ?_
        have L6 := (L5.mono e6).setF (fol ++ [0])
        have e0 : intV fol ++ [V.int 0] = intV (fol ++ [0]) := by unfold intV; rw [List.map_append]; rfl
        rw [e0]
        refine ⟨_, _, _, _, _, _, _, rfl, (show Lk H _ fo st _ _ _ (fol ++ [0]).length by rw [List.length_append]; exact L6), ?_, ?_, ?_⟩
        · rw [hnext]
          rfl
        · rw [List.length_append]
          show fol.length + 1 ≤ i + 1
          omega
        · show pl.length + 1 ≤ i + 1
          omega
      · have L4 := L.mono e4
        have hk4 := hk0.mono e4
        obtain ⟨xb, pl1, rfl⟩ : ∃ xb pl1, pl = xb :: pl1 := by
          cases pl with
          | cons a b => exact ⟨_, _, rfl⟩
          | nil =>
            exfalso
            cases op with
            | atom _ _ => exact Bool.noConfusion hb
            | _ => exact absurd har (by decide)
        obtain ⟨hb1, L5⟩ := L4.pop
        refine s_seq ?_
        refine ⟨_, rfl, .inl ⟨rfl, _, .inl (.inl L4.st)⟩, st, _, _, rfl, rfl, L4.st, hb1, ?_⟩
        have hbk := L4.sub _ List.mem_cons_self
        have hB := L5.fr _ hbk
        have hlb := L5.lb _ hbk
        generalize hG : upd H4 st (.lst (rfs (xb :: pl1)).reverse.dropLast) = H5 at L5 hB ⊢
        have hk5 : ∀ {u : V}, Ev (tOp (rIxT K) (tVar 3) (tC (.int 0))) [some (.ref sa), some (.ref fo), some (.ref st), some (.ref ra), some u, t5, t6, none, none, none] H5 (.str (tx (kd op))) := by
          obtain ⟨a, h1, h2⟩ := (hS.2 _ (List.mem_of_getElem? hr1)).mono L5.ex
          exact ev_ixTA (i := 0) (ev_var rfl) (st_of h1) rfl
        obtain ⟨pb, e, f, l⟩ := xb
        dsimp only at hB hlb
        dsimp only [gName, List.set]
        have hTrue : ∀ {G : Hp} {u5 u6 : Option V}, Ex H5 G → EvU (tTup (tCons (tC (.bl true)) (tCons (tOp (rIxT K) (tVar 4) (tC (.int 1))) (tCons (tOp (rIxT K) (tVar 4) (tC (.int 2))) tNil)))) [some (.ref sa), some (.ref fo), some (.ref st), some (.ref ra), some (.ref pb), u5, u6, none, none, none] G (frV (true, f, l)) := fun g =>
          eu_tup (ea_cons ev_c (ea_cons (ev_ixF (i := 1) (ev_var rfl) (g _ _ hB) rfl) (ea_cons (ev_ixF (i := 2) (ev_var rfl) (g _ _ hB) rfl) ea_nil))) (by show 3 ≤ 100000; omega)
        have hkd : ∀ {b : Bool} {k : List Nat}, decide (V.str (tx (kd op)) = V.str (tx k)) = b → V.bl (decide (V.str (tx (kd op)) = V.str (tx k))) = V.bl b := fun h => by rw [h]
        refine s_if (b := isOpt op) (et_test (ev_is (ev_op hk5 ev_c (rv_eq rfl)) (hkd (kd_opt op)))) (fun hc H6 e6 => ?_) fun hc1 H6 e6 => ?_
        · obtain rfl := opt_of hc
          have L6 := L5.mono e6
          refine s_appU (l := st) (xs := (rfs pl1).reverse) (ys := frV (true, f, l)) L6.st (ev_var rfl) (hTrue e6) (by rw [List.length_reverse, rfs_len]; simp only [List.length_cons] at hpl; omega) fun p H7 np e7 hp => ?_
          have L7 := (L6.mono e7).push (x := (p, (true, f, l))) hp hlb
          exact ⟨_, _, _, _, _, _, _, rfl, L7, by rw [hnext]; rfl, by omega, by simp only [List.length_cons] at hpl ⊢; omega⟩
        refine s_if (b := isEi op) (et_test (ev_is (ev_op (hk5.mono e6) ev_c (rv_eq rfl)) (hkd (kd_ei op)))) (fun hc H7 e7 => ?_) fun hc2 H7 e7 => ?_
        · obtain rfl := ei_of hc
          have L7 := (L5.mono e6).mono e7
          obtain ⟨xa, pl2, rfl⟩ : ∃ xa pl2, pl1 = xa :: pl2 := by
            cases pl1 with
            | cons a b => exact ⟨_, _, rfl⟩
            | nil => exact absurd har (by show ¬ (2 ≤ 1); decide)
          obtain ⟨hb2, L8⟩ := L7.pop
          refine ⟨_, rfl, .inl ⟨rfl, _, .inl (.inl L7.st)⟩, ?_⟩
          refine ⟨_, rfl, .inl ⟨rfl, _, .inl (.inl L7.st)⟩, st, _, _, rfl, rfl, L7.st, hb2, ?_⟩
          have hak := L7.sub _ List.mem_cons_self
          have hA := L8.fr _ hak
          have hB8 := L8.fr _ hbk
          have hla := L8.lb _ hak
          obtain ⟨pa, a⟩ := xa
          refine ⟨_, rfl, pa, pb, a, (e, f, l), rfl, hA, hB8, fun t H9 nt e9 ht => ?_⟩
          have L9 := L8.mono e9
          refine ⟨st, _, _, rfl, rfl, L9.st, ?_, ?_⟩
          · rw [List.length_reverse, rfs_len]
            simp only [List.length_cons] at hpl
            exact sz_lt (by omega)
          have L10 := L9.push (x := (t, orF a (e, f, l))) ht (fun q hq => by
            have hq : (a.2.2 ||| l).testBit q = true := hq
            rw [Nat.testBit_or, Bool.or_eq_true] at hq
            exact hq.elim (hla q) (hlb q))
          exact ⟨_, _, _, _, _, _, _, rfl, L10, by rw [hnext]; rfl, by omega, by simp only [List.length_cons] at hpl ⊢; omega⟩
        have L7 := (L5.mono e6).mono e7
        have hB7 := L7.fr _ hbk
        refine q_cut (M := fun σ' H' => ∃ (pa : Addr) (a : Fr) (pl2 : List Pf), σ' = [some (.ref sa), some (.ref fo), some (.ref st), some (.ref ra), some (.ref pb), some (.ref pa), t6, none, none, none] ∧ Lk H H' fo st pl2 kp fol fol.length ∧ (pa, a) ∈ kp ∧ pl2.length ≤ pl1.length ∧
          ((isTh op = true ∧ lnk (((pb, (e, f, l)) :: pl1).map (·.2), fol) op = (joinF a (e, f, l) :: pl2.map (·.2), addF fol a.2.2 f)) ∨ (isTh op = false ∧ lnk (((pb, (e, f, l)) :: pl1).map (·.2), fol) op = ((true, f, l) :: pl2.map (·.2), addF fol a.2.2 f)))) ?_ ?_
        · refine (et_test (ev_is (ev_op ((hk5.mono e6).mono e7) ev_c (rv_eq rfl)) (hkd (kd_th op))) : EvT _ _ _ (isTh op)) H7 (Ex.refl _) _ fun H8 e8 => ?_
          have L8 := L7.mono e8
          cases hth : isTh op with
          | true =>
            obtain rfl := th_of hth
            obtain ⟨xa, pl2, rfl⟩ : ∃ xa pl2, pl1 = xa :: pl2 := by
              cases pl1 with
              | cons a b => exact ⟨_, _, rfl⟩
              | nil => exact absurd har (by show ¬ (2 ≤ 1); decide)
            obtain ⟨hb2, L9⟩ := L8.pop
            refine if_pos rfl |>.mpr ?_
            refine ⟨_, rfl, .inl ⟨rfl, _, .inl (.inl L8.st)⟩, st, _, _, rfl, rfl, L8.st, hb2, ?_⟩
            obtain ⟨pa, a⟩ := xa
            exact ⟨pa, a, pl2, rfl, L9, L8.sub _ List.mem_cons_self, by simp only [List.length_cons]; omega, .inl ⟨rfl, rfl⟩⟩
          | false =>
            obtain rfl := rep_of hb hc1 hc2 hth
            refine ⟨_, rfl, pb, (e, f, l), pl1, rfl, L8, hbk, Nat.le_refl _, .inr ⟨rfl, rfl⟩⟩
        · rintro _ H8 ⟨pa, a, pl2, rfl, L8, hak, hple, hlnk⟩
          have hla := L8.lb _ hak
          refine s_seq ?_
          have hmlt : a.2.2 < 2 ^ 100 := Nat.lt_pow_two_of_testBit _ fun q hq => by
            rw [← Bool.not_eq_true]
            intro z
            have := hla q z
            omega
          refine ⟨_, rfl, pa, frV a, 2, _, rfl, rfl, .inl (.inl (L8.fr _ hak)), at_of (j := 2) rfl rfl, a.2.2, rfl, hmlt, fun l9 ps H10 nl e10 hl hps nd hlen => ?_⟩
          refine ⟨l9, rfl, ⟨_, .inl (.inl hl)⟩, for_list (xs := intV ps) (fun j σ' H' => ∃ t6, σ' = [some (.ref sa), some (.ref fo), some (.ref st), some (.ref ra), some (.ref pb), some (.ref pa), t6, none, none, none] ∧ Lk H H' fo st pl2 kp (addP fol (ps.take j) f) fol.length ∧ H' l9 = some (.lst (intV ps)))
            ⟨t6, rfl, by rw [List.take_zero, addP_nil]; exact L8.mono e10, hl⟩ (fun j σ' H' _ ⟨_, _, _, h⟩ => sq_of h) ?_ ?_⟩
          · rintro j x σ' H11 hx ⟨t6', rfl, L11, hl11⟩
            unfold intV at hx
            rw [List.getElem?_map] at hx
            obtain ⟨p, hp, rfl⟩ := Option.map_eq_some_iff.mp hx
            have hpm := List.mem_of_getElem? hp
            have hpl : p < fol.length := hla p ((hps p).mp hpm)
            have htk : ps.take (j + 1) = ps.take j ++ [p] := by rw [List.take_succ, hp]; rfl
            have hnot : p ∉ ps.take j := fun z => by
              have nd2 := nd.sublist (List.take_sublist (j + 1) ps)
              rw [htk, List.nodup_append] at nd2
              exact nd2.2.2 _ z _ (List.mem_singleton.mpr rfl) rfl
            have hg : (addP fol (ps.take j) f)[p]? = some fol[p] := by
              rw [addP_get, List.getElem?_eq_getElem hpl]
              simp only [Option.map_some, if_neg hnot]
            have hgv : (intV (addP fol (ps.take j) f))[p]? = some (.int (fol[p] : Nat)) := by
              unfold intV
              rw [List.getElem?_map, hg]
              rfl
            refine s_setL (l := fo) (xs := intV (addP fol (ps.take j) f)) (j := p) (v := .int ((fol[p] ||| f : Nat) : Int)) L11.fo ?_ (ev_var rfl) (ev_var rfl) ?_ fun H12 e12 => ?_
            · exact ev_op (ev_op (ev_var rfl) (ev_var rfl) (rv_ixL (sq_of L11.fo) (at_of rfl hgv))) (ev_ixF (i := 1) (ev_var rfl) (L11.fr _ hbk) rfl) rv_or
            · unfold intV
              rw [List.length_map, addP_len]
              exact hpl
            · have e0 : (intV (addP fol (ps.take j) f)).set p (.int ((fol[p] ||| f : Nat) : Int)) = intV (addP fol (ps.take (j + 1)) f) := by
                rw [htk, addP_snoc (List.getElem?_eq_getElem hpl) hnot]
                unfold intV
                rw [List.map_set]
              rw [e0]
              have hne2 : l9 ≠ fo := fun z => by
                have h1 := L8.fo
                rw [← z, nl] at h1
                cases h1
              exact ⟨_, rfl, (L11.mono e12).setF _, (upd_ne hne2).trans (e12 _ _ hl11)⟩
          · rintro σ' H11 ⟨t6', rfl, L11, hl11⟩
            have hln : (intV ps).length = ps.length := List.length_map _
            rw [hln, List.take_length, addP_all hps] at L11
            have hk11 : Ev (tOp (rIxT K) (tVar 3) (tC (.int 0))) [some (.ref sa), some (.ref fo), some (.ref st), some (.ref ra), some (.ref pb), some (.ref pa), t6', none, none, none] H11 (.str (tx (kd op))) := by
              obtain ⟨a, h1, h2⟩ := (hS.2 _ (List.mem_of_getElem? hr1)).mono L11.ex
              exact ev_ixTA (i := 0) (ev_var rfl) (st_of h1) rfl
            have fin : ∀ (p : Addr) (res : Fr) (H12 : Hp), Lk H H12 fo st pl2 kp (addF fol a.2.2 f) fol.length → H12 p = some (.tup (frV res)) → (∀ q, res.2.2.testBit q = true → q < fol.length) → lnk (((pb, (e, f, l)) :: pl1).map (·.2), fol) op = (res :: pl2.map (·.2), addF fol a.2.2 f) →
                ∃ t3 t4 t5 t6 pl kp fol2, [some (.ref sa), some (.ref fo), some (.ref st), some (.ref ra), some (.ref pb), some (.ref pa), t6', none, none, none] = [some (.ref sa), some (.ref fo), some (.ref st), t3, t4, t5, t6, none, none, none] ∧ Lk H (upd H12 st (.lst ((rfs pl2).reverse ++ [.ref p]))) fo st pl kp fol2 fol2.length ∧ (pl.map (·.2), fol2) = ((ops rs).take (i + 1)).foldl lnk ([], []) ∧ fol2.length ≤ i + 1 ∧ pl.length ≤ i + 1 := by
              intro p res H12 L12 hp hb2 hl2
              have L13 := L12.push (x := (p, res)) hp hb2
              exact ⟨_, _, _, _, _, _, _, rfl, (show Lk H _ fo st _ _ _ (addF fol a.2.2 f).length by rw [addF_len]; exact L13), by rw [hnext, hl2]; rfl, by rw [addF_len]; omega, by simp only [List.length_cons] at hpl ⊢; omega⟩
            have hsz : (rfs pl2).reverse.length < sizeLine := by
              rw [List.length_reverse, rfs_len]
              simp only [List.length_cons] at hpl
              exact sz_lt (by omega)
            refine ⟨_, rfl, .inl ⟨rfl, _, .inl (.inl L11.st)⟩, ?_⟩
            refine (et_test (ev_is (ev_op hk11 ev_c (rv_eq rfl)) (hkd (kd_th op))) : EvT _ _ _ (isTh op)) H11 (Ex.refl _) _ fun H12 e12 => ?_
            have L12 := L11.mono e12
            rcases hlnk with ⟨hth, hl2⟩ | ⟨hth, hl2⟩
            · rw [hth]
              refine if_pos rfl |>.mpr ?_
              refine ⟨_, rfl, _, rfl, pa, pb, a, (e, f, l), rfl, L12.fr _ hak, L12.fr _ hbk, fun t H13 nt e13 ht => ?_⟩
              have L13 := L12.mono e13
              refine ⟨st, _, _, rfl, rfl, L13.st, hsz, fin t _ H13 L13 ht (fun q hq => ?_) hl2⟩
              have hq : (if e then a.2.2 ||| l else l).testBit q = true := hq
              cases e with
              | false => exact hlb q hq
              | true =>
                have hq : (a.2.2 ||| l).testBit q = true := hq
                rw [Nat.testBit_or, Bool.or_eq_true] at hq
                exact hq.elim (hla q) (hlb q)
            · rw [hth]
              have hT : EvU (tTup (tCons (tC (.bl true)) (tCons (tOp (rIxT K) (tVar 4) (tC (.int 1))) (tCons (tOp (rIxT K) (tVar 4) (tC (.int 2))) tNil)))) [some (.ref sa), some (.ref fo), some (.ref st), some (.ref ra), some (.ref pb), some (.ref pa), t6', none, none, none] H12 (frV (true, f, l)) :=
                eu_tup (ea_cons ev_c (ea_cons (ev_ixF (i := 1) (ev_var rfl) (L12.fr _ hbk) rfl) (ea_cons (ev_ixF (i := 2) (ev_var rfl) (L12.fr _ hbk) rfl) ea_nil))) (by show 3 ≤ 100000; omega)
              rw [if_neg Bool.false_ne_true]
              refine hT H12 (Ex.refl _) _ fun t H13 nt e13 ht => ?_
              have L13 := L12.mono e13
              exact ⟨st, _, _, rfl, rfl, L13.st, hsz, fin t _ H13 L13 ht hlb hl2⟩
    · rintro st' H3 ⟨t3, t4, t5, t6, pl, kp, fol, rfl, L, hlk, hfl, hpl⟩
      rw [List.take_of_length_le (by unfold ops; rw [List.length_map, rfs_len]; exact Nat.le_refl _), hops] at hlk
      obtain ⟨F0, L00, fol0, ef, au⟩ := auto_of t
      rw [ef] at hlk
      injection hlk with hlk1 hlk2
      subst hlk2
      obtain ⟨x, rfl⟩ : ∃ x, pl = [x] := by
        have h1 : pl.length = 1 := by
          have := congrArg List.length hlk1
          rwa [List.length_map] at this
        exact List.length_eq_one_iff.mp h1
      have hx : x.2 = (t.nul, F0, L00) := by simpa using hlk1
      have hX := L.fr _ (L.sub _ List.mem_cons_self)
      rw [hx] at hX
      refine s_seq ?_
      refine (ev_ixA (i := 0) (ev_var rfl) (sq_of (show H3 st = some (.lst [.ref x.1]) from L.st)) rfl : Ev (tOp (rIxL K) (tVar 2) (tC (.int 0))) _ _ _) H3 (Ex.refl _) _ fun H4 e4 => ?_
      refine ⟨x.1, _, rfl, .inl (.inl (e4 _ _ hX)), rfl, ?_⟩
      refine ⟨_, _, rfl, _, _, rfl, _, _, rfl, rfl, ?_⟩
      refine s_retU (xs := [.bl t.nul, .int (F0 : Nat), .int (L00 : Nat), .ref fo]) (eu_tup (ea_cons (ev_var rfl) (ea_cons (ev_var rfl) (ea_cons (ev_var rfl) (ea_cons (ev_var rfl) ea_nil)))) (by show 4 ≤ 100000; omega)) fun p H5 np e5 hp => ?_
      have L5 := (L.mono e4).mono e5
      exact k p fo F0 L00 fol H5 (fresh_back ((L.mono e4).ex) np) nfo (fun z => by
        have h1 := (L.mono e4).fo
        rw [← z, np] at h1
        cases h1) L5.ex hp L5.fo au
end
end K14

set_option Elab.async false
set_option linter.all false
set_option maxRecDepth 100000
set_option maxHeartbeats 2000000
/-! Tuples that come out, new or old. -/
namespace Vt
open PySem PySem.Spec PyProof.Rows L2 Vl Evl Vp Vr
section
variable {K : PySem.W.Frag} {te ta tb : TE} {tl th : TO} {σ : L2.St} {H : Hp} {xs ys : List V} {p : Addr} {lo hi : Option Int}
def EvT (K : PySem.W.Frag) (te : TE) (σ : L2.St) (H : Hp) (xs : List V) : Prop := ∀ H1, Ex H H1 → ∀ Q : VK, (∀ p H2, Ex H1 H2 → SqT K H2 p xs → Q (.ref p) H2) → te σ H1 Q
theorem sqt_new {q : Addr} : SqT K (upd H q (.tup xs)) q xs := .inl (.inl upd_same)
theorem et_ref (h : Ev te σ H (.ref p)) (hx : SqT K H p xs) : EvT K te σ H xs := fun H1 e Q q => h H1 e Q fun H2 e2 => q p H2 e2 (ex_t (e.trans e2) hx)
theorem et_cut (h : EvT K te σ H xs) (h1 : EvO tl σ H lo) (h2 : EvO th σ H hi) : EvT K (tSl (rSlA K) te tl th) σ H (cutV xs lo hi) := by
  intro H1 e Q q
  refine h H1 e _ fun p H2 e2 hp => h1 H2 (e.trans e2) _ fun H3 e3 => h2 H3 ((e.trans e2).trans e3) _ fun H4 e4 => ?_
  refine ⟨p, xs, rfl, ex_t (e3.trans e4) hp, fun hw => ?_, fun _ p2 n2 => q p2 _ (((e2.trans e3).trans e4).trans (Ex.new n2)) sqt_new⟩
  have ec : cutV xs lo hi = xs := by
    unfold cutV
    rw [hw.1, hw.2, List.drop_zero, Nat.sub_zero, List.take_length]
  refine q p H4 ((e2.trans e3).trans e4) ?_
  rw [ec]
  exact ex_t (e3.trans e4) hp
theorem et_cat (h : EvT K ta σ H xs) (h2 : EvT K tb σ H ys) (hl : xs.length + ys.length ≤ 100000) : EvT K (tOp (rCatA K) ta tb) σ H (xs ++ ys) := by
  intro H1 e Q q
  refine h H1 e _ fun p H2 e2 hp => h2 H2 (e.trans e2) _ fun p2 H3 e3 hp2 => ?_
  refine ⟨p, p2, xs, ys, rfl, rfl, ex_t e3 hp, hp2, sz_of hl, fun hx => ?_, fun _ hy => ?_, fun _ _ p4 n4 => q p4 _ ((e2.trans e3).trans (Ex.new n4)) sqt_new⟩
  · refine q p2 H3 (e2.trans e3) ?_
    rw [hx]
    exact hp2
  · refine q p H3 (e2.trans e3) ?_
    rw [hy, List.append_nil]
    exact ex_t e3 hp
/-- a[k:] + a[:k] -/
theorem et_rot {a : List (List Nat)} {k : Nat} {t1 t2 : TE} {u1 u2 : TE} (h1 : EvT K t1 σ H (vtx a)) (h2 : EvT K t2 σ H (vtx a)) (g1 : Ev u1 σ H (.int (k : Int))) (g2 : Ev u2 σ H (.int (k : Int))) (hl : a.length ≤ 1000) :
    EvT K (tOp (rCatA K) (tSl (rSlA K) t1 (tPart u1) tNoPart) (tSl (rSlA K) t2 tNoPart (tPart u2))) σ H (vtx (rot a k)) := by
  have := et_cat (et_cut h1 (eo_some g1) eo_none) (et_cut h2 eo_none (eo_some g2)) (by
    have h3 := cutV_length (vtx a) (some (k : Int)) none
    have h4 := cutV_length (vtx a) none (some (k : Int))
    rw [vtx_len] at h3 h4
    omega)
  rw [cutV1, cutV0, ← vtx_rot] at this
  exact this
end
end Vt

set_option Elab.async false
set_option linter.all false
set_option maxRecDepth 100000
set_option maxHeartbeats 4000000
/-! The class Atoms. -/
namespace K14
open PySem PySem.Spec PyProof.Rows L2 Vl Evl Vp Vc Ve Ven Vg Vb Vt Vlt
def clB : Stmt → List Stmt
  | .ClassDef (body := b) .. => b
  | _ => []
def memA (i : Nat) : Stmt := (clB (top 15)).getD i (.Pass ⟨0, 0, 0, 0⟩)
abbrev FnM (K : PySem.W.Frag) (x q : Str) (st : Stmt) (f : Addr) (fd : FuncData) : Prop := FunD K x q (defArgs st) (defBody st) (defScope st) [] [] f fd
abbrev sAi : Stmt := memA 0
abbrev sAt : Stmt := memA 1
abbrev sAf : Stmt := memA 2
abbrev sAh : Stmt := memA 3
abbrev nAi : List Str := ["self", "steps", "empty", "first", "last", "follow", "step"]
/-- an atom as the object keeps it: its step -/
def kdA (t : At) : List Nat := if t.1 then kNone else kAny
def AtAt (H : Hp) (p : Addr) (t : At) : Prop := ∃ a, H p = some (.tup [.str (tx (kdA t)), .ref a]) ∧ H a = some (.tup (vtx t.2))
theorem AtAt.mono {H H' : Hp} {p : Addr} {t : At} (e : Ex H H') (h : AtAt H p t) : AtAt H' p t := by
  obtain ⟨a, h1, h2⟩ := h
  exact ⟨a, e _ _ h1, e _ _ h2⟩
def rwAt : List Rw → List (Addr × At)
  | [] => []
  | (p, .atom b ns) :: r => (p, (b, ns)) :: rwAt r
  | (p, .thn) :: r => rwAt r
  | (p, .eith) :: r => rwAt r
  | (p, .rep) :: r => rwAt r
  | (p, .opt) :: r => rwAt r
theorem rwAt_ops : ∀ rs : List Rw, (rwAt rs).map (·.2) = (ops rs).flatMap opAts
  | [] => rfl
  | (p, .atom b ns) :: r => by
    show (b, ns) :: (rwAt r).map (·.2) = (b, ns) :: (ops r).flatMap opAts
    rw [rwAt_ops r]
  | (p, .thn) :: r => rwAt_ops r
  | (p, .eith) :: r => rwAt_ops r
  | (p, .rep) :: r => rwAt_ops r
  | (p, .opt) :: r => rwAt_ops r
theorem rwAt_len : ∀ rs : List Rw, (rwAt rs).length ≤ rs.length
  | [] => Nat.le_refl _
  | (p, .atom b ns) :: r => Nat.succ_le_succ (rwAt_len r)
  | (p, .thn) :: r => Nat.le_succ_of_le (rwAt_len r)
  | (p, .eith) :: r => Nat.le_succ_of_le (rwAt_len r)
  | (p, .rep) :: r => Nat.le_succ_of_le (rwAt_len r)
  | (p, .opt) :: r => Nat.le_succ_of_le (rwAt_len r)
theorem rwAt_rfs : ∀ rs : List Rw, (rs.filter fun r => isAt r.2).map (fun r => V.ref r.1) = rfs (rwAt rs)
  | [] => rfl
  | (p, .atom b ns) :: r => by
    show V.ref p :: (r.filter fun r => isAt r.2).map (fun r => V.ref r.1) = V.ref p :: rfs (rwAt r)
    rw [rwAt_rfs r]
  | (p, .thn) :: r => rwAt_rfs r
  | (p, .eith) :: r => rwAt_rfs r
  | (p, .rep) :: r => rwAt_rfs r
  | (p, .opt) :: r => rwAt_rfs r
theorem rwAt_at {H : Hp} : ∀ {rs : List Rw}, (∀ r : Rw, r ∈ rs → StepAt H r.1 r.2) → ∀ r : Addr × At, r ∈ rwAt rs → AtAt H r.1 r.2
  | (p, .atom b ns) :: r, h, x, hx => by
    rcases List.mem_cons.mp (show x ∈ (p, (b, ns)) :: rwAt r from hx) with rfl | hx
    · obtain ⟨a, h1, h2⟩ := h _ List.mem_cons_self
      refine ⟨a, ?_, h2⟩
      cases b <;> exact h1
    · exact rwAt_at (fun y hy => h y (List.mem_cons_of_mem _ hy)) x hx
  | (p, .thn) :: r, h, x, hx => rwAt_at (rs := r) (fun y hy => h y (List.mem_cons_of_mem _ hy)) x hx
  | (p, .eith) :: r, h, x, hx => rwAt_at (rs := r) (fun y hy => h y (List.mem_cons_of_mem _ hy)) x hx
  | (p, .rep) :: r, h, x, hx => rwAt_at (rs := r) (fun y hy => h y (List.mem_cons_of_mem _ hy)) x hx
  | (p, .opt) :: r, h, x, hx => rwAt_at (rs := r) (fun y hy => h y (List.mem_cons_of_mem _ hy)) x hx
/-- the object Atoms of a tree -/
structure AtmAt (K : PySem.W.Frag) (CA : Addr) (H : Hp) (o : Addr) (t : Tr) (dx F L : Nat) (fol : List Nat) (fo tk : Addr) (ras : List (Addr × At)) : Prop where
  at_ : H o = some (.ins CA dx [("empty", .bl t.nul), ("last", .int (L : Nat)), ("begin", .int ((2 ^ t.sz : Nat) : Int)), ("ends", .int ((endM t L : Nat) : Int)), ("_follow", .ref fo), ("_takes", .ref tk)])
  fls : SqT K H fo (intV (fol ++ [F]))
  tak : SqT K H tk (rfs ras)
  eqs : ras.map (·.2) = t.ats
  row : ∀ r ∈ ras, AtAt H r.1 r.2
  auto : Auto t F L fol
theorem AtmAt.mono {K : PySem.W.Frag} {CA : Addr} {H H' : Hp} {o dx F L fo tk : Addr} {t : Tr} {fol : List Nat} {ras : List (Addr × At)} (e : Ex H H') (h : AtmAt K CA H o t dx F L fol fo tk ras) : AtmAt K CA H' o t dx F L fol fo tk ras :=
  ⟨e _ _ h.at_, ex_t e h.fls, ex_t e h.tak, h.eqs, fun r hr => (h.row r hr).mono e, h.auto⟩
def Atm (K : PySem.W.Frag) (CA : Addr) (H : Hp) (o : Addr) (t : Tr) : Prop := ∃ dx F L fol fo tk ras, AtmAt K CA H o t dx F L fol fo tk ras
theorem Atm.mono {K : PySem.W.Frag} {CA : Addr} {H H' : Hp} {o : Addr} {t : Tr} (e : Ex H H') (h : Atm K CA H o t) : Atm K CA H' o t := by
  obtain ⟨dx, F, L, fol, fo, tk, ras, h⟩ := h
  exact ⟨dx, F, L, fol, fo, tk, ras, h.mono e⟩
def spAi (K : PySem.W.Frag) (CA : Addr) : Sp := fun vs H Q _ => ∃ (x dx0 s : Addr) (H0 : Hp) (rs : List Rw) (t : Tr), vs = [.ref x, .ref s] ∧ H = upd (upd H0 dx0 (.own x)) x (.ins CA dx0 []) ∧ H0 x = none ∧ H0 dx0 = none ∧ dx0 ≠ x ∧ StepsAt K H0 s rs ∧ ops rs = t.steps ∧ rs.length ≤ 60 ∧
  ∀ H', Ex H0 H' → Atm K CA H' x t → Q .non H'
section
variable {K : PySem.W.Frag} {C : Addr}
theorem ev_fld {i : Nat} {σ : L2.St} {H : Hp} {o dx : Addr} {q : V} {fs : List (Str × V)} {f : Str} (hv : σ[i]? = some (some (.ref o))) (h : H o = some (.ins C dx fs)) (c : Cls K C) (n : NoAttr K C f) (hl : fs.lookup f = some q) : Ev (tFld K (tVar i) f) σ H q := fun H1 e Q k =>
  ⟨_, hv, o, C, dx, fs, q, rfl, e _ _ h, c, n, hl, k H1 (Ex.refl H1)⟩
/-- o.f = e -/
theorem s_fld {i : Nat} {σ : L2.St} {H : Hp} {o dx : Addr} {v : V} {fs : List (Str × V)} {f : Str} {te : TE} {D : Ends} (h : Ev te σ H v) (hv : σ[i]? = some (some (.ref o))) (ho : H o = some (.ins C dx fs)) (c : Cls K C) (n : NoAttr K C f) (hl : fs.length < 1000) (k : ∀ H1, Ex H H1 → D.nx σ (upd H1 o (.ins C dx (putF f v fs)))) : sFld K (tVar i) te f D σ H :=
  h H (Ex.refl _) _ fun H1 e1 => ⟨_, hv, o, C, dx, fs, rfl, e1 _ _ ho, c, n, hl, k H1 e1⟩
theorem s_fldT {i : Nat} {σ : L2.St} {H : Hp} {o dx : Addr} {xs : List V} {fs : List (Str × V)} {f : Str} {te : TE} {D : Ends} (h : Vt.EvT K te σ H xs) (hv : σ[i]? = some (some (.ref o))) (ho : H o = some (.ins C dx fs)) (c : Cls K C) (n : NoAttr K C f) (hl : fs.length < 1000) (k : ∀ p H1, Ex H H1 → SqT K H1 p xs → D.nx σ (upd H1 o (.ins C dx (putF f (.ref p) fs)))) : sFld K (tVar i) te f D σ H :=
  h H (Ex.refl _) _ fun p H1 e1 hp => ⟨_, hv, o, C, dx, fs, rfl, e1 _ _ ho, c, n, hl, k p H1 e1 hp⟩
theorem eT_U {te : TE} {σ : L2.St} {H : Hp} {xs : List V} (h : EvU te σ H xs) : Vt.EvT K te σ H xs := fun H1 e Q q => h H1 e Q fun p H2 _ e2 hp => q p H2 e2 (st_of hp)
/-- tuple(new list) -/
theorem eu_tupL {te : TE} {σ : L2.St} {H : Hp} {xs : List V} (h : EvL te σ H xs) : EvU (tCB (rTupA K) (tCons te tNil)) σ H xs := fun H1 e Q q => h H1 e _ fun p H2 np e2 hp =>
  ⟨p, xs, rfl, .inl ⟨sq_of hp, fun l nl => q l _ (fresh_back e2 nl) (e2.trans (Ex.new nl)) upd_same⟩⟩
theorem sqt_upd {H : Hp} {a p : Addr} {xs : List V} {u o : HO} (h : SqT K H a xs) (hp : H p = some u) (hu : ∀ ys, u ≠ .tup ys ∧ ∀ ob, u ≠ .frz ob (.tup ys)) : SqT K (upd H p o) a xs := by
  rcases h with (h | ⟨ob, h⟩) | h
  · exact .inl (.inl ((upd_ne fun z => by rw [z, hp] at h; exact (hu xs).1 (Option.some.inj h)).trans h))
  · exact .inl (.inr ⟨ob, (upd_ne fun z => by rw [z, hp] at h; exact (hu xs).2 ob (Option.some.inj h)).trans h⟩)
  · exact .inr h
end
section
variable {P : Program} {w : World} {K : PySem.W.Frag} {mg : Str → Option Value} {base : Heap} {CA : Addr}
theorem scAi : FnScope nAi ["self", "steps"] (defScope sAi) := ⟨rfl, rfl, rfl, by decide +kernel, rfl, by decide +kernel, by decide +kernel⟩
structure FA (K : PySem.W.Frag) (CA : Addr) : Prop where
  cls : Cls K CA
  empty : NoAttr K CA "empty"
  last : NoAttr K CA "last"
  begin : NoAttr K CA "begin"
  ends : NoAttr K CA "ends"
  follow : NoAttr K CA "_follow"
  takes : NoAttr K CA "_takes"
theorem ok_ai {f : Addr} {fd : FuncData} (F : FnM K "__init__" "Atoms.__init__" sAi f fd) (A : FA K CA) (TIa : Fu P w K mg base L2.CX0 1 "is_atom" (spIs isAt)) (TLk : Fu P w K mg base L2.CX0 2 "_linked" (spLk K)) (mLen : mg "len" = none) (mTuple : mg "tuple" = none) :
    FnOk P w K mg base L2.CX0 3 f fd ["self", "steps"] (spAi K CA) := by
  refine F.ok (CX := L2.CX0) scAi (fun vs H Q E h => ?_) (fun cdv A' outer s H vs Q E hr h => ?_)
  · obtain ⟨x, dx0, s, H0, rs, t, rfl, _⟩ := h
    rfl
  · refine ⟨_, (pss_cons (ps_asg (pe_fu TLk hr (by rfl) (pa_cons (pv 1) pa_nil)) (pg_tup rfl (pgs_cons (pg_name (i := 2) scAi.nd rfl (by first | exact Or.inl rfl | exact Or.inr rfl)) (pgs_cons (pg_name (i := 3) scAi.nd rfl (by first | exact Or.inl rfl | exact Or.inr rfl)) (pgs_cons (pg_name (i := 4) scAi.nd rfl (by first | exact Or.inl rfl | exact Or.inr rfl)) (pgs_cons (pg_name (i := 5) scAi.nd rfl (by first | exact Or.inl rfl | exact Or.inr rfl)) pgs_nil))))))
      (pss_cons (ps_fld (pv 0) (pv 2) (by rfl))
      (pss_cons (ps_fld (pv 0) (pv 4) (by rfl))
      (pss_cons (ps_fld (pv 0) (pe_op op_shl pe_int (pe_callB call_len (by rfl) mLen boot_len (pa_cons (pv 5) pa_nil))) (by rfl))
      (pss_cons (ps_fld (pv 0) (pe_ifExp (pt_val (pv 2)) (pe_op op_or (pv 4) (pe_fld (pv 0) rfl)) (pv 4)) (by rfl))
      (pss_cons (ps_fld (pv 0) (pe_op (op_catA) (pe_callTy call_tuple_of (by rfl) mTuple boot_tuple (pa_cons (pv 5) pa_nil)) (pe_tup (pa_cons (pv 3) pa_nil))) (by rfl))
      (pss_one (ps_fld (pv 0) (pe_callTy call_tuple_of (by rfl) mTuple boot_tuple (pa_cons (pe_lc (own := [("step", 6)]) (g := (gName 6)) (tt := (tB (tFu (spIs isAt) (fun _ => nil0) (tCons (tVar 6) tNil)))) (te := (tVar 6)) rfl scAi.nd (pi_tup (pv 1)) (blkOk_by (own := [("step", 6)]) (N := nAi) (sc := defScope sAi) (by decide +kernel)) (fun _ _ _ _ _ => (pg_name (i := 6) scAi.nd rfl (by first | exact Or.inl rfl | exact Or.inr rfl))) (fun _ _ _ _ _ => (pts_one (pt_val (pe_fu TIa hr (by rfl) (pa_cons (pv 6) pa_nil))))) (fun _ _ _ _ _ => (pv 6))) pa_nil)) (by rfl))))))))), ?_⟩
    obtain ⟨x, dx0, sa, H0, rs, t, rfl, rfl, hx, hdx, hne, hS, hops, hz, k⟩ := h
    have hx1 : (upd (upd H0 dx0 (.own x)) x (.ins CA dx0 [])) x = some (.ins CA dx0 []) := upd_same
    have e0 : Ex H0 (upd (upd H0 dx0 (.own x)) x (.ins CA dx0 [])) := (Ex.new hdx).trans (Ex.new (by rw [upd_ne hne.symm]; exact hx))
    generalize upd (upd H0 dx0 (.own x)) x (.ins CA dx0 []) = H at hx1 e0 ⊢
    refine s_seq ?_
    refine ⟨_, rfl, sa, rs, t, rfl, hS.mono e0, hops, hz, fun p l Fm L fol H1 np nl hpl e1 hp hl au => ⟨p, _, rfl, .inl (.inl hp), rfl, ?_⟩⟩
    refine ⟨_, _, rfl, _, _, rfl, _, _, rfl, _, _, rfl, rfl, ?_⟩
    have hx2 := e1 _ _ hx1
    have e01 := e0.trans e1
    dsimp only
    have hnx : l ≠ x := fun z => by
      rw [z, hx1] at nl
      cases nl
    refine s_seq ?_
    refine s_fld (ev_var (i := 2) rfl) rfl hx2 A.cls A.empty (by show 0 < 1000; omega) fun H2 e2 => ?_
    have hl2 : (upd H2 x (.ins CA dx0 (putF "empty" (.bl t.nul) []))) l = some (.lst (intV fol)) := (upd_ne hnx).trans (e2 _ _ hl)
    have ex2 : Ex H0 (upd H2 x (.ins CA dx0 (putF "empty" (.bl t.nul) []))) := Ex.mut (e01.trans e2) hx
    have hx3 : (upd H2 x (.ins CA dx0 (putF "empty" (.bl t.nul) []))) x = some (.ins CA dx0 [("empty", .bl t.nul)]) := upd_same
    generalize upd H2 x (.ins CA dx0 (putF "empty" (.bl t.nul) [])) = H3 at hl2 ex2 hx3 ⊢
    dsimp only
    refine s_seq ?_
    refine s_fld (ev_var (i := 4) rfl) rfl hx3 A.cls A.last (by show 1 < 1000; omega) fun H4 e4 => ?_
    have hl4 : (upd H4 x (.ins CA dx0 (putF "last" (.int (L : Nat)) [("empty", .bl t.nul)]))) l = some (.lst (intV fol)) := (upd_ne hnx).trans (e4 _ _ hl2)
    have ex4 : Ex H0 (upd H4 x (.ins CA dx0 (putF "last" (.int (L : Nat)) [("empty", .bl t.nul)]))) := Ex.mut (ex2.trans e4) hx
    have hx5 : (upd H4 x (.ins CA dx0 (putF "last" (.int (L : Nat)) [("empty", .bl t.nul)]))) x = some (.ins CA dx0 [("empty", .bl t.nul), ("last", .int (L : Nat))]) := upd_same
    generalize upd H4 x (.ins CA dx0 (putF "last" (.int (L : Nat)) [("empty", .bl t.nul)])) = H5 at hl4 ex4 hx5 ⊢
    dsimp only
    refine s_seq ?_
    have hsz : fol.length ≤ 1000 := by
      have h1 : t.sz ≤ rs.length := by
        have := congrArg List.length (rwAt_ops rs)
        rw [hops, ats_steps, List.length_map] at this
        show t.ats.length ≤ rs.length
        rw [← this]
        exact rwAt_len rs
      rw [au.len]
      omega
    have hb5 : Ev (tOp (rI CPow fun i j => .int (i * 2 ^ j.toNat)) (tC (.int 1)) (tCB (fun xs H Q => ∃ x n, xs = [x] ∧ LenV K x H n ∧ Q (.int n) H) (tCons (tVar 5) tNil))) [some (.ref x), some (.ref sa), some (.bl t.nul), some (.int (Fm : Nat)), some (.int (L : Nat)), some (.ref l), none] H5 (.int ((2 ^ t.sz : Nat))) := by
      rw [← au.len]
      refine ev_op ev_c (ev_is (ev_lenA (ev_var rfl) (sq_of hl4)) ?_) (rv_shl (n := fol.length) (by omega))
      unfold intV
      rw [List.length_map]
    refine s_fld hb5 rfl hx5 A.cls A.begin (by show 2 < 1000; omega) fun H6 e6 => ?_
    have hl6 : (upd H6 x (.ins CA dx0 (putF "begin" (.int ((2 ^ t.sz : Nat))) [("empty", .bl t.nul), ("last", .int (L : Nat))]))) l = some (.lst (intV fol)) := (upd_ne hnx).trans (e6 _ _ hl4)
    have ex6 : Ex H0 (upd H6 x (.ins CA dx0 (putF "begin" (.int ((2 ^ t.sz : Nat))) [("empty", .bl t.nul), ("last", .int (L : Nat))]))) := Ex.mut (ex4.trans e6) hx
    have hx7 : (upd H6 x (.ins CA dx0 (putF "begin" (.int ((2 ^ t.sz : Nat))) [("empty", .bl t.nul), ("last", .int (L : Nat))]))) x = some (.ins CA dx0 [("empty", .bl t.nul), ("last", .int (L : Nat)), ("begin", .int ((2 ^ t.sz : Nat)))]) := upd_same
    generalize upd H6 x (.ins CA dx0 (putF "begin" (.int ((2 ^ t.sz : Nat))) [("empty", .bl t.nul), ("last", .int (L : Nat))])) = H7 at hl6 ex6 hx7 ⊢
    dsimp only
    refine s_seq ?_
    have hb7 : Ev (tIf (tB (tVar 2)) (tOp (rI0 fun i j => .int (Builtin.bitOr i j)) (tVar 4) (tFld K (tVar 0) "begin")) (tVar 4)) [some (.ref x), some (.ref sa), some (.bl t.nul), some (.int (Fm : Nat)), some (.int (L : Nat)), some (.ref l), none] H7 (.int ((endM t L : Nat))) := by
      refine ev_if (b := t.nul) (et_B (ev_var rfl)) (fun z => ?_) fun z => ?_
      · refine ev_is (ev_op (ev_var rfl) (ev_fld rfl hx7 A.cls A.begin rfl) rv_or) ?_
        unfold endM
        rw [if_pos z]
      · refine ev_is (ev_var rfl) ?_
        unfold endM
        rw [if_neg (by rw [z]; decide)]
    refine s_fld hb7 rfl hx7 A.cls A.ends (by show 3 < 1000; omega) fun H8 e8 => ?_
    have hl8 : (upd H8 x (.ins CA dx0 (putF "ends" (.int ((endM t L : Nat))) [("empty", .bl t.nul), ("last", .int (L : Nat)), ("begin", .int ((2 ^ t.sz : Nat)))]))) l = some (.lst (intV fol)) := (upd_ne hnx).trans (e8 _ _ hl6)
    have ex8 : Ex H0 (upd H8 x (.ins CA dx0 (putF "ends" (.int ((endM t L : Nat))) [("empty", .bl t.nul), ("last", .int (L : Nat)), ("begin", .int ((2 ^ t.sz : Nat)))]))) := Ex.mut (ex6.trans e8) hx
    have hx9 : (upd H8 x (.ins CA dx0 (putF "ends" (.int ((endM t L : Nat))) [("empty", .bl t.nul), ("last", .int (L : Nat)), ("begin", .int ((2 ^ t.sz : Nat)))]))) x = some (.ins CA dx0 [("empty", .bl t.nul), ("last", .int (L : Nat)), ("begin", .int ((2 ^ t.sz : Nat))), ("ends", .int ((endM t L : Nat)))]) := upd_same
    generalize upd H8 x (.ins CA dx0 (putF "ends" (.int ((endM t L : Nat))) [("empty", .bl t.nul), ("last", .int (L : Nat)), ("begin", .int ((2 ^ t.sz : Nat)))])) = H9 at hl8 ex8 hx9 ⊢
    dsimp only
    refine s_seq ?_
    have e0' : intV fol ++ [V.int (Fm : Nat)] = intV (fol ++ [Fm]) := by unfold intV; rw [List.map_append]; rfl
    refine s_fldT (et_cat (eT_U (eu_tupleA (ev_var (i := 5) rfl) (sq_of hl8))) (eT_U (eu_tup (ea_cons (ev_var (i := 3) rfl) ea_nil) (by show 1 ≤ 100000; omega))) (by unfold intV; rw [List.length_map]; show _ + 1 ≤ _; omega)) rfl hx9 A.cls A.follow (by show 4 < 1000; omega) fun fo H10 e10 hfo => ?_
    rw [e0'] at hfo
    have ex10 : Ex H0 (upd H10 x (.ins CA dx0 (putF "_follow" (.ref fo) [("empty", .bl t.nul), ("last", .int (L : Nat)), ("begin", .int ((2 ^ t.sz : Nat))), ("ends", .int ((endM t L : Nat)))]))) := Ex.mut (ex8.trans e10) hx
    have hx11 : (upd H10 x (.ins CA dx0 (putF "_follow" (.ref fo) [("empty", .bl t.nul), ("last", .int (L : Nat)), ("begin", .int ((2 ^ t.sz : Nat))), ("ends", .int ((endM t L : Nat)))]))) x = some (.ins CA dx0 [("empty", .bl t.nul), ("last", .int (L : Nat)), ("begin", .int ((2 ^ t.sz : Nat))), ("ends", .int ((endM t L : Nat))), ("_follow", .ref fo)]) := upd_same
    have hfo11 : SqT K (upd H10 x (.ins CA dx0 (putF "_follow" (.ref fo) [("empty", .bl t.nul), ("last", .int (L : Nat)), ("begin", .int ((2 ^ t.sz : Nat))), ("ends", .int ((endM t L : Nat)))]))) fo (intV (fol ++ [Fm])) := sqt_upd hfo (e10 _ _ hx9) fun ys => ⟨fun z => (nomatch z), fun ob z => (nomatch z)⟩
    generalize upd H10 x (.ins CA dx0 (putF "_follow" (.ref fo) [("empty", .bl t.nul), ("last", .int (L : Nat)), ("begin", .int ((2 ^ t.sz : Nat))), ("ends", .int ((endM t L : Nat)))])) = H11 at hfo11 ex10 hx11 ⊢
    dsimp only
    have hS11 := hS.mono ex10
    have hlc := el_lcTA (K := K) (tl := tVar 1) (te := tVar 6) (tt := tB (tFu (spIs isAt) (fun _ => nil0) (tCons (tVar 6) tNil))) (σ := [some (.ref x), some (.ref sa), some (.bl t.nul), some (.int (Fm : Nat)), some (.int (L : Nat)), some (.ref l), none]) (H := H11) (ys := rs) (g := fun r : Rw => V.ref r.1) (j := 6) (vs := [6]) (fun r : Rw => isAt r.2) (fun r : Rw => V.ref r.1) (ev_var rfl) hS11.1 (by omega) (fun _ => rfl)
      (fun r G e hr => et_B (ev_fu (ea_cons (ev_var rfl) ea_nil) fun G1 g1 Q1 q1 E1 => ⟨r.1, r.2, rfl, (hS11.2 r hr).mono (e.trans g1), fun G2 g2 => q1 G2 g2⟩)) (fun r G e hr _ => ev_var rfl)
    rw [rwAt_rfs] at hlc
    refine s_fldT (eT_U (eu_tupL hlc)) rfl hx11 A.cls A.takes (by show 5 < 1000; omega) fun tk H12 e12 htk => ?_
    have ex12 : Ex H0 (upd H12 x (.ins CA dx0 (putF "_takes" (.ref tk) [("empty", .bl t.nul), ("last", .int (L : Nat)), ("begin", .int ((2 ^ t.sz : Nat))), ("ends", .int ((endM t L : Nat))), ("_follow", .ref fo)]))) := Ex.mut (ex10.trans e12) hx
    refine k _ ex12 ⟨dx0, Fm, L, fol, fo, tk, rwAt rs, upd_same, ?_, ?_, ?_, rwAt_at (fun r hr => (hS.2 r hr).mono ex12), au⟩
    · exact sqt_upd (ex_t e12 hfo11) (e12 _ _ hx11) fun ys => ⟨fun z => (nomatch z), fun ob z => (nomatch z)⟩
    · exact sqt_upd htk (e12 _ _ hx11) fun ys => ⟨fun z => (nomatch z), fun ob z => (nomatch z)⟩
    · rw [rwAt_ops, hops, ats_steps]
end
end K14

set_option Elab.async false
set_option linter.all false
set_option maxRecDepth 100000
set_option maxHeartbeats 4000000
/-! How Atoms reads a word. -/
namespace K14
open PySem PySem.Spec PyProof.Rows L2 Vl Evl Vp Vc Ve Ven Vg Vb Vt Vlt
abbrev nAt : List Str := ["self", "lane", "mask", "place", "kind", "names"]
abbrev nAf : List Str := ["self", "mask", "found", "place"]
abbrev nAh : List Str := ["self", "word", "here", "lane"]
theorem inV_vtx {l : List Nat} {xs : List (List Nat)} : inV (V.str (tx l)) (vtx xs) = decide (l ∈ xs) := by
  unfold inV vtx
  rw [List.any_map]
  cases e : decide (l ∈ xs) with
  | true =>
    have hm := of_decide_eq_true e
    rw [List.any_eq_true]
    exact ⟨l, hm, by show eqV (V.str (tx l)) (V.str (tx l)) = true; unfold eqV; simp⟩
  | false =>
    have hm := of_decide_eq_false e
    rw [List.any_eq_false]
    intro y hy z
    have z : eqV (V.str (tx y)) (V.str (tx l)) = true := z
    unfold eqV at z
    have : tx y = tx l := by simpa using z
    exact hm (by rw [← tx_inj this]; exact hy)
theorem flat_vtx (xs : List (List Nat)) : (vtx xs).all flatV = true := by
  rw [List.all_eq_true]
  intro v hv
  obtain ⟨l, _, rfl⟩ := List.mem_map.mp hv
  rfl
theorem if_f {c A B : Prop} [Decidable c] (h : ¬ c) (b : B) : if c then A else B := by
  rw [if_neg h]
  exact b
theorem if_t {c A B : Prop} [Decidable c] (h : c) (a : A) : if c then A else B := by
  rw [if_pos h]
  exact a
/-- a lane's row: name, start, end -/
def takP (as : List At) (x : Nm) (i : Nat) : Nat := (List.range i).foldl (fun m p => if (match as[p]? with | some t => takes t x | none => false) then m ||| 2 ^ p else m) 0
theorem takP_succ {as : List At} {x : Nm} {i : Nat} {t : At} (h : as[i]? = some t) : takP as x (i + 1) = if takes t x then takP as x i ||| 2 ^ i else takP as x i := by
  unfold takP
  rw [List.range_succ, List.foldl_append, List.foldl_cons, List.foldl_nil, h]
theorem takM_lt (as : List At) (x : Nm) : ∀ q, (takM as x).testBit q = true → q < as.length := fun q h => by
  have := lb_lt ((takM_bit as x q).mp h)
  omega
/-- the masks at these places, together -/
def orL (fs ps : List Nat) : Nat := ps.foldl (fun a p => a ||| fs.getD p 0) 0
theorem orL_fold (fs : List Nat) (q : Nat) : ∀ (ps : List Nat) (a : Nat), (ps.foldl (fun a p => a ||| fs.getD p 0) a).testBit q = true ↔ a.testBit q = true ∨ ∃ p ∈ ps, (fs.getD p 0).testBit q = true
  | [], a => by simp
  | p :: ps, a => by
    rw [List.foldl_cons, orL_fold fs q ps, Nat.testBit_or, Bool.or_eq_true, or_assoc]
    simp
theorem orL_aft {fs ps : List Nat} {m : Nat} (h : ∀ p, p ∈ ps ↔ m.testBit p = true) (hl : ∀ p ∈ ps, p < fs.length) : orL fs ps = aftM fs m := by
  refine Nat.eq_of_testBit_eq fun q => Bool.eq_iff_iff.mpr ?_
  unfold orL
  rw [orL_fold, aftM_bit, Nat.zero_testBit]
  constructor
  · rintro (z | ⟨p, hp, hq⟩)
    · exact Bool.noConfusion z
    · have := hl p hp
      refine ⟨p, fs[p], (h p).mp hp, List.getElem?_eq_getElem this, ?_⟩
      rw [List.getD_eq_getElem?_getD, List.getElem?_eq_getElem this] at hq
      exact hq
  · rintro ⟨p, f, h1, h2, h3⟩
    refine .inr ⟨p, (h p).mpr h1, ?_⟩
    rw [List.getD_eq_getElem?_getD, h2]
    exact h3
def spTk (K : PySem.W.Frag) (CA : Addr) : Sp := fun vs H Q _ => ∃ (o : Addr) (t : Tr) (dx F L : Nat) (fol : List Nat) (fo tk : Addr) (ras : List (Addr × At)) (x : Nm), vs = [.ref o, .str (tx x)] ∧ AtmAt K CA H o t dx F L fol fo tk ras ∧ t.sz ≤ 60 ∧ ∀ H', Ex H H' → Q (.int ((takM t.ats x : Nat) : Int)) H'
def spAf (K : PySem.W.Frag) (CA : Addr) : Sp := fun vs H Q _ => ∃ (o : Addr) (t : Tr) (dx F L : Nat) (fol : List Nat) (fo tk : Addr) (ras : List (Addr × At)) (m : Nat), vs = [.ref o, .int (m : Nat)] ∧ AtmAt K CA H o t dx F L fol fo tk ras ∧ t.sz ≤ 60 ∧ (∀ q, m.testBit q = true → q < t.sz + 1) ∧ ∀ H', Ex H H' → Q (.int ((aftM (fol ++ [F]) m : Nat) : Int)) H'
/-- whether a sequence of names is a word -/
def spHw (K : PySem.W.Frag) (CA : Addr) : Sp := fun vs H Q _ => ∃ (o w : Addr) (t : Tr) (xs : List Nm), vs = [.ref o, .ref w] ∧ Atm K CA H o t ∧ t.sz ≤ 60 ∧ SqA K H w (vtx xs) ∧ ∀ b H', (b = true ↔ t.L xs) → Ex H H' → Q (.bl b) H'
theorem gNum (a b : Bool) : (!decide (V.bl a = V.bl b)) = (a != b) := by cases a <;> cases b <;> rfl
section
variable {P : Program} {w : World} {K : PySem.W.Frag} {mg : Str → Option Value} {base : Heap} {CA : Addr}
theorem scAt : FnScope nAt ["self", "lane"] (defScope sAt) := ⟨rfl, rfl, rfl, by decide +kernel, rfl, by decide +kernel, by decide +kernel⟩
theorem ok_at {f : Addr} {fd : FuncData} (F : FnM K "taking" "Atoms.taking" sAt f fd) (A : FA K CA) (CN : Cn mg) (mEnum : mg "enumerate" = none) : FnOk P w K mg base L2.CX0 1 f fd ["self", "lane"] (spTk K CA) := by
  obtain ⟨tNONE, gNONE⟩ := CN.none
  refine F.ok (CX := L2.CX0) scAt (fun vs H Q E h => ?_) (fun cdv A' outer s H vs Q E hr h => ?_)
  · obtain ⟨o, t, dx, Fm, L, fol, fo, tk, ras, x, rfl, _⟩ := h
    rfl
  · refine ⟨_, (pss_cons (ps_set (i := 2) scAt.nd rfl (by first | exact Or.inl rfl | exact Or.inr rfl) pe_int)
      (pss_cons (ps_for (passes_of rfl) rfl (pi_enumA (by rfl) mEnum (pa_cons (pe_fld (pv 0) rfl) pa_nil)) (pg_tup rfl (pgs_cons (pg_name (i := 3) scAt.nd rfl (by first | exact Or.inl rfl | exact Or.inr rfl)) (pgs_cons (pg_tup rfl (pgs_cons (pg_name (i := 4) scAt.nd rfl (by first | exact Or.inl rfl | exact Or.inr rfl)) (pgs_cons (pg_name (i := 5) scAt.nd rfl (by first | exact Or.inl rfl | exact Or.inr rfl)) pgs_nil))) pgs_nil))) (pss_one (ps_if (pt_cmpR op_ne (pe_cmpR op_in_seq (pv 1) (pv 5) rfl) (pe_cmpR op_eq (pv 4) (pe_glob (v := V.str (tx kNone)) (by rfl) gNONE ⟨tNONE, rfl⟩) (nomark _)) (nomark _)) (pss_one (ps_set (i := 2) scAt.nd rfl (by first | exact Or.inl rfl | exact Or.inr rfl) (pe_op op_or (pv 2) (pe_op op_shl pe_int (pv 3))))) pss_nil)))
      (pss_one (ps_ret (pv 2))))), ?_⟩
    obtain ⟨o, t, dx, Fm, L, fol, fo, tk, ras, x, rfl, M, hz, k⟩ := h
    have hlen : ras.length = t.sz := by
      have := congrArg List.length M.eqs
      rwa [List.length_map] at this
    refine q_asg ev_c fun H1 e1 => ?_
    refine s_seq ?_
    refine s_forEn (a := tk) (xs := rfs ras) (ea_cons (ev_fld rfl (e1 _ _ M.at_) A.cls A.takes rfl) ea_nil) (.inr (ex_t e1 M.tak)) (fun i st' H' => ∃ t3 t4 t5, st' = [some (.ref o), some (.str (tx x)), some (.int ((takP t.ats x i : Nat) : Int)), t3, t4, t5] ∧ Ex H1 H') (fun H2 e2 => ⟨none, none, none, rfl, e2⟩) (fun i st' H' ⟨_, _, _, _, e⟩ => e) ?_ ?_
    · rintro i v T st' H2 hv ⟨t3, t4, t5, rfl, e2⟩ nT
      obtain ⟨r, hr1, rfl⟩ := rfs_of hv
      have hi := (List.getElem?_eq_some_iff.mp hr1).1
      have hat : t.ats[i]? = some r.2 := by
        rw [← M.eqs, List.getElem?_map, hr1]
        rfl
      obtain ⟨a, h1, h2⟩ := ((M.row r (List.mem_of_getElem? hr1)).mono (e1.trans e2)).mono (Ex.new (o := .tup [.int (i : Nat), .ref r.1]) nT)
      have e3 := e2.trans (Ex.new (o := .tup [.int (i : Nat), .ref r.1]) nT)
      have hT : (upd H2 T (.tup [.int (i : Nat), .ref r.1])) T = some (.tup [.int (i : Nat), .ref r.1]) := upd_same
      generalize upd H2 T (.tup [.int (i : Nat), .ref r.1]) = H3 at h1 h2 e3 hT ⊢
      refine ⟨T, _, rfl, .inl (.inl hT), rfl, ?_⟩
      refine ⟨_, _, rfl, _, _, rfl, r.1, _, rfl, .inl (.inl h1), rfl, _, _, rfl, _, _, rfl, rfl, rfl, ?_⟩
      dsimp only
      have hc : Ev (tOp (rIn K false) (tVar 1) (tVar 5)) [some (.ref o), some (.str (tx x)), some (.int ((takP t.ats x i : Nat) : Int)), some (.int (i : Nat)), some (.str (tx (kdA r.2))), some (.ref a)] H3 (.bl (decide (x ∈ r.2.2))) := by
        refine ev_is (ev_op (ev_var rfl) (ev_var rfl) (rv_inT (neg := false) (st_of h2) rfl (flat_vtx _))) ?_
        show V.bl (inV _ _) = _
        rw [inV_vtx]
      have hn : Ev (tOp rEq (tVar 4) (tC (.str (tx kNone)))) [some (.ref o), some (.str (tx x)), some (.int ((takP t.ats x i : Nat) : Int)), some (.int (i : Nat)), some (.str (tx (kdA r.2))), some (.ref a)] H3 (.bl r.2.1) := by
        refine ev_is (ev_op (ev_var rfl) ev_c (rv_eq rfl)) ?_
        obtain ⟨p0, b0, ns0⟩ := r
        cases b0 <;> rfl
      refine s_when (b := takes r.2 x) (et_test (ev_is (ev_op hc hn (rv_ne rfl)) (by rw [gNum]; rfl))) (fun hb H4 e4 => ?_) fun hb H4 e4 => ?_
      · refine s_asg (v := .int ((takP t.ats x i ||| 2 ^ i : Nat) : Int)) (ev_op (ev_var rfl) (ev_op ev_c (ev_var rfl) (rv_shl (n := i) (by omega))) rv_or) fun H5 e5 => ?_
        refine ⟨some (.int (i : Nat)), some (.str (tx (kdA r.2))), some (.ref a), ?_, (e3.trans e4).trans e5⟩
        rw [takP_succ hat, if_pos hb]
        rfl
      · refine ⟨some (.int (i : Nat)), some (.str (tx (kdA r.2))), some (.ref a), ?_, e3.trans e4⟩
        rw [takP_succ hat, if_neg (by rw [hb]; decide)]
        rfl
    · rintro st' H2 ⟨t3, t4, t5, rfl, e2⟩
      rw [rfs_len, hlen]
      exact s_ret (ev_var rfl) fun H3 e3 => k H3 ((e1.trans e2).trans e3)
theorem scAf : FnScope nAf ["self", "mask"] (defScope sAf) := ⟨rfl, rfl, rfl, by decide +kernel, rfl, by decide +kernel, by decide +kernel⟩
theorem ok_af {f : Addr} {fd : FuncData} (F : FnM K "after" "Atoms.after" sAf f fd) (A : FA K CA) (TPi : Fu P w K mg base L2.CX0 1 "places_in" spPi) : FnOk P w K mg base L2.CX0 2 f fd ["self", "mask"] (spAf K CA) := by
  refine F.ok (CX := L2.CX0) scAf (fun vs H Q E h => ?_) (fun cdv A' outer s H vs Q E hr h => ?_)
  · obtain ⟨o, t, dx, Fm, L, fol, fo, tk, ras, m, rfl, _⟩ := h
    rfl
  · refine ⟨_, (pss_cons (ps_set (i := 2) scAf.nd rfl (by first | exact Or.inl rfl | exact Or.inr rfl) pe_int)
      (pss_cons (ps_for (passes_of rfl) rfl (pi_list (pe_fu TPi hr (by rfl) (pa_cons (pv 1) pa_nil))) (pg_name (i := 3) scAf.nd rfl (by first | exact Or.inl rfl | exact Or.inr rfl)) (pss_one (ps_set (i := 2) scAf.nd rfl (by first | exact Or.inl rfl | exact Or.inr rfl) (pe_op op_or (pv 2) (pe_ix ix_tup (pe_fld (pv 0) rfl) (pv 3) fun _ _ => rfl)))))
      (pss_one (ps_ret (pv 2))))), ?_⟩
    obtain ⟨o, t, dx, Fm, L, fol, fo, tk, ras, m, rfl, M, hz, hm, k⟩ := h
    have hfl : (fol ++ [Fm]).length = t.sz + 1 := by
      rw [List.length_append, M.auto.len]
      rfl
    have hmlt : m < 2 ^ 100 := Nat.lt_pow_two_of_testBit _ fun q hq => by
      rw [← Bool.not_eq_true]
      intro z
      have := hm q z
      omega
    refine q_asg ev_c fun H1 e1 => ?_
    refine s_seq ?_
    refine ⟨_, rfl, m, rfl, hmlt, fun l ps H2 nl e2 hl hps nd hlen => ?_⟩
    have hlt : ∀ p ∈ ps, p < (fol ++ [Fm]).length := fun p hp => by
      rw [hfl]
      exact hm p ((hps p).mp hp)
    refine ⟨l, rfl, ⟨_, .inl (.inl hl)⟩, for_list (xs := intV ps) (fun j σ' H' => ∃ t3, σ' = [some (.ref o), some (.int (m : Nat)), some (.int ((orL (fol ++ [Fm]) (ps.take j) : Nat) : Int)), t3] ∧ Ex H2 H') ⟨none, rfl, Ex.refl _⟩ (fun j σ' H' _ ⟨_, _, e⟩ => sq_of (e _ _ hl)) ?_ ?_⟩
    · rintro j v σ' H3 hx ⟨t3, rfl, e3⟩
      unfold intV at hx
      rw [List.getElem?_map] at hx
      obtain ⟨p, hp, rfl⟩ := Option.map_eq_some_iff.mp hx
      have htk : ps.take (j + 1) = ps.take j ++ [p] := by rw [List.take_succ, hp]; rfl
      have hpl := hlt p (List.mem_of_getElem? hp)
      have e03 := (e1.trans e2).trans e3
      have hgv : (intV (fol ++ [Fm]))[p]? = some (.int (((fol ++ [Fm]).getD p 0 : Nat) : Int)) := by
        unfold intV
        rw [List.getElem?_map, List.getD_eq_getElem?_getD, List.getElem?_eq_getElem hpl]
        rfl
      refine s_asg (v := .int ((orL (fol ++ [Fm]) (ps.take (j + 1)) : Nat) : Int)) ?_ fun H4 e4 => ⟨_, rfl, e3.trans e4⟩
      refine ev_is (ev_op (ev_var rfl) (ev_op (ev_fld rfl (e03 _ _ M.at_) A.cls A.follow rfl) (ev_var rfl) (rv_ixT (ex_t e03 M.fls) (at_of rfl hgv))) rv_or) ?_
      rw [htk]
      unfold orL
      rw [List.foldl_append]
      rfl
    · rintro σ' H3 ⟨t3, rfl, e3⟩
      have hln : (intV ps).length = ps.length := List.length_map _
      rw [hln, List.take_length, orL_aft hps hlt]
      exact s_ret (ev_var rfl) fun H4 e4 => k H4 (((e1.trans e2).trans e3).trans e4)
theorem scAh : FnScope nAh ["self", "word"] (defScope sAh) := ⟨rfl, rfl, rfl, by decide +kernel, rfl, by decide +kernel, by decide +kernel⟩
structure KA (P : Program) (w : World) (K : PySem.W.Frag) (mg : Str → Option Value) (base : Heap) (CA : Addr) : Prop where
  cls : Cls K CA
  taking : Mo P w K mg base CA L2.CX0 1 "taking" (spTk K CA)
  after : Mo P w K mg base CA L2.CX0 2 "after" (spAf K CA)
theorem ok_ah {f : Addr} {fd : FuncData} (F : FnM K "has_word" "Atoms.has_word" sAh f fd) (A : FA K CA) (KA : KA P w K mg base CA) : FnOk P w K mg base L2.CX0 3 f fd ["self", "word"] (spHw K CA) := by
  refine F.ok (CX := L2.CX0) scAh (fun vs H Q E h => ?_) (fun cdv A' outer s H vs Q E hr h => ?_)
  · obtain ⟨o, w, t, xs, rfl, _⟩ := h
    rfl
  · refine ⟨_, (pss_cons (ps_set (i := 2) scAh.nd rfl (by first | exact Or.inl rfl | exact Or.inr rfl) (pe_fld (pv 0) rfl))
      (pss_cons (ps_for (passes_of rfl) rfl (pi_seqA (pv 1)) (pg_name (i := 3) scAh.nd rfl (by first | exact Or.inl rfl | exact Or.inr rfl)) (pss_one (ps_set (i := 2) scAh.nd rfl (by first | exact Or.inl rfl | exact Or.inr rfl) (pe_op op_and (pe_mo (pv 0) KA.cls KA.after hr (pa_cons (pv 2) pa_nil)) (pe_mo (pv 0) KA.cls KA.taking hr (pa_cons (pv 3) pa_nil))))))
      (pss_one (ps_ret (pe_cmpR op_gt (pe_op op_and (pv 2) (pe_fld (pv 0) rfl)) pe_int (nomark _)))))), ?_⟩
    obtain ⟨o, wa, t, xs, rfl, ⟨dx, Fm, L, fol, fo, tk, ras, M⟩, hz, hw, k⟩ := h
    refine q_asg (ev_fld rfl M.at_ A.cls A.begin rfl) fun H1 e1 => ?_
    refine s_seq ?_
    have M1 := M.mono e1
    refine s_forSq (a := wa) (xs := vtx xs) (ev_var rfl) (ex_a e1 hw) (fun i st' H' => ∃ t3, st' = [some (.ref o), some (.ref wa), some (.int (((xs.take i).foldl (rdM t.ats (fol ++ [Fm])) (2 ^ t.sz) : Nat) : Int)), t3] ∧ Ex H1 H') (fun H2 e2 => ⟨none, rfl, e2⟩) (fun i st' H' ⟨_, _, e⟩ => e) ?_ ?_
    · rintro i v σ' H2 hx ⟨t3, rfl, e2⟩
      unfold vtx at hx
      rw [List.getElem?_map] at hx
      obtain ⟨x, hx0, rfl⟩ := Option.map_eq_some_iff.mp hx
      have htk : xs.take (i + 1) = xs.take i ++ [x] := by rw [List.take_succ, hx0]; rfl
      have M2 := M1.mono e2
      have hbits : ∀ q, ((xs.take i).foldl (rdM t.ats (fol ++ [Fm])) (2 ^ t.sz)).testBit q = true → q < t.sz + 1 := by
        intro q hq
        rcases List.eq_nil_or_concat (xs.take i) with e | ⟨ys, y, e⟩
        · rw [e] at hq
          have hq : (2 ^ t.sz).testBit q = true := hq
          rw [Nat.testBit_two_pow, decide_eq_true_iff] at hq
          omega
        · rw [e, List.concat_eq_append, List.foldl_append] at hq
          have hq : ((aftM (fol ++ [Fm]) _) &&& takM t.ats y).testBit q = true := hq
          rw [Nat.testBit_and, Bool.and_eq_true] at hq
          have := takM_lt _ _ q hq.2
          have h2 : t.ats.length = t.sz := rfl
          omega
      refine s_asg (v := .int (((xs.take (i + 1)).foldl (rdM t.ats (fol ++ [Fm])) (2 ^ t.sz) : Nat) : Int)) ?_ fun H4 e4 => ⟨_, rfl, e2.trans e4⟩
      have hA : Ev (Vtr.tMethS CA "after" (spAf K CA) (fun _ => nil0) (tVar 0) (tCons (tVar 2) tNil)) [some (.ref o), some (.ref wa), some (.int (((xs.take i).foldl (rdM t.ats (fol ++ [Fm])) (2 ^ t.sz) : Nat) : Int)), some (.str (tx x))] H2 (.int ((aftM (fol ++ [Fm]) ((xs.take i).foldl (rdM t.ats (fol ++ [Fm])) (2 ^ t.sz)) : Nat) : Int)) :=
        ev_me (ev_var rfl) M2.at_ rfl (ea_cons (ev_var rfl) ea_nil) fun G1 g1 Q1 q1 E1 => ⟨o, t, dx, Fm, L, fol, fo, tk, ras, _, rfl, M2.mono g1, hz, hbits, fun G2 g2 => q1 G2 g2⟩
      have hT : Ev (Vtr.tMethS CA "taking" (spTk K CA) (fun _ => nil0) (tVar 0) (tCons (tVar 3) tNil)) [some (.ref o), some (.ref wa), some (.int (((xs.take i).foldl (rdM t.ats (fol ++ [Fm])) (2 ^ t.sz) : Nat) : Int)), some (.str (tx x))] H2 (.int ((takM t.ats x : Nat) : Int)) :=
        ev_me (ev_var rfl) M2.at_ rfl (ea_cons (ev_var rfl) ea_nil) fun G1 g1 Q1 q1 E1 => ⟨o, t, dx, Fm, L, fol, fo, tk, ras, x, rfl, M2.mono g1, hz, fun G2 g2 => q1 G2 g2⟩
      refine ev_is (ev_op hA hT rv_and) ?_
      rw [htk, List.foldl_append]
      rfl
    · rintro σ' H2 ⟨t3, rfl, e2⟩
      rw [vtx_len, List.take_length]
      have M2 := M1.mono e2
      refine s_ret (v := .bl (decide (((xs.foldl (rdM t.ats (fol ++ [Fm])) (2 ^ t.sz) &&& endM t L : Nat) : Int) > 0))) (ev_op (ev_op (ev_var rfl) (ev_fld rfl M2.at_ A.cls A.ends rfl) rv_and) ev_c rv_I0) fun H3 e3 => k _ H3 ?_ ((e1.trans e2).trans e3)
      rw [decide_eq_true_iff, ← has_word M.auto xs]
      omega
end
end K14

set_option Elab.async false
set_option linter.all false
set_option maxRecDepth 100000
set_option maxHeartbeats 2000000
/-! Comprehensions over a new tuple; `in` of a dict that is made there. -/
namespace Ve
open PySem PySem.Spec PyProof.Rows L2 Vl Evl
section
variable {K : PySem.W.Frag} {σ : L2.St} {H : Hp} {te : TE}
theorem el_lcU {α : Type} {ys : List α} {g : α → V} {tl : TE} {j : Nat} {vs : List Nat} {tt : TT} (c : α → Bool) (w : α → V) (h : EvU tl σ H (ys.map g)) (hz : ys.length ≤ 40000) (hw : ∀ x, wipe ((wipe σ vs).set j (some x)) vs = wipe σ vs)
    (ht : ∀ (y : α) (H1 : Hp), Ex H H1 → y ∈ ys → EvT tt ((wipe σ vs).set j (some (g y))) H1 (c y)) (he : ∀ (y : α) (H1 : Hp), Ex H H1 → y ∈ ys → c y = true → Ev te ((wipe σ vs).set j (some (g y))) H1 (w y)) :
    EvL (tLc (iTup K tl) (gName j) tt te vs) σ H ((ys.filter c).map w) := fun H0 e Q q => h H0 e _ fun a H1 ha e1 hx => ⟨a, rfl, ⟨ys.map g, st_of hx⟩, fun Dl hD => by
  have hgm := given_map c w (fun i => match ys[i]? with | some y => c y | none => false) (fun i => match ys[i]? with | some y => w y | none => .non) (fun i y hy => by rw [hy]; exact ⟨rfl, rfl⟩) ys.length (Nat.le_refl _)
  rw [List.take_length] at hgm
  refine lc_tup (xs := ys.map g) (Cw H1 (fun i => match ys[i]? with | some y => c y | none => false) (fun i => match ys[i]? with | some y => w y | none => .non) Dl) ⟨hD, Ex.new hD, upd_same⟩ (fun i H' _ p => st_of (p.2.1 a _ hx)) (fun i x H' hi p => ⟨hw x, ?_⟩)
    (fun H' p => q Dl H' (fresh_back e1 p.1) (e1.trans p.2.1) (by have h2 := p.2.2; rw [List.length_map, hgm] at h2; exact h2))
  rw [List.getElem?_map] at hi
  obtain ⟨y, hy, rfl⟩ := Option.map_eq_some_iff.mp hi
  have hm := List.mem_of_getElem? hy
  refine cw_turn p (by have := (List.getElem?_eq_some_iff.mp hy).1; omega) ?_ ?_
  · rw [hy]
    exact ht y H1 (e.trans e1) hm
  · rw [hy]
    exact fun hf => he y H1 (e.trans e1) hm hf⟩
theorem ev_lenT {p : Addr} {xs : List V} (h : Ev te σ H (.ref p)) (hx : SqT K H p xs) : Ev (tCB (fun vs H Q => ∃ x n, vs = [x] ∧ LenV K x H n ∧ Q (.int n) H) (tCons te tNil)) σ H (.int (xs.length : Nat)) := fun H1 e Q q =>
  h H1 e _ fun H2 e2 => ⟨.ref p, xs.length, rfl, .inr ⟨xs, ex_t (e.trans e2) hx, rfl⟩, q H2 e2⟩
/-- x in d, d made there -/
theorem et_inN {ty td : TE} {y : V} {b : Bool} (h1 : Ev ty σ H y) (h2 : ∀ H1, Ex H H1 → ∀ Q : VK, (∀ d o H2, Ex H1 H2 → DGet H2 d y o → o.isSome = b → Q (.ref d) H2) → td σ H1 Q) : EvT (tB (tDIn ty td)) σ H b := fun H1 e Q q =>
  h1 H1 e _ fun H2 e2 => h2 H2 (e.trans e2) _ fun d o H3 e3 hg hb => ⟨d, o, rfl, hg, _, rfl, by rw [hb]; exact q H3 (e2.trans e3)⟩
end
end Ve

set_option Elab.async false
set_option linter.all false
set_option maxRecDepth 100000
set_option maxHeartbeats 4000000
/-! Names: of any value. -/
namespace K14
open PySem PySem.Spec PyProof.Rows L2 Vl Evl Vp Vr Vc Ve Ven
abbrev sIsName : Stmt := top 30
abbrev sChkN : Stmt := top 32
abbrev sChkS : Stmt := top 33
def namB : List Nat → Bool
  | [] => false
  | c :: r => decide (c ∈ letters) && (c :: r).all (fun x => decide (x ∈ Vp.signs)) && decide (r.length ≤ 7)
theorem namB_iff {l : List Nat} : namB l = true ↔ nam l := by
  constructor
  · intro h
    cases l with
    | nil => exact Bool.noConfusion h
    | cons c r =>
      have h : (decide (c ∈ letters) && (c :: r).all (fun x => decide (x ∈ Vp.signs)) && decide (r.length ≤ 7)) = true := h
      rw [Bool.and_eq_true, Bool.and_eq_true, decide_eq_true_iff, decide_eq_true_iff, List.all_eq_true] at h
      exact ⟨c, r, rfl, h.1.1, fun x hx => of_decide_eq_true (h.1.2 x (List.mem_cons_of_mem _ hx)), h.2⟩
  · rintro ⟨c, r, rfl, h1, h2, h3⟩
    show (decide (c ∈ letters) && (c :: r).all (fun x => decide (x ∈ Vp.signs)) && decide (r.length ≤ 7)) = true
    rw [Bool.and_eq_true, Bool.and_eq_true, decide_eq_true_iff, decide_eq_true_iff, List.all_eq_true]
    exact ⟨⟨h1, fun x hx => decide_eq_true ((List.mem_cons.mp hx).elim (fun z => by rw [z]; exact letters_signs h1) (h2 x))⟩, h3⟩
/-- is_name, of any text, of what is no text -/
def spNm (K : PySem.W.Frag) : Sp := fun vs H Q _ => ∃ y, vs = [y] ∧ ((∃ l, y = .str (tx l) ∧ l.length ≤ 1000 ∧ ∀ H', Ex H H' → Q (.bl (namB l)) H') ∨ ∃ t : String, TyX K H y (.type t) ∧ kitB t "str" = some false ∧ ∀ H', Ex H H' → Q (.bl false) H')
theorem ifT {c A B : Prop} [Decidable c] (h : c) (a : A) : if c then A else B := by
  rw [if_pos h]
  exact a
theorem ifF {c A B : Prop} [Decidable c] (h : ¬ c) (b : B) : if c then A else B := by
  rw [if_neg h]
  exact b
def spChkN : Sp := fun vs H Q _ => ∃ l, vs = [.str (tx l)] ∧ nam l ∧ ∀ H', Ex H H' → Q .non H'
def spChkS (K : PySem.W.Frag) : Sp := fun vs H Q _ => ∃ p xs, vs = [.ref p] ∧ SqA K H p (vtx xs) ∧ (∀ l ∈ xs, nam l) ∧ 1 ≤ xs.length ∧ ∀ H', Ex H H' → Q .non H'
theorem pi_either {X : Cx} {tg e : Expr} {t u : TI} (h : PI X tg e t) (h2 : PI X tg e u) : PI X tg e (fun σ H R => t σ H R ∨ u σ H R) :=
  ⟨fun pins s σ H R I q => q.elim (h.run pins s σ H R I) (h2.run pins s σ H R I)⟩
section
variable {P : Program} {w : World} {K : PySem.W.Frag} {mg : Str → Option Value} {base : Heap}
abbrev nIN : List Str := ["value", "sign"]
theorem scIN : FnScope nIN ["value"] (defScope sIsName) := ⟨rfl, rfl, rfl, by decide +kernel, rfl, by decide +kernel, by decide +kernel⟩
theorem ok_isname {f : Addr} {fd : FuncData} (F : FnP K "is_name" sIsName f fd) (mI : mg "isinstance" = none) (mS : mg "str" = none) (mL : mg "len" = none) (mA : mg "all" = none)
    (gL : ∃ t, mg "LETTERS" = some (.str (tx letters) t)) (gD : ∃ t, mg "DIGITS" = some (.str (tx digits) t)) (gO : ∃ t, mg "LONGEST" = some (.int 8 t)) :
    FnOk P w K mg base CX0 1 f fd ["value"] (spNm K) := by
  obtain ⟨tL, gL⟩ := gL
  obtain ⟨tD, gD⟩ := gD
  obtain ⟨tO, gO⟩ := gO
  refine F.ok (CX := CX0) scIN (fun vs H Q E h => ?_) (fun cdv A outer s H vs Q E hr h => ?_)
  · obtain ⟨y, rfl, _⟩ := h
    rfl
  · refine ⟨_, (pss_cons (ps_if (PW.pt (pw_or (pt_not (pt_val (pe_callB call_isi (by rfl) mI boot_isinstance (pa_cons (pv 0) (pa_cons (pe_bltn (v := V.ty "str") (by rfl) mS boot_str rfl) pa_nil)))))
        (pw_or1 (pt_not (pt_chain op_le op_le pe_int (pe_callB call_len (by rfl) mL boot_len (pa_cons (pv 0) pa_nil)) (pe_glob (v := V.int 8) (by rfl) gO ⟨tO, rfl⟩)))))) (pss_one (ps_ret pe_bl)) pss_nil)
      (pss_one (ps_ret (pe_and (pe_cmpR op_inS (pe_ix ix_str (pv 0) pe_int fun _ _ => rfl) (pe_glob (v := V.str (tx letters)) (by rfl) gL ⟨tL, rfl⟩) rfl)
        (pe_one (pe_callB (cr_all rfl) (by rfl) mA boot_all (pa_cons (pe_lc (own := [("sign", 1)]) (g := gName 1) (tt := tYes) (te := tOp rInS (tVar 1) (tOp rCatS (tC (.str (tx letters))) (tC (.str (tx digits))))) rfl scIN.nd (pi_str (pv 0)) (blkOk_by (own := [("sign", 1)]) (N := nIN) (sc := defScope sIsName) (by decide +kernel)) (fun _ _ _ _ _ => (pg_name (i := 1) scIN.nd rfl (by first | exact Or.inl rfl | exact Or.inr rfl))) (fun _ _ _ _ _ => pts_nil)
          (fun _ _ _ _ _ => pe_cmpR op_inS (pv 1) (pe_op op_add_str (pe_glob (v := V.str (tx letters)) (by rfl) gL ⟨tL, rfl⟩) (pe_glob (v := V.str (tx digits)) (by rfl) gD ⟨tD, rfl⟩)) rfl)) pa_nil))))))), ?_⟩
    obtain ⟨y, rfl, ⟨l, rfl, hl, q⟩ | ⟨t, ht, hk, q⟩⟩ := h
    · have hs : (tx l).length = l.length := tx_len l
      refine s_seq ?_
      refine ⟨_, rfl, V.str (tx l), V.ty "str", .type "str", .type "str", true, rfl, .ty _, .base (.str _), kit_ty (by decide +kernel), true, rfl, ?_⟩
      refine ite_ff ?_
      refine ⟨_, rfl, _, (tx l).length, rfl, ⟨sz_of (by omega), rfl⟩, 1, _, rfl, rfl, _, rfl, ?_⟩
      cases l with
      | nil =>
        refine ifF (by rw [decide_eq_false (by rw [hs]; show ¬ (1 : Int) ≤ ((0 : Nat) : Int); omega)]; decide) ?_
        exact ⟨false, rfl, q _ (Ex.refl _)⟩
      | cons c0 r0 =>
        refine ifT (decide_eq_true (by rw [hs]; show (1 : Int) ≤ ((r0.length + 1 : Nat) : Int); omega)) ?_
        refine ⟨_, _, rfl, rfl, _, rfl, ?_⟩
        by_cases h8 : r0.length ≤ 7
        · refine ifF (by rw [decide_eq_true (show (((tx (c0 :: r0)).length : Nat) : Int) ≤ 8 by rw [hs]; show ((r0.length + 1 : Nat) : Int) ≤ 8; omega)]; decide) ?_
          refine ⟨_, rfl, tx (c0 :: r0), 0, c0, rfl, rfl, sz_of (by rw [hs]; show r0.length + 1 ≤ 100000; omega), text_at (zs := c0 :: r0) (j := 0) (Nat.succ_pos _), _, _, rfl, rfl, _, rfl, ?_⟩
          by_cases hc : c0 ∈ letters
          · refine ifT (decide_eq_true hc) ?_
            refine ⟨_, rfl, tx (c0 :: r0), rfl, fun Dl hD => ?_⟩
            refine lc_it walk_str (fun i H' => H' = upd H Dl (.lst ((((c0 :: r0).take i).map fun c => decide (c ∈ Vp.signs)).map V.bl))) rfl (fun _ _ _ _ => trivial) ?_ ?_
            · rintro i x H2 H3 hi rfl ⟨rfl, c, hcc, rfl⟩
              have hcc' : (c0 :: r0)[i]? = some c := by
                rw [← Array.getElem?_toList] at hcc
                exact hcc
              refine ⟨rfl, ?_⟩
              unfold tYes
              dsimp only
              rw [if_pos rfl]
              refine ⟨_, rfl, tx letters, tx digits, rfl, rfl, by decide +kernel, c, _, rfl, rfl, _, upd_same, ?_, ?_⟩
              · refine sz_lt ?_
                rw [List.length_map, List.length_map, List.length_take]
                have : (c0 :: r0).length = r0.length + 1 := rfl
                omega
              · rw [tx_app, tx_list, upd_upd, List.take_succ, hcc', List.map_append, List.map_append]
                rfl
            · rintro H2 rfl
              refine ⟨Dl, _, rfl, sq_of upd_same, ?_⟩
              have he : ((((c0 :: r0).take (tx (c0 :: r0)).cps.size).map fun c => decide (c ∈ Vp.signs)).all id) = namB (c0 :: r0) := by
                have : (c0 :: r0).take (tx (c0 :: r0)).cps.size = c0 :: r0 := List.take_of_length_le (Nat.le_refl _)
                rw [this, List.all_map]
                show _ = (decide (c0 ∈ letters) && (c0 :: r0).all (fun x => decide (x ∈ Vp.signs)) && decide (r0.length ≤ 7))
                rw [decide_eq_true hc, decide_eq_true h8, Bool.true_and, Bool.and_true]
                rfl
              rw [he]
              exact q _ (Ex.new hD)
          · refine ifF (by rw [tx_list, decide_eq_false hc]; decide) ?_
            have he : namB (c0 :: r0) = false := by
              show (decide (c0 ∈ letters) && (c0 :: r0).all (fun x => decide (x ∈ Vp.signs)) && decide (r0.length ≤ 7)) = false
              rw [decide_eq_false hc, Bool.false_and, Bool.false_and]
            rw [he] at q
            exact q _ (Ex.refl _)
        · have he : namB (c0 :: r0) = false := by
            show (decide (c0 ∈ letters) && (c0 :: r0).all (fun x => decide (x ∈ Vp.signs)) && decide (r0.length ≤ 7)) = false
            rw [decide_eq_false h8, Bool.and_false]
          rw [he] at q
          refine ifT (by rw [decide_eq_false (show ¬ (((tx (c0 :: r0)).length : Nat) : Int) ≤ 8 by rw [hs]; show ¬ ((r0.length + 1 : Nat) : Int) ≤ 8; omega)]; rfl) ?_
          exact q _ (Ex.refl _)
    · refine s_seq ?_
      refine ⟨_, rfl, y, V.ty "str", .type t, .type "str", false, rfl, .ty _, ht, kit_ty hk, false, rfl, ?_⟩
      refine ite_tt ?_
      exact q H (Ex.refl _)
theorem scCN : FnScope ["value"] ["value"] (defScope sChkN) := ⟨rfl, rfl, rfl, by decide +kernel, rfl, by decide +kernel, by decide +kernel⟩
theorem ok_chkn {f fN : Addr} {fd fdN : FuncData} (F : FnP K "check_name" sChkN f fd) (FN : FnP K "is_name" sIsName fN fdN) (gN : mg "is_name" = some (.ref fN))
    (GN : FnOk P w K mg base CX0 1 fN fdN ["value"] (spNm K)) :
    FnOk P w K mg base CX0 2 f fd ["value"] spChkN := by
  have bN : Binds K fdN ["value"] [] := FN.bindsN fun _ _ _ _ _ _ us hl => match us, hl with | [_], _ => rfl
  have kN := FN.kp
  refine F.ok (CX := CX0) scCN (fun vs H Q E h => ?_) (fun cdv A outer s H vs Q E hr h => ?_)
  · obtain ⟨l, rfl, _⟩ := h
    rfl
  · have hr1 : Room 1 _ := hr
    refine ⟨_, (pss_one (ps_if (pt_not (pt_val (pe_call GN hr1 (by rfl) gN kN bN .nil pass0 (pa_cons (pv 0) pa_nil)))) (pss_one ps_never) pss_nil)), ?_⟩
    obtain ⟨l, rfl, hl, q⟩ := h
    exact ⟨_, rfl, _, rfl, .inl ⟨l, rfl, by have := nam_len hl; omega, fun H' e => ⟨_, rfl, ifF (by rw [namB_iff.mpr hl]; decide) (q H' e)⟩⟩⟩
theorem scCS : FnScope ["names", "name"] ["names"] (defScope sChkS) := ⟨rfl, rfl, rfl, by decide +kernel, rfl, by decide +kernel, by decide +kernel⟩
theorem ok_chks {f fN : Addr} {fd fdN : FuncData} (F : FnP K "check_sequence" sChkS f fd) (FN : FnP K "check_name" sChkN fN fdN) (gN : mg "check_name" = some (.ref fN)) (mL : mg "len" = none)
    (GN : FnOk P w K mg base CX0 2 fN fdN ["value"] spChkN) :
    FnOk P w K mg base CX0 3 f fd ["names"] (spChkS K) := by
  have bN : Binds K fdN ["value"] [] := FN.bindsN fun _ _ _ _ _ _ us hl => match us, hl with | [_], _ => rfl
  have kN := FN.kp
  refine F.ok (CX := CX0) scCS (fun vs H Q E h => ?_) (fun cdv A outer s H vs Q E hr h => ?_)
  · obtain ⟨p, xs, rfl, _⟩ := h
    rfl
  · have hr1 : Room 2 _ := hr
    refine ⟨_, (pss_cons (ps_if (pt_cmpR op_eq (pe_callB call_len (by rfl) mL boot_len (pa_cons (pv 0) pa_nil)) pe_int (nomark _)) (pss_one ps_never) pss_nil)
      (pss_one (ps_for (passes_of rfl) rfl (pi_either (pi_list (pv 0)) (pi_tup (pv 0))) (pg_name (i := 1) scCS.nd rfl (by first | exact Or.inl rfl | exact Or.inr rfl))
        (pss_one (ps_expr (pe_call GN hr1 (by rfl) gN kN bN .nil pass0 (pa_cons (pv 1) pa_nil))))))), ?_⟩
    obtain ⟨p, xs, rfl, hp, hn, h1, q⟩ := h
    refine s_seq ?_
    refine ⟨_, rfl, _, xs.length, rfl, hp.imp (fun z => ⟨_, z, (vtx_len xs).symm⟩) (fun z => ⟨_, z, (vtx_len xs).symm⟩), rfl, _, rfl, ?_⟩
    refine ifF (fun z => absurd (V.int.inj (of_decide_eq_true z)) (by omega)) ?_
    have turn : ∀ (i : Nat) (x : V) (σ' : L2.St) (H' : Hp), (vtx xs)[i]? = some x → (∃ t, σ' = [some (.ref p), t] ∧ Ex H H') → ∃ t, σ'.set 1 (some x) = [some (.ref p), t] ∧ ∃ l, x = .str (tx l) ∧ t = some (.str (tx l)) ∧ nam l := by
      rintro i x _ H' hx ⟨t, rfl, e⟩
      unfold vtx at hx
      rw [List.getElem?_map] at hx
      obtain ⟨l, hl, rfl⟩ := Option.map_eq_some_iff.mp hx
      exact ⟨_, rfl, l, rfl, rfl, hn l (List.mem_of_getElem? hl)⟩
    rcases hp with hp | hp
    · refine .inl (s_forL (a := p) (ev_var rfl) hp (fun i st H' => ∃ t, st = [some (.ref p), t] ∧ Ex H H') (fun H1 e => ⟨none, rfl, e⟩) (fun i st H' _ ⟨_, _, e⟩ => ex_l e hp) ?_ (fun st H' ⟨_, _, e⟩ => q H' e))
      rintro i x σ' H' hx ⟨t, rfl, e⟩
      obtain ⟨t2, e2, l, rfl, rfl, hl⟩ := turn i x _ H' hx ⟨t, rfl, e⟩
      exact ⟨_, rfl, l, rfl, hl, fun H2 e3 => ⟨_, rfl, e.trans e3⟩⟩
    · refine .inr (s_forT (a := p) (ev_var rfl) hp (fun i st H' => ∃ t, st = [some (.ref p), t] ∧ Ex H H') (fun H1 e => ⟨none, rfl, e⟩) (fun i st H' _ ⟨_, _, e⟩ => ex_t e hp) ?_ (fun st H' ⟨_, _, e⟩ => q H' e))
      rintro i x σ' H' hx ⟨t, rfl, e⟩
      obtain ⟨t2, e2, l, rfl, rfl, hl⟩ := turn i x _ H' hx ⟨t, rfl, e⟩
      exact ⟨_, rfl, l, rfl, hl, fun H2 e3 => ⟨_, rfl, e.trans e3⟩⟩
end
end K14

set_option Elab.async false
set_option linter.all false
set_option maxRecDepth 100000
set_option maxHeartbeats 2000000
/-! bool(o) of an own class that has __bool__. -/
namespace Vbo
open PySem PySem.Spec PyProof.Rows
section
variable {prog : Program} {w : World} {A : Around} {E : Value → Shared → Prop} {s : Shared}
theorem plain_bool_new : plainId "bool.__new__" = true := by decide +kernel
theorem code_bool_own {o : Addr} {Q₁ : Value → Shared → Prop} (h : wpAny (model prog w) A.in1 (truthy (.ref o)) (fun b s' => Q₁ (.bool b) s') E s) :
    codeAny (model prog w) A (.call (.builtin "bool.__new__") ⟨[.type "bool", .ref o], []⟩) (wants Q₁ E) s := by
  refine codeAny_of_tree ?_
  show wpAny _ A.in1 (do checkBuiltinCall "bool.__new__" ⟨[.type "bool", .ref o], []⟩; again (.builtin "bool.__new__" ⟨[.type "bool", .ref o], []⟩)) _ _ s
  refine wpAny_bind (wpAny_of_eq (F.newCall_bool_1 _) (wpAny_pure ⟨plainId_quiet plain_bool_new _, codeAny_builtin F.entry_bool_new ?_⟩))
  rw [Around.under_plainId plain_bool_new _]
  have f1 := F.conv_sub_bool
  unfold Builtin.«bool.__new__»
  have ht : ∀ (Q : Bool → Shared → Prop) (E' : Value → Shared → Prop), (∀ b s', Q₁ (.bool b) s' → Q b s') → (∀ e s', E e s' → E' e s') → wpAny (model prog w) A.in1 (truthy (.ref o)) Q E' s := fun Q E' h1 h2 => wpAny_mono h h1 h2
  repeat (any_goals (first | assumption | (with_reducible refine ht _ _ ?_ ?_) | wp_step))
  · exact fun b s' h => wpAny_pure h
  · exact fun e s' h => h
theorem call_bool_own {o : Addr} {Q : Value → Shared → Prop} (h : wpAny (model prog w) A.in1.in1 (truthy (.ref o)) (fun b s' => Q (.bool b) s') E s) : wpAny (model prog w) A (call (.type "bool") [.ref o]) Q E s := by
  refine callType_codes (Q₁ := fun obj s₁ => (∃ b, obj = .bool b) ∧ Q obj s₁) F.called_bool (F.typeCall_bool_1 _) F.entry_object_init
    (code_bool_own (A := A.in1) (wpAny_mono h (fun b s' z => ⟨⟨b, rfl⟩, z⟩) fun _ _ z => z)) fun obj s₁ h₁ => ?_
  obtain ⟨⟨b, rfl⟩, hq⟩ := h₁
  have ht : s₁.TypeIs (.bool b) "bool" := by first | exact rfl | exact typeIs_bool _ _ | trivial
  exact ⟨ht, F.args_object_init_2 _ _, object_init_meets F.called_bool.init.lookup F.called_bool.made (by decide) prog w A.in1 _ s₁ ⟨ht, rfl, hq⟩⟩
end
section
open L2 Vo Vc
variable {X : Cx} {C : Addr} {j k : Nat} {sp : Sp}
/-- what bool(o) asks -/
def rBool (C : Addr) (sp : Sp) : List V → Hp → VK → Prop := fun xs H Q => ∃ o dx fs, xs = [.ref o] ∧ H o = some (.ins C dx fs) ∧ sp [.ref o] H (fun v H1 => ∃ b, v = .bl b ∧ Q (.bl b) H1) nil0
theorem call_boolM (T : Mo X.prog X.w X.K X.mg X.base C L2.CX0 k "__bool__" sp) (hr : Room j X.A) (hk : k + 2 ≤ j := by decide) : CallR X (.type "bool") (rBool C sp) := by
  obtain ⟨f, fd, ps, F, hm, hb⟩ := T.ex
  intro pins s σ H xs us Q I r h
  obtain ⟨o, dx, fs, rfl, eo, qs⟩ := h
  obtain ⟨u, rfl, rx⟩ := vals1 r
  obtain rfl : u = Value.ref o := rx
  obtain ⟨ob, od, J⟩ := inst_at I eo
  obtain ⟨m, fr⟩ := I.fr
  refine call_bool_own (PySem.W.truthy_K fr I.ok.mod.kin J hm.at_ hm.fn ?_)
  have hl : [Value.ref o].length = ps.length := (F.len _ _ _ _ qs)
  have b := hb s [Value.ref o] I.kIn (by rw [List.append_nil]; exact hl)
  rw [List.append_nil] at b
  have run := F.run X.A.in1.in1 X.stack s H ⟨[Value.ref o], []⟩ [Value.ref o] [V.ref o] _ nil0 ((hr.mono hk).in1).in1 I.env0.in1.in1 b (Paired.cons (show RelV (V.ref o) (Value.ref o) from rfl) .nil) qs
  refine wpAny_call (codeAny_mono run ?_)
  intro z s' hq
  cases z with
  | error e => exact hq.elim
  | ok fl =>
    cases fl with
    | ret u =>
      obtain ⟨v1, H1, I1, r1, b, rfl, q2⟩ := I.after hq
      cases r1
      exact ⟨.bl b, H1, I1, rfl, q2⟩
    | next => exact False.elim hq
    | brk => exact False.elim hq
    | cont => exact False.elim hq
end
end Vbo

set_option Elab.async false
set_option linter.all false
set_option maxRecDepth 100000
set_option maxHeartbeats 4000000
/-! Own operators between two objects of one class; own operators in place; own comparisons. -/
namespace Vo2
open PySem PySem.Spec PyProof.Rows L2 Vl Evl Vp Vo Vc Vh Vw
theorem own_same {prog : Program} {w : World} {A : Around} {Er : Value → Shared → Prop} {s : Shared} {K : PySem.W.Frag} {x y C L f : Addr} {h0 : Heap} {m : Str → Option Value} {ox oy : Obj} {od od2 : Option Obj}
    {op : Operator} {Q : Value → Shared → Prop} (F : Fr h0 L s.heap m) (X0 : K.In h0) (I : PySem.W.InstAt s.heap x ox C od) (J : PySem.W.InstAt s.heap y oy C od2) (W : OwnOp K C op.info.2 f)
    (h : wpAny (model prog w) A (call (.ref f) [.ref x, .ref y]) (PySem.W.CmpBack Q) Er s) : wpAny (model prog w) A (binaryOp op (.ref x) (.ref y)) Q Er s := by
  have X := X0.keeps F.keep
  obtain ⟨cd, rest, hcd, hm⟩ := PySem.W.ksp_first W.fst
  have one := PySem.W.ksp_try X I W.at_ W.fn h
  rcases hi : op.info with ⟨sym, nm⟩
  have wa := W.at_
  rw [hi] at wa
  rw [hi] at one
  dsimp only at wa one
  obtain ⟨hh, g, d, tt, os⟩ := s
  have a1 : PySem.W.Looks (model prog w) hh (typeOf (.ref x)) (.ref C) := I.type
  have a2 : PySem.W.Looks (model prog w) hh (typeOf (.ref y)) (.ref C) := J.type
  have a3 := PySem.W.fills_K (M := model prog w) X hcd hm wa
  have e : (Value.ref C == Value.ref C) = true := beq_self_eq_true _
  simp only [binaryOp, hi]
  refine wpAny_holding (wpAny_bind ?_)
  unfold binaryOp1
  refine wpAny_bind (a1.at (wpAny_bind (a2.at (wpAny_bind (a3.at ?_)))))
  simp only [e, if_true]
  ksp_lk
  refine wpAny_mono one (fun r s' hr => ?_) fun _ _ z => z
  obtain ⟨v, rfl, hq⟩ := hr
  ksp_lk
  exact hq
/-- o op o2, both of the class -/
structure OwS (P : Program) (w : World) (K : PySem.W.Frag) (mg : Str → Option Value) (base : Heap) (C : Addr) (CX : CXT) (k : Nat) (nm : String) (sp : Sp) : Prop where
  ex : ∃ (f : Addr) (fd : FuncData) (ps : List Str), FnOk P w K mg base CX k f fd ps sp ∧ OwnOp K C nm f ∧ L2.Binds K fd ps []
def tOwS (C : Addr) (sp : Sp) (E : L2.St → XK) (ta tb : TE) : TE := fun st H Q => ta st H fun x H1 => tb st H1 fun y H2 => ∃ o dx fs o2 dx2 fs2, x = .ref o ∧ H2 o = some (.ins C dx fs) ∧ y = .ref o2 ∧ H2 o2 = some (.ins C dx2 fs2) ∧ sp [x, y] H2 Q (E st)
section
variable {X : Cx} {C : Addr} {j k : Nat} {sp : Sp} {E : L2.St → XK} {pos : Pos} {a b : Expr} {ta tb : TE} {op : Operator}
theorem pe_owSX (T : OwS X.prog X.w X.K X.mg X.base C (L2.CX X.prog X.w) k op.info.2 sp) (hr : Room j X.A) (hx : ∀ st, PassesAt (L2.CX X.prog X.w) X st (E st)) (ha : PE X a ta) (hi : PE X b tb) (hk : k ≤ j := by decide) : PE X (.BinOp a op b pos) (tOwS C sp E ta tb) := by
  obtain ⟨f, fd, ps, F, W, B⟩ := T.ex
  refine ⟨fun pins s σ H Q I h => ?_⟩
  refine wpAny_BinOp (binT ha hi I h fun v u s2 x y H2 I2 rx ry q => ?_)
  obtain ⟨o, dx, fs, o2, dx2, fs2, rfl, eo, rfl, eo2, q⟩ := q
  obtain rfl : v = Value.ref o := rx
  obtain rfl : u = Value.ref o2 := ry
  obtain ⟨ob, od, J⟩ := inst_at I2 eo
  obtain ⟨ob2, od2, J2⟩ := inst_at I2 eo2
  obtain ⟨m, fr⟩ := I2.fr
  refine own_same fr I2.ok.mod.kin J J2 W ?_
  exact wpAny_mono (run_here F (hr.mono hk) B (hx σ) I2 (Paired.cons (show RelV (V.ref o) (Value.ref o) from rfl) (.cons (show RelV (V.ref o2) (Value.ref o2) from rfl) .nil)) q) (fun u s' z => cmp_back z) fun _ _ z => z
theorem pe_owSN (T : OwS X.prog X.w X.K X.mg X.base C (L2.CX X.prog X.w) k op.info.2 sp) (hr : Room j X.A) (ha : PE X a ta) (hi : PE X b tb) (hk : k ≤ j := by decide) : PE X (.BinOp a op b pos) (tOwS C sp (fun _ => nil0) ta tb) :=
  pe_owSX (E := fun _ => nil0) T hr (fun σ => Vtr.passNo σ) ha hi hk
end
/-- name op= y, the class has an own operator in place -/
structure OwnI (K : PySem.W.Frag) (C : Addr) (nm : String) (f : Addr) : Prop where
  fst : PySem.W.selfFirst K C = true
  at_ : PySem.W.findIn K (.ref C) (dunderI nm) = some (some (.ref f))
  fn : PySem.W.isFn K (.ref f) = true
structure OwI (P : Program) (w : World) (K : PySem.W.Frag) (mg : Str → Option Value) (base : Heap) (C : Addr) (CX : CXT) (k : Nat) (nm : String) (sp : Sp) : Prop where
  ex : ∃ (f : Addr) (fd : FuncData) (ps : List Str), FnOk P w K mg base CX k f fd ps sp ∧ OwnI K C nm f ∧ L2.Binds K fd ps []
def tAugO (C : Addr) (sp : Sp) (E : L2.St → XK) (i : Nat) (te : TE) : TS := fun D σ H => ∃ x, σ[i]? = some (some x) ∧ te σ H fun y H1 => ∃ o dx fs, x = .ref o ∧ H1 o = some (.ins C dx fs) ∧ sp [x, y] H1 (fun z H2 => D.nx (σ.set i (some z)) H2) (E σ)
section
variable {X : Cx} {C : Addr} {j k : Nat} {sp : Sp} {E : L2.St → XK} {pos : Pos} {e : Expr} {te : TE} {op : Operator}
theorem ps_augO {i : Nat} {x : Str} {pos' : Pos} (T : OwI X.prog X.w X.K X.mg X.base C (L2.CX X.prog X.w) k op.info.2 sp) (hr : Room j X.A) (hx : ∀ st, PassesAt (L2.CX X.prog X.w) X st (E st)) (hN : X.N.Nodup) (hi : X.N[i]? = some x) (hl : Loc X.env.scope x) (he : PE X e te)
    (hf : X.fn x = true ∨ X.env.scope.names.lookup x = some .local := by first | exact .inl rfl | exact .inr rfl | assumption) (hk : k ≤ j := by decide) :
    PS X (.AugAssign (.Name x pos') op e pos) (tAugO C sp E i te) := by
  obtain ⟨f, fd, ps, F, W, B⟩ := T.ex
  refine ⟨fun pins s σ H D I h => ?_⟩
  obtain ⟨v, e1, h⟩ := h
  obtain ⟨m, hn, hlc⟩ := I.loc
  have vis : Vis X.env.scope x := by rcases hl with k | k; exact .inl k; exact .inr (.inl k)
  obtain ⟨u, r, l⟩ := hlc i x v hi e1 vis
  refine wpAny_AugAssign_Name ?_
  have go : wpAny (model X.prog X.w) X.A (eval e X.env) (fun w s₂ => wpAny (model X.prog X.w) X.A (inplaceOp op u w) (fun r s₃ => wpAny (model X.prog X.w) X.A (storeName X.env x r) (fun _ => SP X pins D .next) X.xe s₃) X.xe s₂) X.xe s := by
    refine thn (he.run pins s σ H _ I h) fun w s1 ⟨y, H1, I1, r1, o, dx, fs, ev, eo, q1⟩ => ?_
    subst ev
    obtain rfl : u = Value.ref o := r
    obtain ⟨ob, od, J⟩ := inst_at I1 eo
    obtain ⟨m, fr⟩ := I1.fr
    refine PySem.W.ksp_inplace fr I1.ok.mod.kin J W.fst W.at_ W.fn ?_
    refine wpAny_mono (run_here F (hr.mono hk) B (hx σ) I1 (Paired.cons (show RelV (V.ref o) (Value.ref o) from rfl) (.cons r1 .nil)) q1) (fun z s2 zz => ?_) fun _ _ z => z
    obtain ⟨zv, H2, I2, r2, q2⟩ := zz
    exact SlX.cmpback r2 (store_ok I2 hN hi hl r2 (fun s3 I3 => ⟨_, H2, I3, q2⟩) hf)
  rcases l with ⟨hk, hm⟩ | ⟨hk, c, hc, hcell⟩
  · exact wpAny_loadName_local I.ok.kind hk hn hm go
  · rcases hk with hk | hk
    · exact wpAny_loadName_cell I.ok.kind hk hc hcell go
    · rcases hl with k | k
      · have : X.env.scope.names.lookup x = some .free := hk
        rw [k] at this; cases this
      · have : X.env.scope.names.lookup x = some .free := hk
        rw [k] at this; cases this
end
/-- the right operand: of the class, or of a built-in type -/
def TyR (C : Addr) (y : V) (H : Hp) (t : Value) : Prop := (∃ o dx fs, y = .ref o ∧ H o = some (.ins C dx fs) ∧ t = .ref C) ∨ ∃ n, Wr y H n ∧ t = .type n
theorem TyR.looks {X : Cx} {C : Addr} {pins : List (Addr × Obj)} {st : L2.St} {H : Hp} {s : Shared} {y : V} {u t : Value} (I : Inv X pins st H s) (r : RelV y u) (h : TyR C y H t) : PySem.W.Looks (model X.prog X.w) s.heap (typeOf u) t := by
  rcases h with ⟨o, dx, fs, rfl, eo, rfl⟩ | ⟨n, hw, rfl⟩
  · obtain rfl : u = Value.ref o := r
    obtain ⟨ob, od, J⟩ := inst_at I eo
    exact J.type
  · exact hw.looks I r
structure Nf (K : PySem.W.Frag) (C : Addr) : Prop where
  own : PySem.W.notFirst K C (.ref C) = true
  ty : ∀ t ∈ tyNames, PySem.W.notFirst K C (.type t) = true
theorem Nf.at {K : PySem.W.Frag} {C : Addr} (h : Nf K C) {y : V} {H : Hp} {t : Value} (ht : TyR C y H t) : PySem.W.notFirst K C t = true := by
  rcases ht with ⟨o, dx, fs, rfl, eo, rfl⟩ | ⟨n, hw, rfl⟩
  · exact h.own
  · exact h.ty n hw.mem
section
variable {X : Cx} {C : Addr} {j k : Nat} {sp : Sp}
theorem op_cmpM {op : CmpOp} (hop : ∀ a b, compareOp op a b = richCompare op a b) (T : Mo X.prog X.w X.K X.mg X.base C L2.CX0 k (cmpInfo op).2.1 sp) (N : Nf X.K C) (hr : Room j X.A) (hk : k ≤ j := by decide) :
    OpR X (compareOp op) (rOwn C (TyR C) sp nil0) := by
  obtain ⟨f, fd, ps, F, M, B⟩ := T.ex
  intro pins s σ H x y v u Q I rx ry q
  obtain ⟨o, dx, fs, t, rfl, eo, ht, q⟩ := q
  obtain rfl : v = Value.ref o := rx
  obtain ⟨ob, od, J⟩ := inst_at I eo
  obtain ⟨m, fr⟩ := I.fr
  have hu : X.A.units < cLine := by have := hr.un; omega
  rw [hop]
  refine PySem.W.cmp_K hu fr I.ok.mod.kin J (ht.looks I ry) (N.at ht) M.at_ M.fn ?_
  exact wpAny_mono (run_here F (hr.mono hk) B (fun _ _ _ _ _ _ h => h.elim) I (Paired.cons (show RelV (V.ref o) (Value.ref o) from rfl) (.cons ry .nil)) q) (fun u s' z => cmp_back z) fun _ _ z => z
theorem op_leM (T : Mo X.prog X.w X.K X.mg X.base C L2.CX0 k "__le__" sp) (N : Nf X.K C) (hr : Room j X.A) (hk : k ≤ j := by decide) : OpR X (compareOp .LtE) (rOwn C (TyR C) sp nil0) := op_cmpM (op := .LtE) (fun _ _ => rfl) T N hr hk
theorem op_eqM (T : Mo X.prog X.w X.K X.mg X.base C L2.CX0 k "__eq__" sp) (N : Nf X.K C) (hr : Room j X.A) (hk : k ≤ j := by decide) : OpR X (compareOp .Eq) (rOwn C (TyR C) sp nil0) := op_cmpM (op := .Eq) (fun _ _ => rfl) T N hr hk
end
end Vo2

set_option Elab.async false
set_option linter.all false
set_option maxRecDepth 100000
set_option maxHeartbeats 4000000
/-! The class Pattern. -/
namespace K14
open PySem PySem.Spec PyProof.Rows L2 Vl Evl Vp Vc Ve Ven Vg Vb Vt Vlt
def memP (i : Nat) : Stmt := (clB (top 48)).getD i (.Pass ⟨0, 0, 0, 0⟩)
abbrev sPn : Stmt := memP 0
abbrev sPm : Stmt := memP 3
abbrev sPc : Stmt := memP 4
abbrev sPb : Stmt := memP 5
abbrev sPa : Stmt := memP 6
abbrev sPo : Stmt := memP 7
abbrev sAn : Stmt := top 49
abbrev sNo : Stmt := top 50
abbrev sRp : Stmt := top 52
abbrev sOp : Stmt := top 53
abbrev nPc : List Str := ["self", "x", "name"]
/-- a pattern of a tree -/
def PatAt (K : PySem.W.Frag) (CP CA : Addr) (H : Hp) (o : Addr) (t : Tr) : Prop := ∃ dx s a rs, H o = some (.ins CP dx [("_steps", .ref s), ("atoms", .ref a)]) ∧ StepsAt K H s rs ∧ ops rs = t.steps ∧ Atm K CA H a t
theorem PatAt.mono {K : PySem.W.Frag} {CP CA : Addr} {H H' : Hp} {o : Addr} {t : Tr} (e : Ex H H') (h : PatAt K CP CA H o t) : PatAt K CP CA H' o t := by
  obtain ⟨dx, s, a, rs, h1, h2, h3, h4⟩ := h
  exact ⟨dx, s, a, rs, e _ _ h1, h2.mono e, h3, h4.mono e⟩
def Tr.nd (t : Tr) : Nat := t.steps.length
theorem sz_nd (t : Tr) : t.sz ≤ Tr.nd t := by
  show t.ats.length ≤ t.steps.length
  rw [← ats_steps]
  generalize t.steps = l
  induction l with
  | nil => exact Nat.le_refl _
  | cons o r ih =>
    rw [List.flatMap_cons, List.length_append, List.length_cons]
    have : (opAts o).length ≤ 1 := by cases o <;> show _ ≤ 1 <;> first | exact Nat.le_refl _ | exact Nat.zero_le _
    omega
def spPt (K : PySem.W.Frag) (CP CA : Addr) : Sp := fun vs H Q _ => ∃ (x dx0 s : Addr) (H0 : Hp) (rs : List Rw) (t : Tr), vs = [.ref x, .ref s] ∧ H = upd (upd H0 dx0 (.own x)) x (.ins CP dx0 []) ∧ H0 x = none ∧ H0 dx0 = none ∧ dx0 ≠ x ∧ StepsAt K H0 s rs ∧ ops rs = t.steps ∧ Tr.nd t ≤ 60 ∧
  ∀ H', Ex H0 H' → PatAt K CP CA H' x t → Q .non H'
/-- what comes to steps -/
def EvSt (K : PySem.W.Frag) (te : TE) (σ : L2.St) (H : Hp) (os : List Op) : Prop := ∀ H1, Ex H H1 → ∀ Q : VK, (∀ p rs H2, Ex H1 H2 → StepsAt K H2 p rs → ops rs = os → Q (.ref p) H2) → te σ H1 Q
/-- what comes to a new pattern -/
def EvPat (K : PySem.W.Frag) (CP CA : Addr) (te : TE) (σ : L2.St) (H : Hp) (t : Tr) : Prop := ∀ H1, Ex H H1 → ∀ Q : VK, (∀ o H2, H1 o = none → Ex H1 H2 → PatAt K CP CA H2 o t → Q (.ref o) H2) → te σ H1 Q
theorem ops_len {rs : List Rw} {os : List Op} (h : ops rs = os) : rs.length = os.length := by
  rw [← h]
  unfold ops
  rw [List.length_map]
section
variable {K : PySem.W.Frag} {CP CA : Addr} {te ta tb : TE} {σ : L2.St} {H : Hp} {xs ys : List Op}
theorem est_cat (h : EvSt K ta σ H xs) (h2 : EvSt K tb σ H ys) (hl : xs.length + ys.length ≤ 1000) : EvSt K (tOp (rCatA K) ta tb) σ H (xs ++ ys) := by
  intro H1 e Q q
  refine h H1 e _ fun p rs H2 e2 hp ho => h2 H2 (e.trans e2) _ fun p2 rs2 H3 e3 hp2 ho2 => ?_
  have hp' := hp.mono e3
  have key : ∀ (p4 : Addr) (H4 : Hp), Ex H3 H4 → SqT K H4 p4 (rfs (rs ++ rs2)) → Q (.ref p4) H4 := fun p4 H4 e4 h4 => q p4 (rs ++ rs2) H4 ((e2.trans e3).trans e4) ⟨h4, fun r hr => (List.mem_append.mp hr).elim (fun z => (hp'.2 r z).mono e4) fun z => (hp2.2 r z).mono e4⟩ (by unfold ops at *; rw [List.map_append, ho, ho2])
  have er : rfs (rs ++ rs2) = rfs rs ++ rfs rs2 := List.map_append
  rw [er] at key
  refine ⟨p, p2, rfs rs, rfs rs2, rfl, rfl, hp'.1, hp2.1, sz_of (by rw [rfs_len, rfs_len, ops_len ho, ops_len ho2]; omega), fun hx => key p2 H3 (Ex.refl _) ?_, fun _ hy => key p H3 (Ex.refl _) ?_, fun _ _ p4 n4 => key p4 _ (Ex.new n4) (.inl (.inl upd_same))⟩
  · rw [hx]
    exact hp2.1
  · rw [hy, List.append_nil]
    exact hp'.1
theorem est_fld {i : Nat} {o : Addr} {t : Tr} (hv : σ[i]? = some (some (.ref o))) (h : PatAt K CP CA H o t) (c : Cls K CP) (n : NoAttr K CP "_steps") : EvSt K (tFld K (tVar i) "_steps") σ H t.steps := fun H1 e Q q => by
  obtain ⟨dx, s, a, rs, h1, h2, h3, h4⟩ := h.mono e
  exact ev_fld (H := H1) hv h1 c n rfl H1 (Ex.refl _) _ fun H2 e2 => q s rs H2 e2 (h2.mono e2) h3
/-- ((KIND, ()),) -/
theorem est_one {k : List Nat} {op : Op} (hk : kd op = k) (hn : nms op = []) : EvSt K (tTup (tCons (tTup (tCons (tC (.str (tx k))) (tCons (tTup tNil) tNil))) tNil)) σ H [op] := fun H1 e Q q =>
  ⟨by show 0 ≤ sizeLine; decide, fun a na => ⟨by show 2 ≤ sizeLine; decide, fun b nb => ⟨by show 1 ≤ sizeLine; decide, fun p np => q p [(b, op)] _ (((Ex.new na).trans (Ex.new nb)).trans (Ex.new np)) ⟨.inl (.inl upd_same), fun r hr => by
    rw [List.mem_singleton.mp hr]
    have hb : upd (upd H1 a (.tup [])) b (.tup [.str (tx k), .ref a]) b = some (.tup [.str (tx k), .ref a]) := upd_same
    have ha : upd (upd H1 a (.tup [])) b (.tup [.str (tx k), .ref a]) a = some (.tup []) := (Ex.new nb) _ _ upd_same
    refine ⟨a, ?_, ?_⟩
    · rw [hk]
      exact (Ex.new np) _ _ hb
    · rw [hn]
      exact (Ex.new np) _ _ ha⟩ rfl⟩⟩⟩
theorem epat_new {E : L2.St → XK} {t : Tr} (h : EvSt K te σ H t.steps) (hl : Tr.nd t ≤ 60) : EvPat K CP CA (tNw CP (spPt K CP CA) E (tCons te tNil)) σ H t := fun H1 e Q q => h H1 e _ fun p rs H2 e2 hp ho =>
  fun x dx nx ndx ne => ⟨x, dx, p, H2, rs, t, rfl, rfl, nx, ndx, ne, hp, ho, hl, fun H3 e3 hP => ⟨rfl, q x H3 (fresh_back e2 nx) (e2.trans e3) hP⟩⟩
end
theorem Atm.updX {K : PySem.W.Frag} {CA CP : Addr} {H : Hp} {a x dx : Addr} {t : Tr} {fs fs' : List (Str × V)} (h : Atm K CA H a t) (hx : H x = some (.ins CP dx fs)) (hn : a ≠ x) : Atm K CA (upd H x (.ins CP dx fs')) a t := by
  obtain ⟨dxa, F, L, fol, fo, tk, ras, M⟩ := h
  have nt : ∀ {b : Addr} {ys : List V}, H b = some (.tup ys) → upd H x (.ins CP dx fs') b = some (.tup ys) := fun {b ys} hb => (upd_ne fun z => by rw [z, hx] at hb; cases hb).trans hb
  refine ⟨dxa, F, L, fol, fo, tk, ras, (upd_ne hn).trans M.at_, sqt_upd M.fls hx fun ys => ⟨fun z => (nomatch z), fun ob z => (nomatch z)⟩, sqt_upd M.tak hx fun ys => ⟨fun z => (nomatch z), fun ob z => (nomatch z)⟩, M.eqs, fun r hr => ?_, M.auto⟩
  obtain ⟨b, h1, h2⟩ := M.row r hr
  exact ⟨b, nt h1, nt h2⟩
structure FP (K : PySem.W.Frag) (CP : Addr) : Prop where
  cls : Cls K CP
  steps : NoAttr K CP "_steps"
  atoms : NoAttr K CP "atoms"
section
variable {P : Program} {w : World} {K : PySem.W.Frag} {mg : Str → Option Value} {base : Heap} {CA CP : Addr}
theorem scPn : FnScope ["self", "steps"] ["self", "steps"] (defScope sPn) := ⟨rfl, rfl, rfl, by decide +kernel, rfl, by decide +kernel, by decide +kernel⟩
theorem ok_pn {f : Addr} {fd : FuncData} (F : FnM K "__init__" "Pattern.__init__" sPn f fd) (B : FP K CP) (TAt : Nw P w K mg base CA L2.CX0 3 "Atoms" (spAi K CA)) : FnOk P w K mg base L2.CX0 5 f fd ["self", "steps"] (spPt K CP CA) := by
  refine F.ok (CX := L2.CX0) scPn (fun vs H Q E h => ?_) (fun cdv A' outer s H vs Q E hr h => ?_)
  · obtain ⟨x, dx0, s, H0, rs, t, rfl, _⟩ := h
    rfl
  · refine ⟨_, (pss_cons (ps_fld (pv 0) (pv 1) (by rfl))
      (pss_one (ps_fld (pv 0) (pe_nw TAt hr (by rfl) (pa_cons (pv 1) pa_nil)) (by rfl)))), ?_⟩
    obtain ⟨x, dx0, sa, H0, rs, t, rfl, rfl, hx, hdx, hne, hS, hops, hz, k⟩ := h
    have hx1 : (upd (upd H0 dx0 (.own x)) x (.ins CP dx0 [])) x = some (.ins CP dx0 []) := upd_same
    have e0 : Ex H0 (upd (upd H0 dx0 (.own x)) x (.ins CP dx0 [])) := (Ex.new hdx).trans (Ex.new (by rw [upd_ne hne.symm]; exact hx))
    generalize upd (upd H0 dx0 (.own x)) x (.ins CP dx0 []) = H at hx1 e0 ⊢
    refine s_seq ?_
    refine s_fld (ev_var (i := 1) rfl) rfl hx1 B.cls B.steps (by show 0 < 1000; omega) fun H2 e2 => ?_
    have ex2 : Ex H0 (upd H2 x (.ins CP dx0 (putF "_steps" (.ref sa) []))) := Ex.mut (e0.trans e2) hx
    have hx3 : (upd H2 x (.ins CP dx0 (putF "_steps" (.ref sa) []))) x = some (.ins CP dx0 [("_steps", .ref sa)]) := upd_same
    generalize upd H2 x (.ins CP dx0 (putF "_steps" (.ref sa) [])) = H3 at ex2 hx3 ⊢
    dsimp only
    refine ⟨_, rfl, fun a dxa na ndxa nea => ⟨a, dxa, sa, H3, rs, t, rfl, rfl, na, ndxa, nea, hS.mono ex2, hops, by rw [ops_len hops]; exact hz, fun H4 e4 hA => ⟨rfl, ?_⟩⟩⟩
    refine ⟨_, rfl, x, CP, dx0, _, rfl, e4 _ _ hx3, B.cls, B.atoms, by show 1 < 1000; omega, ?_⟩
    have hxa : a ≠ x := fun z => by
      rw [z, hx3] at na
      cases na
    refine k _ (Ex.mut (ex2.trans e4) hx) ⟨dx0, sa, a, rs, upd_same, hS.mono (Ex.mut (ex2.trans e4) hx), hops, ?_⟩
    exact hA.updX (e4 _ _ hx3) hxa
def spBn (K : PySem.W.Frag) (CP CA : Addr) (mk : Tr → Tr → Tr) : Sp := fun vs H Q _ => ∃ (o1 o2 : Addr) (t1 t2 : Tr), vs = [.ref o1, .ref o2] ∧ PatAt K CP CA H o1 t1 ∧ PatAt K CP CA H o2 t2 ∧ Tr.nd t1 + Tr.nd t2 ≤ 59 ∧ ∀ o H', H o = none → Ex H H' → PatAt K CP CA H' o (mk t1 t2) → Q (.ref o) H'
def spUn (K : PySem.W.Frag) (CP CA : Addr) (mk : Tr → Tr) : Sp := fun vs H Q _ => ∃ (o1 : Addr) (t1 : Tr), vs = [.ref o1] ∧ PatAt K CP CA H o1 t1 ∧ Tr.nd t1 ≤ 59 ∧ ∀ o H', H o = none → Ex H H' → PatAt K CP CA H' o (mk t1) → Q (.ref o) H'
theorem nd_bin {t1 t2 : Tr} {op : Op} : (t1.steps ++ (t2.steps ++ [op])).length = Tr.nd t1 + Tr.nd t2 + 1 := by
  rw [List.length_append, List.length_append]
  show t1.steps.length + (t2.steps.length + 1) = _
  rfl
theorem scPa : FnScope ["self", "other"] ["self", "other"] (defScope sPa) := ⟨rfl, rfl, rfl, by decide +kernel, rfl, by decide +kernel, by decide +kernel⟩
theorem ok_pa {f : Addr} {fd : FuncData} (F : FnM K "__add__" "Pattern.__add__" sPa f fd) (B : FP K CP) (CN : Cn mg) (TPt : Nw P w K mg base CP L2.CX0 5 "Pattern" (spPt K CP CA)) : FnOk P w K mg base (L2.CX P w) 7 f fd ["self", "other"] (spBn K CP CA .thn) := by
  obtain ⟨tTHEN, gTHEN⟩ := CN.thn
  refine F.ok (CX := L2.CX P w) scPa (fun vs H Q E h => ?_) (fun cdv A' outer s H vs Q E hr h => ?_)
  · obtain ⟨o1, o2, t1, t2, rfl, _⟩ := h
    rfl
  · refine ⟨_, (pss_one (ps_ret (pe_nw TPt hr (by rfl) (pa_cons (pe_op (op_catA) (pe_op (op_catA) (pe_fld (pv 0) rfl) (pe_fld (pv 1) rfl)) (pe_tup (pa_cons (pe_tup (pa_cons (pe_glob (v := V.str (tx kThen)) (by rfl) gTHEN ⟨tTHEN, rfl⟩) (pa_cons (pe_tup pa_nil) pa_nil))) pa_nil))) pa_nil)))), ?_⟩
    obtain ⟨o1, o2, t1, t2, rfl, P1, P2, hl, k⟩ := h
    have key := epat_new (K := K) (CP := CP) (CA := CA) (E := fun _ => nil0) (t := .thn t1 t2) (σ := [some (.ref o1), some (.ref o2)]) (H := H) (by
      have := est_cat (est_cat (est_fld (σ := [some (.ref o1), some (.ref o2)]) (i := 0) rfl P1 B.cls B.steps) (est_fld (i := 1) rfl P2 B.cls B.steps) (by show t1.steps.length + t2.steps.length ≤ 1000; have h1 : Tr.nd t1 + Tr.nd t2 ≤ 59 := hl; unfold Tr.nd at h1; omega)) (est_one (K := K) (k := kThen) (op := .thn) rfl rfl) (by rw [List.length_append]; have h1 : Tr.nd t1 + Tr.nd t2 ≤ 59 := hl; unfold Tr.nd at h1; show _ + 1 ≤ _; omega)
      rw [List.append_assoc] at this
      exact this) (by show (t1.steps ++ (t2.steps ++ [Op.thn])).length ≤ 60; rw [nd_bin]; omega)
    exact key H (Ex.refl _) _ k
theorem scPo : FnScope ["self", "other"] ["self", "other"] (defScope sPo) := ⟨rfl, rfl, rfl, by decide +kernel, rfl, by decide +kernel, by decide +kernel⟩
theorem ok_po {f : Addr} {fd : FuncData} (F : FnM K "__or__" "Pattern.__or__" sPo f fd) (B : FP K CP) (CN : Cn mg) (TPt : Nw P w K mg base CP L2.CX0 5 "Pattern" (spPt K CP CA)) : FnOk P w K mg base (L2.CX P w) 7 f fd ["self", "other"] (spBn K CP CA .eith) := by
  obtain ⟨tEITHER, gEITHER⟩ := CN.eith
  refine F.ok (CX := L2.CX P w) scPo (fun vs H Q E h => ?_) (fun cdv A' outer s H vs Q E hr h => ?_)
  · obtain ⟨o1, o2, t1, t2, rfl, _⟩ := h
    rfl
  · refine ⟨_, (pss_one (ps_ret (pe_nw TPt hr (by rfl) (pa_cons (pe_op (op_catA) (pe_op (op_catA) (pe_fld (pv 0) rfl) (pe_fld (pv 1) rfl)) (pe_tup (pa_cons (pe_tup (pa_cons (pe_glob (v := V.str (tx kEither)) (by rfl) gEITHER ⟨tEITHER, rfl⟩) (pa_cons (pe_tup pa_nil) pa_nil))) pa_nil))) pa_nil)))), ?_⟩
    obtain ⟨o1, o2, t1, t2, rfl, P1, P2, hl, k⟩ := h
    have key := epat_new (K := K) (CP := CP) (CA := CA) (E := fun _ => nil0) (t := .eith t1 t2) (σ := [some (.ref o1), some (.ref o2)]) (H := H) (by
      have := est_cat (est_cat (est_fld (σ := [some (.ref o1), some (.ref o2)]) (i := 0) rfl P1 B.cls B.steps) (est_fld (i := 1) rfl P2 B.cls B.steps) (by show t1.steps.length + t2.steps.length ≤ 1000; have h1 : Tr.nd t1 + Tr.nd t2 ≤ 59 := hl; unfold Tr.nd at h1; omega)) (est_one (K := K) (k := kEither) (op := .eith) rfl rfl) (by rw [List.length_append]; have h1 : Tr.nd t1 + Tr.nd t2 ≤ 59 := hl; unfold Tr.nd at h1; show _ + 1 ≤ _; omega)
      rw [List.append_assoc] at this
      exact this) (by show (t1.steps ++ (t2.steps ++ [Op.eith])).length ≤ 60; rw [nd_bin]; omega)
    exact key H (Ex.refl _) _ k
theorem scRp : FnScope ["p"] ["p"] (defScope sRp) := ⟨rfl, rfl, rfl, by decide +kernel, rfl, by decide +kernel, by decide +kernel⟩
theorem ok_rp {f : Addr} {fd : FuncData} (F : FnP K "repeated" sRp f fd) (B : FP K CP) (CN : Cn mg) (TPt : Nw P w K mg base CP L2.CX0 5 "Pattern" (spPt K CP CA)) : FnOk P w K mg base L2.CX0 7 f fd ["p"] (spUn K CP CA .rep) := by
  obtain ⟨tREPEATED, gREPEATED⟩ := CN.rep
  refine F.ok (CX := L2.CX0) scRp (fun vs H Q E h => ?_) (fun cdv A' outer s H vs Q E hr h => ?_)
  · obtain ⟨o1, t1, rfl, _⟩ := h
    rfl
  · refine ⟨_, (pss_one (ps_ret (pe_nw TPt hr (by rfl) (pa_cons (pe_op (op_catA) (pe_fld (pv 0) rfl) (pe_tup (pa_cons (pe_tup (pa_cons (pe_glob (v := V.str (tx kRep)) (by rfl) gREPEATED ⟨tREPEATED, rfl⟩) (pa_cons (pe_tup pa_nil) pa_nil))) pa_nil))) pa_nil)))), ?_⟩
    obtain ⟨o1, t1, rfl, P1, hl, k⟩ := h
    have h1 : t1.steps.length ≤ 59 := hl
    have key := epat_new (K := K) (CP := CP) (CA := CA) (E := fun _ => nil0) (t := .rep t1) (σ := [some (.ref o1)]) (H := H) (est_cat (est_fld (i := 0) rfl P1 B.cls B.steps) (est_one (K := K) (k := kRep) (op := .rep) rfl rfl) (by show _ + 1 ≤ 1000; omega)) (by show (t1.steps ++ [Op.rep]).length ≤ 60; rw [List.length_append]; show _ + 1 ≤ 60; omega)
    exact key H (Ex.refl _) _ k
theorem scOp : FnScope ["p"] ["p"] (defScope sOp) := ⟨rfl, rfl, rfl, by decide +kernel, rfl, by decide +kernel, by decide +kernel⟩
theorem ok_op {f : Addr} {fd : FuncData} (F : FnP K "optional" sOp f fd) (B : FP K CP) (CN : Cn mg) (TPt : Nw P w K mg base CP L2.CX0 5 "Pattern" (spPt K CP CA)) : FnOk P w K mg base L2.CX0 7 f fd ["p"] (spUn K CP CA .opt) := by
  obtain ⟨tOPTIONAL, gOPTIONAL⟩ := CN.opt
  refine F.ok (CX := L2.CX0) scOp (fun vs H Q E h => ?_) (fun cdv A' outer s H vs Q E hr h => ?_)
  · obtain ⟨o1, t1, rfl, _⟩ := h
    rfl
  · refine ⟨_, (pss_one (ps_ret (pe_nw TPt hr (by rfl) (pa_cons (pe_op (op_catA) (pe_fld (pv 0) rfl) (pe_tup (pa_cons (pe_tup (pa_cons (pe_glob (v := V.str (tx kOpt)) (by rfl) gOPTIONAL ⟨tOPTIONAL, rfl⟩) (pa_cons (pe_tup pa_nil) pa_nil))) pa_nil))) pa_nil)))), ?_⟩
    obtain ⟨o1, t1, rfl, P1, hl, k⟩ := h
    have h1 : t1.steps.length ≤ 59 := hl
    have key := epat_new (K := K) (CP := CP) (CA := CA) (E := fun _ => nil0) (t := .opt t1) (σ := [some (.ref o1)]) (H := H) (est_cat (est_fld (i := 0) rfl P1 B.cls B.steps) (est_one (K := K) (k := kOpt) (op := .opt) rfl rfl) (by show _ + 1 ≤ 1000; omega)) (by show (t1.steps ++ [Op.opt]).length ≤ 60; rw [List.length_append]; show _ + 1 ≤ 60; omega)
    exact key H (Ex.refl _) _ k
theorem scPb : FnScope ["self"] ["self"] (defScope sPb) := ⟨rfl, rfl, rfl, by decide +kernel, rfl, by decide +kernel, by decide +kernel⟩
def spPb (K : PySem.W.Frag) (CP CA : Addr) : Sp := fun vs H Q _ => ∃ (o : Addr) (t : Tr), vs = [.ref o] ∧ PatAt K CP CA H o t ∧ ∀ H', Ex H H' → Q (.bl (!t.nul)) H'
theorem ok_pb {f : Addr} {fd : FuncData} (F : FnM K "__bool__" "Pattern.__bool__" sPb f fd) (B : FP K CP) (A : FA K CA) : FnOk P w K mg base L2.CX0 1 f fd ["self"] (spPb K CP CA) := by
  refine F.ok (CX := L2.CX0) scPb (fun vs H Q E h => ?_) (fun cdv A' outer s H vs Q E hr h => ?_)
  · obtain ⟨o, t, rfl, _⟩ := h
    rfl
  · refine ⟨_, (pss_one (ps_ret (pe_not (pe_fld (pe_fld (pv 0) rfl) rfl)))), ?_⟩
    obtain ⟨o, t, rfl, ⟨dx, sa, a, rs, h1, h2, h3, ⟨dxa, Fm, L, fol, fo, tk, ras, M⟩⟩, k⟩ := h
    exact ⟨_, rfl, o, CP, dx, _, .ref a, rfl, h1, B.cls, B.atoms, rfl, a, CA, dxa, _, .bl t.nul, rfl, M.at_, A.cls, A.empty, rfl, _, rfl, k H (Ex.refl _)⟩
end
end K14

set_option Elab.async false
set_option linter.all false
set_option maxRecDepth 100000
set_option maxHeartbeats 2000000
/-! def f(*v) of the module, called with arguments one by one. -/
namespace Vsa
open PySem PySem.Spec PyProof.Rows L2 Vc StX
section
variable {CX : CXT} {P : Program} {w : World} {K : PySem.W.Frag} {mg : Str → Option Value} {base : Heap} {k : Nat} {f : Addr} {x qual : Str} {params : Arguments} {body : List Stmt} {scope : Scope} {fd : FuncData} {N : List Str} {pv : Str} {sp : Sp}
/-- what a call with these arguments asks: they are a new tuple -/
def spSt (sp : Sp) : Sp := fun vs H Q E => vs.length ≤ 1000 ∧ ∀ p, H p = none → sp [V.ref p] (upd H p (.tup vs)) Q E
theorem okStar (F : FunD K x qual params body scope [] [] f fd) (S : FnScope N [pv] scope) (hCX : CXUp CX)
    (hb : ∀ (kV doc pm cdv ct : Value) (an : Option Addr) (rest : List Value), bindArgs (PySem.W.fnOf x qual params body scope .none kV doc pm an cdv ct) ⟨rest, []⟩ = (newTuple rest >>= fun t => pure [(pv, t)]))
    (hbody : ∀ (cdv : Value) (A : Around) (outer : List Env) (s : Shared) (H : Hp) (vs : List V) (Q : VK) (E : XK), Room k (A.deeper (envOfC qual scope s.heap.objs.size f cdv)) → sp vs H Q E →
      ∃ t, PSs (cxOf CX P w K mg base N qual scope f cdv A outer s H E) body t ∧ t { nx := fun _ H' => Q .non H', rt := Q } (start N vs) H) :
    FnR P w K mg base CX (k + 1) f (spSt sp) := by
  obtain ⟨oc, od, dV, kV, doc, pm, an, cdv, ct, osl, rfl, lk, hcd, hD, _⟩ := F.ex
  obtain rfl : dV = .none := by
    rcases hD with ⟨_, z⟩ | ⟨z, _⟩
    · exact z
    · exact absurd rfl z
  have R := fn_star (ps := []) (pv := pv) lk hcd S hCX (fun us rest hl => by
    obtain rfl := List.length_eq_zero_iff.mp hl
    exact hb kV doc pm cdv ct an rest) (fun A outer s H vs Q E hr hsp => hbody cdv A outer s H vs Q E hr hsp)
  exact R.imp fun vs H Q E ⟨h1, h2⟩ => ⟨[], vs, rfl, rfl, Nat.le_trans h1 (by decide), h2⟩
end
structure FuR (P : Program) (w : World) (K : PySem.W.Frag) (mg : Str → Option Value) (base : Heap) (CX : CXT) (k : Nat) (x : Str) (sp : Sp) : Prop where
  ex : ∃ (f : Addr), FnR P w K mg base CX k f sp ∧ mg x = some (.ref f) ∧ PySem.W.keepIn K (.ref f) = true
section
variable {X : Cx} {CX : CXT} {j k : Nat} {x : Str} {sp : Sp} {E : XK} {p pos : Pos} {e : Expr} {es : List Expr} {t : TA}
def tFuR (sp : Sp) (E : XK) (t : TA) : TE := fun σ H Q => t σ H fun vs H1 => sp vs H1 Q E
theorem pe_fuR (T : FuR X.prog X.w X.K X.mg X.base CX k x sp) (hr : Room j X.A) (hg : Gl X x) (hx : Passes CX X E) (ha : PA X (e :: es) t) (hk : k ≤ j := by decide) (hdb : (x == ("__debug__" : Str)) = false := by decide)
    (he : starEach (e :: es) X.env = (false, eval e X.env) :: starEach es X.env := by rfl) (hpl : (backTo pos (starEach es X.env)).any (·.1) = false := by rfl) : PE X (.Call (.Name x p) (e :: es) [] pos) (tFuR sp E t) := by
  obtain ⟨f, F, hm, kp⟩ := T.ex
  refine ⟨fun pins s σ H Q I h => ?_⟩
  refine wpAny_Call_Name_kw (ld_glob I hg hm ?_ hdb)
  exact PySem.W.callWith_K (h₀ := X.base) I.ok.mod.kin kp (thn (ha.run pos pins s σ H _ I h) fun us s1 ⟨vs, H1, I1, r, q⟩ => ⟨I1.kIn, wpAny_call (run_fnR F (hr.mono hk) hx I1 r q)⟩) he hpl
theorem pe_fuR0 (T : FuR X.prog X.w X.K X.mg X.base CX k x sp) (hr : Room j X.A) (hg : Gl X x) (hx : Passes CX X E) (hk : k ≤ j := by decide) (hdb : (x == ("__debug__" : Str)) = false := by decide) : PE X (.Call (.Name x p) [] [] pos) (tFuR sp E tNil) := by
  obtain ⟨f, F, hm, kp⟩ := T.ex
  refine ⟨fun pins s σ H Q I h => ?_⟩
  refine wpAny_Call_Name_kw (ld_glob I hg hm ?_ hdb)
  exact PySem.W.callWith_K0 (first := []) I.kIn kp (wpAny_call (run_fnR (us := []) (vs := []) F (hr.mono hk) hx I .nil h))
end
end Vsa

set_option Elab.async false
set_option linter.all false
set_option maxRecDepth 100000
set_option maxHeartbeats 2000000
/-! [e for x in t for y in u]: over a tuple, and over a tuple that its item tells. -/
namespace Vlt
open PySem PySem.Spec PyProof.Rows L2 Vl Evl Vp Ve Ven
section
variable {K : PySem.W.Frag} {te tl : TE} {σ : L2.St} {H : Hp}
theorem el_lc2T {α β : Type} {ys : List α} {g : α → V} {zs : α → List β} {h : β → V} {a : Addr} {G : TG} {vs vs1 : List Nat} {i1 j1 : Nat} (τ : α → L2.St) (b : α → Addr) (hl : Ev tl σ H (.ref a)) (hx : SqT K H a (ys.map g)) (hz : (ys.flatMap zs).length ≤ 40000)
    (hg : ∀ (y : α) (H1 : Hp) (Q : L2.St → Hp → Prop), Ex H H1 → y ∈ ys → Q (τ y) H1 → G (g y) (wipe σ vs) H1 Q) (hw : ∀ y, y ∈ ys → wipe (τ y) vs = wipe σ vs)
    (hi : ∀ y, y ∈ ys → (τ y)[i1]? = some (some (.ref (b y))) ∧ SqT K H (b y) ((zs y).map h)) (hw1 : ∀ y x, y ∈ ys → wipe ((wipe (τ y) vs1).set j1 (some x)) vs1 = wipe (τ y) vs1)
    (he : ∀ (y : α) (z : β) (H1 : Hp), Ex H H1 → y ∈ ys → z ∈ zs y → Ev te ((wipe (τ y) vs1).set j1 (some (h z))) H1 (h z)) :
    EvL (tLc2 (iTup K tl) G tYes (iTup K (tVar i1)) (gName j1) tYes te vs vs1) σ H ((ys.flatMap zs).map h) := fun H0 e Q q => hl H0 e _ fun H1 e1 => ⟨a, rfl, ⟨ys.map g, ex_t (e.trans e1) hx⟩, fun D hD => by
  have e01 := e.trans e1
  refine ⟨fun i m H' => m = ys.length - i ∧ i ≤ ys.length ∧ Ex H1 H' ∧ H' D = some (.lst (((ys.take i).flatMap zs).map h)), ⟨ys.length, by simp, Nat.zero_le _, Ex.new hD, by rw [upd_same]; rfl⟩, ?_⟩
  rintro i m H2 ⟨rfl, hile, e2, hD2⟩
  by_cases hlt : i < ys.length
  · refine .inr ⟨⟨ys.map g, g ys[i], ex_t (e01.trans e2) hx, by rw [List.getElem?_map, List.getElem?_eq_getElem hlt]; rfl⟩, fun H' => Ex H1 H' ∧ H' D = some (.lst (((ys.take (i + 1)).flatMap zs).map h)), fun H' p' => ⟨ys.length - (i + 1), by omega, rfl, hlt, p'.1, p'.2⟩, fun x H' y => ?_⟩
    obtain ⟨eH, y⟩ := y
    subst eH
    have hxg : (ys.map g)[i]? = some x := y _ (ex_t (e01.trans e2) hx)
    rw [List.getElem?_map, List.getElem?_eq_getElem hlt] at hxg
    obtain rfl := Option.some.inj hxg
    have hm : ys[i] ∈ ys := List.getElem_mem hlt
    refine hg _ _ _ (e01.trans e2) hm ⟨hw _ hm, ?_⟩
    refine (et_yes : EvT tYes _ _ true) _ (Ex.refl _) _ fun H3 e3 => ?_
    rw [if_pos rfl]
    obtain ⟨hv, hb⟩ := hi _ hm
    have hb3 := ex_t ((e01.trans e2).trans e3) hb
    refine ⟨_, hv, b ys[i], rfl, ⟨_, hb3⟩, ?_⟩
    have htk : ys.take (i + 1) = ys.take i ++ [ys[i]] := by rw [List.take_succ, List.getElem?_eq_getElem hlt]; rfl
    refine ⟨fun j k H' => k = (zs ys[i]).length - j ∧ j ≤ (zs ys[i]).length ∧ Ex H1 H' ∧ H' D = some (.lst ((((ys.take i).flatMap zs) ++ (zs ys[i]).take j).map h)), ⟨(zs ys[i]).length, by simp, Nat.zero_le _, e2.trans e3, by rw [List.take_zero, List.append_nil]; exact e3 _ _ hD2⟩, ?_⟩
    rintro j k H4 ⟨rfl, hjle, e4, hD4⟩
    have hb4 := ex_t (e01.trans e4) hb
    by_cases hjt : j < (zs ys[i]).length
    · refine .inr ⟨⟨(zs ys[i]).map h, h (zs ys[i])[j], hb4, by rw [List.getElem?_map, List.getElem?_eq_getElem hjt]; rfl⟩, fun H' => Ex H1 H' ∧ H' D = some (.lst ((((ys.take i).flatMap zs) ++ (zs ys[i]).take (j + 1)).map h)), fun H' p' => ⟨(zs ys[i]).length - (j + 1), by omega, rfl, hjt, p'.1, p'.2⟩, fun x H' y => ?_⟩
      obtain ⟨eH, y⟩ := y
      subst eH
      have hxg : ((zs ys[i]).map h)[j]? = some x := y _ hb4
      rw [List.getElem?_map, List.getElem?_eq_getElem hjt] at hxg
      obtain rfl := Option.some.inj hxg
      refine ⟨hw1 _ _ hm, ?_⟩
      refine (et_yes : EvT tYes _ _ true) _ (Ex.refl _) _ fun H5 e5 => ?_
      rw [if_pos rfl]
      refine he _ _ _ ((e01.trans e4).trans e5) hm (List.getElem_mem hjt) _ (Ex.refl _) _ fun H6 e6 => ?_
      have htk2 : (zs ys[i]).take (j + 1) = (zs ys[i]).take j ++ [(zs ys[i])[j]] := by rw [List.take_succ, List.getElem?_eq_getElem hjt]; rfl
      have hbound : ((((ys.take i).flatMap zs) ++ (zs ys[i]).take j).map h).length ≤ 40000 := by
        rw [List.length_map]
        have h1 : ((ys.take i).flatMap zs ++ zs ys[i]).length ≤ (ys.flatMap zs).length := by
          have h2 : (ys.take i).flatMap zs ++ zs ys[i] = (ys.take (i + 1)).flatMap zs := by
            rw [htk, List.flatMap_append]
            simp
          rw [h2]
          have h3 : ys.flatMap zs = (ys.take (i + 1)).flatMap zs ++ (ys.drop (i + 1)).flatMap zs := by rw [← List.flatMap_append, List.take_append_drop]
          rw [h3, List.length_append]
          exact Nat.le_add_right _ _
        rw [List.length_append] at h1
        rw [List.length_append, List.length_take]
        omega
      refine ⟨_, e6 _ _ (e5 _ _ hD4), sz_lt (by omega), ?_, ?_⟩
      · exact Ex.mut ((e4.trans e5).trans e6) hD
      · rw [upd_same, htk2, ← List.append_assoc, List.map_append (l₂ := [(zs ys[i])[j]])]
        rfl
    · have ej : j = (zs ys[i]).length := by omega
      subst ej
      refine .inl ⟨⟨_, hb4, by rw [List.length_map]; exact Nat.le_refl _⟩, e4, ?_⟩
      rw [hD4, List.take_length, htk, List.flatMap_append]
      simp
  · have ei : i = ys.length := by omega
    subst ei
    rw [List.take_length] at hD2
    exact .inl ⟨⟨_, ex_t (e01.trans e2) hx, by rw [List.length_map]; exact Nat.le_refl _⟩, q D H2 (fresh_back e1 hD) (e1.trans e2) hD2⟩⟩
end
end Vlt

set_option Elab.async false
set_option linter.all false
set_option maxRecDepth 100000
set_option maxHeartbeats 4000000
/-! Atoms by names; a pattern's names; what is in a pattern. -/
namespace K14
open PySem PySem.Spec PyProof.Rows L2 Vl Evl Vp Vc Ve Ven Vg Vb Vt Vlt Vsa
abbrev sNb : Stmt := top 10
abbrev nNb : List Str := ["steps", "_", "names", "name"]
def spAn (K : PySem.W.Frag) (CP CA : Addr) (neg : Bool) : Sp := fun vs H Q _ => ∃ (p : Addr) (xs : List Nm), vs = [.ref p] ∧ H p = some (.tup (vtx xs)) ∧ (∀ l ∈ xs, nam l) ∧ (neg = false → 1 ≤ xs.length) ∧ xs.length ≤ 60 ∧
  ∀ o ys H', H o = none → Ex H H' → Vtx.Srt ys xs → PatAt K CP CA H' o (.atom neg ys) → Q (.ref o) H'
section
variable {K : PySem.W.Frag} {CP CA : Addr} {σ : L2.St} {H : Hp}
theorem epat_atom {i : Nat} {p : Addr} {xs : List Nm} {neg : Bool} {kind : List Nat} {E : L2.St → XK} {E2 : L2.St → XK} (hk : ∀ ys, kd (.atom neg ys) = kind) (h : σ[i]? = some (some (.ref p))) (hp : SqA K H p (vtx xs)) (hz : xs.length ≤ 60) :
    ∀ Q : VK, (∀ o ys H2, H o = none → Ex H H2 → Vtx.Srt ys xs → PatAt K CP CA H2 o (.atom neg ys) → Q (.ref o) H2) →
    tNw CP (spPt K CP CA) E (tCons (tTup (tCons (tTup (tCons (tC (.str (tx kind))) (tCons (tFu (spIo K) E2 (tCons (tVar i) tNil)) tNil))) tNil)) tNil) σ H Q := fun Q q => by
  refine ⟨_, h, p, xs, rfl, hp, hz, fun t ys H2 nt e2 ht hs => ?_⟩
  refine ⟨by show 2 ≤ sizeLine; decide, fun b nb => ⟨by show 1 ≤ sizeLine; decide, fun s ns => ?_⟩⟩
  intro x dx nx ndx ne
  have hb : upd H2 b (.tup [.str (tx kind), .ref t]) b = some (.tup [.str (tx kind), .ref t]) := upd_same
  have eb := Ex.new (o := .tup [.str (tx kind), .ref t]) nb
  have ht2 := eb _ _ ht
  generalize upd H2 b (.tup [.str (tx kind), .ref t]) = H3 at hb eb ht2 ns nx ndx ⊢
  have hs3 : upd H3 s (.tup [.ref b]) s = some (.tup [.ref b]) := upd_same
  have es := Ex.new (o := .tup [.ref b]) ns
  refine ⟨x, dx, s, _, [(b, .atom neg ys)], .atom neg ys, rfl, rfl, nx, ndx, ne, ⟨.inl (.inl hs3), fun r hr => ?_⟩, rfl, by show 1 ≤ 60; decide, fun H4 e4 hP => ⟨rfl, q x ys H4 (fresh_back ((e2.trans eb).trans es) nx) (((e2.trans eb).trans es).trans e4) hs hP⟩⟩
  rw [List.mem_singleton.mp hr]
  exact ⟨t, by rw [hk]; exact es _ _ hb, es _ _ ht2⟩
end
section
variable {P : Program} {w : World} {K : PySem.W.Frag} {mg : Str → Option Value} {base : Heap} {CA CP : Addr}
theorem scAn : FnScope ["names"] ["names"] (defScope sAn) := ⟨rfl, rfl, rfl, by decide +kernel, rfl, by decide +kernel, by decide +kernel⟩
theorem ok_an {f : Addr} {fd : FuncData} (F : FnP K "any_of" sAn f fd) (CN : Cn mg) (TCs : Fu P w K mg base L2.CX0 3 "check_sequence" (spChkS K)) (TIo : Fu P w K mg base L2.CX0 1 "in_order" (spIo K)) (TPt : Nw P w K mg base CP L2.CX0 5 "Pattern" (spPt K CP CA)) :
    FnR P w K mg base L2.CX0 7 f (spSt (spAn K CP CA false)) := by
  obtain ⟨tANY, gANY⟩ := CN.any
  refine okStar (CX := L2.CX0) F (S := scAn) StX.cxUp_none (fun kV doc pm cdv ct an rest => by cases rest <;> rfl) (fun cdv A' outer s H vs Q E hr h => ?_)
  refine ⟨_, (pss_cons (ps_expr (pe_fu TCs hr (by rfl) (pa_cons (pv 0) pa_nil)))
      (pss_one (ps_ret (pe_nw TPt hr (by rfl) (pa_cons (pe_tup (pa_cons (pe_tup (pa_cons (pe_glob (v := V.str (tx kAny)) (by rfl) gANY ⟨tANY, rfl⟩) (pa_cons (pe_fu TIo hr (by rfl) (pa_cons (pv 0) pa_nil)) pa_nil))) pa_nil)) pa_nil))))), ?_⟩
  obtain ⟨p, xs, rfl, hp, hn, h1, hz, k⟩ := h
  refine q_drop (v := .non) (ev_fu (ea_cons (ev_var rfl) ea_nil) fun G1 g1 Q1 q1 E1 => ⟨p, xs, rfl, .inr (st_of (g1 _ _ hp)), hn, h1 rfl, fun G2 g2 => q1 G2 g2⟩) fun H1 e1 => ?_
  exact epat_atom (kind := kAny) (i := 0) (neg := false) (fun _ => rfl) rfl (.inr (st_of (e1 _ _ hp))) hz _ fun o ys H2 no e2 hs hP => k o ys H2 (fresh_back e1 no) (e1.trans e2) hs hP
theorem scNo : FnScope ["names", "name"] ["names"] (defScope sNo) := ⟨rfl, rfl, rfl, by decide +kernel, rfl, by decide +kernel, by decide +kernel⟩
theorem ok_no {f : Addr} {fd : FuncData} (F : FnP K "none_of" sNo f fd) (CN : Cn mg) (TCn : Fu P w K mg base L2.CX0 2 "check_name" spChkN) (TIo : Fu P w K mg base L2.CX0 1 "in_order" (spIo K)) (TPt : Nw P w K mg base CP L2.CX0 5 "Pattern" (spPt K CP CA)) :
    FnR P w K mg base L2.CX0 7 f (spSt (spAn K CP CA true)) := by
  obtain ⟨tNONE, gNONE⟩ := CN.none
  refine okStar (CX := L2.CX0) F (S := scNo) StX.cxUp_none (fun kV doc pm cdv ct an rest => by cases rest <;> rfl) (fun cdv A' outer s H vs Q E hr h => ?_)
  refine ⟨_, (pss_cons (ps_for (passes_of rfl) rfl (pi_tup (pv 0)) (pg_name (i := 1) scNo.nd rfl (by first | exact Or.inl rfl | exact Or.inr rfl)) (pss_one (ps_expr (pe_fu TCn hr (by rfl) (pa_cons (pv 1) pa_nil)))))
      (pss_one (ps_ret (pe_nw TPt hr (by rfl) (pa_cons (pe_tup (pa_cons (pe_tup (pa_cons (pe_glob (v := V.str (tx kNone)) (by rfl) gNONE ⟨tNONE, rfl⟩) (pa_cons (pe_fu TIo hr (by rfl) (pa_cons (pv 0) pa_nil)) pa_nil))) pa_nil)) pa_nil))))), ?_⟩
  obtain ⟨p, xs, rfl, hp, hn, h1, hz, k⟩ := h
  refine q_forT (a := p) (xs := vtx xs) (ev_var rfl) (st_of hp) (fun i st H' => ∃ t, st = [some (.ref p), t] ∧ Ex H H') (fun H1 e => ⟨none, rfl, e⟩) (fun i st H' _ ⟨_, _, e⟩ => st_of (e _ _ hp)) ?_ ?_
  · rintro i x st H1 hx ⟨t, rfl, e1⟩
    unfold vtx at hx
    rw [List.getElem?_map] at hx
    obtain ⟨l, hl, rfl⟩ := Option.map_eq_some_iff.mp hx
    exact s_drop (v := .non) (ev_fu (ea_cons (ev_var rfl) ea_nil) fun G1 g1 Q1 q1 E1 => ⟨l, rfl, hn l (List.mem_of_getElem? hl), fun G2 g2 => q1 G2 g2⟩) fun H2 e2 => ⟨_, rfl, e1.trans e2⟩
  · rintro st H1 ⟨t, rfl, e1⟩
    exact epat_atom (kind := kNone) (i := 0) (neg := true) (fun _ => rfl) rfl (.inr (st_of (e1 _ _ hp))) hz _ fun o ys H2 no e2 hs hP => k o ys H2 (fresh_back e1 no) (e1.trans e2) hs hP
/-- the names of steps -/
def nmsOf (os : List Op) : List Nm := os.flatMap nms
def spNb (K : PySem.W.Frag) : Sp := fun vs H Q _ => ∃ (s : Addr) (rs : List Rw), vs = [.ref s] ∧ StepsAt K H s rs ∧ (nmsOf (ops rs)).length ≤ 60 ∧ ∀ t ys H', H t = none → Ex H H' → H' t = some (.tup (vtx ys)) → Vtx.Srt ys (nmsOf (ops rs)) → Q (.ref t) H'
theorem scNb : FnScope nNb ["steps"] (defScope sNb) := ⟨rfl, rfl, rfl, by decide +kernel, rfl, by decide +kernel, by decide +kernel⟩
theorem ok_nb {f : Addr} {fd : FuncData} (F : FnP K "named_by" sNb f fd) (TIo : Fu P w K mg base L2.CX0 1 "in_order" (spIo K)) : FnOk P w K mg base L2.CX0 2 f fd ["steps"] (spNb K) := by
  refine F.ok (CX := L2.CX0) scNb (fun vs H Q E h => ?_) (fun cdv A' outer s H vs Q E hr h => ?_)
  · obtain ⟨s, rs, rfl, _⟩ := h
    rfl
  · refine ⟨_, (pss_one (ps_ret (pe_fu TIo hr (by rfl) (pa_cons (pe_lc2 (own := [("_", 1), ("names", 2), ("name", 3)]) (vs1 := [3]) (g := gTup K 2 (gCons (gName 1) (gCons (gName 2) gNil))) (tt := tYes) (wi1 := iTup K (tVar 2)) (g1 := gName 3) (tt1 := tYes) (te := tVar 3) rfl scNb.nd (pi_tup (pv 0)) (blkOk_by (own := [("_", 1), ("names", 2), ("name", 3)]) (N := nNb) (sc := defScope sNb) (by decide +kernel)) (by decide)
      (fun _ _ _ _ _ => (pg_tup rfl (pgs_cons (pg_name (i := 1) scNb.nd rfl (by first | exact Or.inl rfl | exact Or.inr rfl)) (pgs_cons (pg_name (i := 2) scNb.nd rfl (by first | exact Or.inl rfl | exact Or.inr rfl)) pgs_nil)))) (fun _ _ _ _ _ => pts_nil) (fun _ _ _ _ _ => pi_tup (pv 2))
      (fun _ _ _ _ _ => (pg_name (i := 3) scNb.nd rfl (by first | exact Or.inl rfl | exact Or.inr rfl))) (fun _ _ _ _ _ => pts_nil) (fun _ _ _ _ _ => pv 3)) pa_nil)))), ?_⟩
    obtain ⟨sa, rs, rfl, hS, hz, k⟩ := h
    have hex : ∀ r : Rw, ∃ a, r ∈ rs → H r.1 = some (.tup [.str (tx (kd r.2)), .ref a]) ∧ H a = some (.tup (vtx (nms r.2))) := fun r => by
      by_cases hr : r ∈ rs
      · obtain ⟨a, h⟩ := hS.2 r hr
        exact ⟨a, fun _ => h⟩
      · exact ⟨0, fun z => absurd z hr⟩
    let b : Rw → Addr := fun r => Classical.choose (hex r)
    have hb : ∀ r, r ∈ rs → H r.1 = some (.tup [.str (tx (kd r.2)), .ref (b r)]) ∧ H (b r) = some (.tup (vtx (nms r.2))) := fun r hr => Classical.choose_spec (hex r) hr
    have hfl : rs.flatMap (fun r : Rw => nms r.2) = nmsOf (ops rs) := by
      unfold nmsOf ops
      rw [List.flatMap_map]
    have hlc := el_lc2T (K := K) (te := tVar 3) (tl := tVar 0) (σ := [some (.ref sa), none, none, none]) (H := H) (ys := rs) (g := fun r : Rw => V.ref r.1) (zs := fun r : Rw => nms r.2) (h := fun l : Nm => V.str (tx l)) (a := sa) (G := gTup K 2 (gCons (gName 1) (gCons (gName 2) gNil))) (vs := [1, 2, 3]) (vs1 := [3]) (i1 := 2) (j1 := 3)
      (fun r : Rw => [some (.ref sa), some (.str (tx (kd r.2))), some (.ref (b r)), none]) b (ev_var rfl) hS.1 (by rw [hfl]; omega)
      (fun r H1 Q' e hr q => ⟨r.1, _, rfl, .inl (.inl (e _ _ (hb r hr).1)), rfl, _, _, rfl, _, _, rfl, rfl, q⟩) (fun r hr => rfl) (fun r hr => ⟨rfl, st_of (hb r hr).2⟩) (fun r x hr => rfl) (fun r l H1 e hr hl => ev_var rfl)
    rw [hfl] at hlc
    unfold tRet tFu tCons
    refine hlc H (Ex.refl _) _ fun p H1 np e1 hp => ?_
    exact ⟨p, nmsOf (ops rs), rfl, .inl (sq_of hp), hz, fun t ys H2 nt e2 ht hs => k t ys H2 (fresh_back e1 nt) (e1.trans e2) ht hs⟩
def spPm (K : PySem.W.Frag) (CP CA : Addr) : Sp := fun vs H Q _ => ∃ (o : Addr) (t : Tr), vs = [.ref o] ∧ PatAt K CP CA H o t ∧ (nmsOf t.steps).length ≤ 60 ∧ ∀ q ys H', H q = none → Ex H H' → H' q = some (.tup (vtx ys)) → Vtx.Srt ys (nmsOf t.steps) → Q (.ref q) H'
theorem scPm : FnScope ["self"] ["self"] (defScope sPm) := ⟨rfl, rfl, rfl, by decide +kernel, rfl, by decide +kernel, by decide +kernel⟩
theorem ok_pm {f : Addr} {fd : FuncData} (F : FnM K "names" "Pattern.names" sPm f fd) (B : FP K CP) (TNb : Fu P w K mg base L2.CX0 2 "named_by" (spNb K)) : FnOk P w K mg base L2.CX0 3 f fd ["self"] (spPm K CP CA) := by
  refine F.ok (CX := L2.CX0) scPm (fun vs H Q E h => ?_) (fun cdv A' outer s H vs Q E hr h => ?_)
  · obtain ⟨o, t, rfl, _⟩ := h
    rfl
  · refine ⟨_, (pss_one (ps_ret (pe_fu TNb hr (by rfl) (pa_cons (pe_fld (pv 0) rfl) pa_nil)))), ?_⟩
    obtain ⟨o, t, rfl, ⟨dx, sa, a, rs, h1, h2, h3, h4⟩, hz, k⟩ := h
    rw [← h3] at hz k
    exact ⟨_, rfl, o, CP, dx, _, .ref sa, rfl, h1, B.cls, B.steps, rfl, sa, rs, rfl, h2, hz, k⟩
/-- a name, or what is none -/
def nmB : V → Bool
  | .str z => namB z.cps.toList
  | _ => false
def Odd (H : Hp) (v : V) : Prop := (∃ l, v = .str (tx l) ∧ l.length ≤ 1000) ∨ v = .non ∨ (∃ i, v = .int i) ∨ ∃ p xs, v = .ref p ∧ H p = some (.lst xs)
theorem Odd.mono {H H' : Hp} {v : V} (e : Ex H H') (h : Odd H v) : Odd H' v := h.imp_right fun h => h.imp_right fun h => h.imp_right fun ⟨p, xs, h1, h2⟩ => ⟨p, xs, h1, e _ _ h2⟩
theorem Odd.nm {K : PySem.W.Frag} {H : Hp} {v : V} (h : Odd H v) : SpV (spNm K) [v] H (.bl (nmB v)) := fun H1 e Q q E => by
  rcases h.mono e with ⟨l, rfl, hl⟩ | rfl | ⟨i, rfl⟩ | ⟨p, xs, rfl, hp⟩
  · exact ⟨_, rfl, .inl ⟨l, rfl, hl, fun H2 e2 => q H2 e2⟩⟩
  · exact ⟨_, rfl, .inr ⟨"NoneType", .base .non, by decide +kernel, fun H2 e2 => q H2 e2⟩⟩
  · exact ⟨_, rfl, .inr ⟨"int", .base (.int i), by decide +kernel, fun H2 e2 => q H2 e2⟩⟩
  · exact ⟨_, rfl, .inr ⟨"list", .base (.lst hp), by decide +kernel, fun H2 e2 => q H2 e2⟩⟩
theorem all_names : ∀ {vs : List V} {H : Hp}, (∀ v ∈ vs, Odd H v) → (vs.all nmB = true) → ∃ xs : List Nm, vs = vtx xs ∧ ∀ l ∈ xs, nam l
  | [], _, _, _ => ⟨[], rfl, fun _ h => nomatch h⟩
  | v :: vs, H, h, ha => by
    rw [List.all_cons, Bool.and_eq_true] at ha
    obtain ⟨xs, rfl, hx⟩ := all_names (fun u hu => h u (List.mem_cons_of_mem _ hu)) ha.2
    rcases h v List.mem_cons_self with ⟨l, rfl, hl⟩ | rfl | ⟨i, rfl⟩ | ⟨p, ys, rfl, _⟩
    · exact ⟨l :: xs, rfl, fun y hy => (List.mem_cons.mp hy).elim (fun z => by rw [z]; exact namB_iff.mp ha.1) (hx y)⟩
    · exact Bool.noConfusion ha.1
    · exact Bool.noConfusion ha.1
    · exact Bool.noConfusion ha.1
/-- x in a pattern -/
def spPc (K : PySem.W.Frag) (CP CA : Addr) : Sp := fun vs H Q _ => ∃ (o : Addr) (t : Tr) (y : V), vs = [.ref o, y] ∧ PatAt K CP CA H o t ∧ t.sz ≤ 60 ∧
  ((∃ (q : Addr) (us : List V), y = .ref q ∧ (H q = some (.lst us) ∨ H q = some (.tup us)) ∧ (∀ v ∈ us, Odd H v) ∧ us.length ≤ 1000 ∧ ∀ b H', (b = true ↔ ∃ xs : List Nm, us = vtx xs ∧ (∀ l ∈ xs, nam l) ∧ t.L xs) → Ex H H' → Q (.bl b) H') ∨
   ∃ ty : String, (∀ H', Ex H H' → TyX K H' y (.type ty)) ∧ kitB ty "tuple" = some false ∧ kitB ty "list" = some false ∧ ∀ H', Ex H H' → Q (.bl false) H')
theorem ev_isTL {te : TE} {σ : L2.St} {H : Hp} {x : V} {ty : String} {b1 b2 : Bool} (h : Ev te σ H x) (ht : ∀ H1, Ex H H1 → TyX K H1 x (.type ty)) (h1 : kitB ty "tuple" = some b1) (h2 : kitB ty "list" = some b2) :
    Ev (tCB (rIsiT K) (tCons te (tCons (tTup (tCons (tC (V.ty "tuple")) (tCons (tC (V.ty "list")) tNil))) tNil))) σ H (.bl (b1 || b2)) := fun H1 e Q q =>
  h H1 e _ fun H2 e2 => ⟨sz_of (by show 2 ≤ 100000; decide), fun p np => ⟨x, p, _, .type ty, [.type "tuple", .type "list"], b1 || b2, rfl, upd_same, .cons (.ty _) (.cons (.ty _) .nil), ht _ ((e.trans e2).trans (Ex.new np)), kitAny_cons (kit_ty h1) (fun z => kitAny_cons (kit_ty h2) (fun z2 => by rw [z, z2]; exact kitAny_nil) (fun z2 => by rw [z, z2]; rfl)) (fun z => by rw [z]; rfl), q _ (e2.trans (Ex.new np))⟩⟩
theorem scPc : FnScope nPc ["self", "x"] (defScope sPc) := ⟨rfl, rfl, rfl, by decide +kernel, rfl, by decide +kernel, by decide +kernel⟩
structure KP (P : Program) (w : World) (K : PySem.W.Frag) (mg : Str → Option Value) (base : Heap) (CA : Addr) : Prop where
  acls : Cls K CA
  has : Mo P w K mg base CA L2.CX0 3 "has_word" (spHw K CA)
theorem ok_pc {f : Addr} {fd : FuncData} (F : FnM K "__contains__" "Pattern.__contains__" sPc f fd) (B : FP K CP) (KP : KP P w K mg base CA) (TNm : Fu P w K mg base L2.CX0 1 "is_name" (spNm K)) (mIsi : mg "isinstance" = none) (mTuple : mg "tuple" = none) (mList : mg "list" = none) (mAll : mg "all" = none) :
    FnOk P w K mg base L2.CX0 4 f fd ["self", "x"] (spPc K CP CA) := by
  refine F.ok (CX := L2.CX0) scPc (fun vs H Q E h => ?_) (fun cdv A' outer s H vs Q E hr h => ?_)
  · obtain ⟨o, t, y, rfl, _⟩ := h
    rfl
  · refine ⟨_, (pss_cons (ps_if (PW.pt (pw_or (pt_not (pt_val (pe_callB call_isiT (by rfl) mIsi boot_isinstance (pa_cons (pv 1) (pa_cons (pe_tup (pa_cons (pe_bltn (v := V.ty "tuple") (by rfl) mTuple boot_tuple rfl) (pa_cons (pe_bltn (v := V.ty "list") (by rfl) mList boot_list rfl) pa_nil))) pa_nil))))) (pw_or1 (pt_not (pt_val (pe_callB (cr_all rfl) (by rfl) mAll boot_all (pa_cons (pe_lc (own := [("name", 2)]) (g := (gName 2)) (tt := tYes) (te := (tFu (spNm K) (fun _ => nil0) (tCons (tVar 2) tNil))) rfl scPc.nd (pi_seqA (pv 1)) (blkOk_by (own := [("name", 2)]) (N := nPc) (sc := defScope sPc) (by decide +kernel)) (fun _ _ _ _ _ => (pg_name (i := 2) scPc.nd rfl (by first | exact Or.inl rfl | exact Or.inr rfl))) (fun _ _ _ _ _ => pts_nil) (fun _ _ _ _ _ => (pe_fu TNm hr (by rfl) (pa_cons (pv 2) pa_nil)))) pa_nil))))))) (pss_one (ps_ret pe_bl)) pss_nil)
      (pss_one (ps_ret (pe_mo (pe_fld (pv 0) rfl) KP.acls KP.has hr (pa_cons (pv 1) pa_nil))))), ?_⟩
    obtain ⟨o, t, y, rfl, PA, hz, h⟩ := h
    rcases h with ⟨q, us, rfl, hq, hod, hul, k⟩ | ⟨ty, ht, k1, k2, k⟩
    · have his : Ev (tCB (rIsiT K) (tCons (tVar 1) (tCons (tTup (tCons (tC (V.ty "tuple")) (tCons (tC (V.ty "list")) tNil))) tNil))) [some (.ref o), some (.ref q), none] H (.bl true) := by
        rcases hq with hq | hq
        · exact ev_isTL (ty := "list") (b1 := false) (b2 := true) (ev_var rfl) (fun H1 e1 => .base (.lst (e1 _ _ hq))) (by decide +kernel) (by decide +kernel)
        · exact ev_isTL (ty := "tuple") (b1 := true) (b2 := false) (ev_var rfl) (fun H1 e1 => .base (.tup (e1 _ _ hq))) (by decide +kernel) (by decide +kernel)
      have hqa : SqA K H q (us.map fun v => v) := by
        rw [List.map_id']
        exact hq.imp sq_of st_of
      have hall : Ev (tCB (rAll K) (tCons (tLc (iSeqA K (tVar 1)) (gName 2) tYes (tFu (spNm K) (fun _ => nil0) (tCons (tVar 2) tNil)) [2]) tNil)) [some (.ref o), some (.ref q), none] H (.bl (us.all nmB)) := by
        have := el_lcSM (K := K) (te := tFu (spNm K) (fun _ => nil0) (tCons (tVar 2) tNil)) (σ := [some (.ref o), some (.ref q), none]) (H := H) (ys := us) (g := fun v => v) (a := q) (i := 1) (j := 2) (vs := [2]) (fun v => .bl (nmB v)) rfl hqa (by omega) (fun _ => rfl) (fun v G e hv => ev_fu (ea_cons (ev_var rfl) ea_nil) ((hod v hv).mono e).nm)
        have h2 : us.map (fun v => V.bl (nmB v)) = (us.map nmB).map V.bl := by rw [List.map_map]; rfl
        rw [h2] at this
        refine ev_is (ev_all this) ?_
        rw [List.all_map]
        rfl
      refine q_when (b := !(us.all nmB)) (et_is (et_or (a := false) (et_not (a := true) (et_B his)) fun _ => et_not (et_B hall)) (Bool.false_or _)) (fun hb H1 e1 => ?_) fun hb H1 e1 => ?_
      · refine s_ret ev_c fun H2 e2 => k _ H2 ?_ (e1.trans e2)
        refine ⟨fun z => Bool.noConfusion z, fun ⟨xs, hx, hn, _⟩ => ?_⟩
        have : us.all nmB = true := by
          rw [hx]
          unfold vtx
          rw [List.all_map, List.all_eq_true]
          exact fun l hl => namB_iff.mpr (hn l hl)
        rw [this] at hb
        exact Bool.noConfusion hb
      · have hb : us.all nmB = true := by
          cases z : us.all nmB with
          | true => rfl
          | false => rw [z] at hb; exact Bool.noConfusion hb
        obtain ⟨xs, rfl, hn⟩ := all_names hod hb
        obtain ⟨dx, sa, a, rs, h1, h2, h3, ⟨dxa, Fm, L, fol, fo, tk, ras, M⟩⟩ := PA
        have fl : Ev (tFld K (tVar 0) "atoms") [some (.ref o), some (.ref q), none] H1 (.ref a) := ev_fld rfl (e1 _ _ h1) B.cls B.atoms rfl
        unfold tRet Vtr.tMethS
        refine fl H1 (Ex.refl _) _ fun H2 e2 => ?_
        have M2 := M.mono (e1.trans e2)
        refine ⟨a, dxa, _, rfl, M2.at_, rfl, _, rfl, a, q, t, xs, rfl, ⟨dxa, Fm, L, fol, fo, tk, ras, M2⟩, hz, (hq.imp (fun z => sq_of ((e1.trans e2) _ _ z)) (fun z => st_of ((e1.trans e2) _ _ z))), fun b H3 hb3 e3 => k b H3 ?_ ((e1.trans e2).trans e3)⟩
        rw [hb3]
        exact ⟨fun z => ⟨xs, rfl, hn, z⟩, fun ⟨ys, hy, _, z⟩ => by
          have : xs = ys := by
            have h4 := hy
            unfold vtx at h4
            exact Vtx.map_tx_inj (by
              have h5 := congrArg (List.map fun v => match v with | V.str z => z | _ => tx []) h4
              rw [List.map_map, List.map_map] at h5
              exact h5)
          rw [this]
          exact z⟩
    · refine q_when (b := true) (et_or (a := true) (b := true) (et_not (a := false) (et_B (ev_isTL (b1 := false) (b2 := false) (ev_var rfl) ht k1 k2))) fun z => Bool.noConfusion z) (fun _ H1 e1 => ?_) fun z => Bool.noConfusion z
      exact s_ret ev_c fun H2 e2 => k H2 (e1.trans e2)
end
end K14

set_option Elab.async false
set_option linter.all false
set_option maxRecDepth 100000
set_option maxHeartbeats 4000000
/-! The law's trees. -/
namespace K14
open PySem PySem.Spec PyProof.Rows L2 Vl Evl Vp Vc Ve Ven Vg Vb Vt Vlt Vsa
abbrev sTr : Stmt := top 64
abbrev nTr : List Str := ["_law_pool_here", "_law_lanes", "_law_depth", "_law_kind", "_law_many", "_law_some", "_law_k", "_law_one", "_law_two"]
abbrev tS (s : String) : V := .str (Str.ofString s)
/-- the law's tree in memory -/
def TrAt (H : Hp) : Tr → Addr → Prop
  | .atom neg ns, p => ∃ l, H p = some (.tup [tS (if neg then "none" else "any"), .ref l]) ∧ H l = some (.lst (vtx ns))
  | .thn a b, p => ∃ q r, H p = some (.tup [tS "join", .ref q, .ref r]) ∧ TrAt H a q ∧ TrAt H b r
  | .eith a b, p => ∃ q r, H p = some (.tup [tS "either", .ref q, .ref r]) ∧ TrAt H a q ∧ TrAt H b r
  | .rep a, p => ∃ q, H p = some (.tup [tS "repeat", .ref q]) ∧ TrAt H a q
  | .opt a, p => ∃ q, H p = some (.tup [tS "option", .ref q]) ∧ TrAt H a q
theorem TrAt.mono {H H' : Hp} (e : Ex H H') : ∀ {t : Tr} {p : Addr}, TrAt H t p → TrAt H' t p
  | .atom _ _, _, ⟨l, h1, h2⟩ => ⟨l, e _ _ h1, e _ _ h2⟩
  | .thn a b, _, ⟨q, r, h, h1, h2⟩ => ⟨q, r, e _ _ h, TrAt.mono e h1, TrAt.mono e h2⟩
  | .eith a b, _, ⟨q, r, h, h1, h2⟩ => ⟨q, r, e _ _ h, TrAt.mono e h1, TrAt.mono e h2⟩
  | .rep a, _, ⟨q, h, h1⟩ => ⟨q, e _ _ h, TrAt.mono e h1⟩
  | .opt a, _, ⟨q, h, h1⟩ => ⟨q, e _ _ h, TrAt.mono e h1⟩
theorem pool_tup {H : Hp} {p b : Addr} {n : Nat} {xs : List V} (hp : PoolAt H p n) (h : H b = some (.tup xs)) : b ≠ p := fun z => by
  obtain ⟨x, y, w, h1, _⟩ := hp
  rw [z, h1] at h
  cases h
theorem pool_vtx {H : Hp} {p b : Addr} {n : Nat} {xs : List Nm} (hp : PoolAt H p n) (h : H b = some (.lst (vtx xs))) : b ≠ p := fun z => by
  obtain ⟨x, y, w, h1, _⟩ := hp
  rw [z, h1] at h
  injection h with h
  injection h with h
  cases xs with
  | nil => cases h
  | cons l r =>
    have h2 : V.int x :: _ = V.str (tx l) :: vtx r := h
    cases h2
theorem TrAt.wo {H : Hp} {p : Addr} {n : Nat} (hp : PoolAt H p n) : ∀ {t : Tr} {r : Addr}, TrAt H t r → TrAt (Wo H p) t r
  | .atom _ _, _, ⟨l, h1, h2⟩ => ⟨l, wo_at h1 (pool_tup hp h1), wo_at h2 (pool_vtx hp h2)⟩
  | .thn a b, _, ⟨q, r, h, h1, h2⟩ => ⟨q, r, wo_at h (pool_tup hp h), TrAt.wo hp h1, TrAt.wo hp h2⟩
  | .eith a b, _, ⟨q, r, h, h1, h2⟩ => ⟨q, r, wo_at h (pool_tup hp h), TrAt.wo hp h1, TrAt.wo hp h2⟩
  | .rep a, _, ⟨q, h, h1⟩ => ⟨q, wo_at h (pool_tup hp h), TrAt.wo hp h1⟩
  | .opt a, _, ⟨q, h, h1⟩ => ⟨q, wo_at h (pool_tup hp h), TrAt.wo hp h1⟩
/-- at most d operators one in another; atoms of one or two of these names -/
def TrOk (xs : List Nm) : Nat → Tr → Prop
  | _, .atom neg ns => (∀ l ∈ ns, l ∈ xs) ∧ ns.length ≤ 2 ∧ (neg = false → 1 ≤ ns.length)
  | 0, _ => False
  | d + 1, .thn a b => TrOk xs d a ∧ TrOk xs d b
  | d + 1, .eith a b => TrOk xs d a ∧ TrOk xs d b
  | d + 1, .rep a => TrOk xs d a
  | d + 1, .opt a => TrOk xs d a
def cnT : Nat → Nat
  | 0 => 8
  | d + 1 => 2 * cnT d + 8
def spTr : Nat → Sp
  | 0 => fun _ _ _ _ => False
  | m + 1 => fun vs H Q _ => ∃ (p q : Addr) (d : Nat) (xs : List Nm) (Hk : Hp) (n : Nat), vs = [.ref p, .ref q, .int (d : Nat)] ∧ d ≤ m ∧ Pl Hk p n H ∧ n + cnT d ≤ 90000 ∧ Hk q = some (.lst (vtx xs)) ∧ 1 ≤ xs.length ∧ xs.length ≤ 1000 ∧
    ∀ r t k H', Pl Hk p k H' → k ≤ n + cnT d → TrAt H' t r → TrOk xs d t → Q (.ref r) H'
section
variable {K : PySem.W.Frag} {σ : L2.St} {H : Hp} {te : TE} {D : Ends}
/-- a draw out of a list -/
theorem s_pickL {p : Addr} {Hk : Hp} {n m j ip : Nat} {xs : List V} (hσ : σ[ip]? = some (some (.ref p))) (P : Pl Hk p n H) (hn : n ≤ 90000) (hm : 1 ≤ m ∧ m ≤ 1000) (hl : EvL te σ H xs) (hR : xs.length = m)
    (k : ∀ (i : Nat) v H2, xs[i]? = some v → Pl Hk p (n + 1) H2 → D.nx (σ.set j (some v)) H2) :
    tAsg (tOp (rIxL K) te (Vc.tFu spTake (fun _ => nil0) (tCons (tVar ip) (tCons (tC (.int (m : Nat))) tNil)))) (gName j) D σ H :=
  hl H (Ex.refl H) _ fun a H1 na e ha => ⟨_, hσ, p, (m : Int), Wo H1 p, n, rfl, by omega, by omega, (P.grow e).re, by omega, fun r H2 r0 r1 P2 => by
    obtain ⟨i, rfl⟩ := Int.eq_ofNat_of_zero_le r0
    have hi : i < xs.length := by omega
    have hap : a ≠ p := P.ne na
    exact ⟨a, xs, _, xs[i], rfl, rfl, sq_of (P2.ex _ _ (wo_at ha hap)), at_of rfl (List.getElem?_eq_getElem hi), k i _ H2 (List.getElem?_eq_getElem hi) ((P.grow e).back P2)⟩⟩
/-- [xs[take(len(xs))] for _ in range(m)] -/
theorem s_draws {p a : Addr} {Hk : Hp} {n m pi ai j oi : Nat} {ta : TA} {xs : List (List Nat)} (hm : EvA ta σ H [.int (m : Nat)]) (hm40 : m ≤ 1000) (P : Pl Hk p n H) (hn : n + m ≤ 90000) (ha : Hk a = some (.lst (vtx xs))) (hx : m = 0 ∨ 1 ≤ xs.length) (hx1 : xs.length ≤ 1000)
    (hw : ∀ x, wipe ((wipe σ [j]).set j (some x)) [j] = wipe σ [j]) (hp : ∀ x, ((wipe σ [j]).set j (some x))[pi]? = some (some (.ref p))) (hA : ∀ x, ((wipe σ [j]).set j (some x))[ai]? = some (some (.ref a)))
    (k : ∀ d ys H1, H d = none → Pl Hk p (n + m) H1 → H1 d = some (.lst (vtx ys)) → ys.length = m → (∀ y ∈ ys, y ∈ xs) → d ≠ p → D.nx (σ.set oi (some (.ref d))) H1) :
    tAsg (tLc (iRng1 ta) (gName j) tYes (tOp (rIxL K) (tVar ai) (Vc.tFu spTake (fun _ => nil0) (tCons (tVar pi) (tCons (tCB (fun xs H Q => ∃ x n, xs = [x] ∧ LenV K x H n ∧ Q (.int n) H) (tCons (tVar ai) tNil)) tNil)))) [j]) (gName oi) D σ H := by
  refine hm H (Ex.refl _) _ fun H1 e1 => ⟨(m : Nat), rfl, by omega, by omega, fun Dl hD => ?_⟩
  have P1 := P.grow e1
  have hDp : Dl ≠ p := P1.ne hD
  have hDk : Hk Dl = none := fresh_back P1.ex hD
  refine lc_range (lo := 0) (n := ((m : Nat) : Int).toNat) (fun i H' => ∃ ys, H' Dl = some (.lst (vtx ys)) ∧ ys.length = i ∧ (∀ y ∈ ys, y ∈ xs) ∧ Pl Hk p (n + i) H') ⟨[], upd_same, rfl, (fun _ h => nomatch h), P1.new hD⟩ ?_ ?_
  · rintro i H2 hi ⟨ys, h1, h2, h3, h4⟩
    rw [Int.toNat_natCast] at hi
    refine ⟨hw _, ?_⟩
    unfold tYes
    dsimp only
    rw [if_pos rfl]
    refine ⟨_, hA _, _, hp _, _, hA _, .ref a, xs.length, rfl, .inl ⟨vtx xs, sq_of (h4.ex _ _ ha), (vtx_len xs).symm⟩, p, (xs.length : Int), Wo H2 p, _, rfl, by omega, by omega, h4.re, by omega, fun r H3 r0 r1 hP => ?_⟩
    obtain ⟨z, rfl⟩ := Int.eq_ofNat_of_zero_le r0
    have hz : z < xs.length := by omega
    have P3 := h4.back hP
    refine ⟨a, vtx xs, _, _, rfl, rfl, sq_of (P3.ex _ _ ha), at_of rfl (vtx_at (List.getElem?_eq_getElem hz)), ?_⟩
    refine ⟨vtx ys, hP.ex _ _ (wo_at h1 hDp), sz_lt (by rw [vtx_len]; omega), ys ++ [xs[z]], by rw [upd_same, vtx_app]; rfl, by rw [List.length_append, List.length_singleton, h2], ?_, ?_⟩
    · intro y hy
      rcases List.mem_append.mp hy with hy | hy
      · exact h3 y hy
      · rw [List.mem_singleton.mp hy]
        exact List.getElem_mem hz
    · refine ⟨P3.no, Ex.mut P3.ex hDk, ?_⟩
      obtain ⟨a', b', c', w1, w2⟩ := P3.at_
      exact ⟨a', b', c', by rw [upd_ne hDp.symm]; exact w1, w2⟩
  · rintro H2 ⟨ys, h1, h2, h3, h4⟩
    rw [Int.toNat_natCast] at h2 h4
    exact k Dl ys H2 (fresh_back e1 hD) h4 h1 h2 h3 hDp
end
section
variable {P : Program} {w : World} {K : PySem.W.Frag} {mg : Str → Option Value} {base : Heap}
theorem cnT_ge : ∀ d, 8 ≤ cnT d
  | 0 => Nat.le_refl _
  | d + 1 => by show 8 ≤ 2 * cnT d + 8; omega
theorem fn_no {f : Addr} {fd : FuncData} {ps : List Str} {k : Nat} {sp : Sp} (h : ∀ vs H Q E, ¬ sp vs H Q E) : FnOk P w K mg base L2.CX0 k f fd ps sp := ⟨fun vs H Q E z => (h vs H Q E z).elim, fun A outer s H args us vs Q E _ _ _ _ z => (h vs H Q E z).elim⟩
theorem scTr : FnScope nTr ["_law_pool_here", "_law_lanes", "_law_depth"] (defScope sTr) := ⟨rfl, rfl, rfl, by decide +kernel, rfl, by decide +kernel, by decide +kernel⟩
theorem ok_tr {f : Addr} {fd : FuncData} (F : FnP K "_law_tree" sTr f fd) (hm : mg "_law_tree" = some (.ref f)) (b : L2.Binds K fd ["_law_pool_here", "_law_lanes", "_law_depth"] []) (TT : Fu P w K mg base L2.CX0 1 "_law_take" spTake) (mRange : mg "range" = none) (mLen : mg "len" = none) :
    ∀ m, FnOk P w K mg base L2.CX0 (m + 1) f fd ["_law_pool_here", "_law_lanes", "_law_depth"] (spTr m)
  | 0 => fn_no fun _ _ _ _ h => h
  | m + 1 => by
    have TTr : Fu P w K mg base L2.CX0 (m + 1) "_law_tree" (spTr m) := .of (ok_tr F hm b TT mRange mLen m) hm F.kp b
    refine F.ok (CX := L2.CX0) scTr (fun vs H Q E h => ?_) (fun cdv A' outer s H vs Q E hr h => ?_)
    · obtain ⟨p, q, d, xs, Hk, n, rfl, _⟩ := h
      rfl
    · refine ⟨_, (pss_cons (ps_set (i := 3) scTr.nd rfl (by first | exact Or.inl rfl | exact Or.inr rfl) (pe_fu (hk := Nat.succ_le_succ (Nat.zero_le _)) TT hr (by rfl) (pa_cons (pv 0) (pa_cons pe_int pa_nil))))
      (pss_cons (ps_if (PW.pt (pw_or (pt_cmpR op_eq (pv 2) pe_int (nomark _)) (pw_or1 (pt_cmpR op_lt (pv 3) pe_int (nomark _))))) (pss_cons (ps_set (i := 4) scTr.nd rfl (by first | exact Or.inl rfl | exact Or.inr rfl) (pe_op op_add pe_int (pe_op op_mul (pe_fu (hk := Nat.succ_le_succ (Nat.zero_le _)) TT hr (by rfl) (pa_cons (pv 0) (pa_cons pe_int pa_nil))) (pe_fu (hk := Nat.succ_le_succ (Nat.zero_le _)) TT hr (by rfl) (pa_cons (pv 0) (pa_cons pe_int pa_nil))))))
      (pss_cons (ps_setLc (i := 5) (own := [("_law_k", 6)]) (g := (gName 6)) (tt := tYes) (te := (tOp (rIxL K) (tVar 1) (tFu spTake (fun _ => nil0) (tCons (tVar 0) (tCons (tCB (fun xs H Q => ∃ x n, xs = [x] ∧ LenV K x H n ∧ Q (.int n) H) (tCons (tVar 1) tNil)) tNil))))) rfl scTr.nd rfl rfl (sw_true rfl rfl rfl (by decide +kernel)) (pi_range1 (by rfl) mRange (pa_cons (pv 4) pa_nil)) (blkOk_by (own := [("_law_k", 6)]) (N := nTr) (sc := defScope sTr) (by decide +kernel)) (fun _ _ _ _ _ => (pg_name (i := 6) scTr.nd rfl (by first | exact Or.inl rfl | exact Or.inr rfl))) (fun _ _ _ _ _ => pts_nil) (fun _ _ _ _ _ => (pe_ix ix_list (pv 1) (pe_fu (hk := Nat.succ_le_succ (Nat.zero_le _)) TT hr (by rfl) (pa_cons (pv 0) (pa_cons (pe_callB call_len (by rfl) mLen boot_len (pa_cons (pv 1) pa_nil)) pa_nil))) fun _ _ => rfl)))
      (pss_cons (ps_if (pt_cmpR op_gt (pe_fu (hk := Nat.succ_le_succ (Nat.zero_le _)) TT hr (by rfl) (pa_cons (pv 0) (pa_cons pe_int pa_nil))) pe_int (nomark _)) (pss_one (ps_ret (pe_tup (pa_cons pe_str (pa_cons (pv 5) pa_nil))))) pss_nil)
      (pss_one (ps_ret (pe_tup (pa_cons pe_str (pa_cons (pe_slice sl_list (pv 5) (po_some (pe_fu (hk := Nat.succ_le_succ (Nat.zero_le _)) TT hr (by rfl) (pa_cons (pv 0) (pa_cons pe_int pa_nil)))) po_none) pa_nil)))))))) pss_nil)
      (pss_cons (ps_set (i := 7) scTr.nd rfl (by first | exact Or.inl rfl | exact Or.inr rfl) (pe_fu (hk := Nat.le_refl _) TTr hr (by rfl) (pa_cons (pv 0) (pa_cons (pv 1) (pa_cons (pe_op op_sub (pv 2) pe_int) pa_nil)))))
      (pss_cons (ps_if (pt_cmpR op_eq (pv 3) pe_int (nomark _)) (pss_one (ps_ret (pe_tup (pa_cons pe_str (pa_cons (pv 7) pa_nil))))) pss_nil)
      (pss_cons (ps_if (pt_cmpR op_eq (pv 3) pe_int (nomark _)) (pss_one (ps_ret (pe_tup (pa_cons pe_str (pa_cons (pv 7) pa_nil))))) pss_nil)
      (pss_cons (ps_set (i := 8) scTr.nd rfl (by first | exact Or.inl rfl | exact Or.inr rfl) (pe_fu (hk := Nat.le_refl _) TTr hr (by rfl) (pa_cons (pv 0) (pa_cons (pv 1) (pa_cons (pe_op op_sub (pv 2) pe_int) pa_nil)))))
      (pss_cons (ps_if (pt_cmpR op_eq (pv 3) pe_int (nomark _)) (pss_one (ps_ret (pe_tup (pa_cons pe_str (pa_cons (pv 7) (pa_cons (pv 8) pa_nil)))))) pss_nil)
      (pss_one (ps_ret (pe_tup (pa_cons pe_str (pa_cons (pv 7) (pa_cons (pv 8) pa_nil))))))))))))), ?_⟩
      obtain ⟨p, q, d, xs, Hk, n, rfl, hd, P0, hn, hq, hx1, hx2, k⟩ := h
      have hc8 := cnT_ge d
      refine s_seq ?_
      refine ⟨_, rfl, p, 8, Hk, n, rfl, by omega, by omega, P0, by omega, fun kd H1 r0 r1 P1 => ?_⟩
      dsimp only [gName, List.set]
      refine s_seq ?_
      have hor : ∀ {σ : L2.St}, σ[2]? = some (some (.int (d : Nat))) → σ[3]? = some (some (.int kd)) → EvT (tOr (tTest (tOp rEq (tVar 2) (tC (.int 0)))) (tTest (tOp (rI0 fun i j => .bl (decide (i < j))) (tVar 3) (tC (.int 2))))) σ H1 (decide (V.int (d : Nat) = V.int 0) || decide (kd < 2)) := fun h2 h3 =>
        et_or (et_test (ev_op (ev_var h2) ev_c (rv_eq rfl))) fun _ => et_test (ev_op (ev_var h3) ev_c rv_I0)
      refine s_when (hor rfl rfl) (fun hb H2 e2 => ?_) fun hb H2 e2 => ?_
      · have P2 := P1.grow e2
        refine s_seq ?_
        refine ⟨_, rfl, p, 2, Hk, n + 1, rfl, by omega, by omega, P2, by omega, fun a H3 a0 a1 P3 => ⟨_, rfl, p, 2, Hk, n + 2, rfl, by omega, by omega, P3, by omega, fun b2 H4 b0 b1 P4 => ⟨a, b2, rfl, rfl, .inl ⟨by omega, by omega⟩, 1, _, rfl, rfl, ?_⟩⟩⟩
        obtain ⟨m2, hm2, hm3, hm4⟩ : ∃ m2 : Nat, 1 + a * b2 = (m2 : Int) ∧ 1 ≤ m2 ∧ m2 ≤ 2 := by
          have ha : a = 0 ∨ a = 1 := by omega
          rcases ha with rfl | rfl
          · exact ⟨1, by omega, by omega, by omega⟩
          · have hb : b2 = 0 ∨ b2 = 1 := by omega
            rcases hb with rfl | rfl
            · exact ⟨1, by omega, by omega, by omega⟩
            · exact ⟨2, by omega, by omega, by omega⟩
        dsimp only [gName, List.set]
        rw [hm2]
        refine s_seq ?_
        refine s_draws (n := n + 3) (p := p) (a := q) (m := m2) (Hk := Hk) (xs := xs) (ea_cons (ev_var rfl) ea_nil) (by omega) (P4.cnt (by omega)) (by omega) hq (.inr hx1) hx2 (fun _ => rfl) (fun _ => rfl) (fun _ => rfl) fun l ys H5 nl P5 hl hyl hyx hlp => ?_
        dsimp only [List.set]
        refine s_seq ?_
        refine ⟨_, rfl, p, 3, Wo H5 p, n + 3 + m2, rfl, by omega, by omega, P5.re, by omega, fun r3 H6 z0 z1 P6 => ⟨r3, 0, rfl, rfl, _, rfl, ?_⟩⟩
        have hl6 := P6.ex _ _ (wo_at hl hlp)
        have P6' := P5.back P6
        by_cases hr3 : r3 > 0
        · refine if_t (decide_eq_true hr3) ?_
          refine s_retU (xs := [tS "any", .ref l]) (eu_tup (ea_cons ev_c (ea_cons (ev_var (i := 5) rfl) ea_nil)) (by show 2 ≤ 100000; omega)) fun r H7 nr e7 hr7 => ?_
          exact k r (.atom false ys) _ H7 ((P6'.grow e7).cnt (by omega)) (Nat.le_refl _) ⟨l, hr7, e7 _ _ hl6⟩ (by cases d <;> exact ⟨hyx, by omega, fun _ => by omega⟩)
        · refine if_f (fun z => hr3 (of_decide_eq_true z)) ?_
          refine ⟨_, rfl, _, rfl, p, 2, Wo H6 p, n + 3 + m2 + 1, rfl, by omega, by omega, P6.re, by omega, fun r4 H7 w0 w1 P7 => ⟨r4, rfl, l, vtx ys, rfl, sq_of (P7.ex _ _ (wo_at hl6 hlp)), fun l2 nl2 => ⟨by show 2 ≤ sizeLine; decide, fun r nr => ?_⟩⟩⟩
          obtain ⟨z, rfl⟩ := Int.eq_ofNat_of_zero_le w0
          have P7' := P6'.back P7
          have e8 := (Ex.new (o := .lst (cutV (vtx ys) (some (z : Int)) none)) nl2).trans (Ex.new (o := .tup [tS "none", .ref l2]) nr)
          refine k r (.atom true (ys.drop z)) _ _ ((P7'.grow e8).cnt (by omega)) (Nat.le_refl _) ⟨l2, upd_same, ?_⟩ ?_
          · refine (Ex.new nr) _ _ ?_
            rw [upd_same, cutV1, vtx_drop]
          · have hsub : ∀ x ∈ ys.drop z, x ∈ xs := fun x hx => hyx x (List.mem_of_mem_drop hx)
            have hlen : (ys.drop z).length ≤ 2 := by rw [List.length_drop]; omega
            cases d <;> exact ⟨hsub, hlen, fun y => Bool.noConfusion y⟩
      · obtain ⟨d', rfl⟩ : ∃ d', d = d' + 1 := by
          cases d with
          | zero => exact Bool.noConfusion (show true = false from hb)
          | succ d' => exact ⟨d', rfl⟩
        obtain ⟨m', rfl⟩ : ∃ m', m = m' + 1 := ⟨m - 1, by omega⟩
        have hcd : cnT (d' + 1) = 2 * cnT d' + 8 := rfl
        have P2 := P1.grow e2
        have harg : [V.ref p, V.ref q, V.int (((d' + 1 : Nat) : Int) - 1)] = [V.ref p, V.ref q, V.int (d' : Nat)] := by
          have : ((d' + 1 : Nat) : Int) - 1 = ((d' : Nat) : Int) := by omega
          rw [this]
        refine s_seq ?_
        refine ⟨_, rfl, _, rfl, _, rfl, _, _, rfl, rfl, p, q, d', xs, Hk, n + 1, harg, by omega, P2, by omega, hq, hx1, hx2, fun r1 t1 k1 H3 P3 hk1 T1 O1 => ?_⟩
        dsimp only [gName, List.set]
        have hkd : ∀ {σ : L2.St} {H : Hp} {c : Int}, σ[3]? = some (some (.int kd)) → EvT (tTest (tOp rEq (tVar 3) (tC (.int c)))) σ H (decide (V.int kd = V.int c)) := fun h3 => et_test (ev_op (ev_var h3) ev_c (rv_eq rfl))
        refine s_seq ?_
        refine s_when (hkd rfl) (fun _ H4 e4 => ?_) fun _ H4 e4 => ?_
        · refine s_retU (xs := [tS "repeat", .ref r1]) (eu_tup (ea_cons ev_c (ea_cons (ev_var (i := 7) rfl) ea_nil)) (by show 2 ≤ 100000; omega)) fun r H5 nr e5 hr5 => ?_
          exact k r (.rep t1) k1 H5 ((P3.grow e4).grow e5) (by omega) ⟨r1, hr5, T1.mono (e4.trans e5)⟩ O1
        refine s_seq ?_
        refine s_when (hkd rfl) (fun _ H5 e5 => ?_) fun _ H5 e5 => ?_
        · refine s_retU (xs := [tS "option", .ref r1]) (eu_tup (ea_cons ev_c (ea_cons (ev_var (i := 7) rfl) ea_nil)) (by show 2 ≤ 100000; omega)) fun r H6 nr e6 hr6 => ?_
          exact k r (.opt t1) k1 H6 (((P3.grow e4).grow e5).grow e6) (by omega) ⟨r1, hr6, T1.mono ((e4.trans e5).trans e6)⟩ O1
        have P5 := (P3.grow e4).grow e5
        have T15 := TrAt.wo P5.at_ (T1.mono (e4.trans e5))
        refine s_seq ?_
        refine ⟨_, rfl, _, rfl, _, rfl, _, _, rfl, rfl, p, q, d', xs, Wo H5 p, k1, harg, by omega, P5.re, by omega, P5.wo _ _ hq, hx1, hx2, fun r2 t2 k2 H6 P6 hk2 T2 O2 => ?_⟩
        dsimp only [gName, List.set]
        have T16 := T15.mono P6.ex
        have P6' := P5.back P6
        refine s_seq ?_
        refine s_when (hkd rfl) (fun _ H7 e7 => ?_) fun _ H7 e7 => ?_
        · refine s_retU (xs := [tS "either", .ref r1, .ref r2]) (eu_tup (ea_cons ev_c (ea_cons (ev_var (i := 7) rfl) (ea_cons (ev_var (i := 8) rfl) ea_nil))) (by show 3 ≤ 100000; omega)) fun r H8 nr e8 hr8 => ?_
          exact k r (.eith t1 t2) k2 H8 ((P6'.grow e7).grow e8) (by omega) ⟨r1, r2, hr8, T16.mono (e7.trans e8), T2.mono (e7.trans e8)⟩ ⟨O1, O2⟩
        · refine s_retU (xs := [tS "join", .ref r1, .ref r2]) (eu_tup (ea_cons ev_c (ea_cons (ev_var (i := 7) rfl) (ea_cons (ev_var (i := 8) rfl) ea_nil))) (by show 3 ≤ 100000; omega)) fun r H8 nr e8 hr8 => ?_
          exact k r (.thn t1 t2) k2 H8 ((P6'.grow e7).grow e8) (by omega) ⟨r1, r2, hr8, T16.mono (e7.trans e8), T2.mono (e7.trans e8)⟩ ⟨O1, O2⟩
end
end K14

set_option Elab.async false
set_option linter.all false
set_option maxRecDepth 100000
set_option maxHeartbeats 4000000
/-! The law's patterns, made of its trees. -/
namespace K14
open PySem PySem.Spec PyProof.Rows L2 Vl Evl Vp Vc Ve Ven Vg Vb Vt Vlt Vsa
abbrev sAm : Stmt := top 65
abbrev sPa2 : Stmt := top 66
abbrev nAm : List Str := ["_law_kind", "_law_names_here"]
abbrev nPa2 : List Str := ["_law_tree_here", "_law_one", "_law_two"]
/-- the same tree, the atoms' names in order -/
def SrtT : Tr → Tr → Prop
  | .atom n xs, .atom m ys => n = m ∧ Vtx.Srt ys xs
  | .thn a b, .thn c d => SrtT a c ∧ SrtT b d
  | .eith a b, .eith c d => SrtT a c ∧ SrtT b d
  | .rep a, .rep c => SrtT a c
  | .opt a, .opt c => SrtT a c
  | _, _ => False
theorem star_iff {P Q : List Nm → Prop} (h : ∀ w, P w ↔ Q w) (w : List Nm) : Star P w ↔ Star Q w := by
  have : P = Q := funext fun w => propext (h w)
  rw [this]
theorem SrtT.words : ∀ {t T : Tr}, SrtT t T → ∀ w, T.L w ↔ t.L w
  | .atom n xs, .atom m ys, ⟨e, h⟩, w => by
    subst e
    refine exists_congr fun x => and_congr_right fun _ => ?_
    unfold takes
    have : decide (x ∈ ys) = decide (x ∈ xs) := decide_eq_decide.mpr (h.mem x)
    show ((decide (x ∈ ys) != n) = true) ↔ ((decide (x ∈ xs) != n) = true)
    rw [this]
  | .thn a b, .thn c d, ⟨h1, h2⟩, w => exists_congr fun u => exists_congr fun v => and_congr_right fun _ => and_congr (h1.words u) (h2.words v)
  | .eith a b, .eith c d, ⟨h1, h2⟩, w => or_congr (h1.words w) (h2.words w)
  | .rep a, .rep c, h, w => star_iff (fun w => SrtT.words (t := a) (T := c) h w) w
  | .opt a, .opt c, h, w => or_congr_right (SrtT.words (t := a) (T := c) h w)
theorem SrtT.nd : ∀ {t T : Tr}, SrtT t T → T.steps.length = t.steps.length
  | .atom n xs, .atom m ys, _ => rfl
  | .thn a b, .thn c d, ⟨h1, h2⟩ => by
    show (c.steps ++ (d.steps ++ [Op.thn])).length = (a.steps ++ (b.steps ++ [Op.thn])).length
    simp only [List.length_append, h1.nd, h2.nd]
  | .eith a b, .eith c d, ⟨h1, h2⟩ => by
    show (c.steps ++ (d.steps ++ [Op.eith])).length = (a.steps ++ (b.steps ++ [Op.eith])).length
    simp only [List.length_append, h1.nd, h2.nd]
  | .rep a, .rep c, h => by
    show (c.steps ++ [Op.rep]).length = (a.steps ++ [Op.rep]).length
    simp only [List.length_append, SrtT.nd (t := a) (T := c) h]
  | .opt a, .opt c, h => by
    show (c.steps ++ [Op.opt]).length = (a.steps ++ [Op.opt]).length
    simp only [List.length_append, SrtT.nd (t := a) (T := c) h]
theorem tr_nd : ∀ {xs : List Nm} {t : Tr} {d : Nat}, TrOk xs d t → t.steps.length + 1 ≤ 2 ^ (d + 1)
  | xs, .atom n ys, d, _ => by
    have : 2 ≤ 2 ^ (d + 1) := Nat.le_self_pow (by omega) 2
    exact this
  | xs, .thn a b, d + 1, ⟨h1, h2⟩ => by
    have e1 := tr_nd h1
    have e2 := tr_nd h2
    show (a.steps ++ (b.steps ++ [Op.thn])).length + 1 ≤ _
    rw [List.length_append, List.length_append, Nat.pow_succ]
    show a.steps.length + (b.steps.length + 1) + 1 ≤ _
    omega
  | xs, .eith a b, d + 1, ⟨h1, h2⟩ => by
    have e1 := tr_nd h1
    have e2 := tr_nd h2
    show (a.steps ++ (b.steps ++ [Op.eith])).length + 1 ≤ _
    rw [List.length_append, List.length_append, Nat.pow_succ]
    show a.steps.length + (b.steps.length + 1) + 1 ≤ _
    omega
  | xs, .rep a, d + 1, h => by
    have e1 := tr_nd (t := a) h
    show (a.steps ++ [Op.rep]).length + 1 ≤ _
    rw [List.length_append, Nat.pow_succ]
    show a.steps.length + 1 + 1 ≤ _
    omega
  | xs, .opt a, d + 1, h => by
    have e1 := tr_nd (t := a) h
    show (a.steps ++ [Op.opt]).length + 1 ≤ _
    rw [List.length_append, Nat.pow_succ]
    show a.steps.length + 1 + 1 ≤ _
    omega
theorem pow_le {d : Nat} (h : d ≤ 4) : 2 ^ (d + 1) ≤ 32 := Nat.pow_le_pow_right (by decide) (show d + 1 ≤ 5 by omega)
def spAm (K : PySem.W.Frag) (CP CA : Addr) : Sp := fun vs H Q _ => ∃ (neg : Bool) (l : Addr) (ns : List Nm), vs = [tS (if neg then "none" else "any"), .ref l] ∧ H l = some (.lst (vtx ns)) ∧ (∀ x ∈ ns, nam x) ∧ ns.length ≤ 2 ∧ (neg = false → 1 ≤ ns.length) ∧
  ∀ o ys H', H o = none → Ex H H' → Vtx.Srt ys ns → PatAt K CP CA H' o (.atom neg ys) → Q (.ref o) H'
def spPa (K : PySem.W.Frag) (CP CA : Addr) : Nat → Sp
  | 0 => fun _ _ _ _ => False
  | m + 1 => fun vs H Q _ => ∃ (r : Addr) (t : Tr) (d : Nat) (xs : List Nm), vs = [.ref r] ∧ d ≤ m ∧ d ≤ 4 ∧ TrAt H t r ∧ TrOk xs d t ∧ (∀ x ∈ xs, nam x) ∧ ∀ o T H', H o = none → Ex H H' → SrtT t T → PatAt K CP CA H' o T → Q (.ref o) H'
section
variable {P : Program} {w : World} {K : PySem.W.Frag} {mg : Str → Option Value} {base : Heap} {CA CP : Addr}
theorem scAm : FnScope nAm ["_law_kind", "_law_names_here"] (defScope sAm) := ⟨rfl, rfl, rfl, by decide +kernel, rfl, by decide +kernel, by decide +kernel⟩
theorem ev_vix {K : PySem.W.Frag} {σ : L2.St} {H : Hp} {l : Addr} {ns : List Nm} {i j : Nat} {x : Nm} (hv : σ[i]? = some (some (.ref l))) (h : H l = some (.lst (vtx ns))) (hx : ns[j]? = some x) : Ev (tOp (rIxL K) (tVar i) (tC (.int (j : Nat)))) σ H (.str (tx x)) := ev_ixA (ev_var hv) (sq_of h) (vtx_at hx)
theorem ok_am {f : Addr} {fd : FuncData} (F : FnP K "_law_atom" sAm f fd) (TAn : FuR P w K mg base L2.CX0 7 "any_of" (spSt (spAn K CP CA false))) (TNn : FuR P w K mg base L2.CX0 7 "none_of" (spSt (spAn K CP CA true))) (mLen : mg "len" = none) : FnOk P w K mg base L2.CX0 8 f fd ["_law_kind", "_law_names_here"] (spAm K CP CA) := by
  refine F.ok (CX := L2.CX0) scAm (fun vs H Q E h => ?_) (fun cdv A' outer s H vs Q E hr h => ?_)
  · obtain ⟨neg, l, ns, rfl, _⟩ := h
    rfl
  · refine ⟨_, (pss_cons (ps_if (pt_cmpR op_eq (pe_callB call_len (by rfl) mLen boot_len (pa_cons (pv 1) pa_nil)) pe_int (nomark _)) (pss_one (ps_ret (pe_fuR0 (E := nil0) TNn hr (by rfl) pass0))) pss_nil)
      (pss_cons (ps_if (pt_cmpR op_eq (pe_callB call_len (by rfl) mLen boot_len (pa_cons (pv 1) pa_nil)) pe_int (nomark _)) (pss_one (ps_ret (pe_ifExp (pt_cmpR op_eq (pv 0) pe_str (nomark _)) (pe_fuR (E := nil0) TAn hr (by rfl) pass0 (pa_cons (pe_ix ix_list (pv 1) pe_int fun _ _ => rfl) pa_nil)) (pe_fuR (E := nil0) TNn hr (by rfl) pass0 (pa_cons (pe_ix ix_list (pv 1) pe_int fun _ _ => rfl) pa_nil))))) pss_nil)
      (pss_cons (ps_if (pt_cmpR op_eq (pe_callB call_len (by rfl) mLen boot_len (pa_cons (pv 1) pa_nil)) pe_int (nomark _)) (pss_one (ps_ret (pe_ifExp (pt_cmpR op_eq (pv 0) pe_str (nomark _)) (pe_fuR (E := nil0) TAn hr (by rfl) pass0 (pa_cons (pe_ix ix_list (pv 1) pe_int fun _ _ => rfl) (pa_cons (pe_ix ix_list (pv 1) pe_int fun _ _ => rfl) pa_nil))) (pe_fuR (E := nil0) TNn hr (by rfl) pass0 (pa_cons (pe_ix ix_list (pv 1) pe_int fun _ _ => rfl) (pa_cons (pe_ix ix_list (pv 1) pe_int fun _ _ => rfl) pa_nil)))))) pss_nil)
      (pss_one (ps_ret (pe_ifExp (pt_cmpR op_eq (pv 0) pe_str (nomark _)) (pe_fuR (E := nil0) TAn hr (by rfl) pass0 (pa_cons (pe_ix ix_list (pv 1) pe_int fun _ _ => rfl) (pa_cons (pe_ix ix_list (pv 1) pe_int fun _ _ => rfl) (pa_cons (pe_ix ix_list (pv 1) pe_int fun _ _ => rfl) pa_nil)))) (pe_fuR (E := nil0) TNn hr (by rfl) pass0 (pa_cons (pe_ix ix_list (pv 1) pe_int fun _ _ => rfl) (pa_cons (pe_ix ix_list (pv 1) pe_int fun _ _ => rfl) (pa_cons (pe_ix ix_list (pv 1) pe_int fun _ _ => rfl) pa_nil)))))))))), ?_⟩
    obtain ⟨neg, l, ns, rfl, hl, hn, hz, h1, k⟩ := h
    have hlen : ∀ {H1 : Hp} {c : Int}, Ex H H1 → EvT (tTest (tOp rEq (tCB (fun xs H Q => ∃ x n, xs = [x] ∧ LenV K x H n ∧ Q (.int n) H) (tCons (tVar 1) tNil)) (tC (.int c)))) [some (tS (if neg then "none" else "any")), some (.ref l)] H1 (decide (V.int (ns.length : Nat) = V.int c)) := fun e =>
      et_test (ev_op (ev_is (ev_lenA (ev_var rfl) (sq_of (e _ _ hl))) (by rw [vtx_len])) ev_c (rv_eq rfl))
    have hkd : ∀ {H1 : Hp}, EvT (tTest (tOp rEq (tVar 0) (tC (tS "any")))) [some (tS (if neg then "none" else "any")), some (.ref l)] H1 (!neg) := et_test (ev_is (ev_op (ev_var rfl) ev_c (rv_eq rfl)) (by cases neg <;> rfl))
    have fin : ∀ {H1 : Hp} {ta : TA} {Q1 : VK}, Ex H H1 → EvA ta [some (tS (if neg then "none" else "any")), some (.ref l)] H1 (vtx ns) → (∀ o ys H', H o = none → Ex H H' → Vtx.Srt ys ns → PatAt K CP CA H' o (.atom neg ys) → Q1 (.ref o) H') → ∀ b, b = neg → tFuR (spSt (spAn K CP CA b)) nil0 ta [some (tS (if neg then "none" else "any")), some (.ref l)] H1 Q1 := by
      rintro H1 ta Q1 e1 ha q b rfl
      refine ha H1 (Ex.refl _) _ fun H2 e2 => ⟨by rw [vtx_len]; omega, fun p np => ⟨p, ns, rfl, upd_same, hn, h1, by omega, fun o ys H3 no e3 hs hP => ?_⟩⟩
      have e := e1.trans e2
      have e4 := Ex.new (o := .tup (vtx ns)) np
      exact q o ys H3 (fresh_back e (fresh_back e4 no)) ((e.trans e4).trans e3) hs hP
    have hns : ns = [] ∨ (∃ x, ns = [x]) ∨ ∃ x y, ns = [x, y] := by
      match ns, hz with
      | [], _ => exact .inl rfl
      | [x], _ => exact .inr (.inl ⟨x, rfl⟩)
      | [x, y], _ => exact .inr (.inr ⟨x, y, rfl⟩)
    have nthn : ∀ {x : Nm} {j : Nat} {H1 : Hp}, ns[j]? = some x → Ex H H1 → Ev (tOp (rIxL K) (tVar 1) (tC (.int (j : Nat)))) [some (tS (if neg then "none" else "any")), some (.ref l)] H1 (.str (tx x)) := fun hx e => ev_vix rfl (e _ _ hl) hx
    refine s_seq ?_
    rcases hns with rfl | ⟨x, rfl⟩ | ⟨x, y, rfl⟩
    · have hneg : true = neg := by
        cases neg with
        | true => rfl
        | false => exact absurd (h1 rfl) (by decide)
      refine s_when (b := true) (et_is (hlen (Ex.refl _)) rfl) (fun _ H1 e1 => ?_) fun z => Bool.noConfusion z
      exact fin e1 ea_nil k true hneg
    · refine s_when (b := false) (et_is (hlen (Ex.refl _)) rfl) (fun z => Bool.noConfusion z) fun _ H1 e1 => ?_
      refine s_seq ?_
      refine s_when (b := true) (et_is (hlen e1) rfl) (fun _ H2 e2 => ?_) fun z => Bool.noConfusion z
      refine hkd H2 (Ex.refl _) _ fun H3 e3 => ?_
      have e := (e1.trans e2).trans e3
      have ha : EvA (tCons (tOp (rIxL K) (tVar 1) (tC (.int 0))) tNil) [some (tS (if neg then "none" else "any")), some (.ref l)] H3 (vtx [x]) := ea_cons (nthn (j := 0) rfl e) ea_nil
      cases hng : neg with
      | false => exact if_t rfl (fin e ha k false hng.symm)
      | true => exact if_f Bool.false_ne_true (fin e ha k true hng.symm)
    · refine s_when (b := false) (et_is (hlen (Ex.refl _)) rfl) (fun z => Bool.noConfusion z) fun _ H1 e1 => ?_
      refine s_seq ?_
      refine s_when (b := false) (et_is (hlen e1) rfl) (fun z => Bool.noConfusion z) fun _ H2 e2 => ?_
      refine s_seq ?_
      refine s_when (b := true) (et_is (hlen (e1.trans e2)) rfl) (fun _ H3 e3 => ?_) fun z => Bool.noConfusion z
      refine hkd H3 (Ex.refl _) _ fun H4 e4 => ?_
      have e := ((e1.trans e2).trans e3).trans e4
      have ha : EvA (tCons (tOp (rIxL K) (tVar 1) (tC (.int 0))) (tCons (tOp (rIxL K) (tVar 1) (tC (.int 1))) tNil)) [some (tS (if neg then "none" else "any")), some (.ref l)] H4 (vtx [x, y]) := ea_cons (nthn (j := 0) rfl e) (ea_cons (nthn (j := 1) rfl e) ea_nil)
      cases hng : neg with
      | false => exact if_t rfl (fin e ha k false hng.symm)
      | true => exact if_f Bool.false_ne_true (fin e ha k true hng.symm)
theorem scPa2 : FnScope nPa2 ["_law_tree_here"] (defScope sPa2) := ⟨rfl, rfl, rfl, by decide +kernel, rfl, by decide +kernel, by decide +kernel⟩
/-- the tree's first item, and another one -/
theorem ev_tix {K : PySem.W.Frag} {σ : L2.St} {H : Hp} {r : Addr} {us : List V} {i j : Nat} {v : V} (hv : σ[i]? = some (some (.ref r))) (h : H r = some (.tup us)) (hx : us[j]? = some v) : Ev (tOp (rIxT K) (tVar i) (tC (.int (j : Nat)))) σ H v := ev_ixTA (ev_var hv) (st_of h) hx
theorem et_atm {K : PySem.W.Frag} {σ : L2.St} {H : Hp} {r : Addr} {us : List V} {i : Nat} {k : String} {b : Bool} (hv : σ[i]? = some (some (.ref r))) (h : H r = some (.tup us)) (hx : us[0]? = some (tS k)) (hb : inV (tS k) [tS "any", tS "none"] = b) :
    EvT (tTest (tOp (rIn K false) (tOp (rIxT K) (tVar i) (tC (.int 0))) (tTup (tCons (tC (tS "any")) (tCons (tC (tS "none")) tNil))))) σ H b :=
  et_test (ev_is (ev_inU (ev_tix (j := 0) hv h hx) (eu_tup (ea_cons ev_c (ea_cons ev_c ea_nil)) (by show 2 ≤ 100000; omega)) rfl rfl) (by rw [hb]))
theorem et_knd {K : PySem.W.Frag} {σ : L2.St} {H : Hp} {r : Addr} {us : List V} {i : Nat} {k c : String} {b : Bool} (hv : σ[i]? = some (some (.ref r))) (h : H r = some (.tup us)) (hx : us[0]? = some (tS k)) (hb : decide (tS k = tS c) = b) :
    EvT (tTest (tOp rEq (tOp (rIxT K) (tVar i) (tC (.int 0))) (tC (tS c)))) σ H b := et_test (ev_is (ev_op (ev_tix (j := 0) hv h hx) ev_c (rv_eq rfl)) (by rw [hb]))
theorem ok_pa2 {f : Addr} {fd : FuncData} (F : FnP K "_law_pattern" sPa2 f fd) (hm : mg "_law_pattern" = some (.ref f)) (b : L2.Binds K fd ["_law_tree_here"] []) (TAm : Fu P w K mg base L2.CX0 8 "_law_atom" (spAm K CP CA)) (TRp : Fu P w K mg base L2.CX0 7 "repeated" (spUn K CP CA .rep)) (TOp : Fu P w K mg base L2.CX0 7 "optional" (spUn K CP CA .opt))
    (TAdd : Vo2.OwS P w K mg base CP (L2.CX P w) 7 "add" (spBn K CP CA .thn)) (TOr : Vo2.OwS P w K mg base CP (L2.CX P w) 7 "or" (spBn K CP CA .eith)) :
    ∀ m, FnOk P w K mg base L2.CX0 (m + 9) f fd ["_law_tree_here"] (spPa K CP CA m)
  | 0 => fn_no fun _ _ _ _ h => h
  | m + 1 => by
    have TPa : Fu P w K mg base L2.CX0 (m + 9) "_law_pattern" (spPa K CP CA m) := .of (ok_pa2 F hm b TAm TRp TOp TAdd TOr m) hm F.kp b
    refine F.ok (CX := L2.CX0) scPa2 (fun vs H Q E h => ?_) (fun cdv A' outer s H vs Q E hr h => ?_)
    · obtain ⟨r, t, d, xs, rfl, _⟩ := h
      rfl
    · refine ⟨_, (pss_cons (ps_if (pt_cmpR op_in_seq (pe_ix ix_tup (pv 0) pe_int fun _ _ => rfl) (pe_tup (pa_cons pe_str (pa_cons pe_str pa_nil))) rfl) (pss_one (ps_ret (pe_fu (hk := by omega) TAm hr (by rfl) (pa_cons (pe_ix ix_tup (pv 0) pe_int fun _ _ => rfl) (pa_cons (pe_ix ix_tup (pv 0) pe_int fun _ _ => rfl) pa_nil))))) pss_nil)
      (pss_cons (ps_set (i := 1) scPa2.nd rfl (by first | exact Or.inl rfl | exact Or.inr rfl) (pe_fu (hk := Nat.le_refl _) TPa hr (by rfl) (pa_cons (pe_ix ix_tup (pv 0) pe_int fun _ _ => rfl) pa_nil)))
      (pss_cons (ps_if (pt_cmpR op_eq (pe_ix ix_tup (pv 0) pe_int fun _ _ => rfl) pe_str (nomark _)) (pss_one (ps_ret (pe_fu (hk := by omega) TRp hr (by rfl) (pa_cons (pv 1) pa_nil)))) pss_nil)
      (pss_cons (ps_if (pt_cmpR op_eq (pe_ix ix_tup (pv 0) pe_int fun _ _ => rfl) pe_str (nomark _)) (pss_one (ps_ret (pe_fu (hk := by omega) TOp hr (by rfl) (pa_cons (pv 1) pa_nil)))) pss_nil)
      (pss_cons (ps_set (i := 2) scPa2.nd rfl (by first | exact Or.inl rfl | exact Or.inr rfl) (pe_fu (hk := Nat.le_refl _) TPa hr (by rfl) (pa_cons (pe_ix ix_tup (pv 0) pe_int fun _ _ => rfl) pa_nil)))
      (pss_one (ps_ret (pe_ifExp (pt_cmpR op_eq (pe_ix ix_tup (pv 0) pe_int fun _ _ => rfl) pe_str (nomark _)) (Vo2.pe_owSN (hk := by omega) TOr hr (pv 1) (pv 2)) (Vo2.pe_owSN (hk := by omega) TAdd hr (pv 1) (pv 2)))))))))), ?_⟩
      obtain ⟨r, t, d, xs, rfl, hd, hd4, T, O, hx, k⟩ := h
      have rec1 : ∀ {σ : L2.St} {H1 : Hp} {us : List V} {j : Nat} {q : Addr} {d' : Nat} {a : Tr} {Q1 : VK}, d = d' + 1 → σ[0]? = some (some (.ref r)) → H1 r = some (.tup us) → us[j]? = some (.ref q) → TrAt H1 a q → TrOk xs d' a → (∀ o T H', H1 o = none → Ex H1 H' → SrtT a T → PatAt K CP CA H' o T → Q1 (.ref o) H') →
          tFu (spPa K CP CA m) (fun _ => nil0) (tCons (tOp (rIxT K) (tVar 0) (tC (.int (j : Nat)))) tNil) σ H1 Q1 := by
        intro σ H1 us j q d' a Q1 hdd hv hus hj Ta Oa q1
        obtain ⟨m', rfl⟩ : ∃ m', m = m' + 1 := ⟨m - 1, by omega⟩
        exact (ea_cons (ev_tix (K := K) hv hus hj) ea_nil : EvA _ _ _ _) H1 (Ex.refl _) _ fun H2 e2 => ⟨q, a, d', xs, rfl, by omega, by omega, Ta.mono e2, Oa, hx, fun o T H3 no e3 hs hP => q1 o T H3 (fresh_back e2 no) (e2.trans e3) hs hP⟩
      have nd1 : ∀ {a : Tr} {d' : Nat} {T : Tr}, d = d' + 1 → TrOk xs d' a → SrtT a T → Tr.nd T ≤ 29 := fun {a d' T} hdd Oa hs => by
        have h1 := tr_nd Oa
        have h2 : 2 ^ (d' + 1) ≤ 2 ^ 4 := Nat.pow_le_pow_right (by decide) (show d' + 1 ≤ 4 by omega)
        show T.steps.length ≤ 29
        rw [hs.nd]
        omega
      refine s_seq ?_
      cases t with
      | atom neg ns =>
        obtain ⟨l, h1, h2⟩ := T
        have O' : (∀ l ∈ ns, l ∈ xs) ∧ ns.length ≤ 2 ∧ (neg = false → 1 ≤ ns.length) := by cases d <;> exact O
        refine s_when (b := true) (et_atm rfl h1 rfl (by cases neg <;> rfl)) (fun _ H1 e1 => ?_) fun z => Bool.noConfusion z
        unfold tRet tFu
        refine (ea_cons (ev_tix (K := K) (i := 0) (j := 0) rfl (e1 _ _ h1) rfl) (ea_cons (ev_tix (K := K) (i := 0) (j := 1) rfl (e1 _ _ h1) rfl) ea_nil) : EvA _ [some (.ref r), none, none] _ _) H1 (Ex.refl _) _ fun H2 e2 => ?_
        exact ⟨neg, l, ns, rfl, (e1.trans e2) _ _ h2, fun x hx' => hx x (O'.1 x hx'), O'.2.1, O'.2.2, fun o ys H3 no e3 hs hP => k o (.atom neg ys) H3 (fresh_back (e1.trans e2) no) ((e1.trans e2).trans e3) ⟨rfl, hs⟩ hP⟩
      | rep a =>
        obtain ⟨q, h1, T1⟩ := T
        obtain ⟨d', rfl⟩ : ∃ d', d = d' + 1 := by
          cases d with
          | zero => exact O.elim
          | succ d' => exact ⟨d', rfl⟩
        have O : TrOk xs d' a := O
        refine s_when (b := false) (et_atm rfl h1 rfl rfl) (fun z => Bool.noConfusion z) fun _ H1 e1 => ?_
        refine s_seq ?_
        refine rec1 (j := 1) rfl rfl (e1 _ _ h1) rfl (T1.mono e1) O fun o1 P1 H2 no1 e2 hs1 hP1 => ?_
        have e12 := e1.trans e2
        dsimp only [gName, List.set]
        refine s_seq ?_
        refine s_when (b := true) (et_knd rfl (e12 _ _ h1) rfl rfl) (fun _ H3 e3 => ?_) fun z => Bool.noConfusion z
        exact ⟨_, rfl, o1, P1, rfl, hP1.mono e3, by have := nd1 rfl O hs1; omega, fun o H4 no e4 hP => k o (.rep P1) H4 (fresh_back (e12.trans e3) no) ((e12.trans e3).trans e4) hs1 hP⟩
      | opt a =>
        obtain ⟨q, h1, T1⟩ := T
        obtain ⟨d', rfl⟩ : ∃ d', d = d' + 1 := by
          cases d with
          | zero => exact O.elim
          | succ d' => exact ⟨d', rfl⟩
        have O : TrOk xs d' a := O
        refine s_when (b := false) (et_atm rfl h1 rfl rfl) (fun z => Bool.noConfusion z) fun _ H1 e1 => ?_
        refine s_seq ?_
        refine rec1 (j := 1) rfl rfl (e1 _ _ h1) rfl (T1.mono e1) O fun o1 P1 H2 no1 e2 hs1 hP1 => ?_
        have e12 := e1.trans e2
        dsimp only [gName, List.set]
        refine s_seq ?_
        refine s_when (b := false) (et_knd rfl (e12 _ _ h1) rfl rfl) (fun z => Bool.noConfusion z) fun _ H3 e3 => ?_
        refine s_seq ?_
        refine s_when (b := true) (et_knd rfl ((e12.trans e3) _ _ h1) rfl rfl) (fun _ H4 e4 => ?_) fun z => Bool.noConfusion z
        exact ⟨_, rfl, o1, P1, rfl, hP1.mono (e3.trans e4), by have := nd1 rfl O hs1; omega, fun o H5 no e5 hP => k o (.opt P1) H5 (fresh_back ((e12.trans e3).trans e4) no) (((e12.trans e3).trans e4).trans e5) hs1 hP⟩
      | thn a b =>
        obtain ⟨q, q2, h1, T1, T2⟩ := T
        obtain ⟨d', rfl⟩ : ∃ d', d = d' + 1 := by
          cases d with
          | zero => exact O.elim
          | succ d' => exact ⟨d', rfl⟩
        have O : TrOk xs d' a ∧ TrOk xs d' b := O
        refine s_when (b := false) (et_atm rfl h1 rfl rfl) (fun z => Bool.noConfusion z) fun _ H1 e1 => ?_
        refine s_seq ?_
        refine rec1 (j := 1) rfl rfl (e1 _ _ h1) rfl (T1.mono e1) O.1 fun o1 P1 H2 no1 e2 hs1 hP1 => ?_
        have e12 := e1.trans e2
        dsimp only [gName, List.set]
        refine s_seq ?_
        refine s_when (b := false) (et_knd rfl (e12 _ _ h1) rfl rfl) (fun z => Bool.noConfusion z) fun _ H3 e3 => ?_
        refine s_seq ?_
        refine s_when (b := false) (et_knd rfl ((e12.trans e3) _ _ h1) rfl rfl) (fun z => Bool.noConfusion z) fun _ H4 e4 => ?_
        have e14 := (e12.trans e3).trans e4
        refine s_seq ?_
        refine rec1 (j := 2) rfl rfl (e14 _ _ h1) rfl (T2.mono e14) O.2 fun o2 P2 H5 no2 e5 hs2 hP2 => ?_
        dsimp only [gName, List.set]
        have e15 := e14.trans e5
        have hP15 := hP1.mono ((e3.trans e4).trans e5)
        refine (et_knd (K := K) (i := 0) (c := "either") (b := false) rfl (e15 _ _ h1) rfl rfl : EvT _ [some (.ref r), some (.ref o1), some (.ref o2)] H5 false) H5 (Ex.refl _) _ fun H6 e6 => ?_
        refine if_f Bool.false_ne_true ?_
        have hP16 := hP15.mono e6
        have hP26 := hP2.mono e6
        obtain ⟨dx1, s1, a1, rs1, g1, _⟩ := id hP16
        obtain ⟨dx2, s2, a2, rs2, g2, _⟩ := id hP26
        exact ⟨_, rfl, _, rfl, o1, dx1, _, o2, dx2, _, rfl, g1, rfl, g2, o1, o2, P1, P2, rfl, hP16, hP26, by have := nd1 rfl O.1 hs1; have := nd1 rfl O.2 hs2; omega, fun o H7 no e7 hP => k o (.thn P1 P2) H7 (fresh_back (e15.trans e6) no) ((e15.trans e6).trans e7) ⟨hs1, hs2⟩ hP⟩
      | eith a b =>
        obtain ⟨q, q2, h1, T1, T2⟩ := T
        obtain ⟨d', rfl⟩ : ∃ d', d = d' + 1 := by
          cases d with
          | zero => exact O.elim
          | succ d' => exact ⟨d', rfl⟩
        have O : TrOk xs d' a ∧ TrOk xs d' b := O
        refine s_when (b := false) (et_atm rfl h1 rfl rfl) (fun z => Bool.noConfusion z) fun _ H1 e1 => ?_
        refine s_seq ?_
        refine rec1 (j := 1) rfl rfl (e1 _ _ h1) rfl (T1.mono e1) O.1 fun o1 P1 H2 no1 e2 hs1 hP1 => ?_
        have e12 := e1.trans e2
        dsimp only [gName, List.set]
        refine s_seq ?_
        refine s_when (b := false) (et_knd rfl (e12 _ _ h1) rfl rfl) (fun z => Bool.noConfusion z) fun _ H3 e3 => ?_
        refine s_seq ?_
        refine s_when (b := false) (et_knd rfl ((e12.trans e3) _ _ h1) rfl rfl) (fun z => Bool.noConfusion z) fun _ H4 e4 => ?_
        have e14 := (e12.trans e3).trans e4
        refine s_seq ?_
        refine rec1 (j := 2) rfl rfl (e14 _ _ h1) rfl (T2.mono e14) O.2 fun o2 P2 H5 no2 e5 hs2 hP2 => ?_
        dsimp only [gName, List.set]
        have e15 := e14.trans e5
        have hP15 := hP1.mono ((e3.trans e4).trans e5)
        refine (et_knd (K := K) (i := 0) (c := "either") (b := true) rfl (e15 _ _ h1) rfl rfl : EvT _ [some (.ref r), some (.ref o1), some (.ref o2)] H5 true) H5 (Ex.refl _) _ fun H6 e6 => ?_
        refine if_t rfl ?_
        have hP16 := hP15.mono e6
        have hP26 := hP2.mono e6
        obtain ⟨dx1, s1, a1, rs1, g1, _⟩ := id hP16
        obtain ⟨dx2, s2, a2, rs2, g2, _⟩ := id hP26
        exact ⟨_, rfl, _, rfl, o1, dx1, _, o2, dx2, _, rfl, g1, rfl, g2, o1, o2, P1, P2, rfl, hP16, hP26, by have := nd1 rfl O.1 hs1; have := nd1 rfl O.2 hs2; omega, fun o H7 no e7 hP => k o (.eith P1 P2) H7 (fresh_back (e15.trans e6) no) ((e15.trans e6).trans e7) ⟨hs1, hs2⟩ hP⟩
end
end K14

set_option Elab.async false
set_option linter.all false
/-! Stretches of a sequence, and words of a tree from place to place. -/
namespace Vg
def seg (w : List Nm) (i j : Nat) : List Nm := (w.drop i).take (j - i)
theorem seg_len {w : List Nm} {i j : Nat} (h : j ≤ w.length) : (seg w i j).length = j - i := by
  unfold seg
  rw [List.length_take, List.length_drop]
  omega
theorem seg_self (w : List Nm) (i : Nat) : seg w i i = [] := by
  unfold seg
  rw [Nat.sub_self, List.take_zero]
theorem seg_all (w : List Nm) : seg w 0 w.length = w := by
  unfold seg
  rw [List.drop_zero, Nat.sub_zero, List.take_length]
theorem seg_split {w : List Nm} {i k j : Nat} (h1 : i ≤ k) (h2 : k ≤ j) : seg w i j = seg w i k ++ seg w k j := by
  unfold seg
  have e : j - i = (k - i) + (j - k) := by omega
  rw [e, List.take_add, List.drop_drop]
  have e2 : i + (k - i) = k := by omega
  rw [e2]
theorem seg_one {w : List Nm} {i : Nat} (h : i < w.length) : seg w i (i + 1) = [w[i]] := by
  unfold seg
  have e : i + 1 - i = 1 := by omega
  rw [e, List.drop_eq_getElem_cons h]
  rfl
theorem seg_app {w u v : List Nm} {i j : Nat} (hi : i ≤ j) (hj : j ≤ w.length) (h : seg w i j = u ++ v) : i + u.length ≤ j ∧ seg w i (i + u.length) = u ∧ seg w (i + u.length) j = v := by
  have hl := congrArg List.length h
  rw [seg_len hj, List.length_append] at hl
  have hk : i + u.length ≤ j := by omega
  have hs := seg_split (w := w) (i := i) (k := i + u.length) (j := j) (by omega) hk
  rw [h] at hs
  have h2 := List.append_inj hs (by rw [seg_len (by omega)]; omega)
  exact ⟨hk, h2.1.symm, h2.2.symm⟩
/-- from i to j by a word of t -/
def Go (t : Tr) (w : List Nm) (i j : Nat) : Prop := i ≤ j ∧ j ≤ w.length ∧ t.L (seg w i j)
theorem go_atom {neg : Bool} {ns : List Nm} {w : List Nm} {i j : Nat} : Go (.atom neg ns) w i j ↔ j = i + 1 ∧ ∃ x, w[i]? = some x ∧ takes (neg, ns) x = true := by
  constructor
  · rintro ⟨h1, h2, x, h3, h4⟩
    have hl := congrArg List.length h3
    rw [seg_len h2] at hl
    have hl : j - i = 1 := hl
    have e : j = i + 1 := by omega
    subst e
    have hi : i < w.length := by omega
    rw [seg_one hi] at h3
    injection h3 with h3 _
    exact ⟨rfl, x, by rw [List.getElem?_eq_getElem hi, h3], h4⟩
  · rintro ⟨rfl, x, h1, h2⟩
    obtain ⟨hi, hx⟩ := List.getElem?_eq_some_iff.mp h1
    exact ⟨by omega, by omega, x, by rw [seg_one hi, hx], h2⟩
theorem go_eith {a b : Tr} {w : List Nm} {i j : Nat} : Go (.eith a b) w i j ↔ Go a w i j ∨ Go b w i j := by
  constructor
  · rintro ⟨h1, h2, h | h⟩
    · exact .inl ⟨h1, h2, h⟩
    · exact .inr ⟨h1, h2, h⟩
  · rintro (⟨h1, h2, h⟩ | ⟨h1, h2, h⟩)
    · exact ⟨h1, h2, .inl h⟩
    · exact ⟨h1, h2, .inr h⟩
theorem go_opt {a : Tr} {w : List Nm} {i j : Nat} (hi : i ≤ w.length) : Go (.opt a) w i j ↔ j = i ∨ Go a w i j := by
  constructor
  · rintro ⟨h1, h2, h | h⟩
    · have hl := congrArg List.length h
      rw [seg_len h2] at hl
      have hl : j - i = 0 := hl
      exact .inl (by omega)
    · exact .inr ⟨h1, h2, h⟩
  · rintro (rfl | ⟨h1, h2, h⟩)
    · exact ⟨Nat.le_refl _, hi, .inl (seg_self _ _)⟩
    · exact ⟨h1, h2, .inr h⟩
theorem go_thn {a b : Tr} {w : List Nm} {i j : Nat} : Go (.thn a b) w i j ↔ ∃ k, Go a w i k ∧ Go b w k j := by
  constructor
  · rintro ⟨h1, h2, u, v, h, hu, hv⟩
    obtain ⟨h3, h4, h5⟩ := seg_app h1 h2 h
    exact ⟨i + u.length, ⟨by omega, by omega, by rw [h4]; exact hu⟩, h3, h2, by rw [h5]; exact hv⟩
  · rintro ⟨k, ⟨h1, h2, h3⟩, h4, h5, h6⟩
    exact ⟨by omega, h5, _, _, seg_split h1 h4, h3, h6⟩
theorem go_rep_self {a : Tr} {w : List Nm} {i : Nat} (hi : i ≤ w.length) : Go (.rep a) w i i := ⟨Nat.le_refl _, hi, by rw [seg_self]; exact .nil⟩
theorem go_rep_more {a : Tr} {w : List Nm} {i k j : Nat} (h : Go (.rep a) w i k) (h2 : Go a w k j) : Go (.rep a) w i j := by
  obtain ⟨h1, _, h3⟩ := h
  obtain ⟨h4, h5, h6⟩ := h2
  refine ⟨by omega, h5, ?_⟩
  rw [seg_split h1 h4]
  have : Star a.L (seg w k j) := by
    have := Star.app h6 Star.nil
    rwa [List.append_nil] at this
  exact star_app h3 this
/-- what is closed under a's steps has all of repeated a's ends -/
theorem go_rep_closed {a : Tr} {w : List Nm} {S : Nat → Prop} (hc : ∀ i j, S i → Go a w i j → S j) {i j : Nat} (hi : S i) (h : Go (.rep a) w i j) : S j := by
  obtain ⟨h1, h2, h3⟩ := h
  have key : ∀ u, Star a.L u → ∀ i, i ≤ j → S i → seg w i j = u → S j := by
    intro u hu
    induction hu with
    | nil =>
      intro i hij hs e
      have hl := congrArg List.length e
      rw [seg_len h2] at hl
      have hl : j - i = 0 := hl
      have : i = j := by omega
      rw [← this]
      exact hs
    | @app u v hu _ ih =>
      intro i hij hs e
      obtain ⟨h4, h5, h6⟩ := seg_app hij h2 e
      exact ih (i + u.length) h4 (hc i _ hs ⟨by omega, by omega, by rw [h5]; exact hu⟩) h6
  exact key _ h3 i h1 hi rfl
theorem go_word {t : Tr} {w : List Nm} : Go t w 0 w.length ↔ t.L w := by
  unfold Go
  rw [seg_all]
  exact ⟨fun h => h.2.2, fun h => ⟨Nat.zero_le _, Nat.le_refl _, h⟩⟩
end Vg

set_option Elab.async false
set_option linter.all false
set_option maxRecDepth 100000
set_option maxHeartbeats 2000000
/-! [e for i, x in enumerate(l) if t]. -/
namespace Vle
open PySem PySem.Spec PyProof.Rows L2 Vl Evl Vp Ve Ven
section
variable {K : PySem.W.Frag} {te : TE} {tt : TT} {σ : L2.St} {H : Hp}
theorem el_lcEn {ta : TA} {a : Addr} {xs : List V} {j1 j2 : Nat} {vs : List Nat} (f : Nat → Bool) (v : Nat → V) (h : EvA ta σ H [.ref a]) (hx : SqA K H a xs) (hz : xs.length ≤ 40000) (hw : ∀ x y, wipe (((wipe σ vs).set j1 (some x)).set j2 (some y)) vs = wipe σ vs)
    (ht : ∀ (i : Nat) (x : V) H1, Ex H H1 → xs[i]? = some x → EvT tt (((wipe σ vs).set j1 (some (.int (i : Nat)))).set j2 (some x)) H1 (f i))
    (he : ∀ (i : Nat) (x : V) H1, Ex H H1 → xs[i]? = some x → f i = true → Ev te (((wipe σ vs).set j1 (some (.int (i : Nat)))).set j2 (some x)) H1 (v i)) :
    EvL (tLc (iEnumA K ta) (gTup K 2 (gCons (gName j1) (gCons (gName j2) gNil))) tt te vs) σ H (given xs.length f v) := fun H0 e Q q => h H0 e _ fun H1 e1 => by
  have turn : ∀ (Dl : Addr) (i : Nat) (u : V) (H' H'' : Hp), Cw H1 f v Dl i H' → (∃ T x, u = .ref T ∧ H' T = none ∧ H'' = upd H' T (.tup [.int (i : Nat), x]) ∧ xs[i]? = some x) →
      gTup K 2 (gCons (gName j1) (gCons (gName j2) gNil)) u (wipe σ vs) H'' fun σ2 H2 => wipe σ2 vs = wipe σ vs ∧ tt σ2 H2 fun b H3 =>
        if b = true then te σ2 H3 fun y H4 => ∃ acc, H4 Dl = some (.lst acc) ∧ acc.length < sizeLine ∧ Cw H1 f v Dl (i + 1) (upd H4 Dl (.lst (acc ++ [y]))) else Cw H1 f v Dl (i + 1) H3 := by
    rintro Dl i u H' H'' ⟨p1, p2, p3⟩ ⟨T, x, rfl, nT, rfl, hi⟩
    refine ⟨T, _, rfl, .inl (.inl upd_same), rfl, ?_⟩
    refine ⟨_, _, rfl, _, _, rfl, rfl, ?_⟩
    exact ⟨hw _ _, cw_turn ⟨p1, p2.trans (Ex.new nT), (Ex.new nT) _ _ p3⟩ (by have := (List.getElem?_eq_some_iff.mp hi).1; omega) (ht i x H1 (e.trans e1) hi) (fun hf => he i x H1 (e.trans e1) hi hf)⟩
  refine ⟨a, xs, rfl, ?_⟩
  rcases hx with hx | hx
  · exact .inl ⟨ex_l (e.trans e1) hx, fun Dl hD => lc_it walk_en (Cw H1 f v Dl) ⟨hD, Ex.new hD, upd_same⟩ (fun i H' _ p => ex_l ((e.trans e1).trans p.2.1) hx) (fun i u H' H'' _ p y => turn Dl i u H' H'' p y) (fun H' p => q Dl H' (fresh_back e1 p.1) (e1.trans p.2.1) p.2.2)⟩
  · exact .inr ⟨ex_t (e.trans e1) hx, fun Dl hD => lc_it walk_enT (Cw H1 f v Dl) ⟨hD, Ex.new hD, upd_same⟩ (fun i H' _ p => ex_t ((e.trans e1).trans p.2.1) hx) (fun i u H' H'' _ p y => turn Dl i u H' H'' p y) (fun H' p => q Dl H' (fresh_back e1 p.1) (e1.trans p.2.1) p.2.2)⟩
end
end Vle

set_option Elab.async false
set_option linter.all false
set_option maxRecDepth 100000
set_option maxHeartbeats 4000000
/-! How the law reads a word. -/
namespace K14
open PySem PySem.Spec PyProof.Rows L2 Vl Evl Vp Vc Ve Ven Vg Vb Vt Vlt Vsa Vle
abbrev sEo : Stmt := top 67
abbrev sTk2 : Stmt := top 68
abbrev sDi : Stmt := top 69
abbrev sIw : Stmt := top 70
abbrev nTk2 : List Str := ["_law_atom_here", "_law_lane"]
abbrev nDi : List Str := ["_law_things", "_law_k", "_law_thing"]
abbrev nEo : List Str := ["_law_tree_here", "_law_lanes", "_law_start", "_law_found", "_law_place", "_law_at"]
abbrev nIw : List Str := ["_law_tree_here", "_law_lanes"]
def rInt1 : List V → Hp → VK → Prop := fun xs H Q => (∃ i, xs = [.int i] ∧ Q (.int i) H) ∨ ∃ k, xs = [.bl k] ∧ Q (.int (if k then 1 else 0)) H
def spTk2 : Sp := fun vs H Q _ => ∃ (r : Addr) (neg : Bool) (ns : List Nm) (x : Nm), vs = [.ref r, .str (tx x)] ∧ TrAt H (.atom neg ns) r ∧ ∀ H', Ex H H' → Q (.bl (takes (neg, ns) x)) H'
def spDi : Sp := fun vs H Q _ => ∃ (p : Addr) (ns : List Nat), vs = [.ref p] ∧ H p = some (.lst (intV ns)) ∧ ns.length ≤ 40000 ∧ ∀ q ds H', H q = none → Ex H H' → H' q = some (.lst (intV ds)) → ds.Nodup → (∀ x, x ∈ ds ↔ x ∈ ns) → Q (.ref q) H'
def bE : Nat → Nat
  | 0 => 1
  | d + 1 => 11 * bE d + 11
theorem bE_le {d : Nat} (h : d ≤ 3) : bE d ≤ 3000 := by
  match d, h with
  | 0, _ => decide
  | 1, _ => decide
  | 2, _ => decide
  | 3, _ => decide
def Ends (t : Tr) (w : List Nm) (s : Nat) (es : List Nat) : Prop := ∀ j, j ∈ es ↔ Go t w s j
def spEo : Nat → Sp
  | 0 => fun _ _ _ _ => False
  | m + 1 => fun vs H Q _ => ∃ (r lw : Addr) (s : Nat) (t : Tr) (d : Nat) (xs w : List Nm), vs = [.ref r, .ref lw, .int (s : Nat)] ∧ d ≤ m ∧ d ≤ 3 ∧ TrAt H t r ∧ TrOk xs d t ∧ H lw = some (.lst (vtx w)) ∧ w.length ≤ 10 ∧ s ≤ w.length ∧
    ∀ p es H', H p = none → Ex H H' → H' p = some (.lst (intV es)) → Ends t w s es → es.length ≤ bE d → Q (.ref p) H'
theorem inV_int {x : Nat} : ∀ {ns : List Nat}, inV (V.int (x : Nat)) (intV ns) = decide (x ∈ ns)
  | [] => rfl
  | n :: ns => by
    have ih := inV_int (x := x) (ns := ns)
    unfold inV intV at *
    rw [List.map_cons, List.any_cons, ih]
    by_cases h : x = n
    · subst h
      rw [decide_eq_true List.mem_cons_self]
      show (eqV (V.int (x : Nat)) (V.int (x : Nat)) || _) = true
      have : eqV (V.int (x : Nat)) (V.int (x : Nat)) = true := by unfold eqV; simp
      rw [this]
      rfl
    · have h1 : eqV (V.int (n : Nat)) (V.int (x : Nat)) = false := by
        unfold eqV
        simp only [beq_eq_false_iff_ne, ne_eq]
        omega
      show (eqV (V.int (n : Nat)) (V.int (x : Nat)) || _) = _
      rw [h1, Bool.false_or]
      exact decide_eq_decide.mpr ⟨List.mem_cons_of_mem _, fun z => (List.mem_cons.mp z).elim (fun z => absurd z h) id⟩
theorem flat_int (ns : List Nat) : (intV ns).all flatV = true := by
  unfold intV
  rw [List.all_map]
  exact List.all_eq_true.mpr fun _ _ => rfl
theorem intV_at {ns : List Nat} {i x : Nat} (h : ns[i]? = some x) : (intV ns)[i]? = some (.int (x : Nat)) := by
  unfold intV
  rw [List.getElem?_map, h]
  rfl
theorem intV_of {ns : List Nat} {i : Nat} {v : V} (h : (intV ns)[i]? = some v) : ∃ x, ns[i]? = some x ∧ v = .int (x : Nat) := by
  unfold intV at h
  rw [List.getElem?_map] at h
  obtain ⟨r, h1, h2⟩ := Option.map_eq_some_iff.mp h
  exact ⟨r, h1, h2.symm⟩
theorem intV_len (ns : List Nat) : (intV ns).length = ns.length := List.length_map _
/-- the first ones -/
def firsts (ns : List Nat) : Nat → List Nat
  | 0 => []
  | n + 1 => if ns.getD n 0 ∈ ns.take n then firsts ns n else firsts ns n ++ [ns.getD n 0]
theorem firsts_ok (ns : List Nat) : ∀ n, n ≤ ns.length → (firsts ns n).Nodup ∧ ∀ x, x ∈ firsts ns n ↔ x ∈ ns.take n
  | 0, _ => ⟨.nil, fun x => by rw [List.take_zero]; exact Iff.rfl⟩
  | n + 1, h => by
    obtain ⟨h1, h2⟩ := firsts_ok ns n (by omega)
    have hl : n < ns.length := by omega
    have e : ns.getD n 0 = ns[n] := by rw [List.getD_eq_getElem?_getD, List.getElem?_eq_getElem hl]; rfl
    have htk : ns.take (n + 1) = ns.take n ++ [ns[n]] := by rw [List.take_succ, List.getElem?_eq_getElem hl]; rfl
    unfold firsts
    rw [e]
    by_cases hm : ns[n] ∈ ns.take n
    · rw [if_pos hm]
      refine ⟨h1, fun x => ?_⟩
      rw [h2, htk, List.mem_append, List.mem_singleton]
      exact ⟨.inl, fun z => z.elim id fun z => by rw [z]; exact hm⟩
    · rw [if_neg hm]
      refine ⟨?_, fun x => ?_⟩
      · rw [List.nodup_append]
        refine ⟨h1, by simp, fun a ha b hb => ?_⟩
        rw [List.mem_singleton.mp hb]
        intro z
        rw [z] at ha
        exact hm ((h2 _).mp ha)
      · rw [htk, List.mem_append, List.mem_append, h2]
theorem firsts_given (ns : List Nat) : ∀ n, given n (fun i => !decide (ns.getD i 0 ∈ ns.take i)) (fun i => .int ((ns.getD i 0 : Nat) : Int)) = intV (firsts ns n)
  | 0 => rfl
  | n + 1 => by
    have ih := firsts_given ns n
    unfold firsts
    by_cases hm : ns.getD n 0 ∈ ns.take n
    · rw [if_pos hm, given_no (by rw [decide_eq_true hm]; rfl), ih]
    · rw [if_neg hm, given_yes (by rw [decide_eq_false hm]; rfl), ih]
      unfold intV
      rw [List.map_append]
      rfl
section
variable {P : Program} {w : World} {K : PySem.W.Frag} {mg : Str → Option Value} {base : Heap}
theorem scTk2 : FnScope nTk2 ["_law_atom_here", "_law_lane"] (defScope sTk2) := ⟨rfl, rfl, rfl, by decide +kernel, rfl, by decide +kernel, by decide +kernel⟩
theorem ok_tk2 {f : Addr} {fd : FuncData} (F : FnP K "_law_takes" sTk2 f fd) : FnOk P w K mg base L2.CX0 1 f fd ["_law_atom_here", "_law_lane"] spTk2 := by
  refine F.ok (CX := L2.CX0) scTk2 (fun vs H Q E h => ?_) (fun cdv A' outer s H vs Q E hr h => ?_)
  · obtain ⟨r, neg, ns, x, rfl, _⟩ := h
    rfl
  · refine ⟨_, (pss_one (ps_ret (pe_cmpR op_eq (pe_cmpR op_in_seq (pv 1) (pe_ix ix_tup (pv 0) pe_int fun _ _ => rfl) rfl) (pe_cmpR op_eq (pe_ix ix_tup (pv 0) pe_int fun _ _ => rfl) pe_str (nomark _)) (nomark _)))), ?_⟩
    obtain ⟨r, neg, ns, x, rfl, ⟨l, h1, h2⟩, k⟩ := h
    refine s_ret (v := .bl (takes (neg, ns) x)) ?_ k
    have hin : Ev (tOp (rIn K false) (tVar 1) (tOp (rIxT K) (tVar 0) (tC (.int 1)))) [some (.ref r), some (.str (tx x))] H (.bl (decide (x ∈ ns))) := by
      refine ev_is (ev_op (ev_var rfl) (ev_tix (j := 1) rfl h1 rfl) (rv_inL (neg := false) (sq_of h2) rfl (flat_vtx _))) ?_
      show V.bl (inV _ _) = _
      rw [inV_vtx]
    have hk : Ev (tOp rEq (tOp (rIxT K) (tVar 0) (tC (.int 0))) (tC (tS "any"))) [some (.ref r), some (.str (tx x))] H (.bl (!neg)) := ev_is (ev_op (ev_tix (j := 0) rfl h1 rfl) ev_c (rv_eq rfl)) (by cases neg <;> rfl)
    refine ev_is (ev_op hin hk (rv_eq rfl)) ?_
    unfold takes
    cases neg <;> cases decide (x ∈ ns) <;> rfl
theorem scDi : FnScope nDi ["_law_things"] (defScope sDi) := ⟨rfl, rfl, rfl, by decide +kernel, rfl, by decide +kernel, by decide +kernel⟩
theorem ok_di {f : Addr} {fd : FuncData} (F : FnP K "_law_distinct" sDi f fd) (mEnum : mg "enumerate" = none) (mInt : mg "int" = none) : FnOk P w K mg base L2.CX0 1 f fd ["_law_things"] spDi := by
  refine F.ok (CX := L2.CX0) scDi (fun vs H Q E h => ?_) (fun cdv A' outer s H vs Q E hr h => ?_)
  · obtain ⟨p, ns, rfl, _⟩ := h
    rfl
  · refine ⟨_, (pss_one (ps_ret (pe_lc (own := [("_law_k", 1), ("_law_thing", 2)]) (g := (gTup K 2 (gCons (gName 1) (gCons (gName 2) gNil)))) (tt := (tTest (tOp (rIn K true) (tVar 2) (tSl (rSlL K) (tVar 0) tNoPart (tPart (tVar 1)))))) (te := tCB rInt1 (tCons (tVar 2) tNil)) rfl scDi.nd (pi_enumA (by rfl) mEnum (pa_cons (pv 0) pa_nil)) (blkOk_by (own := [("_law_k", 1), ("_law_thing", 2)]) (N := nDi) (sc := defScope sDi) (by decide +kernel)) (fun _ _ _ _ _ => (pg_tup rfl (pgs_cons (pg_name (i := 1) scDi.nd rfl (by first | exact Or.inl rfl | exact Or.inr rfl)) (pgs_cons (pg_name (i := 2) scDi.nd rfl (by first | exact Or.inl rfl | exact Or.inr rfl)) pgs_nil)))) (fun _ _ _ _ _ => (pts_one (pt_cmpR op_notIn_seq (pv 2) (pe_slice sl_list (pv 0) po_none (po_some (pv 1))) rfl))) (fun _ _ _ _ _ => (pe_callTy call_int1 (by rfl) mInt boot_int (pa_cons (pv 2) pa_nil)))))), ?_⟩
    obtain ⟨p, ns, rfl, hp, hz, k⟩ := h
    have hlc := el_lcEn (K := K) (te := tCB rInt1 (tCons (tVar 2) tNil)) (tt := tTest (tOp (rIn K true) (tVar 2) (tSl (rSlL K) (tVar 0) tNoPart (tPart (tVar 1))))) (σ := [some (.ref p), none, none]) (H := H) (ta := tCons (tVar 0) tNil) (a := p) (xs := intV ns) (j1 := 1) (j2 := 2) (vs := [1, 2]) (fun i => !decide (ns.getD i 0 ∈ ns.take i)) (fun i => .int ((ns.getD i 0 : Nat) : Int))
      (ea_cons (ev_var rfl) ea_nil) (.inl (sq_of hp)) (by rw [intV_len]; exact hz) (fun _ _ => rfl) (fun i v H1 e1 hv => ?_) (fun i v H1 e1 hv _ => ?_)
    · rw [intV_len, firsts_given] at hlc
      obtain ⟨f1, f2⟩ := firsts_ok ns ns.length (Nat.le_refl _)
      rw [List.take_length] at f2
      exact s_retL hlc fun q H1 nq e1 hq => k q _ H1 nq e1 hq f1 f2
    · obtain ⟨x, hx, rfl⟩ := intV_of hv
      have hg : ns.getD i 0 = x := by rw [List.getD_eq_getElem?_getD, hx]; rfl
      rw [hg]
      refine et_test (ev_is (ev_opL (ev_var rfl) (el_sl (lo := none) (hi := some (i : Int)) (ev_var rfl) eo_none (eo_some (ev_var rfl)) (sq_of (e1 _ _ hp))) fun l H2 hl e2 => rv_niL (sq_of hl) rfl ?_) ?_)
      · rw [cutV0]
        have : (intV ns).take i = intV (ns.take i) := List.map_take.symm
        rw [this]
        exact flat_int _
      · rw [cutV0]
        have : (intV ns).take i = intV (ns.take i) := List.map_take.symm
        rw [this, inV_int]
    · obtain ⟨x, hx, rfl⟩ := intV_of hv
      have hg : ns.getD i 0 = x := by rw [List.getD_eq_getElem?_getD, hx]; rfl
      rw [hg]
      exact fun H2 e2 Q2 q2 => ⟨_, rfl, .inl ⟨_, rfl, q2 H2 (Ex.refl _)⟩⟩
theorem scEo : FnScope nEo ["_law_tree_here", "_law_lanes", "_law_start"] (defScope sEo) := ⟨rfl, rfl, rfl, by decide +kernel, rfl, by decide +kernel, by decide +kernel⟩
theorem ok_eo {f : Addr} {fd : FuncData} (F : FnP K "_law_ends_of" sEo f fd) (hm : mg "_law_ends_of" = some (.ref f)) (b : L2.Binds K fd ["_law_tree_here", "_law_lanes", "_law_start"] []) (TTk : Fu P w K mg base L2.CX0 1 "_law_takes" spTk2) (TDi : Fu P w K mg base L2.CX0 1 "_law_distinct" spDi) (mLen : mg "len" = none) :
    ∀ m, FnOk P w K mg base L2.CX0 (m + 1) f fd ["_law_tree_here", "_law_lanes", "_law_start"] (spEo m)
  | 0 => fn_no fun _ _ _ _ h => h
  | m + 1 => by
    have TEo : Fu P w K mg base L2.CX0 (m + 1) "_law_ends_of" (spEo m) := .of (ok_eo F hm b TTk TDi mLen m) hm F.kp b
    refine F.ok (CX := L2.CX0) scEo (fun vs H Q E h => ?_) (fun cdv A' outer s H vs Q E hr h => ?_)
    · obtain ⟨r, lw, s, t, d, xs, w, rfl, _⟩ := h
      rfl
    · refine ⟨_, (pss_cons (ps_if (pt_cmpR op_in_seq (pe_ix ix_tup (pv 0) pe_int fun _ _ => rfl) (pe_tup (pa_cons pe_str (pa_cons pe_str pa_nil))) rfl) (pss_cons (ps_if (PW.pt (pw_and (pt_cmpR op_lt (pv 2) (pe_callB call_len (by rfl) mLen boot_len (pa_cons (pv 1) pa_nil)) (nomark _)) (pw_and1 (pt_val (pe_fu (hk := by omega) TTk hr (by rfl) (pa_cons (pv 0) (pa_cons (pe_ix ix_list (pv 1) (pv 2) fun _ _ => rfl) pa_nil))))))) (pss_one (ps_ret (pe_lst (pa_cons (pe_op op_add (pv 2) pe_int) pa_nil)))) pss_nil)
      (pss_one (ps_ret (pe_lst pa_nil)))) pss_nil)
      (pss_cons (ps_if (pt_cmpR op_eq (pe_ix ix_tup (pv 0) pe_int fun _ _ => rfl) pe_str (nomark _)) (pss_one (ps_ret (pe_op op_cat (pe_fu (hk := Nat.le_refl _) TEo hr (by rfl) (pa_cons (pe_ix ix_tup (pv 0) pe_int fun _ _ => rfl) (pa_cons (pv 1) (pa_cons (pv 2) pa_nil)))) (pe_fu (hk := Nat.le_refl _) TEo hr (by rfl) (pa_cons (pe_ix ix_tup (pv 0) pe_int fun _ _ => rfl) (pa_cons (pv 1) (pa_cons (pv 2) pa_nil))))))) pss_nil)
      (pss_cons (ps_if (pt_cmpR op_eq (pe_ix ix_tup (pv 0) pe_int fun _ _ => rfl) pe_str (nomark _)) (pss_one (ps_ret (pe_op op_cat (pe_lst (pa_cons (pv 2) pa_nil)) (pe_fu (hk := Nat.le_refl _) TEo hr (by rfl) (pa_cons (pe_ix ix_tup (pv 0) pe_int fun _ _ => rfl) (pa_cons (pv 1) (pa_cons (pv 2) pa_nil))))))) pss_nil)
      (pss_cons (ps_if (pt_cmpR op_eq (pe_ix ix_tup (pv 0) pe_int fun _ _ => rfl) pe_str (nomark _)) (pss_cons (ps_set (i := 3) scEo.nd rfl (by first | exact Or.inl rfl | exact Or.inr rfl) (pe_lst pa_nil))
      (pss_cons (ps_for (passes_of rfl) rfl (pi_list (pe_fu (hk := by omega) TDi hr (by rfl) (pa_cons (pe_fu (hk := Nat.le_refl _) TEo hr (by rfl) (pa_cons (pe_ix ix_tup (pv 0) pe_int fun _ _ => rfl) (pa_cons (pv 1) (pa_cons (pv 2) pa_nil)))) pa_nil))) (pg_name (i := 4) scEo.nd rfl (by first | exact Or.inl rfl | exact Or.inr rfl)) (pss_one (ps_set (i := 3) scEo.nd rfl (by first | exact Or.inl rfl | exact Or.inr rfl) (pe_op op_cat (pv 3) (pe_fu (hk := Nat.le_refl _) TEo hr (by rfl) (pa_cons (pe_ix ix_tup (pv 0) pe_int fun _ _ => rfl) (pa_cons (pv 1) (pa_cons (pv 4) pa_nil))))))))
      (pss_one (ps_ret (pv 3))))) pss_nil)
      (pss_cons (ps_set (i := 3) scEo.nd rfl (by first | exact Or.inl rfl | exact Or.inr rfl) (pe_lst (pa_cons (pv 2) pa_nil)))
      (pss_cons (ps_set (i := 5) scEo.nd rfl (by first | exact Or.inl rfl | exact Or.inr rfl) pe_int)
      (pss_cons (ps_while (passes_of rfl) (pt_cmpR op_lt (pv 5) (pe_callB call_len (by rfl) mLen boot_len (pa_cons (pv 3) pa_nil)) (nomark _)) (pss_cons (ps_for (passes_of rfl) rfl (pi_list (pe_fu (hk := Nat.le_refl _) TEo hr (by rfl) (pa_cons (pe_ix ix_tup (pv 0) pe_int fun _ _ => rfl) (pa_cons (pv 1) (pa_cons (pe_ix ix_list (pv 3) (pv 5) fun _ _ => rfl) pa_nil))))) (pg_name (i := 4) scEo.nd rfl (by first | exact Or.inl rfl | exact Or.inr rfl)) (pss_one (ps_if (pt_cmpR op_notIn_seq (pv 4) (pv 3) rfl) (pss_one (ps_expr (pe_bm PySem.F.plainAttrs_list PySem.F.slot_list_append PySem.F.type_list_append mt_append (pv 3) (pa_cons (pv 4) pa_nil)))) pss_nil)))
      (pss_one (ps_set (i := 5) scEo.nd rfl (by first | exact Or.inl rfl | exact Or.inr rfl) (pe_op op_add (pv 5) pe_int)))))
      (pss_one (ps_ret (pv 3)))))))))), ?_⟩
      obtain ⟨r, lw, s, t, d, xs, wd, rfl, hd, hd3, T, O, hw, hw10, hs, k⟩ := h
      have hbE : 1 ≤ bE d := by cases d <;> (unfold bE; omega)
      have rec1 : ∀ {σ : L2.St} {H1 : Hp} {us : List V} {j s' : Nat} {q : Addr} {d' : Nat} {a : Tr} {ts : TE} {Q1 : VK}, d = d' + 1 → σ[0]? = some (some (.ref r)) → σ[1]? = some (some (.ref lw)) → H1 r = some (.tup us) → us[j]? = some (.ref q) → TrAt H1 a q → TrOk xs d' a → H1 lw = some (.lst (vtx wd)) → s' ≤ wd.length → Ev ts σ H1 (.int (s' : Nat)) →
          (∀ p es H', H1 p = none → Ex H1 H' → H' p = some (.lst (intV es)) → Ends a wd s' es → es.length ≤ bE d' → Q1 (.ref p) H') →
          tFu (spEo m) (fun _ => nil0) (tCons (tOp (rIxT K) (tVar 0) (tC (.int (j : Nat)))) (tCons (tVar 1) (tCons ts tNil))) σ H1 Q1 := by
        intro σ H1 us j s' q d' a ts Q1 hdd hv0 hv1 hus hj Ta Oa hlw hs' hts q1
        obtain ⟨m', rfl⟩ : ∃ m', m = m' + 1 := ⟨m - 1, by omega⟩
        exact (ea_cons (ev_tix (K := K) hv0 hus hj) (ea_cons (ev_var hv1) (ea_cons hts ea_nil)) : EvA _ _ _ _) H1 (Ex.refl _) _ fun H2 e2 => ⟨q, lw, s', a, d', xs, wd, rfl, by omega, by omega, Ta.mono e2, Oa, e2 _ _ hlw, hw10, hs', fun p es H3 np e3 hp hE hl => q1 p es H3 (fresh_back e2 np) (e2.trans e3) hp hE hl⟩
      refine s_seq ?_
      cases t with
      | atom neg ns =>
        obtain ⟨l, h1, h2⟩ := id T
        refine s_when (b := true) (et_atm rfl h1 rfl (by cases neg <;> rfl)) (fun _ H1 e1 => ?_) fun z => Bool.noConfusion z
        refine s_seq ?_
        have hlen : Ev (tCB (fun xs H Q => ∃ x n, xs = [x] ∧ LenV K x H n ∧ Q (.int n) H) (tCons (tVar 1) tNil)) [some (.ref r), some (.ref lw), some (.int (s : Nat)), none, none, none] H1 (.int (wd.length : Nat)) := ev_is (ev_lenA (ev_var rfl) (sq_of (e1 _ _ hw))) (by rw [vtx_len])
        by_cases hlt : s < wd.length
        · have htk : Ev (tFu spTk2 (fun _ => nil0) (tCons (tVar 0) (tCons (tOp (rIxL K) (tVar 1) (tVar 2)) tNil))) [some (.ref r), some (.ref lw), some (.int (s : Nat)), none, none, none] H1 (.bl (takes (neg, ns) wd[s])) :=
            ev_fu (ea_cons (ev_var rfl) (ea_cons (ev_op (ev_var rfl) (ev_var rfl) (rv_ixL (sq_of (e1 _ _ hw)) (at_of rfl (vtx_at (List.getElem?_eq_getElem hlt))))) ea_nil)) fun G1 g1 Q1 q1 E1 => ⟨r, neg, ns, wd[s], rfl, T.mono (e1.trans g1), fun G2 g2 => q1 G2 g2⟩
          refine s_when (b := takes (neg, ns) wd[s]) (et_is (et_and (a := true) (et_test (ev_is (ev_op (ev_var rfl) hlen rv_I0) (by rw [decide_eq_true (show ((s : Nat) : Int) < ((wd.length : Nat) : Int) by omega)]))) fun _ => et_B htk) (Bool.true_and _)) (fun hb H2 e2 => ?_) fun hb H2 e2 => ?_
          · refine s_retL (xs := intV [s + 1]) (el_lst (ea_cons (ev_is (ev_op (ev_var rfl) ev_c rv_I0) rfl) ea_nil) (by show 1 ≤ 100000; omega)) fun p H3 np e3 hp => ?_
            refine k p [s + 1] H3 (fresh_back (e1.trans e2) np) ((e1.trans e2).trans e3) hp (fun j => ?_) hbE
            rw [go_atom, List.mem_singleton]
            exact ⟨fun z => ⟨z, wd[s], List.getElem?_eq_getElem hlt, hb⟩, fun z => z.1⟩
          · refine s_retL (σ := [some (.ref r), some (.ref lw), some (.int (s : Nat)), none, none, none]) (xs := intV []) (el_lst ea_nil (by show 0 ≤ 100000; omega)) fun p H3 np e3 hp => ?_
            refine k p [] H3 (fresh_back (e1.trans e2) np) ((e1.trans e2).trans e3) hp (fun j => ?_) (Nat.zero_le _)
            rw [go_atom]
            refine ⟨fun z => (nomatch z), fun ⟨_, x, hx, hy⟩ => ?_⟩
            rw [List.getElem?_eq_getElem hlt] at hx
            rw [← Option.some.inj hx, hb] at hy
            exact Bool.noConfusion hy
        · refine s_when (b := false) (et_and (a := false) (b := true) (et_test (ev_is (ev_op (ev_var rfl) hlen rv_I0) (by rw [decide_eq_false (show ¬ ((s : Nat) : Int) < ((wd.length : Nat) : Int) by omega)]))) fun z => Bool.noConfusion z) (fun z => Bool.noConfusion z) fun hb H2 e2 => ?_
          refine s_retL (σ := [some (.ref r), some (.ref lw), some (.int (s : Nat)), none, none, none]) (xs := intV []) (el_lst ea_nil (by show 0 ≤ 100000; omega)) fun p H3 np e3 hp => ?_
          refine k p [] H3 (fresh_back (e1.trans e2) np) ((e1.trans e2).trans e3) hp (fun j => ?_) (Nat.zero_le _)
          rw [go_atom]
          refine ⟨fun z => (nomatch z), fun ⟨_, x, hx, hy⟩ => ?_⟩
          have := (List.getElem?_eq_some_iff.mp hx).1
          omega
      | eith a b =>
        obtain ⟨q, q2, h1, T1, T2⟩ := T
        obtain ⟨d', rfl⟩ : ∃ d', d = d' + 1 := by
          cases d with
          | zero => exact O.elim
          | succ d' => exact ⟨d', rfl⟩
        have O : TrOk xs d' a ∧ TrOk xs d' b := O
        refine s_when (b := false) (et_atm rfl h1 rfl rfl) (fun z => Bool.noConfusion z) fun _ H1 e1 => ?_
        refine s_seq ?_
        refine s_when (b := true) (et_knd rfl (e1 _ _ h1) rfl rfl) (fun _ H2 e2 => ?_) fun z => Bool.noConfusion z
        have e12 := e1.trans e2
        unfold tRet tOp
        refine rec1 (j := 1) rfl rfl rfl (e12 _ _ h1) rfl (T1.mono e12) O.1 (e12 _ _ hw) hs (ev_var rfl) fun p1 es1 H3 np1 e3 hp1 hE1 hl1 => ?_
        have e13 := e12.trans e3
        refine rec1 (j := 2) rfl rfl rfl (e13 _ _ h1) rfl (T2.mono e13) O.2 (e13 _ _ hw) hs (ev_var rfl) fun p2 es2 H4 np2 e4 hp2 hE2 hl2 => ?_
        have hb3 := bE_le (d := d') (by omega)
        have hbd : bE (d' + 1) = 11 * bE d' + 11 := rfl
        refine ⟨p1, p2, intV es1, intV es2, rfl, rfl, e4 _ _ hp1, hp2, sz_of (by rw [intV_len, intV_len]; omega), fun p np => ?_⟩
        have ea : intV es1 ++ intV es2 = intV (es1 ++ es2) := by unfold intV; rw [List.map_append]
        rw [ea]
        refine k p (es1 ++ es2) _ (fresh_back (e13.trans e4) np) ((e13.trans e4).trans (Ex.new np)) upd_same (fun j => ?_) (by rw [List.length_append]; omega)
        rw [List.mem_append, hE1 j, hE2 j, go_eith]
      | opt a =>
        obtain ⟨q, h1, T1⟩ := T
        obtain ⟨d', rfl⟩ : ∃ d', d = d' + 1 := by
          cases d with
          | zero => exact O.elim
          | succ d' => exact ⟨d', rfl⟩
        have O : TrOk xs d' a := O
        refine s_when (b := false) (et_atm rfl h1 rfl rfl) (fun z => Bool.noConfusion z) fun _ H1 e1 => ?_
        refine s_seq ?_
        refine s_when (b := false) (et_knd rfl (e1 _ _ h1) rfl rfl) (fun z => Bool.noConfusion z) fun _ H2 e2 => ?_
        have e12 := e1.trans e2
        refine s_seq ?_
        refine s_when (b := true) (et_knd rfl (e12 _ _ h1) rfl rfl) (fun _ H3 e3 => ?_) fun z => Bool.noConfusion z
        have e13 := e12.trans e3
        unfold tRet tOp
        refine (el_lst (ea_cons (ev_var (i := 2) rfl) ea_nil) (by show 1 ≤ 100000; omega) : EvL (tLst (tCons (tVar 2) tNil)) [some (.ref r), some (.ref lw), some (.int (s : Nat)), none, none, none] H3 [.int (s : Nat)]) H3 (Ex.refl _) _ fun p1 H4 np1 e4 hp1 => ?_
        have e14 := e13.trans e4
        refine rec1 (j := 1) rfl rfl rfl (e14 _ _ h1) rfl (T1.mono e14) O (e14 _ _ hw) hs (ev_var rfl) fun p2 es2 H5 np2 e5 hp2 hE2 hl2 => ?_
        have hb3 := bE_le (d := d') (by omega)
        have hbd : bE (d' + 1) = 11 * bE d' + 11 := rfl
        refine ⟨p1, p2, [.int (s : Nat)], intV es2, rfl, rfl, e5 _ _ hp1, hp2, sz_of (by rw [intV_len]; show 1 + _ ≤ _; omega), fun p np => ?_⟩
        refine k p (s :: es2) _ (fresh_back (e14.trans e5) np) ((e14.trans e5).trans (Ex.new np)) upd_same (fun j => ?_) (by rw [List.length_cons]; omega)
        rw [List.mem_cons, hE2 j, go_opt hs]
      | thn a b =>
        obtain ⟨q, q2, h1, T1, T2⟩ := T
        obtain ⟨d', rfl⟩ : ∃ d', d = d' + 1 := by
          cases d with
          | zero => exact O.elim
          | succ d' => exact ⟨d', rfl⟩
        have O : TrOk xs d' a ∧ TrOk xs d' b := O
        have hb3 := bE_le (d := d') (by omega)
        have hbd : bE (d' + 1) = 11 * bE d' + 11 := rfl
        refine s_when (b := false) (et_atm rfl h1 rfl rfl) (fun z => Bool.noConfusion z) fun _ H1 e1 => ?_
        refine s_seq ?_
        refine s_when (b := false) (et_knd rfl (e1 _ _ h1) rfl rfl) (fun z => Bool.noConfusion z) fun _ H2 e2 => ?_
        have e12 := e1.trans e2
        refine s_seq ?_
        refine s_when (b := false) (et_knd rfl (e12 _ _ h1) rfl rfl) (fun z => Bool.noConfusion z) fun _ H3 e3 => ?_
        have e13 := e12.trans e3
        refine s_seq ?_
        refine s_when (b := true) (et_knd rfl (e13 _ _ h1) rfl rfl) (fun _ H4 e4 => ?_) fun z => Bool.noConfusion z
        have e14 := e13.trans e4
        refine q_asgL (xs := []) (el_lst ea_nil (by show 0 ≤ 100000; omega)) fun F5 H5 nF5 e5 hF5 => ?_
        have e15 := e14.trans e5
        refine s_seq ?_
        unfold tFor iList
        refine rec1 (j := 1) rfl rfl rfl (e15 _ _ h1) rfl (T1.mono e15) O.1 (e15 _ _ hw) hs (ev_var rfl) fun p1 es1 H6 np1 e6 hp1 hE1 hl1 => ?_
        have e16 := e15.trans e6
        refine ⟨p1, es1, rfl, hp1, by omega, fun pd ds H7 npd e7 hpd hnd hds => ?_⟩
        have e17 := e16.trans e7
        have hdl : ds.length ≤ 11 := by
          have := nodup_bits (n := wd.length + 1) hnd fun x hx => by
            have := ((hE1 x).mp ((hds x).mp hx)).2.1
            omega
          omega
        refine ⟨pd, rfl, ⟨_, .inl (.inl hpd)⟩, for_list (xs := intV ds) (fun i σ' H' => ∃ (F : Addr) (cur : List Nat) (t4 : Option V), σ' = [some (.ref r), some (.ref lw), some (.int (s : Nat)), some (.ref F), t4, none] ∧ Ex H7 H' ∧ H' F = some (.lst (intV cur)) ∧ H F = none ∧ (∀ j, j ∈ cur ↔ ∃ c ∈ ds.take i, Go b wd c j) ∧ cur.length ≤ i * bE d')
          ⟨F5, [], none, rfl, Ex.refl _, (e6.trans e7) _ _ hF5, fresh_back e14 nF5, fun j => ⟨fun z => (nomatch z), fun ⟨c, hc, _⟩ => by rw [List.take_zero] at hc; exact (nomatch hc)⟩, Nat.zero_le _⟩ (fun i σ' H' _ ⟨_, _, _, _, e, _⟩ => sq_of (e _ _ hpd)) ?_ ?_⟩
        · rintro i v σ' H8 hx ⟨F, cur, t4, rfl, e8, hF, hF0, hcur, hcl⟩
          obtain ⟨c, hc, rfl⟩ := intV_of hx
          have hi : i < ds.length := (List.getElem?_eq_some_iff.mp hc).1
          have hcm := List.mem_of_getElem? hc
          have hcw : c ≤ wd.length := ((hE1 c).mp ((hds c).mp hcm)).2.1
          have htk : ds.take (i + 1) = ds.take i ++ [c] := by rw [List.take_succ, hc]; rfl
          have e18 := e17.trans e8
          unfold tAsg tOp
          refine ⟨_, rfl, ?_⟩
          refine rec1 (j := 2) rfl rfl rfl (e18 _ _ h1) rfl (T2.mono e18) O.2 (e18 _ _ hw) hcw (ev_var rfl) fun p2 es2 H9 np2 e9 hp2 hE2 hl2 => ?_
          have hmul : i * bE d' ≤ 10 * bE d' := Nat.mul_le_mul_right _ (by omega)
          refine ⟨F, p2, intV cur, intV es2, rfl, rfl, e9 _ _ hF, hp2, sz_of (by rw [intV_len, intV_len]; omega), fun p np => ?_⟩
          have ea : intV cur ++ intV es2 = intV (cur ++ es2) := by unfold intV; rw [List.map_append]
          rw [ea]
          refine ⟨p, cur ++ es2, _, rfl, (e8.trans e9).trans (Ex.new np), upd_same, fresh_back (e18.trans e9) np, fun j => ?_, ?_⟩
          · rw [List.mem_append, hcur j, hE2 j, htk]
            constructor
            · rintro (⟨c', h, h'⟩ | h)
              · exact ⟨c', List.mem_append_left _ h, h'⟩
              · exact ⟨c, List.mem_append_right _ List.mem_cons_self, h⟩
            · rintro ⟨c', h, h'⟩
              rcases List.mem_append.mp h with h | h
              · exact .inl ⟨c', h, h'⟩
              · rw [List.mem_singleton.mp h] at h'
                exact .inr h'
          · rw [List.length_append, Nat.succ_mul]
            omega
        · rintro σ' H8 ⟨F, cur, t4, rfl, e8, hF, hF0, hcur, hcl⟩
          rw [intV_len, List.take_length] at hcur
          rw [intV_len] at hcl
          have hmul : ds.length * bE d' ≤ 11 * bE d' := Nat.mul_le_mul_right _ hdl
          refine s_ret (ev_var (i := 3) rfl) fun H9 e9 => ?_
          refine k F cur H9 hF0 ((e17.trans e8).trans e9) (e9 _ _ hF) (fun j => ?_) (by omega)
          rw [hcur j, go_thn]
          exact ⟨fun ⟨c, hc, h⟩ => ⟨c, (hE1 c).mp ((hds c).mp hc), h⟩, fun ⟨c, hc, h⟩ => ⟨c, (hds c).mpr ((hE1 c).mpr hc), h⟩⟩
      | rep a =>
        obtain ⟨q, h1, T1⟩ := T
        obtain ⟨d', rfl⟩ : ∃ d', d = d' + 1 := by
          cases d with
          | zero => exact O.elim
          | succ d' => exact ⟨d', rfl⟩
        have O : TrOk xs d' a := O
        have hb3 := bE_le (d := d') (by omega)
        have hbd : bE (d' + 1) = 11 * bE d' + 11 := rfl
        refine s_when (b := false) (et_atm rfl h1 rfl rfl) (fun z => Bool.noConfusion z) fun _ H1 e1 => ?_
        refine s_seq ?_
        refine s_when (b := false) (et_knd rfl (e1 _ _ h1) rfl rfl) (fun z => Bool.noConfusion z) fun _ H2 e2 => ?_
        have e12 := e1.trans e2
        refine s_seq ?_
        refine s_when (b := false) (et_knd rfl (e12 _ _ h1) rfl rfl) (fun z => Bool.noConfusion z) fun _ H3 e3 => ?_
        have e13 := e12.trans e3
        refine s_seq ?_
        refine s_when (b := false) (et_knd rfl (e13 _ _ h1) rfl rfl) (fun z => Bool.noConfusion z) fun _ H4 e4 => ?_
        have e14 := e13.trans e4
        refine q_asgL (xs := intV [s]) (el_lst (ea_cons (ev_var (i := 2) rfl) ea_nil) (by show 1 ≤ 100000; omega)) fun F H5 nF e5 hF => ?_
        refine q_asg (v := .int 0) ev_c fun H6 e6 => ?_
        have hF0 : H F = none := fresh_back e14 nF
        refine q_while (fun n st H' => ∃ (fs : List Nat) (at_ : Nat) (t4 : Option V), st = [some (.ref r), some (.ref lw), some (.int (s : Nat)), some (.ref F), t4, some (.int (at_ : Nat))] ∧ n = wd.length + 2 - at_ ∧ Ex H H' ∧ H' F = some (.lst (intV fs)) ∧ fs.Nodup ∧ (∀ x ∈ fs, Go (.rep a) wd s x) ∧ s ∈ fs ∧ at_ ≤ fs.length ∧ ∀ (i x : Nat), i < at_ → fs[i]? = some x → ∀ j, Go a wd x j → j ∈ fs)
          (wd.length + 2) ⟨[s], 0, none, rfl, rfl, (e14.trans e5).trans e6, e6 _ _ hF, by simp, fun x hx => by rw [List.mem_singleton.mp hx]; exact go_rep_self hs, List.mem_cons_self, Nat.zero_le _, fun i x hi => absurd hi (Nat.not_lt_zero i)⟩ ?_
        rintro n st H7 ⟨fs, at_, t4, rfl, rfl, e7, hF7, hnd, hgo, hsf, hat, hcl⟩
        have hfl : fs.length ≤ wd.length + 1 := nodup_bits hnd fun x hx => by
          have := (hgo x hx).2.1
          omega
        refine ⟨decide ((at_ : Int) < (fs.length : Int)), et_test (ev_op (ev_var rfl) (ev_is (ev_lenA (ev_var (i := 3) rfl) (sq_of hF7)) (by rw [intV_len])) rv_I0), fun hb H8 e8 => ?_, fun hb H8 e8 => ?_⟩
        · have hlt : at_ < fs.length := by
            have := of_decide_eq_true hb
            omega
          refine ⟨_, fun σ2 H9 h => h, ?_⟩
          refine s_seq ?_
          have e08 := e7.trans e8
          have hF8 := e8 _ _ hF7
          have hxw : fs[at_] ≤ wd.length := (hgo _ (List.getElem_mem hlt)).2.1
          unfold tFor iList
          refine rec1 (j := 1) rfl rfl rfl (e08 _ _ h1) rfl (T1.mono e08) O (e08 _ _ hw) hxw (ev_op (ev_var (i := 3) rfl) (ev_var (i := 5) rfl) (rv_ixL (sq_of hF8) (at_of rfl (intV_at (List.getElem?_eq_getElem hlt))))) fun p es H9 np e9 hp hE hl => ?_
          have hpF : p ≠ F := fun z => by rw [z, hF8] at np; cases np
          refine ⟨p, rfl, ⟨_, .inl (.inl hp)⟩, for_list (xs := intV es) (fun i σ' H' => ∃ (gs : List Nat) (t4 : Option V), σ' = [some (.ref r), some (.ref lw), some (.int (s : Nat)), some (.ref F), t4, some (.int (at_ : Nat))] ∧ Ex H H' ∧ H' F = some (.lst (intV (fs ++ gs))) ∧ H' p = some (.lst (intV es)) ∧ (fs ++ gs).Nodup ∧ (∀ x ∈ fs ++ gs, Go (.rep a) wd s x) ∧ ∀ x ∈ es.take i, x ∈ fs ++ gs)
            ⟨[], t4, rfl, e08.trans e9, by rw [List.append_nil]; exact e9 _ _ hF8, hp, by rw [List.append_nil]; exact hnd, by rw [List.append_nil]; exact hgo, fun x hx => by rw [List.take_zero] at hx; exact (nomatch hx)⟩ (fun i σ' H' _ ⟨_, _, _, _, _, h, _⟩ => sq_of h) ?_ ?_⟩
          · rintro i v σ' H10 hx ⟨gs, t4', rfl, e10, hF10, hp10, hnd10, hgo10, htk10⟩
            obtain ⟨x, hx1, rfl⟩ := intV_of hx
            have hxm := List.mem_of_getElem? hx1
            have htk : es.take (i + 1) = es.take i ++ [x] := by rw [List.take_succ, hx1]; rfl
            have hgx := go_rep_more (hgo _ (List.getElem_mem hlt)) ((hE x).mp hxm)
            refine s_when (b := !decide (x ∈ fs ++ gs)) (et_test (ev_is (ev_op (ev_var (i := 4) rfl) (ev_var (i := 3) rfl) (rv_niL (sq_of hF10) rfl (flat_int _))) (by rw [inV_int]))) (fun hb H11 e11 => ?_) fun hb H11 e11 => ?_
            · have hnx : x ∉ fs ++ gs := by
                intro z
                rw [decide_eq_true z] at hb
                exact Bool.noConfusion hb
              have hlen10 : (fs ++ gs).length ≤ wd.length + 1 := nodup_bits hnd10 fun x hx => by
                have := (hgo10 x hx).2.1
                omega
              refine s_app (l := F) (xs := intV (fs ++ gs)) (v := .int (x : Nat)) (e11 _ _ hF10) (ev_var (i := 3) rfl) (ev_var (i := 4) rfl) (by rw [intV_len]; omega) fun H12 e12 => ?_
              have ea : intV (fs ++ gs) ++ [V.int (x : Nat)] = intV (fs ++ (gs ++ [x])) := by rw [← List.append_assoc]; unfold intV; rw [List.map_append (l₂ := [x])]; rfl
              rw [ea]
              refine ⟨gs ++ [x], _, rfl, Ex.mut ((e10.trans e11).trans e12) hF0, upd_same, (upd_ne hpF).trans (e12 _ _ (e11 _ _ hp10)), ?_, ?_, ?_⟩
              · rw [← List.append_assoc, List.nodup_append]
                refine ⟨hnd10, by simp, fun y hy z hz => ?_⟩
                rw [List.mem_singleton.mp hz]
                intro e
                rw [e] at hy
                exact hnx hy
              · intro y hy
                rw [← List.append_assoc] at hy
                rcases List.mem_append.mp hy with hy | hy
                · exact hgo10 y hy
                · rw [List.mem_singleton.mp hy]
                  exact hgx
              · intro y hy
                rw [← List.append_assoc]
                rw [htk] at hy
                rcases List.mem_append.mp hy with hy | hy
                · exact List.mem_append_left _ (htk10 y hy)
                · exact List.mem_append_right _ hy
            · have hix : x ∈ fs ++ gs := by
                refine Classical.byContradiction fun z => ?_
                rw [decide_eq_false z] at hb
                exact Bool.noConfusion hb
              refine ⟨gs, _, rfl, e10.trans e11, e11 _ _ hF10, e11 _ _ hp10, hnd10, hgo10, fun y hy => ?_⟩
              rw [htk] at hy
              rcases List.mem_append.mp hy with hy | hy
              · exact htk10 y hy
              · rw [List.mem_singleton.mp hy]
                exact hix
          · rintro σ' H10 ⟨gs, t4', rfl, e10, hF10, hp10, hnd10, hgo10, htk10⟩
            rw [intV_len, List.take_length] at htk10
            refine s_asg (v := .int ((at_ + 1 : Nat) : Int)) (ev_is (ev_op (ev_var (i := 5) rfl) ev_c rv_I0) rfl) fun H11 e11 => ?_
            refine ⟨wd.length + 2 - (at_ + 1), by omega, fs ++ gs, at_ + 1, _, rfl, rfl, e10.trans e11, e11 _ _ hF10, hnd10, hgo10, List.mem_append_left _ hsf, by rw [List.length_append]; omega, fun i x hi hx j hj => ?_⟩
            by_cases hia : i < at_
            · rw [List.getElem?_append_left (by omega)] at hx
              exact List.mem_append_left _ (hcl i x hia hx j hj)
            · have ei : i = at_ := by omega
              subst ei
              rw [List.getElem?_append_left hlt, List.getElem?_eq_getElem hlt] at hx
              rw [← Option.some.inj hx] at hj
              exact htk10 j ((hE j).mpr hj)
        · have hge : at_ = fs.length := by
            have := of_decide_eq_false hb
            omega
          subst hge
          refine s_ret (ev_var (i := 3) rfl) fun H9 e9 => ?_
          refine k F fs H9 hF0 ((e7.trans e8).trans e9) (e9 _ _ (e8 _ _ hF7)) (fun j => ⟨hgo j, fun h => ?_⟩) (by omega)
          refine go_rep_closed (S := fun x => x ∈ fs) (fun x y hx hxy => ?_) hsf h
          obtain ⟨i, hi, rfl⟩ := List.getElem_of_mem hx
          exact hcl i _ hi (List.getElem?_eq_getElem hi) y hxy
end
end K14

set_option Elab.async false
set_option linter.all false
set_option maxRecDepth 100000
set_option maxHeartbeats 4000000
/-! All short words; the names of a tree; whether a pattern reads as its tree does. -/
namespace K14
open PySem PySem.Spec PyProof.Rows L2 Vl Evl Vp Vc Ve Ven Vg Vb Vt Vlt Vsa Vle Vo
abbrev sAw : Stmt := top 71
abbrev nAw : List Str := ["_law_names_here", "_law_most", "_law_rows", "_law_found", "_law_length", "_law_longer", "_law_row", "_law_name"]
abbrev nNo2 : List Str := ["_law_tree_here", "_law_found", "_law_part"]
abbrev nRi : List Str := ["_law_pattern_here", "_law_tree_here", "_law_lanes", "_law_due"]
/-- rows of names -/
abbrev Rws : Type := List (Addr × List Nm)
def RwsAt (H : Hp) (rows : Rws) : Prop := ∀ r ∈ rows, H r.1 = some (.lst (vtx r.2))
theorem RwsAt.mono {H H' : Hp} {rows : Rws} (e : Ex H H') (h : RwsAt H rows) : RwsAt H' rows := fun r hr => e _ _ (h r hr)
section
variable {K : PySem.W.Frag} {te tl : TE} {σ : L2.St} {H : Hp}
/-- [a new list for x in xs] -/
theorem el_lcNL {α : Type} {ys : List α} {g : α → V} {a : Addr} {j : Nat} {vs : List Nat} (W : α → List Nm) (h : Ev tl σ H (.ref a)) (hx : SqL K H a (ys.map g)) (hz : ys.length ≤ 40000) (hw : ∀ x, wipe ((wipe σ vs).set j (some x)) vs = wipe σ vs)
    (he : ∀ (y : α) (H1 : Hp), Ex H H1 → y ∈ ys → EvL te ((wipe σ vs).set j (some (g y))) H1 (vtx (W y))) :
    ∀ H1, Ex H H1 → ∀ Q : VK, (∀ p (rows : Rws) H2, H1 p = none → Ex H1 H2 → H2 p = some (.lst (rfs rows)) → rows.map (·.2) = ys.map W → RwsAt H2 rows → (∀ r ∈ rows, r.1 ≠ p) → Q (.ref p) H2) → tLc (iList K tl) (gName j) tYes te vs σ H1 Q := fun H0 e Q q => h H0 e _ fun H1 e1 => ⟨a, rfl, ⟨ys.map g, ex_l (e.trans e1) hx⟩, fun D hD => by
  refine lc_list (xs := ys.map g) (fun i H' => ∃ rows : Rws, Ex H1 H' ∧ H' D = some (.lst (rfs rows)) ∧ rows.map (·.2) = (ys.take i).map W ∧ RwsAt H' rows ∧ ∀ r ∈ rows, r.1 ≠ D) ⟨[], Ex.new hD, upd_same, by rw [List.take_zero]; rfl, (fun _ h => nomatch h), fun _ h => nomatch h⟩
    (fun i H' _ ⟨_, e2, _⟩ => ex_l ((e.trans e1).trans e2) hx) (fun i x H' hi ⟨rows, e2, hD2, hm, hr, hn⟩ => ⟨hw x, ?_⟩) (fun H' ⟨rows, e2, hD2, hm, hr, hn⟩ => q D rows H' (fresh_back e1 hD) (e1.trans e2) hD2 (by rw [List.length_map, List.take_length] at hm; exact hm) hr hn)
  rw [List.getElem?_map] at hi
  obtain ⟨y, hy, rfl⟩ := Option.map_eq_some_iff.mp hi
  have htk : ys.take (i + 1) = ys.take i ++ [y] := by rw [List.take_succ, hy]; rfl
  refine (et_yes : EvT tYes _ _ true) _ (Ex.refl _) _ fun H3 e3 => ?_
  rw [if_pos rfl]
  refine he y H3 (((e.trans e1).trans e2).trans e3) (List.mem_of_getElem? hy) H3 (Ex.refl _) _ fun p H4 np e4 hp => ?_
  have hD4 := e4 _ _ (e3 _ _ hD2)
  have hpD : p ≠ D := fun z => by rw [z, e3 _ _ hD2] at np; cases np
  have hlen : rows.length ≤ 40000 := by
    have := congrArg List.length hm
    rw [List.length_map, List.length_map, List.length_take] at this
    omega
  refine ⟨rfs rows, hD4, sz_lt (by rw [rfs_len]; omega), rows ++ [(p, W y)], Ex.mut ((e2.trans e3).trans e4) hD, ?_, ?_, ?_, ?_⟩
  · rw [upd_same]
    unfold rfs
    rw [List.map_append]
    rfl
  · rw [htk, List.map_append, List.map_append, hm]
    rfl
  · intro r hr'
    rcases List.mem_append.mp hr' with hr' | hr'
    · exact (upd_ne (hn r hr')).trans (e4 _ _ (e3 _ _ (hr r hr')))
    · rw [List.mem_singleton.mp hr']
      exact (upd_ne hpD).trans hp
  · intro r hr'
    rcases List.mem_append.mp hr' with hr' | hr'
    · exact hn r hr'
    · rw [List.mem_singleton.mp hr']
      exact hpD⟩
end
/-- rows of at most n of these names -/
def Of (xs : List Nm) (n : Nat) (rows : Rws) : Prop := ∀ r ∈ rows, (∀ x ∈ r.2, x ∈ xs) ∧ r.2.length ≤ n
def spAw : Sp := fun vs H Q _ => ∃ (l : Addr) (xs : List Nm) (n : Nat), vs = [.ref l, .int (n : Nat)] ∧ H l = some (.lst (vtx xs)) ∧ xs.length ≤ 4 ∧ n ≤ 4 ∧ ∀ p rows H', H p = none → Ex H H' → H' p = some (.lst (rfs rows)) → RwsAt H' rows → Of xs n rows → Q (.ref p) H'
def spIw : Sp := fun vs H Q _ => ∃ (r lw : Addr) (t : Tr) (xs wd : List Nm), vs = [.ref r, .ref lw] ∧ TrAt H t r ∧ TrOk xs 3 t ∧ H lw = some (.lst (vtx wd)) ∧ wd.length ≤ 10 ∧ ∀ b H', (b = true ↔ t.L wd) → Ex H H' → Q (.bl b) H'
section
variable {P : Program} {w : World} {K : PySem.W.Frag} {mg : Str → Option Value} {base : Heap} {CA CP : Addr}
theorem rfs_app (a b : Rws) : rfs a ++ rfs b = rfs (a ++ b) := by unfold rfs; rw [List.map_append]
theorem Of.mem {xs : List Nm} {n : Nat} {a b : Rws} (h : Of xs n a) (h2 : Of xs n b) : Of xs n (a ++ b) := fun r hr => (List.mem_append.mp hr).elim (h r) (h2 r)
theorem Of.le {xs : List Nm} {n m : Nat} {a : Rws} (h : Of xs n a) (hm : n ≤ m) : Of xs m a := fun r hr => ⟨(h r hr).1, Nat.le_trans (h r hr).2 hm⟩
theorem RwsAt.app {H : Hp} {a b : Rws} (h : RwsAt H a) (h2 : RwsAt H b) : RwsAt H (a ++ b) := fun r hr => (List.mem_append.mp hr).elim (h r) (h2 r)
theorem vtx_snoc (xs : List Nm) (x : Nm) : vtx xs ++ [V.str (tx x)] = vtx (xs ++ [x]) := by unfold vtx; rw [List.map_append]; rfl
/-- x = [[]] -/
theorem q_asgLL {σ : L2.St} {H : Hp} {D : L2.Ends} {tz : TS} {i : Nat} (h : ∀ (q0 p0 : Addr) (H2 : Hp), H p0 = none → Ex H H2 → H2 p0 = some (.lst [.ref q0]) → H2 q0 = some (.lst []) → tz D (σ.set i (some (.ref p0))) H2) : tSeq (tAsg (tLst (tCons (tLst tNil) tNil)) (gName i)) tz D σ H :=
  el_lst (σ := σ) (H := H) (vs := []) ea_nil (by show 0 ≤ 100000; omega) H (Ex.refl _) (fun x H1 => [x].length ≤ sizeLine ∧ ∀ p, H1 p = none → tz D (σ.set i (some (.ref p))) (upd H1 p (.lst [x]))) fun q0 H1 nq0 e1 hq0 => ⟨sz_of (by show 1 ≤ 100000; omega), fun p0 np0 => h q0 p0 _ (fresh_back e1 np0) (e1.trans (Ex.new np0)) upd_same (Ex.new np0 _ _ hq0)⟩
theorem scAw : FnScope nAw ["_law_names_here", "_law_most"] (defScope sAw) := ⟨rfl, rfl, rfl, by decide +kernel, rfl, by decide +kernel, by decide +kernel⟩
theorem ok_aw {f : Addr} {fd : FuncData} (F : FnP K "_law_all_words" sAw f fd) (mRange : mg "range" = none) : FnOk P w K mg base L2.CX0 1 f fd ["_law_names_here", "_law_most"] spAw := by
  refine F.ok (CX := L2.CX0) scAw (fun vs H Q E h => ?_) (fun cdv A' outer s H vs Q E hr h => ?_)
  · obtain ⟨l, xs, n, rfl, _⟩ := h
    rfl
  · refine ⟨_, (pss_cons (ps_set (i := 2) scAw.nd rfl (by first | exact Or.inl rfl | exact Or.inr rfl) (pe_lst (pa_cons (pe_lst pa_nil) pa_nil)))
      (pss_cons (ps_set (i := 3) scAw.nd rfl (by first | exact Or.inl rfl | exact Or.inr rfl) (pe_lst (pa_cons (pe_lst pa_nil) pa_nil)))
      (pss_cons (ps_for (passes_of rfl) rfl (pi_range1 (by rfl) mRange (pa_cons (pv 1) pa_nil)) (pg_name (i := 4) scAw.nd rfl (by first | exact Or.inl rfl | exact Or.inr rfl)) (pss_cons (ps_set (i := 5) scAw.nd rfl (by first | exact Or.inl rfl | exact Or.inr rfl) (pe_lst pa_nil))
      (pss_cons (ps_for (passes_of rfl) rfl (pi_list (pv 2)) (pg_name (i := 6) scAw.nd rfl (by first | exact Or.inl rfl | exact Or.inr rfl)) (pss_one (ps_set (i := 5) scAw.nd rfl (by first | exact Or.inl rfl | exact Or.inr rfl) (pe_op op_cat (pv 5) (pe_lc (own := [("_law_name", 7)]) (g := (gName 7)) (tt := tYes) (te := (tOp rCat (tVar 6) (tLst (tCons (tVar 7) tNil)))) rfl scAw.nd (pi_list (pv 0)) (blkOk_by (own := [("_law_name", 7)]) (N := nAw) (sc := defScope sAw) (by decide +kernel)) (fun _ _ _ _ _ => (pg_name (i := 7) scAw.nd rfl (by first | exact Or.inl rfl | exact Or.inr rfl))) (fun _ _ _ _ _ => pts_nil) (fun _ _ _ _ _ => (pe_op op_cat (pv 6) (pe_lst (pa_cons (pv 7) pa_nil)))))))))
      (pss_cons (ps_set (i := 2) scAw.nd rfl (by first | exact Or.inl rfl | exact Or.inr rfl) (pv 5))
      (pss_one (ps_set (i := 3) scAw.nd rfl (by first | exact Or.inl rfl | exact Or.inr rfl) (pe_op op_cat (pv 3) (pv 2))))))))
      (pss_one (ps_ret (pv 3)))))), ?_⟩
    obtain ⟨l, xs, n, rfl, hl, hx4, hn4, k⟩ := h
    refine q_asgLL fun q0 p0 H2 nH0 e2 hp0 hq0 => ?_
    refine q_asgLL fun q1 p1 H4 np1 e4 hp1 hq1 => ?_
    have e14 := e2.trans e4
    have nH1 : H p1 = none := fresh_back e2 np1
    have R0 : RwsAt H4 [(q0, [])] := fun r hr => by rw [List.mem_singleton.mp hr]; exact e4 _ _ hq0
    have R1 : RwsAt H4 [(q1, [])] := fun r hr => by rw [List.mem_singleton.mp hr]; exact hq1
    have hp0' := e4 _ _ hp0
    have o1 : ∀ q : Addr, Of xs 0 [(q, [])] := fun q r hr => by rw [List.mem_singleton.mp hr]; exact ⟨(fun _ h => nomatch h), Nat.le_refl _⟩
    refine s_seq ?_
    refine s_forR1 (n := (n : Int)) (ea_cons (ev_var (i := 1) rfl) ea_nil) (by omega) (fun i st H' => ∃ (pr pf : Addr) (rows found : Rws) (t4 t5 t6 : Option V), st = [some (.ref l), some (.int (n : Nat)), some (.ref pr), some (.ref pf), t4, t5, t6, none] ∧ Ex H4 H' ∧ H' pr = some (.lst (rfs rows)) ∧ H' pf = some (.lst (rfs found)) ∧ H pf = none ∧ RwsAt H' rows ∧ RwsAt H' found ∧ Of xs i rows ∧ Of xs i found ∧ rows.length ≤ 4 ^ i ∧ found.length ≤ 4 ^ (i + 1))
      (fun H5 e5 => ⟨p0, p1, [(q0, [])], [(q1, [])], none, none, none, rfl, e5, e5 _ _ hp0', e5 _ _ hp1, nH1, R0.mono e5, R1.mono e5, o1 q0, o1 q1, Nat.le_refl _, (by show 1 ≤ 4; omega)⟩) ?_ ?_
    · rintro i st H5 hi ⟨pr, pf, rows, found, t4, t5, t6, rfl, e5, hpr, hpf, nf, Rr, Rf, Or_, Of_, lr, lf⟩
      have hi4 : i < 4 := by omega
      have h4i : 4 ^ i ≤ 64 := by
        match i, hi4 with
        | 0, _ => decide
        | 1, _ => decide
        | 2, _ => decide
        | 3, _ => decide
      have h4s : 4 ^ (i + 1) = 4 * 4 ^ i := by rw [Nat.pow_succ]; omega
      have h4t : 4 ^ (i + 1 + 1) = 4 * 4 ^ (i + 1) := by rw [Nat.pow_succ]; omega
      have e05 := e14.trans e5
      dsimp only [List.set]
      refine q_asgL (xs := []) (el_lst ea_nil (by show 0 ≤ 100000; omega)) fun pl H6 npl e6 hpl => ?_
      dsimp only [List.set]
      have e06 := e05.trans e6
      refine s_seq ?_
      refine s_forL (a := pr) (xs := rfs rows) (ev_var (i := 2) rfl) (sq_of (e6 _ _ hpr)) (fun j st H' => ∃ (pg : Addr) (lg : Rws) (t6 : Option V), st = [some (.ref l), some (.int (n : Nat)), some (.ref pr), some (.ref pf), some (.int (i : Nat)), some (.ref pg), t6, none] ∧ Ex H6 H' ∧ H' pg = some (.lst (rfs lg)) ∧ RwsAt H' lg ∧ Of xs (i + 1) lg ∧ lg.length ≤ 4 * j)
        (fun H7 e7 => ⟨pl, [], t6, rfl, e7, e7 _ _ hpl, (fun _ h => nomatch h), (fun _ h => nomatch h), Nat.zero_le _⟩) (fun j st H' _ ⟨_, _, _, _, e, _⟩ => sq_of ((e6.trans e) _ _ hpr)) ?_ ?_
      · rintro j x st H7 hx ⟨pg, lg, t6', rfl, e7, hpg, Rg, Og, lgl⟩
        obtain ⟨r, hr', rfl⟩ := rfs_of hx
        have hjl : j < rows.length := (List.getElem?_eq_some_iff.mp hr').1
        have hrm := List.mem_of_getElem? hr'
        have hrow := (e6.trans e7) _ _ (Rr r hrm)
        have hrl := (Or_ r hrm).2
        have hls := (e06.trans e7) _ _ hl
        unfold tAsg tOp
        refine ⟨_, rfl, ?_⟩
        refine el_lcNL (K := K) (tl := tVar 0) (te := tOp rCat (tVar 6) (tLst (tCons (tVar 7) tNil))) (ys := xs) (g := fun x => V.str (tx x)) (a := l) (j := 7) (vs := [7]) (fun x => r.2 ++ [x]) (ev_var rfl) (sq_of hls) (by omega) (fun _ => rfl) (fun y H8 e8 hy => ?_) H7 (Ex.refl _) _ fun pc cs H8 npc e8 hpc hcs Rc _ => ?_
        · rw [← vtx_snoc]
          exact Vtx.el_catA (ev_var rfl) (e8 _ _ hrow) (el_lst (ea_cons (ev_var rfl) ea_nil) (by show 1 ≤ 100000; omega)) (by rw [vtx_len]; show _ + 1 ≤ _; omega)
        · have hcl : cs.length = xs.length := by
            have := congrArg List.length hcs
            rw [List.length_map, List.length_map] at this
            exact this
          refine ⟨pg, pc, rfs lg, rfs cs, rfl, rfl, e8 _ _ hpg, hpc, sz_of (by rw [rfs_len, rfs_len]; omega), fun p np => ?_⟩
          rw [rfs_app]
          refine ⟨p, lg ++ cs, _, rfl, (e7.trans e8).trans (Ex.new np), upd_same, ((Rg.mono e8).app Rc).mono (Ex.new np), Og.mem fun c hc => ?_, by rw [List.length_append]; omega⟩
          have : c.2 ∈ cs.map (·.2) := List.mem_map_of_mem hc
          rw [hcs] at this
          obtain ⟨y, hy, hy2⟩ := List.mem_map.mp this
          rw [← hy2]
          refine ⟨fun z hz => ?_, by rw [List.length_append]; show _ + 1 ≤ _; omega⟩
          rcases List.mem_append.mp hz with hz | hz
          · exact (Or_ r hrm).1 z hz
          · rw [List.mem_singleton.mp hz]
            exact hy
      · rintro st H7 ⟨pg, lg, t6', rfl, e7, hpg, Rg, Og, lgl⟩
        rw [rfs_len] at lgl
        refine q_asg (v := .ref pg) (ev_var (i := 5) rfl) fun H8 e8 => ?_
        dsimp only [List.set]
        have hpf8 := ((e6.trans e7).trans e8) _ _ hpf
        unfold tAsg tOp
        refine ⟨_, rfl, _, rfl, pf, pg, rfs found, rfs lg, rfl, rfl, hpf8, e8 _ _ hpg, sz_of (by rw [rfs_len, rfs_len]; omega), fun p np => ?_⟩
        rw [rfs_app]
        have en := Ex.new (o := .lst (rfs (found ++ lg))) np
        have E8 := (e6.trans e7).trans e8
        exact ⟨pg, p, lg, found ++ lg, _, _, _, rfl, (e5.trans E8).trans en, en _ _ (e8 _ _ hpg), upd_same, fresh_back (e05.trans E8) np, (Rg.mono e8).mono en, (((Rf.mono E8).app (Rg.mono e8))).mono en, Og, (Of_.le (Nat.le_succ _)).mem Og, by omega, by rw [List.length_append]; omega⟩
    · rintro st H5 ⟨pr, pf, rows, found, t4, t5, t6, rfl, e5, hpr, hpf, nf, Rr, Rf, Or_, Of_, lr, lf⟩
      exact s_ret (ev_var (i := 3) rfl) fun H6 e6 => k pf found H6 nf ((e14.trans e5).trans e6) (e6 _ _ hpf) (Rf.mono e6) Of_
theorem nmsOf_app (a b : List Op) : nmsOf (a ++ b) = nmsOf a ++ nmsOf b := List.flatMap_append
theorem tr_nms : ∀ {xs : List Nm} {t : Tr} {d : Nat}, TrOk xs d t → (nmsOf t.steps).length ≤ 2 ^ (d + 1)
  | xs, .atom n ys, d, h => by
    have h2 : 2 ≤ 2 ^ (d + 1) := Nat.le_self_pow (by omega) 2
    have h3 : ys.length ≤ 2 := by cases d <;> exact h.2.1
    have : nmsOf (Tr.atom n ys).steps = ys := by show ys ++ [] = ys; rw [List.append_nil]
    rw [this]
    omega
  | xs, .thn a b, d + 1, ⟨h1, h2⟩ => by
    have e1 := tr_nms h1
    have e2 := tr_nms h2
    have e3 : 2 ^ (d + 1 + 1) = 2 ^ (d + 1) * 2 := Nat.pow_succ 2 (d + 1)
    show (nmsOf (a.steps ++ (b.steps ++ [.thn]))).length ≤ _
    rw [nmsOf_app, nmsOf_app, List.length_append, List.length_append]
    show _ + (_ + 0) ≤ _
    omega
  | xs, .eith a b, d + 1, ⟨h1, h2⟩ => by
    have e1 := tr_nms h1
    have e2 := tr_nms h2
    have e3 : 2 ^ (d + 1 + 1) = 2 ^ (d + 1) * 2 := Nat.pow_succ 2 (d + 1)
    show (nmsOf (a.steps ++ (b.steps ++ [.eith]))).length ≤ _
    rw [nmsOf_app, nmsOf_app, List.length_append, List.length_append]
    show _ + (_ + 0) ≤ _
    omega
  | xs, .rep a, d + 1, h => by
    have e1 := tr_nms (d := d) h
    have e3 : 2 ^ (d + 1 + 1) = 2 ^ (d + 1) * 2 := Nat.pow_succ 2 (d + 1)
    show (nmsOf (a.steps ++ [.rep])).length ≤ _
    rw [nmsOf_app, List.length_append]
    show _ + 0 ≤ _
    omega
  | xs, .opt a, d + 1, h => by
    have e1 := tr_nms (d := d) h
    have e3 : 2 ^ (d + 1 + 1) = 2 ^ (d + 1) * 2 := Nat.pow_succ 2 (d + 1)
    show (nmsOf (a.steps ++ [.opt])).length ≤ _
    rw [nmsOf_app, List.length_append]
    show _ + 0 ≤ _
    omega
theorem scIw : FnScope nIw ["_law_tree_here", "_law_lanes"] (defScope sIw) := ⟨rfl, rfl, rfl, by decide +kernel, rfl, by decide +kernel, by decide +kernel⟩
theorem ok_iw {f : Addr} {fd : FuncData} (F : FnP K "_law_is_word" sIw f fd) (TEo : Fu P w K mg base L2.CX0 5 "_law_ends_of" (spEo 4)) (mLen : mg "len" = none) : FnOk P w K mg base L2.CX0 6 f fd ["_law_tree_here", "_law_lanes"] spIw := by
  refine F.ok (CX := L2.CX0) scIw (fun vs H Q E h => ?_) (fun cdv A' outer s H vs Q E hr h => ?_)
  · obtain ⟨r, lw, t, xs, wd, rfl, _⟩ := h
    rfl
  · refine ⟨_, (pss_one (ps_ret (pe_cmpR op_in_seq (pe_callB call_len (by rfl) mLen boot_len (pa_cons (pv 1) pa_nil)) (pe_fu TEo hr (by rfl) (pa_cons (pv 0) (pa_cons (pv 1) (pa_cons pe_int pa_nil)))) rfl))), ?_⟩
    obtain ⟨r, lw, t, xs, wd, rfl, T, O, hw, hw10, k⟩ := h
    unfold tRet tOp
    refine (ev_is (ev_lenA (ev_var (i := 1) rfl) (sq_of hw)) (by rw [vtx_len]) : Ev (tCB (fun xs H Q => ∃ x n, xs = [x] ∧ LenV K x H n ∧ Q (.int n) H) (tCons (tVar 1) tNil)) [some (.ref r), some (.ref lw)] H (.int (wd.length : Nat))) H (Ex.refl _) _ fun H1 e1 => ?_
    refine ⟨_, rfl, _, rfl, r, lw, (0 : Nat), t, (3 : Nat), xs, wd, rfl, Nat.le_refl 3, Nat.le_refl 3, T.mono e1, O, e1 _ _ hw, hw10, Nat.zero_le _, fun p es H2 np e2 hp hE hl => ?_⟩
    refine rv_isL (sq_of hp) rfl (flat_int _) H2 (Ex.refl _) _ fun H3 e3 => k _ H3 ?_ ((e1.trans e2).trans e3)
    rw [inV_int, decide_eq_true_iff, hE, go_word]
end
end K14

set_option Elab.async false
set_option linter.all false
set_option maxRecDepth 100000
set_option maxHeartbeats 4000000
/-! Readings for the law. -/
namespace K14
open PySem PySem.Spec PyProof.Rows L2 Vl Evl Vp Vc Ve Ven Vg Vb Vt Vlt Vsa Vle Vo Vr Vda
/-- each once -/
def uniq (ns : List Nm) : Nat → List Nm
  | 0 => []
  | n + 1 => if ns.getD n [] ∈ ns.take n then uniq ns n else uniq ns n ++ [ns.getD n []]
theorem uniq_ok (ns : List Nm) : ∀ n, n ≤ ns.length → (uniq ns n).Nodup ∧ (∀ x, x ∈ uniq ns n ↔ x ∈ ns.take n) ∧ (uniq ns n).length ≤ n
  | 0, _ => ⟨.nil, fun x => by rw [List.take_zero]; exact Iff.rfl, Nat.le_refl _⟩
  | n + 1, h => by
    obtain ⟨h1, h2, h3⟩ := uniq_ok ns n (by omega)
    have hl : n < ns.length := by omega
    have e : ns.getD n [] = ns[n] := by rw [List.getD_eq_getElem?_getD, List.getElem?_eq_getElem hl]; rfl
    have htk : ns.take (n + 1) = ns.take n ++ [ns[n]] := by rw [List.take_succ, List.getElem?_eq_getElem hl]; rfl
    unfold uniq
    rw [e]
    by_cases hm : ns[n] ∈ ns.take n
    · rw [if_pos hm]
      refine ⟨h1, fun x => ?_, by omega⟩
      rw [h2, htk, List.mem_append, List.mem_singleton]
      exact ⟨.inl, fun z => z.elim id fun z => by rw [z]; exact hm⟩
    · rw [if_neg hm]
      refine ⟨?_, fun x => ?_, by rw [List.length_append, List.length_singleton]; omega⟩
      · rw [List.nodup_append]
        refine ⟨h1, by simp, fun a ha b hb => ?_⟩
        rw [List.mem_singleton.mp hb]
        intro z
        rw [z] at ha
        exact hm ((h2 _).mp ha)
      · rw [htk, List.mem_append, List.mem_append, h2]
theorem uniq_given (ns : List Nm) : ∀ n, given n (fun i => !decide (ns.getD i [] ∈ ns.take i)) (fun i => .str (tx (ns.getD i []))) = vtx (uniq ns n)
  | 0 => rfl
  | n + 1 => by
    have ih := uniq_given ns n
    unfold uniq
    by_cases hm : ns.getD n [] ∈ ns.take n
    · rw [if_pos hm, given_no (by rw [decide_eq_true hm]; rfl), ih]
    · rw [if_neg hm, given_yes (by rw [decide_eq_false hm]; rfl), ih]
      unfold vtx
      rw [List.map_append]
      rfl
theorem given_none (v : Nat → V) : ∀ n, given n (fun _ => false) v = [] := fun n => by
  unfold given
  rw [List.filter_eq_nil_iff.mpr (fun _ _ z => by cases z)]
  rfl
theorem SrtT.nms : ∀ {t T : Tr}, SrtT t T → (∀ x, x ∈ nmsOf T.steps ↔ x ∈ nmsOf t.steps) ∧ (nmsOf T.steps).length ≤ (nmsOf t.steps).length
  | .atom n xs, .atom m ys, ⟨_, h⟩ => by
    have e1 : nmsOf (Tr.atom n xs).steps = xs := by show xs ++ [] = xs; rw [List.append_nil]
    have e2 : nmsOf (Tr.atom m ys).steps = ys := by show ys ++ [] = ys; rw [List.append_nil]
    rw [e1, e2]
    exact ⟨h.mem, h.len⟩
  | .thn a b, .thn c d, ⟨h1, h2⟩ => by
    obtain ⟨a1, a2⟩ := SrtT.nms h1
    obtain ⟨b1, b2⟩ := SrtT.nms h2
    show (∀ x, x ∈ nmsOf (c.steps ++ (d.steps ++ [.thn])) ↔ x ∈ nmsOf (a.steps ++ (b.steps ++ [.thn]))) ∧ (nmsOf (c.steps ++ (d.steps ++ [.thn]))).length ≤ (nmsOf (a.steps ++ (b.steps ++ [.thn]))).length
    rw [nmsOf_app, nmsOf_app, nmsOf_app, nmsOf_app]
    refine ⟨fun x => ?_, ?_⟩
    · rw [List.mem_append, List.mem_append, List.mem_append, List.mem_append, a1, b1]
    · rw [List.length_append, List.length_append, List.length_append, List.length_append]
      omega
  | .eith a b, .eith c d, ⟨h1, h2⟩ => by
    obtain ⟨a1, a2⟩ := SrtT.nms h1
    obtain ⟨b1, b2⟩ := SrtT.nms h2
    show (∀ x, x ∈ nmsOf (c.steps ++ (d.steps ++ [.eith])) ↔ x ∈ nmsOf (a.steps ++ (b.steps ++ [.eith]))) ∧ (nmsOf (c.steps ++ (d.steps ++ [.eith]))).length ≤ (nmsOf (a.steps ++ (b.steps ++ [.eith]))).length
    rw [nmsOf_app, nmsOf_app, nmsOf_app, nmsOf_app]
    refine ⟨fun x => ?_, ?_⟩
    · rw [List.mem_append, List.mem_append, List.mem_append, List.mem_append, a1, b1]
    · rw [List.length_append, List.length_append, List.length_append, List.length_append]
      show _ + (_ + 0) ≤ _ + (_ + 0)
      omega
  | .rep a, .rep c, h => by
    obtain ⟨a1, a2⟩ := SrtT.nms (t := a) (T := c) h
    show (∀ x, x ∈ nmsOf (c.steps ++ [.rep]) ↔ x ∈ nmsOf (a.steps ++ [.rep])) ∧ (nmsOf (c.steps ++ [.rep])).length ≤ (nmsOf (a.steps ++ [.rep])).length
    rw [nmsOf_app, nmsOf_app]
    refine ⟨fun x => ?_, ?_⟩
    · rw [List.mem_append, List.mem_append, a1]
    · rw [List.length_append, List.length_append]
      show _ + 0 ≤ _ + 0
      omega
  | .opt a, .opt c, h => by
    obtain ⟨a1, a2⟩ := SrtT.nms (t := a) (T := c) h
    show (∀ x, x ∈ nmsOf (c.steps ++ [.opt]) ↔ x ∈ nmsOf (a.steps ++ [.opt])) ∧ (nmsOf (c.steps ++ [.opt])).length ≤ (nmsOf (a.steps ++ [.opt])).length
    rw [nmsOf_app, nmsOf_app]
    refine ⟨fun x => ?_, ?_⟩
    · rw [List.mem_append, List.mem_append, a1]
    · rw [List.length_append, List.length_append]
      show _ + 0 ≤ _ + 0
      omega
theorem nms_mem : ∀ {xs : List Nm} {t : Tr} {d : Nat}, TrOk xs d t → ∀ x ∈ nmsOf t.steps, x ∈ xs
  | xs, .atom n ys, d, h, x, hx => by
    have : nmsOf (Tr.atom n ys).steps = ys := by show ys ++ [] = ys; rw [List.append_nil]
    rw [this] at hx
    have h2 : ∀ l ∈ ys, l ∈ xs := by cases d <;> exact h.1
    exact h2 x hx
  | xs, .thn a b, d + 1, ⟨h1, h2⟩, x, hx => by
    have hx : x ∈ nmsOf (a.steps ++ (b.steps ++ [.thn])) := hx
    rw [nmsOf_app, nmsOf_app, List.mem_append, List.mem_append] at hx
    exact hx.elim (nms_mem h1 x) fun z => z.elim (nms_mem h2 x) fun z => nomatch z
  | xs, .eith a b, d + 1, ⟨h1, h2⟩, x, hx => by
    have hx : x ∈ nmsOf (a.steps ++ (b.steps ++ [.eith])) := hx
    rw [nmsOf_app, nmsOf_app, List.mem_append, List.mem_append] at hx
    exact hx.elim (nms_mem h1 x) fun z => z.elim (nms_mem h2 x) fun z => nomatch z
  | xs, .rep a, d + 1, h, x, hx => by
    have hx : x ∈ nmsOf (a.steps ++ [.rep]) := hx
    rw [nmsOf_app, List.mem_append] at hx
    exact hx.elim (nms_mem (d := d) h x) fun z => nomatch z
  | xs, .opt a, d + 1, h, x, hx => by
    have hx : x ∈ nmsOf (a.steps ++ [.opt]) := hx
    rw [nmsOf_app, List.mem_append] at hx
    exact hx.elim (nms_mem (d := d) h x) fun z => nomatch z
section
variable {K : PySem.W.Frag} {te tl : TE} {tt : TT} {σ : L2.St} {H : Hp}
/-- enumerate over a list that comes out -/
theorem el_lcEnQ {xs : List V} {j1 j2 : Nat} {vs : List Nat} (f : Nat → Bool) (v : Nat → V) (h : EvL tl σ H xs) (hz : xs.length ≤ 40000) (hw : ∀ x y, wipe (((wipe σ vs).set j1 (some x)).set j2 (some y)) vs = wipe σ vs)
    (ht : ∀ (i : Nat) (x : V) H1, Ex H H1 → xs[i]? = some x → EvT tt (((wipe σ vs).set j1 (some (.int (i : Nat)))).set j2 (some x)) H1 (f i))
    (he : ∀ (i : Nat) (x : V) H1, Ex H H1 → xs[i]? = some x → f i = true → Ev te (((wipe σ vs).set j1 (some (.int (i : Nat)))).set j2 (some x)) H1 (v i)) :
    EvL (tLc (iEnumA K (tCons tl tNil)) (gTup K 2 (gCons (gName j1) (gCons (gName j2) gNil))) tt te vs) σ H (given xs.length f v) := fun H0 e Q q => h H0 e _ fun a H1 na e1 hx => by
  have hz' := sq_of (K := K) hx
  have turn : ∀ (Dl : Addr) (i : Nat) (u : V) (H' H'' : Hp), Cw H1 f v Dl i H' → (∃ T x, u = .ref T ∧ H' T = none ∧ H'' = upd H' T (.tup [.int (i : Nat), x]) ∧ xs[i]? = some x) →
      gTup K 2 (gCons (gName j1) (gCons (gName j2) gNil)) u (wipe σ vs) H'' fun σ2 H2 => wipe σ2 vs = wipe σ vs ∧ tt σ2 H2 fun b H3 =>
        if b = true then te σ2 H3 fun y H4 => ∃ acc, H4 Dl = some (.lst acc) ∧ acc.length < sizeLine ∧ Cw H1 f v Dl (i + 1) (upd H4 Dl (.lst (acc ++ [y]))) else Cw H1 f v Dl (i + 1) H3 := by
    rintro Dl i u H' H'' ⟨p1, p2, p3⟩ ⟨T, x, rfl, nT, rfl, hi⟩
    refine ⟨T, _, rfl, .inl (.inl upd_same), rfl, ?_⟩
    refine ⟨_, _, rfl, _, _, rfl, rfl, ?_⟩
    exact ⟨hw _ _, cw_turn ⟨p1, p2.trans (Ex.new nT), (Ex.new nT) _ _ p3⟩ (by have := (List.getElem?_eq_some_iff.mp hi).1; omega) (ht i x H1 (e.trans e1) hi) (fun hf => he i x H1 (e.trans e1) hi hf)⟩
  exact ⟨a, xs, rfl, .inl ⟨hz', fun Dl hD => lc_it walk_en (Cw H1 f v Dl) ⟨hD, Ex.new hD, upd_same⟩ (fun i H' _ p => ex_l p.2.1 hz') (fun i u H' H'' _ p y => turn Dl i u H' H'' p y) (fun H' p => q Dl H' (fresh_back e1 p.1) (e1.trans p.2.1) p.2.2)⟩⟩
theorem el_slQ {tl th : TO} {xs : List V} {lo hi : Option Int} (h : EvL te σ H xs) (h1 : EvO tl σ H lo) (h2 : EvO th σ H hi) : EvL (tSl (rSlL K) te tl th) σ H (cutV xs lo hi) := fun H1 e Q q =>
  h H1 e _ fun p H2 n2 e2 hp => h1 H2 (e.trans e2) _ fun H3 e3 => h2 H3 ((e.trans e2).trans e3) _ fun H4 e4 => ⟨p, xs, rfl, sq_of ((e3.trans e4) _ _ hp), fun l nl => q l _ (fresh_back ((e2.trans e3).trans e4) nl) (((e2.trans e3).trans e4).trans (Ex.new nl)) upd_same⟩
/-- [xs[take(pool, 4)] for _ in range(5 + take(pool, 4))] -/
theorem s_lanes {D : L2.Ends} {p a : Addr} {Hk : Hp} {n pi ai j oi : Nat} {xs : List (List Nat)} (P : Pl Hk p n H) (hn : n ≤ 80000) (hpi : σ[pi]? = some (some (.ref p))) (ha : Hk a = some (.lst (vtx xs))) (hx : xs.length = 4)
    (hw : ∀ x, wipe ((wipe σ [j]).set j (some x)) [j] = wipe σ [j]) (hp : ∀ x, ((wipe σ [j]).set j (some x))[pi]? = some (some (.ref p))) (hA : ∀ x, ((wipe σ [j]).set j (some x))[ai]? = some (some (.ref a)))
    (k : ∀ d ys m H1, H d = none → Pl Hk p m H1 → H1 d = some (.lst (vtx ys)) → ys.length ≤ 8 → (∀ y ∈ ys, y ∈ xs) → d ≠ p → D.nx (σ.set oi (some (.ref d))) H1) :
    tAsg (tLc (iRng1 (tCons (tOp (rI0 fun i j => .int (i + j)) (tC (.int 5)) (Vc.tFu spTake (fun _ => nil0) (tCons (tVar pi) (tCons (tC (.int 4)) tNil)))) tNil)) (gName j) tYes (tOp (rIxL K) (tVar ai) (Vc.tFu spTake (fun _ => nil0) (tCons (tVar pi) (tCons (tC (.int 4)) tNil)))) [j]) (gName oi) D σ H := by
  refine ⟨_, hpi, p, 4, Wo H p, n, rfl, by omega, by omega, P.re, by omega, fun r H1 r0 r1 P0 => ?_⟩
  have P1 := P.back P0
  obtain ⟨m, rfl⟩ := Int.eq_ofNat_of_zero_le r0
  refine ⟨5, (m : Int), rfl, rfl, _, rfl, by omega, by omega, fun Dl hD => ?_⟩
  have hDp : Dl ≠ p := P1.ne hD
  have hDk : Hk Dl = none := fresh_back P1.ex hD
  have hDH : H Dl = none := by
    cases hh : H Dl with
    | none => rfl
    | some o => exact absurd (P0.ex _ _ (wo_at hh hDp)) (by rw [hD]; exact fun z => nomatch z)
  refine lc_range (lo := 0) (n := ((5 : Int) + (m : Nat)).toNat) (fun i H' => ∃ ys, H' Dl = some (.lst (vtx ys)) ∧ ys.length = i ∧ (∀ y ∈ ys, y ∈ xs) ∧ Pl Hk p (n + 1 + i) H') ⟨[], upd_same, rfl, (fun _ h => nomatch h), P1.new hD⟩ ?_ ?_
  · rintro i H2 hi ⟨ys, h1, h2, h3, h4⟩
    have hi8 : i < 8 := by omega
    refine ⟨hw _, ?_⟩
    unfold tYes
    dsimp only
    rw [if_pos rfl]
    refine ⟨_, hA _, _, hp _, p, 4, Wo H2 p, _, rfl, by omega, by omega, h4.re, by omega, fun r H3 r0 r1 hP => ?_⟩
    obtain ⟨z, rfl⟩ := Int.eq_ofNat_of_zero_le r0
    have hz : z < xs.length := by omega
    have P3 := h4.back hP
    refine ⟨a, vtx xs, _, _, rfl, rfl, sq_of (P3.ex _ _ ha), at_of rfl (vtx_at (List.getElem?_eq_getElem hz)), ?_⟩
    refine ⟨vtx ys, hP.ex _ _ (wo_at h1 hDp), sz_lt (by rw [vtx_len]; omega), ys ++ [xs[z]], by rw [upd_same, vtx_app]; rfl, by rw [List.length_append, List.length_singleton, h2], ?_, ?_⟩
    · intro y hy
      rcases List.mem_append.mp hy with hy | hy
      · exact h3 y hy
      · rw [List.mem_singleton.mp hy]
        exact List.getElem_mem hz
    · refine ⟨P3.no, Ex.mut P3.ex hDk, ?_⟩
      obtain ⟨a', b', c', w1, w2⟩ := P3.at_
      exact ⟨a', b', c', by rw [upd_ne hDp.symm]; exact w1, w2⟩
  · rintro H2 ⟨ys, h1, h2, h3, h4⟩
    exact k Dl ys _ H2 hDH h4 h1 (by omega) h3 hDp
/-- a thing that is in no pattern -/
def Bad (K : PySem.W.Frag) (H : Hp) (v : V) : Prop :=
  (∃ (q : Addr) (us : List V), v = .ref q ∧ (H q = some (.lst us) ∨ H q = some (.tup us)) ∧ (∀ u ∈ us, Odd H u) ∧ us.length ≤ 1000 ∧ us.all nmB = false) ∨
  ∃ ty : String, (∀ H', Ex H H' → TyX K H' v (.type ty)) ∧ kitB ty "tuple" = some false ∧ kitB ty "list" = some false
theorem Bad.mono {H H' : Hp} {v : V} (e : Ex H H') (h : Bad K H v) : Bad K H' v :=
  h.imp (fun ⟨q, us, h1, h2, h3, h4⟩ => ⟨q, us, h1, h2.imp (e _ _) (e _ _), fun u hu => (h3 u hu).mono e, h4⟩) fun ⟨ty, h1, h2⟩ => ⟨ty, fun H2 e2 => h1 H2 (e.trans e2), h2⟩
def EvB (K : PySem.W.Frag) (te : TE) (σ : L2.St) (H : Hp) : Prop := ∀ H1, Ex H H1 → ∀ Q : VK, (∀ v H2, Ex H1 H2 → Bad K H2 v → Q v H2) → te σ H1 Q
def EvBs (K : PySem.W.Frag) (ta : TA) (σ : L2.St) (H : Hp) (n : Nat) : Prop := ∀ H1, Ex H H1 → ∀ Q : List V → Hp → Prop, (∀ vs H2, Ex H1 H2 → (∀ v ∈ vs, Bad K H2 v) → vs.length = n → Q vs H2) → ta σ H1 Q
theorem ebs_nil : EvBs K tNil σ H 0 := fun H1 e Q q => q [] H1 (Ex.refl _) (fun _ h => nomatch h) rfl
theorem ebs_cons {ta : TA} {n : Nat} (h : EvB K te σ H) (hr : EvBs K ta σ H n) : EvBs K (tCons te ta) σ H (n + 1) := fun H1 e Q q =>
  h H1 e _ fun v H2 e2 hv => hr H2 (e.trans e2) _ fun vs H3 e3 hvs hl => q _ H3 (e2.trans e3) (fun u hu => (List.mem_cons.mp hu).elim (fun z => by rw [z]; exact hv.mono e3) (hvs u)) (by rw [List.length_cons, hl])
theorem eb_one {v : V} {ty : String} (h : Ev te σ H v) (ht : ∀ H', TyX K H' v (.type ty)) (h1 : kitB ty "tuple" = some false) (h2 : kitB ty "list" = some false) : EvB K te σ H := fun H1 e Q q =>
  h H1 e _ fun H2 e2 => q v H2 e2 (.inr ⟨ty, fun H' _ => ht H', h1, h2⟩)
theorem eb_dic : EvB K tDNewK σ H := fun H1 e Q q p np => q _ _ (Ex.new np) (.inr ⟨"dict", fun H' e' => .base (.dK (e' _ _ upd_same)), by decide +kernel, by decide +kernel⟩)
theorem eb_tup {ta : TA} {us : List V} (h : EvA ta σ H us) (ho : ∀ u ∈ us, ∀ G, Odd G u) (hl : us.length ≤ 1000) (hb : us.all nmB = false) : EvB K (tTup ta) σ H := fun H1 e Q q =>
  eu_tup h (by omega) H1 e _ fun p H2 np e2 hp => q _ H2 e2 (.inl ⟨p, us, rfl, .inr hp, fun u hu => ho u hu H2, hl, hb⟩)
theorem eb_lst {ta : TA} {us : List V} (h : EvA ta σ H us) (ho : ∀ u ∈ us, ∀ G, Odd G u) (hl : us.length ≤ 1000) (hb : us.all nmB = false) : EvB K (tLst ta) σ H := fun H1 e Q q =>
  el_lst h (by omega) H1 e _ fun p H2 np e2 hp => q _ H2 e2 (.inl ⟨p, us, rfl, .inl hp, fun u hu => ho u hu H2, hl, hb⟩)
theorem eb_LL : EvB K (tLst (tCons (tLst tNil) tNil)) σ H := fun H1 e Q q =>
  el_lst (σ := σ) (H := H1) (vs := []) ea_nil (by show 0 ≤ 100000; omega) H1 (Ex.refl _) (fun x H2 => [x].length ≤ sizeLine ∧ ∀ p, H2 p = none → Q (.ref p) (upd H2 p (.lst [x]))) fun q0 H2 nq0 e2 hq0 => ⟨sz_of (by show 1 ≤ 100000; omega), fun p0 np0 =>
    q _ _ (e2.trans (Ex.new np0)) (.inl ⟨p0, [.ref q0], rfl, .inl upd_same, fun u hu => by
      rw [List.mem_singleton.mp hu]
      exact .inr (.inr (.inr ⟨q0, _, rfl, Ex.new np0 _ _ hq0⟩)), by show 1 ≤ 1000; omega, rfl⟩)⟩
theorem odd_i (G : Hp) (i : Int) : Odd G (.int i) := .inr (.inr (.inl ⟨i, rfl⟩))
theorem odd_n (G : Hp) : Odd G .non := .inr (.inl rfl)
theorem odd_s {l : List Nat} (G : Hp) (h : l.length ≤ 1000) : Odd G (.str (tx l)) := .inl ⟨l, rfl, h⟩
theorem bad_in {CP CA o : Addr} {T : Tr} {v : V} {Q : VK} (PA : PatAt K CP CA H o T) (hsz : T.sz ≤ 60) (h : Bad K H v) (q : ∀ H1, Ex H H1 → Q (.bl false) H1) : rHas CP false (spPc K CP CA) nil0 v (.ref o) H Q := by
  obtain ⟨dx, sa, a, rs, h1, _⟩ := id PA
  refine ⟨o, dx, _, rfl, h1, o, T, v, rfl, PA, hsz, ?_⟩
  rcases h with ⟨x, us, rfl, h2, h3, h4, h5⟩ | ⟨ty, h2, h3, h4⟩
  · refine .inl ⟨x, us, rfl, h2, h3, h4, fun b G' hb g' => ⟨b, rfl, ?_⟩⟩
    have : b = false := by
      cases b with
      | false => rfl
      | true =>
        obtain ⟨ys, rfl, hn, _⟩ := hb.mp rfl
        have : (vtx ys).all nmB = true := by
          unfold vtx
          rw [List.all_map, List.all_eq_true]
          exact fun l hl => namB_iff.mpr (hn l hl)
        rw [this] at h5
        cases h5
    rw [this, if_neg Bool.false_ne_true]
    exact q G' g'
  · exact .inr ⟨ty, h2, h3, h4, fun G' g' => ⟨false, rfl, by rw [if_neg Bool.false_ne_true]; exact q G' g'⟩⟩
theorem s_asgB {D : L2.Ends} {ta : TA} {n oi : Nat} (h : EvBs K ta σ H n) (hn : n ≤ 1000) (k : ∀ (po : Addr) vs H1, Ex H H1 → H1 po = some (.lst vs) → (∀ v ∈ vs, Bad K H1 v) → vs.length = n → D.nx (σ.set oi (some (.ref po))) H1) : tAsg (tLst ta) (gName oi) D σ H :=
  h H (Ex.refl _) _ fun vs H1 e1 hvs hl => ⟨sz_of (by omega), fun po npo => k po vs _ (e1.trans (Ex.new npo)) upd_same (fun v hv => (hvs v hv).mono (Ex.new npo)) hl⟩
theorem ev_soL {tA : TE} {us : List Nm} (h : EvL tA σ H (vtx us)) (nd : us.Nodup) (hz : us.length < 64) : EvSo (tCB (rTupA K) (tCons (tCB (rSortedS K) (tCons tA tNil)) tNil)) σ H us := fun H1 e1 Q q =>
  h H1 e1 _ fun p H2 n2 e2 hp => Vtx.so_of (Q := fun v H4 => rTupA K [v] H4 Q) (sq_of hp) nd hz fun ps ys H3 n3 e3 h3 hS => ⟨ps, _, rfl, .inl ⟨sq_of h3, fun t nt => q t ys _ (fresh_back (e2.trans e3) nt) ((e2.trans e3).trans (Ex.new nt)) upd_same hS⟩⟩
/-- names != tuple(sorted(..)) -/
theorem ev_nmS {CP CA o : Addr} {U : Tr} {tA ta : TE} {us : List Nm} (ha : Ev ta σ H (.ref o)) (PA : PatAt K CP CA H o U) (h60 : (nmsOf U.steps).length ≤ 60) (h : EvL tA σ H (vtx us)) (nd : us.Nodup) (hz : us.length < 64) (hm : ∀ k, k ∈ nmsOf U.steps ↔ k ∈ us) (hn : ∀ y ∈ us, nam y) :
    Ev (tOp (rNeD K) (tPr CP (spPm K CP CA) ta) (tCB (rTupA K) (tCons (tCB (rSortedS K) (tCons tA tNil)) tNil))) σ H (.bl false) := fun H1 e1 Q q => ha H1 e1 _ fun H2 e2 => by
  have PA2 := PA.mono (e1.trans e2)
  obtain ⟨dx, sa, a, rs, hi1, _⟩ := id PA2
  refine ⟨o, dx, _, rfl, hi1, o, U, rfl, PA2, h60, fun tq ys H3 ntq e3 htq hsr => ?_⟩
  refine ev_soL h nd hz H3 ((e1.trans e2).trans e3) _ fun t ys2 H4 nt e4 ht hsr2 => ?_
  obtain rfl : ys = ys2 := hsr.one hsr2 hm
  have hsh := sh_w (oks_nam fun y hy => hn y ((hsr2.mem y).mp hy))
  refine ⟨wd ys, wd ys, dp_wd (st_of (e4 _ _ htq)), dp_wd (st_of ht), hsh, hsh, ?_⟩
  rw [SeqAt.eqv_refl (wd ys) (sh_lay hsh)]
  exact q _ ((e2.trans e3).trans e4)
end
end K14

set_option Elab.async false
set_option linter.all false
set_option maxRecDepth 100000
set_option maxHeartbeats 2000000
/-! -o of an own class. -/
namespace Vng
open PySem PySem.Spec PyProof.Rows L2 Vo Vc
theorem neg_own {M : Model} {A : Around} {E : Value → Shared → Prop} {s : Shared} {K : PySem.W.Frag} {x C L f : Addr} {h0 : Heap} {m : Str → Option Value} {ox : Obj} {od : Option Obj} {Q : Value → Shared → Prop} (F : Fr h0 L s.heap m) (X0 : K.In h0) (I : PySem.W.InstAt s.heap x ox C od)
    (hs : PySem.W.findIn K (.ref C) "__neg__" = some (some (.ref f))) (hf : PySem.W.isFn K (.ref f) = true) (h : wpAny M A (call (.ref f) [.ref x]) Q E s) : wpAny M A (unaryOp .USub (.ref x)) Q E s := by
  unfold unaryOp
  refine wpAny_holding ?_
  exact wpAny_bind (m := callSpecial? (.ref x) (Str.ofString "__neg__")) (PySem.W.special_fn (X0.keeps F.keep) I hs (beq_iff_eq.mp hf) (wpAny_mono h (fun r s' hr => wpAny_pure hr) fun _ _ y => y))
section
variable {X : Cx} {C : Addr} {j k : Nat} {sp : Sp}
def rNeg (C : Addr) (sp : Sp) : V → Hp → VK → Prop := fun x H Q => ∃ o dx fs, x = .ref o ∧ H o = some (.ins C dx fs) ∧ sp [.ref o] H Q nil0
theorem un_negO (T : Mo X.prog X.w X.K X.mg X.base C L2.CX0 k "__neg__" sp) (hr : Room j X.A) (hk : k ≤ j := by decide) : UnR X (unaryOp .USub) (rNeg C sp) := by
  obtain ⟨f, fd, ps, F, hm, hb⟩ := T.ex
  intro pins s σ H x v Q I rx q
  obtain ⟨o, dx, fs, rfl, eo, qs⟩ := q
  obtain rfl : v = Value.ref o := rx
  obtain ⟨ob, od, J⟩ := inst_at I eo
  obtain ⟨m, fr⟩ := I.fr
  refine neg_own fr I.ok.mod.kin J hm.at_ hm.fn (wpAny_mono (run_here F (hr.mono hk) hb (passes_at (E1 := nil0) (fun _ _ _ _ _ _ _ h => h.elim) σ) I (Paired.cons (show RelV (V.ref o) (Value.ref o) from rfl) .nil) qs) (fun z s' hz => hz) fun _ _ z => z)
end
end Vng

set_option Elab.async false
set_option linter.all false
set_option maxRecDepth 100000
set_option maxHeartbeats 4000000
/-! The opposite order. -/
namespace K14
open PySem PySem.Spec PyProof.Rows L2 Vl Evl Vp Vc Ve Ven Vg Vb Vt Vlt Vsa Vle Vo Vr Vda
abbrev sOs : Stmt := top 13
abbrev nOs : List Str := ["steps", "stack", "step", "right", "left", "both", "inner"]
def mir : Tr → Tr
  | .atom n ns => .atom n ns
  | .thn a b => .thn (mir b) (mir a)
  | .eith a b => .eith (mir a) (mir b)
  | .rep a => .rep (mir a)
  | .opt a => .opt (mir a)
def put : List Tr → Op → List Tr
  | ts, .atom n ns => .atom n ns :: ts
  | b :: a :: ts, .thn => .thn a b :: ts
  | b :: a :: ts, .eith => .eith a b :: ts
  | a :: ts, .rep => .rep a :: ts
  | a :: ts, .opt => .opt a :: ts
  | ts, _ => ts
theorem put_tree : ∀ (t : Tr) (ts : List Tr), t.steps.foldl put ts = t :: ts
  | .atom n ns, ts => rfl
  | .thn a b, ts => by
    show (a.steps ++ (b.steps ++ [Op.thn])).foldl put ts = _
    rw [List.foldl_append, List.foldl_append, put_tree a, put_tree b]
    rfl
  | .eith a b, ts => by
    show (a.steps ++ (b.steps ++ [Op.eith])).foldl put ts = _
    rw [List.foldl_append, List.foldl_append, put_tree a, put_tree b]
    rfl
  | .rep a, ts => by
    show (a.steps ++ [Op.rep]).foldl put ts = _
    rw [List.foldl_append, put_tree a]
    rfl
  | .opt a, ts => by
    show (a.steps ++ [Op.opt]).foldl put ts = _
    rw [List.foldl_append, put_tree a]
    rfl
theorem put_len {ts : List Tr} {o : Op} (h : o.ar ≤ ts.length) : (put ts o).length = ts.length - o.ar + 1 := by
  cases o with
  | atom b ns => cases ts <;> rfl
  | thn =>
    match ts, h with
    | b :: a :: s, _ => rfl
  | eith =>
    match ts, h with
    | b :: a :: s, _ => rfl
  | rep =>
    match ts, h with
    | a :: s, _ => rfl
  | opt =>
    match ts, h with
    | a :: s, _ => rfl
theorem put_dep : ∀ (xs : List Op) (s : List Tr), wf s.length xs → (xs.foldl put s).length = dep s.length xs
  | [], _, _ => rfl
  | o :: r, s, h => by
    have h1 := put_len h.1
    rw [List.foldl_cons, put_dep r (put s o) (by rw [h1]; exact h.2), h1]
    rfl
theorem mir_nd : ∀ t : Tr, (mir t).steps.length = t.steps.length
  | .atom n ns => rfl
  | .thn a b => by
    show ((mir b).steps ++ ((mir a).steps ++ [Op.thn])).length = (a.steps ++ (b.steps ++ [Op.thn])).length
    rw [List.length_append, List.length_append, List.length_append, List.length_append, mir_nd a, mir_nd b]
    show _ + (_ + 1) = _ + (_ + 1)
    omega
  | .eith a b => by
    show ((mir a).steps ++ ((mir b).steps ++ [Op.eith])).length = (a.steps ++ (b.steps ++ [Op.eith])).length
    rw [List.length_append, List.length_append, List.length_append, List.length_append, mir_nd a, mir_nd b]
  | .rep a => by
    show ((mir a).steps ++ [Op.rep]).length = (a.steps ++ [Op.rep]).length
    rw [List.length_append, List.length_append, mir_nd a]
  | .opt a => by
    show ((mir a).steps ++ [Op.opt]).length = (a.steps ++ [Op.opt]).length
    rw [List.length_append, List.length_append, mir_nd a]
def spOs (K : PySem.W.Frag) : Sp := fun vs H Q _ => ∃ (s : Addr) (rs : List Rw) (t : Tr), vs = [.ref s] ∧ StepsAt K H s rs ∧ ops rs = t.steps ∧ rs.length ≤ 60 ∧ ∀ p rs' H', Ex H H' → StepsAt K H' p rs' → ops rs' = (mir t).steps → Q (.ref p) H'
/-- the pile of the steps that were told again -/
structure Lo (K : PySem.W.Frag) (H H' : Hp) (st : Addr) (pl : List (Addr × List Rw)) (rs : List Rw) : Prop where
  ex : Ex H H'
  no : H st = none
  st : H' st = some (.lst (rfs pl).reverse)
  row : ∀ c ∈ pl, SqT K H' c.1 (rfs c.2) ∧ ∀ r ∈ c.2, r ∈ rs
section
variable {K : PySem.W.Frag} {H H' : Hp} {st : Addr} {pl : List (Addr × List Rw)} {rs : List Rw}
theorem Lo.mono {H2 : Hp} (h : Lo K H H' st pl rs) (e : Ex H' H2) : Lo K H H2 st pl rs := ⟨h.ex.trans e, h.no, e _ _ h.st, fun c hc => ⟨ex_t e (h.row c hc).1, (h.row c hc).2⟩⟩
theorem Lo.sq {x : Addr} {xs us : List V} (h : Lo K H H' st pl rs) (hx : SqT K H' x xs) : SqT K (upd H' st (.lst us)) x xs := sqt_upd hx h.st fun ys => ⟨fun z => (nomatch z), fun ob z => (nomatch z)⟩
theorem Lo.pop {x : Addr × List Rw} (h : Lo K H H' st (x :: pl) rs) : (rfs (x :: pl)).reverse[(rfs (x :: pl)).reverse.length - 1]? = some (.ref x.1) ∧ Lo K H (upd H' st (.lst (rfs (x :: pl)).reverse.dropLast)) st pl rs ∧ SqT K (upd H' st (.lst (rfs (x :: pl)).reverse.dropLast)) x.1 (rfs x.2) ∧ ∀ r ∈ x.2, r ∈ rs := by
  have e : (rfs (x :: pl)).reverse.dropLast = (rfs pl).reverse := by
    have : (rfs (x :: pl)).reverse = (rfs pl).reverse ++ [.ref x.1] := by unfold rfs; rw [List.map_cons, List.reverse_cons]
    rw [this, List.dropLast_concat]
  rw [e]
  have hx := h.row x List.mem_cons_self
  refine ⟨?_, ⟨Ex.mut h.ex h.no, h.no, upd_same, fun c hc => ⟨h.sq (h.row c (List.mem_cons_of_mem _ hc)).1, (h.row c (List.mem_cons_of_mem _ hc)).2⟩⟩, h.sq hx.1, hx.2⟩
  have : (rfs (x :: pl)).reverse = (rfs pl).reverse ++ [.ref x.1] := by unfold rfs; rw [List.map_cons, List.reverse_cons]
  rw [this, List.length_append, List.getElem?_append_right (by show _ ≤ _ + 1 - 1; omega)]
  simp
theorem Lo.push {x : Addr × List Rw} (h : Lo K H H' st pl rs) (hx : SqT K H' x.1 (rfs x.2)) (hm : ∀ r ∈ x.2, r ∈ rs) : Lo K H (upd H' st (.lst ((rfs pl).reverse ++ [.ref x.1]))) st (x :: pl) rs := by
  have : (rfs (x :: pl)).reverse = (rfs pl).reverse ++ [.ref x.1] := by unfold rfs; rw [List.map_cons, List.reverse_cons]
  refine ⟨Ex.mut h.ex h.no, h.no, by rw [upd_same, this], fun c hc => ?_⟩
  rcases List.mem_cons.mp hc with rfl | hc
  · exact ⟨h.sq hx, hm⟩
  · exact ⟨h.sq (h.row c hc).1, (h.row c hc).2⟩
/-- a list gets a tuple -/
theorem s_appT {σ : L2.St} {D : L2.Ends} {ta te : TE} {l : Addr} {xs ys : List V} (hl : H l = some (.lst xs)) (h : Ev ta σ H (.ref l)) (hv : Vt.EvT K te σ H ys) (hz : xs.length < 100000)
    (k : ∀ p H1, Ex H H1 → SqT K H1 p ys → D.nx σ (upd H1 l (.lst (xs ++ [.ref p])))) : tDrop (tBM K "list" rAppend ta (tCons te tNil)) D σ H := h H (Ex.refl H) _ fun H1 e1 =>
  ⟨Or.inl ⟨rfl, xs, sq_of (e1 l _ hl)⟩, hv H1 e1 _ fun p H2 e2 h2 => ⟨l, xs, .ref p, rfl, rfl, e2 l _ (e1 l _ hl), sz_lt hz, k p H2 (e1.trans e2) h2⟩⟩
theorem et_if {σ : L2.St} {tA : TT} {ta tb : TE} {b : Bool} {xs : List V} (h : Evl.EvT tA σ H b) (h1 : b = true → Vt.EvT K ta σ H xs) (h2 : b = false → Vt.EvT K tb σ H xs) : Vt.EvT K (tIf tA ta tb) σ H xs := fun H1 e Q q => h H1 e _ fun H2 e2 => by
  cases b with
  | true => exact h1 rfl H2 (e.trans e2) Q fun p H3 e3 hp => q p H3 (e2.trans e3) hp
  | false => exact h2 rfl H2 (e.trans e2) Q fun p H3 e3 hp => q p H3 (e2.trans e3) hp
theorem et_eu {σ : L2.St} {te : TE} {xs : List V} (h : EvU te σ H xs) : Vt.EvT K te σ H xs := fun H1 e Q q => h H1 e Q fun p H2 np e2 hp => q p H2 e2 (st_of hp)
theorem rfs_apT {α : Type} (a b : List (Addr × α)) : rfs a ++ rfs b = rfs (a ++ b) := by unfold rfs; rw [List.map_append]
theorem ops_app (a b : List Rw) : ops (a ++ b) = ops a ++ ops b := List.map_append
theorem two_of {α : Type} {l : List α} (h : 2 ≤ l.length) : ∃ b a r, l = b :: a :: r := by
  match l, h with
  | b :: a :: r, _ => exact ⟨_, _, _, rfl⟩
theorem one_of {α : Type} {l : List α} (h : 1 ≤ l.length) : ∃ a r, l = a :: r := by
  match l, h with
  | a :: r, _ => exact ⟨_, _, rfl⟩
end
section
variable {P : Program} {w : World} {K : PySem.W.Frag} {mg : Str → Option Value} {base : Heap}
theorem scOs : FnScope nOs ["steps"] (defScope sOs) := ⟨rfl, rfl, rfl, by decide +kernel, rfl, by decide +kernel, by decide +kernel⟩
theorem ok_os {f : Addr} {fd : FuncData} (F : FnP K "opposite" sOs f fd) (CN : Cn mg) (TIa : Fu P w K mg base L2.CX0 1 "is_atom" (spIs isAt)) (TIj : Fu P w K mg base L2.CX0 1 "is_join" (spIs isJn)) : FnOk P w K mg base L2.CX0 2 f fd ["steps"] (spOs K) := by
  obtain ⟨tTHEN, gTHEN⟩ := CN.thn
  refine F.ok (CX := L2.CX0) scOs (fun vs H Q E h => ?_) (fun cdv A outer s H vs Q E hr h => ?_)
  · obtain ⟨s, rs, t, rfl, _⟩ := h
    rfl
  · refine ⟨_, (pss_cons (ps_set (i := 1) scOs.nd rfl (by first | exact Or.inl rfl | exact Or.inr rfl) (pe_lst pa_nil))
      (pss_cons (ps_for (passes_of rfl) rfl (pi_tup (pv 0)) (pg_name (i := 2) scOs.nd rfl (by first | exact Or.inl rfl | exact Or.inr rfl)) (pss_one (ps_if (pt_val (pe_fu TIa hr (by rfl) (pa_cons (pv 2) pa_nil))) (pss_one (ps_expr (pe_bm PySem.F.plainAttrs_list PySem.F.slot_list_append PySem.F.type_list_append mt_append (pv 1) (pa_cons (pe_tup (pa_cons (pv 2) pa_nil)) pa_nil)))) (pss_one (ps_if (pt_val (pe_fu TIj hr (by rfl) (pa_cons (pv 2) pa_nil))) (pss_cons (ps_set (i := 3) scOs.nd rfl (by first | exact Or.inl rfl | exact Or.inr rfl) (pe_bm0 PySem.F.plainAttrs_list PySem.F.slot_list_pop PySem.F.type_list_pop mt_pop (pv 1)))
      (pss_cons (ps_set (i := 4) scOs.nd rfl (by first | exact Or.inl rfl | exact Or.inr rfl) (pe_bm0 PySem.F.plainAttrs_list PySem.F.slot_list_pop PySem.F.type_list_pop mt_pop (pv 1)))
      (pss_cons (ps_set (i := 5) scOs.nd rfl (by first | exact Or.inl rfl | exact Or.inr rfl) (pe_ifExp (pt_cmpR op_eq (pe_ix ix_tup (pv 2) pe_int fun _ _ => rfl) (pe_glob (v := V.str (tx kThen)) (by rfl) gTHEN ⟨tTHEN, rfl⟩) (nomark _)) (pe_op (op_catA) (pv 3) (pv 4)) (pe_op (op_catA) (pv 4) (pv 3))))
      (pss_one (ps_expr (pe_bm PySem.F.plainAttrs_list PySem.F.slot_list_append PySem.F.type_list_append mt_append (pv 1) (pa_cons (pe_op (op_catA) (pv 5) (pe_tup (pa_cons (pv 2) pa_nil))) pa_nil))))))) (pss_cons (ps_set (i := 6) scOs.nd rfl (by first | exact Or.inl rfl | exact Or.inr rfl) (pe_bm0 PySem.F.plainAttrs_list PySem.F.slot_list_pop PySem.F.type_list_pop mt_pop (pv 1)))
      (pss_one (ps_expr (pe_bm PySem.F.plainAttrs_list PySem.F.slot_list_append PySem.F.type_list_append mt_append (pv 1) (pa_cons (pe_op (op_catA) (pv 6) (pe_tup (pa_cons (pv 2) pa_nil))) pa_nil))))))))))
      (pss_one (ps_ret (pe_ix ix_list (pv 1) pe_int fun _ _ => rfl))))), ?_⟩
    obtain ⟨sa, rs, t, rfl, hS, hops, hz, k⟩ := h
    refine q_asgL (xs := []) (el_lst ea_nil (by show 0 ≤ 100000; omega)) fun st H2 nst e2 hst => ?_
    have L0 : Lo K H H2 st [] rs := ⟨e2, nst, hst, fun _ h => nomatch h⟩
    have hwf : wf 0 (ops rs) := by rw [hops]; exact (tree_wf t 0).1
    refine q_forT (a := sa) (xs := rfs rs) (ev_var rfl) (ex_t e2 hS.1) (fun i st' H' => ∃ (t2 t3 t4 t5 t6 : Option V) (pl : List (Addr × List Rw)) (ts : List Tr), st' = [some (.ref sa), some (.ref st), t2, t3, t4, t5, t6] ∧ Lo K H H' st pl rs ∧ ts = ((ops rs).take i).foldl put [] ∧ pl.map (fun c => ops c.2) = ts.map (fun t => (mir t).steps) ∧ (pl.map fun c => c.2.length).sum ≤ i ∧ pl.length ≤ i)
      (fun H3 e3 => ⟨none, none, none, none, none, [], [], rfl, L0.mono e3, rfl, rfl, Nat.le_refl _, Nat.le_refl _⟩) (fun i st' H' _ ⟨_, _, _, _, _, _, _, _, h, _⟩ => ex_t h.ex hS.1) ?_ ?_
    · rintro i x st' H3 hx ⟨t2, t3, t4, t5, t6, pl, ts, rfl, L, hts, hpt, hsum, hpl⟩
      obtain ⟨r, hr1, rfl⟩ := rfs_of hx
      have hrm := List.mem_of_getElem? hr1
      have hi : i < rs.length := (List.getElem?_eq_some_iff.mp hr1).1
      have hop : (ops rs)[i]? = some r.2 := by
        unfold ops
        rw [List.getElem?_map, hr1]
        rfl
      have hsn : (ops rs).take (i + 1) = (ops rs).take i ++ [r.2] := by rw [List.take_succ, hop]; rfl
      have SA := (hS.2 r hrm).mono L.ex
      have hlen : pl.length = ts.length := by
        have := congrArg List.length hpt
        rw [List.length_map, List.length_map] at this
        exact this
      have har : r.2.ar ≤ ts.length := by
        have h1 := wf_at hwf hop
        have h2 := put_dep ((ops rs).take i) [] (wf_pre i hwf)
        rw [← hts] at h2
        rw [h2]
        exact h1
      have hnext : ((ops rs).take (i + 1)).foldl put [] = put ts r.2 := by
        rw [hsn, List.foldl_append, ← hts]
        rfl
      obtain ⟨ra, op⟩ := r
      dsimp only at SA har hnext
      refine s_if (b := isAt op) (et_B (ev_fu (ea_cons (ev_var rfl) ea_nil) fun G1 g1 Q1 q1 E1 => ⟨ra, op, rfl, SA.mono g1, fun G2 g2 => q1 G2 g2⟩)) (fun hb H4 e4 => ?_) fun hb H4 e4 => ?_
      · obtain ⟨neg, ns, rfl⟩ : ∃ neg ns, op = .atom neg ns := by
          cases op with
          | atom neg ns => exact ⟨_, _, rfl⟩
          | _ => exact Bool.noConfusion hb
        have L4 := L.mono e4
        refine s_appU (l := st) (xs := (rfs pl).reverse) (ys := [.ref ra]) L4.st (ev_var rfl) (eu_tup (ea_cons (ev_var (i := 2) rfl) ea_nil) (by show 1 ≤ 100000; omega)) (by rw [List.length_reverse, rfs_len]; omega) fun p H5 np e5 hp => ?_
        have L5 := (L4.mono e5).push (x := (p, [(ra, .atom neg ns)])) (st_of hp) (fun r hr => by rw [List.mem_singleton.mp hr]; exact hrm)
        refine ⟨_, _, _, _, _, _, put ts (.atom neg ns), rfl, L5, hnext.symm, ?_, ?_, ?_⟩
        · have : put ts (.atom neg ns) = .atom neg ns :: ts := by cases ts <;> rfl
          rw [this, List.map_cons, List.map_cons, hpt]
          rfl
        · rw [List.map_cons, List.sum_cons]
          show 1 + _ ≤ _
          omega
        · rw [List.length_cons]
          omega
      · have SA4 := SA.mono e4
        have hk4 : ∀ {G : Hp} {u3 u4 u5 u6 : Option V}, Ex H G → Ev (tOp (rIxT K) (tVar 2) (tC (.int 0))) [some (.ref sa), some (.ref st), some (.ref ra), u3, u4, u5, u6] G (.str (tx (kd op))) := fun g => by
          obtain ⟨a, h1, h2⟩ := (hS.2 _ hrm).mono g
          exact ev_ixTA (i := 0) (ev_var rfl) (st_of h1) rfl
        refine s_if (b := isJn op) (et_B (ev_fu (ea_cons (ev_var rfl) ea_nil) fun G1 g1 Q1 q1 E1 => ⟨ra, op, rfl, SA4.mono g1, fun G2 g2 => q1 G2 g2⟩)) (fun hc H5 e5 => ?_) fun hc H5 e5 => ?_
        · have L5 := (L.mono e4).mono e5
          have h2 : op.ar = 2 := by cases op <;> first | rfl | exact Bool.noConfusion hc
          rw [h2] at har
          obtain ⟨b, a, ts', rfl⟩ := two_of har
          obtain ⟨xb, xa, pl', rfl⟩ := two_of (by rw [hlen]; exact har)
          obtain ⟨hpb, hpt⟩ := List.cons.inj hpt
          obtain ⟨hpa, hpt⟩ := List.cons.inj hpt
          have hpb : ops xb.2 = (mir b).steps := hpb
          have hpa : ops xa.2 = (mir a).steps := hpa
          have hsum : xb.2.length + (xa.2.length + (pl'.map fun c => c.2.length).sum) ≤ i := hsum
          obtain ⟨g1, L6, hxb, hmb⟩ := L5.pop
          refine s_seq ?_
          refine ⟨_, rfl, .inl ⟨rfl, _, .inl (.inl L5.st)⟩, st, _, _, rfl, rfl, L5.st, g1, ?_⟩
          generalize upd H5 st (.lst (rfs (xb :: xa :: pl')).reverse.dropLast) = H6 at L6 hxb ⊢
          dsimp only [gName, List.set]
          obtain ⟨g2, L7, hxa, hma⟩ := L6.pop
          have hxb := L6.sq (us := (rfs (xa :: pl')).reverse.dropLast) hxb
          refine s_seq ?_
          refine ⟨_, rfl, .inl ⟨rfl, _, .inl (.inl L6.st)⟩, st, _, _, rfl, rfl, L6.st, g2, ?_⟩
          generalize upd H6 st (.lst (rfs (xa :: pl')).reverse.dropLast) = H7 at L7 hxb hxa ⊢
          dsimp only [gName, List.set]
          obtain ⟨rb, hrb, hmr, hob, hlb⟩ : ∃ rb : List Rw, Vt.EvT K (tIf (tTest (tOp rEq (tOp (rIxT K) (tVar 2) (tC (.int 0))) (tC (.str (tx kThen))))) (tOp (rCatA K) (tVar 3) (tVar 4)) (tOp (rCatA K) (tVar 4) (tVar 3))) [some (.ref sa), some (.ref st), some (.ref ra), some (.ref xb.1), some (.ref xa.1), t5, t6] H7 (rfs rb) ∧ (∀ r ∈ rb, r ∈ rs) ∧ ops rb ++ [op] = (mir ((put (b :: a :: ts') op).head?.getD a)).steps ∧ rb.length = xb.2.length + xa.2.length := by
            have lt := L7.ex
            cases op with
            | thn =>
              refine ⟨xb.2 ++ xa.2, ?_, fun r hr => (List.mem_append.mp hr).elim (hmb r) (hma r), ?_, List.length_append⟩
              · rw [← rfs_apT]
                exact et_if (b := true) (et_test (ev_is (ev_op (hk4 lt) ev_c (rv_eq rfl)) (congrArg V.bl (decide_eq_true rfl)))) (fun _ => Vt.et_cat (Vt.et_ref (ev_var (i := 3) rfl) hxb) (Vt.et_ref (ev_var (i := 4) rfl) hxa) (by rw [rfs_len, rfs_len]; omega)) fun z => nomatch z
              · rw [ops_app, hpb, hpa]
                show _ = (mir b).steps ++ ((mir a).steps ++ [Op.thn])
                rw [List.append_assoc]
            | eith =>
              refine ⟨xa.2 ++ xb.2, ?_, fun r hr => (List.mem_append.mp hr).elim (hma r) (hmb r), ?_, by rw [List.length_append]; omega⟩
              · rw [← rfs_apT]
                exact et_if (b := false) (et_test (ev_is (ev_op (hk4 lt) ev_c (rv_eq rfl)) (congrArg V.bl (decide_eq_false (by decide +kernel))))) (fun z => nomatch z) fun _ => Vt.et_cat (Vt.et_ref (ev_var (i := 4) rfl) hxa) (Vt.et_ref (ev_var (i := 3) rfl) hxb) (by rw [rfs_len, rfs_len]; omega)
              · rw [ops_app, hpb, hpa]
                show _ = (mir a).steps ++ ((mir b).steps ++ [Op.eith])
                rw [List.append_assoc]
            | atom _ _ => exact Bool.noConfusion hc
            | rep => exact Bool.noConfusion hc
            | opt => exact Bool.noConfusion hc
          refine s_seq ?_
          unfold tAsg
          refine hrb H7 (Ex.refl _) _ fun pb H8 e8 hpb2 => ?_
          dsimp only [gName, List.set]
          have L8 := L7.mono e8
          refine s_appT (l := st) (xs := (rfs pl').reverse) L8.st (ev_var (i := 1) rfl) (Vt.et_cat (Vt.et_ref (ev_var (i := 5) rfl) hpb2) (et_eu (eu_tup (ea_cons (ev_var (i := 2) rfl) ea_nil) (by show 1 ≤ 100000; omega))) (by rw [rfs_len, hlb]; show _ + 1 ≤ _; omega)) (by rw [List.length_reverse, rfs_len]; simp only [List.length_cons] at hpl; omega) fun p H9 e9 hp => ?_
          have hp : SqT K H9 p (rfs (rb ++ [(ra, op)])) := by rw [← rfs_apT]; exact hp
          have L10 := (L8.mono e9).push (x := (p, rb ++ [(ra, op)])) hp (fun r hr => (List.mem_append.mp hr).elim (hmr r) fun z => by rw [List.mem_singleton.mp z]; exact hrm)
          refine ⟨_, _, _, _, _, _, put (b :: a :: ts') op, rfl, L10, hnext.symm, ?_, ?_, ?_⟩
          · have : put (b :: a :: ts') op = (put (b :: a :: ts') op).head?.getD a :: ts' := by cases op <;> first | rfl | exact Bool.noConfusion hc
            rw [this, List.map_cons, List.map_cons, hpt]
            refine congrArg (· :: _) ?_
            show ops (rb ++ [(ra, op)]) = _
            rw [ops_app]
            exact hob
          · rw [List.map_cons, List.sum_cons]
            show (rb ++ [(ra, op)]).length + _ ≤ _
            rw [List.length_append, hlb]
            show _ + 1 + _ ≤ _
            omega
          · simp only [List.length_cons] at hpl ⊢
            omega
        · have L5 := (L.mono e4).mono e5
          have h2 : op.ar = 1 := by cases op <;> first | rfl | exact Bool.noConfusion hc | exact Bool.noConfusion hb
          rw [h2] at har
          obtain ⟨a, ts', rfl⟩ := one_of har
          obtain ⟨xa, pl', rfl⟩ := one_of (by rw [hlen]; exact har)
          obtain ⟨hpa, hpt⟩ := List.cons.inj hpt
          have hpa : ops xa.2 = (mir a).steps := hpa
          have hsum : xa.2.length + (pl'.map fun c => c.2.length).sum ≤ i := hsum
          obtain ⟨g1, L6, hxa, hma⟩ := L5.pop
          refine s_seq ?_
          refine ⟨_, rfl, .inl ⟨rfl, _, .inl (.inl L5.st)⟩, st, _, _, rfl, rfl, L5.st, g1, ?_⟩
          generalize upd H5 st (.lst (rfs (xa :: pl')).reverse.dropLast) = H6 at L6 hxa ⊢
          dsimp only [gName, List.set]
          refine s_appT (l := st) (xs := (rfs pl').reverse) L6.st (ev_var (i := 1) rfl) (Vt.et_cat (Vt.et_ref (ev_var (i := 6) rfl) hxa) (et_eu (eu_tup (ea_cons (ev_var (i := 2) rfl) ea_nil) (by show 1 ≤ 100000; omega))) (by rw [rfs_len]; show _ + 1 ≤ _; omega)) (by rw [List.length_reverse, rfs_len]; simp only [List.length_cons] at hpl; omega) fun p H9 e9 hp => ?_
          have hp : SqT K H9 p (rfs (xa.2 ++ [(ra, op)])) := by rw [← rfs_apT]; exact hp
          have L10 := (L6.mono e9).push (x := (p, xa.2 ++ [(ra, op)])) hp (fun r hr => (List.mem_append.mp hr).elim (hma r) fun z => by rw [List.mem_singleton.mp z]; exact hrm)
          refine ⟨_, _, _, _, _, _, put (a :: ts') op, rfl, L10, hnext.symm, ?_, ?_, ?_⟩
          · have : put (a :: ts') op = (put (a :: ts') op).head?.getD a :: ts' := by cases op <;> first | rfl | exact Bool.noConfusion hc | exact Bool.noConfusion hb
            rw [this, List.map_cons, List.map_cons, hpt]
            refine congrArg (· :: _) ?_
            show ops (xa.2 ++ [(ra, op)]) = _
            rw [ops_app, hpa]
            cases op <;> first | rfl | exact Bool.noConfusion hc | exact Bool.noConfusion hb
          · rw [List.map_cons, List.sum_cons]
            show (xa.2 ++ [(ra, op)]).length + _ ≤ _
            rw [List.length_append]
            show _ + 1 + _ ≤ _
            omega
          · simp only [List.length_cons] at hpl ⊢
            omega
    · rintro st' H3 ⟨t2, t3, t4, t5, t6, pl, ts, rfl, L, hts, hpt, hsum, hpl⟩
      rw [rfs_len, ← (show (ops rs).length = rs.length from List.length_map _), List.take_length, hops, put_tree] at hts
      subst hts
      obtain ⟨c, rfl⟩ : ∃ c, pl = [c] := by
        have hl := congrArg List.length hpt
        rw [List.length_map, List.length_map] at hl
        exact List.length_eq_one_iff.mp hl
      have hc := (List.cons.inj hpt).1
      have hr := L.row c List.mem_cons_self
      refine s_ret (ev_ixA (i := 0) (ev_var rfl) (sq_of L.st) rfl) fun H4 e4 => k c.1 c.2 H4 (L.ex.trans e4) ⟨ex_t e4 hr.1, fun r hr' => (hS.2 r (hr.2 r hr')).mono (L.ex.trans e4)⟩ hc
end
end K14

set_option Elab.async false
set_option linter.all false
set_option maxRecDepth 100000
set_option maxHeartbeats 4000000
/-! a tuple k times, k from 1 on (once: the same object). -/
namespace Vre
open PySem PySem.Spec PyProof.Rows L2 Vl Evl Vp Vr Vt
theorem mulOnce (p : Addr) (us : Array Value) (m : Nat) (e : Option Addr) (t1 : Array (Option Value)) (u : Tok) :
    Meets (Builtin.«tuple.__mul__» ⟨[.ref p, .int 1 u], []⟩) (fun _ R s => s.heap.get? p = some { cls := .type "tuple", dict := e, data := .seq us m, slots := t1 } ∧ R (.ok (.ret (.ref p))) s) :=
  .of_wp fun prog w A R s h => by
    obtain ⟨hh, g, d, tk, os⟩ := s
    obtain ⟨hp, h⟩ := h
    have f1 := AutoSeq1.idx_int
    have c1 : (us.isEmpty || (1 : Int) == 1) = true := by rw [Bool.or_eq_true]; exact .inr rfl
    wp_walk using wpAny_loadPart' hp
    all_goals first
      | exact ⟨_, rfl, h⟩
      | (simp at *; done)
def rRepA (K : PySem.W.Frag) : R2 := fun x y H Q => ∃ (l : Addr) (k : Nat) (xs : List V), x = .ref l ∧ y = .int (k : Nat) ∧ SqT K H l xs ∧ xs ≠ [] ∧ 1 ≤ k ∧ k ≤ 1000 ∧ xs.length ≤ 1000 ∧
  ((k = 1 → Q (.ref l) H) ∧ (2 ≤ k → ∀ p, H p = none → Q (.ref p) (upd H p (.tup (Vq.rp k xs)))))
section
variable {X : Cx}
theorem op_once {pins : List (Addr × Obj)} {σ : L2.St} {H : Hp} {s : Shared} {l : Addr} {xs : List V} {u : Value} {Q : VK} (I : Inv X pins σ H s) (hT : SqT X.K H l xs) (ry : RelV (.int 1) u) (q : Q (.ref l) H) :
    wpAny (model X.prog X.w) X.A (binaryOp .Mult (.ref l) u) (EP X pins σ Q) X.xe s := by
  obtain ⟨t, rfl⟩ := ry
  obtain ⟨its, r, ⟨⟨cls, dd, data, sl⟩, ho, hc, n, hd⟩, hs⟩ := I.tuple hT
  simp only at hc hd
  subst hc hd
  refine wpAny_binaryOp_repeat_ref (T := "tuple") (U := "int") (by decide) ⟨_, ho, rfl⟩ (fun s' => typeIs_int s' 1 t) noFill_tuple_mul F.fills_int_mul F.slot_int_rmul repeat_tuple F.slot_int_index.lookup
    (call_meets F.slot_int_rmul (typeIs_int s 1 t) F.entry_int_rmul (F.args_int_rmul_2 _ _) (int_rmul_tuple 1 t l its.toArray n dd sl)
      ⟨ho, rfl, ⟨_, ho, rfl⟩, call_meets F.slot_tuple_mul ⟨_, ho, rfl⟩ F.entry_tuple_mul (F.args_tuple_mul_2 _ _) (mulOnce l its.toArray n dd sl t) ⟨ho, ?_⟩⟩)
  exact ⟨.ref l, H, I, rfl, q⟩
theorem op_repA : OpR X (binaryOp .Mult) (rRepA X.K) := by
  intro pins s σ H x y v u Q I rx ry h
  obtain ⟨l, k, xs, rfl, rfl, hT, hne, h1, h2, hz, q1, q2⟩ := h
  by_cases hk : k = 1
  · subst hk
    cases rx
    exact op_once I hT ry (q1 rfl)
  · exact op_repT pins s σ H (.ref l) (.int (k : Nat)) v u Q I rx ry ⟨l, (k : Int), xs, rfl, rfl, hT, hne, by omega, by omega, hz, fun p hp => by
      have := q2 (by omega) p hp
      unfold Vq.rp at this
      rw [Int.toNat_natCast]
      exact this⟩
end
theorem rp_one {α : Type} (xs : List α) : Vq.rp 1 xs = xs := by
  unfold Vq.rp
  rw [List.replicate_succ, List.replicate_zero, List.flatten_cons, List.flatten_nil, List.append_nil]
theorem vtx_rp (k : Nat) (a : List (List Nat)) : Vq.rp k (vtx a) = vtx (Vq.rp k a) := vtx_rep a k
section
variable {K : PySem.W.Frag} {ta tb : TE} {σ : L2.St} {H : Hp} {xs : List V} {k : Nat}
theorem et_rep (h : Vt.EvT K ta σ H xs) (hk : Ev tb σ H (.int (k : Nat))) (hne : xs ≠ []) (h1 : 1 ≤ k) (h2 : k ≤ 1000) (hz : xs.length ≤ 1000) : Vt.EvT K (tOp (rRepA K) ta tb) σ H (Vq.rp k xs) := by
  intro H1 e Q q
  refine h H1 e _ fun p H2 e2 hp => hk H2 (e.trans e2) _ fun H3 e3 => ⟨p, k, xs, rfl, rfl, ex_t e3 hp, hne, h1, h2, hz, fun h => ?_, fun _ p2 n2 => q p2 _ ((e2.trans e3).trans (Ex.new n2)) sqt_new⟩
  refine q p H3 (e2.trans e3) ?_
  rw [h, rp_one]
  exact ex_t e3 hp
end
end Vre

set_option Elab.async false
set_option linter.all false
set_option maxRecDepth 100000
set_option maxHeartbeats 4000000
/-! a tuple k times, k from 0 on. -/
namespace Vr0
open PySem PySem.Spec PyProof.Rows L2 Vl Evl Vp Vr Vt Vre
theorem mulZero (p : Addr) (us : Array Value) (m : Nat) (e : Option Addr) (t1 : Array (Option Value)) (u : Tok) (hi : us.isEmpty = false) :
    Meets (Builtin.«tuple.__mul__» ⟨[.ref p, .int 0 u], []⟩) (fun _ R s => s.heap.get? p = some { cls := .type "tuple", dict := e, data := .seq us m, slots := t1 } ∧
      R (.ok (.ret (Value.ref s.heap.objs.size))) { s with heap := s.heap.push { cls := Value.type "tuple", data := Data.seq #[] }, toks := s.toks }) :=
  .of_wp fun prog w A R s h => by
    obtain ⟨hh, g, d, tk, os⟩ := s
    obtain ⟨hp, h⟩ := h
    have f1 := AutoSeq1.idx_int
    have c1 : (us.isEmpty || (0 : Int) == 1) = false := by rw [hi]; rfl
    wp_walk using wpAny_loadPart' hp
    repeat (first
      | (refine wpAny_ite_false (decide_eq_false (by rw [c1]; exact Bool.false_ne_true)) ?_; wp_walk using wpAny_loadPart' hp))
    all_goals first
      | exact ⟨_, rfl, h⟩
      | (simp at *; done)
section
variable {X : Cx}
theorem op_zero {pins : List (Addr × Obj)} {σ : L2.St} {H : Hp} {s : Shared} {l : Addr} {xs : List V} {u : Value} {Q : VK} (I : Inv X pins σ H s) (hT : SqT X.K H l xs) (hne : xs ≠ []) (ry : RelV (.int 0) u) (q : ∀ p, H p = none → Q (.ref p) (upd H p (.tup []))) :
    wpAny (model X.prog X.w) X.A (binaryOp .Mult (.ref l) u) (EP X pins σ Q) X.xe s := by
  obtain ⟨t, rfl⟩ := ry
  obtain ⟨its, r, ⟨⟨cls, dd, data, sl⟩, ho, hc, n, hd⟩, hs⟩ := I.tuple hT
  simp only at hc hd
  subst hc hd
  have hle : its.length = xs.length := r.length.symm
  have hi : its.toArray.isEmpty = false := by
    cases its with
    | nil => exact absurd (List.eq_nil_of_length_eq_zero hle.symm) hne
    | cons a b => rfl
  refine wpAny_binaryOp_repeat_ref (T := "tuple") (U := "int") (by decide) ⟨_, ho, rfl⟩ (fun s' => typeIs_int s' 0 t) noFill_tuple_mul F.fills_int_mul F.slot_int_rmul repeat_tuple F.slot_int_index.lookup
    (call_meets F.slot_int_rmul (typeIs_int s 0 t) F.entry_int_rmul (F.args_int_rmul_2 _ _) (int_rmul_tuple 0 t l its.toArray n dd sl)
      ⟨ho, rfl, ⟨_, ho, rfl⟩, call_meets F.slot_tuple_mul ⟨_, ho, rfl⟩ F.entry_tuple_mul (F.args_tuple_mul_2 _ _) (mulZero l its.toArray n dd sl t hi) ⟨ho, ?_⟩⟩)
  refine ⟨.ref s.heap.objs.size, _, I.laid (t' := s.toks) (o := .tup []) (fun b ob q => Heap.get?_push_of_some _ q) (Nat.le_refl _) ?_, rfl, q _ (I.hok.fresh (Nat.le_refl _))⟩
  exact ⟨sz_of (by show 0 ≤ 100000; omega), [], .nil, IsTup.new _ _⟩
def rRepZ (K : PySem.W.Frag) : R2 := fun x y H Q => ∃ (l : Addr) (k : Nat) (xs : List V), x = .ref l ∧ y = .int (k : Nat) ∧ SqT K H l xs ∧ xs ≠ [] ∧ k ≤ 1000 ∧ xs.length ≤ 1000 ∧
  ((k = 1 → Q (.ref l) H) ∧ (k ≠ 1 → ∀ p, H p = none → Q (.ref p) (upd H p (.tup (Vq.rp k xs)))))
theorem op_repZ : OpR X (binaryOp .Mult) (rRepZ X.K) := by
  intro pins s σ H x y v u Q I rx ry h
  obtain ⟨l, k, xs, rfl, rfl, hT, hne, h2, hz, q1, q2⟩ := h
  by_cases hk : k = 0
  · subst hk
    cases rx
    exact op_zero I hT hne ry (q2 (by omega))
  · exact op_repA pins s σ H (.ref l) (.int (k : Nat)) v u Q I rx ry ⟨l, k, xs, rfl, rfl, hT, hne, by omega, h2, hz, q1, fun h => q2 (by omega)⟩
end
section
variable {K : PySem.W.Frag} {ta tb : TE} {σ : L2.St} {H : Hp} {xs : List V} {k : Nat}
theorem et_repZ (h : Vt.EvT K ta σ H xs) (hk : Ev tb σ H (.int (k : Nat))) (hne : xs ≠ []) (h2 : k ≤ 1000) (hz : xs.length ≤ 1000) : Vt.EvT K (tOp (rRepZ K) ta tb) σ H (Vq.rp k xs) := by
  intro H1 e Q q
  refine h H1 e _ fun p H2 e2 hp => hk H2 (e.trans e2) _ fun H3 e3 => ⟨p, k, xs, rfl, rfl, ex_t e3 hp, hne, h2, hz, fun h => ?_, fun _ p2 n2 => q p2 _ ((e2.trans e3).trans (Ex.new n2)) sqt_new⟩
  refine q p H3 (e2.trans e3) ?_
  rw [h, rp_one]
  exact ex_t e3 hp
end
end Vr0

set_option Elab.async false
set_option linter.all false
set_option maxRecDepth 100000
set_option maxHeartbeats 4000000
/-! -p, p * k, is_integer. -/
namespace K14
open PySem PySem.Spec PyProof.Rows L2 Vl Evl Vp Vc Ve Ven Vg Vb Vt Vlt Vsa Vle Vo Vr Vda Vw Vx2
abbrev sII : Stmt := top 31
abbrev sPmu : Stmt := memP 8
abbrev sPng : Stmt := memP 9
def spIsInt (K : PySem.W.Frag) : Sp := fun vs H Q _ => ∃ (x : V) (t : String) (b1 b2 : Bool), vs = [x] ∧ TyX K H x (.type t) ∧ kitB t "int" = some b1 ∧ kitB t "bool" = some b2 ∧ Q (.bl (b1 && !b2)) H
def NoInt (K : PySem.W.Frag) (H : Hp) (y : V) : Prop := ∃ (t : String) (b1 b2 : Bool), TyX K H y (.type t) ∧ kitB t "int" = some b1 ∧ kitB t "bool" = some b2 ∧ (b1 && !b2) = false
def Raised (CN : Addr) (H : Hp) (y : V) (E : XK) : Prop := ∀ d H', Ex H H' → H' d = some (.xd [("value", y)]) → E (.ref CN) (some d) H'
def pw (t : Tr) : Nat → Tr
  | 0 => t
  | n + 1 => .thn (pw t n) t
theorem rp_snoc {α : Type} (xs : List α) (n : Nat) : Vq.rp (n + 1) xs = Vq.rp n xs ++ xs := by
  unfold Vq.rp
  rw [List.replicate_succ', List.flatten_append, List.flatten_cons, List.flatten_nil, List.append_nil]
theorem pw_steps (t : Tr) : ∀ n, (pw t n).steps = t.steps ++ Vq.rp n (t.steps ++ [.thn])
  | 0 => by
    show t.steps = t.steps ++ []
    rw [List.append_nil]
  | n + 1 => by
    show (pw t n).steps ++ (t.steps ++ [.thn]) = _
    rw [pw_steps t n, rp_snoc, List.append_assoc]
theorem pw_nd (t : Tr) : ∀ n, Tr.nd (pw t n) = (n + 1) * Tr.nd t + n
  | 0 => by
    show Tr.nd t = _
    omega
  | n + 1 => by
    have ih := pw_nd t n
    show ((pw t n).steps ++ (t.steps ++ [Op.thn])).length = _
    rw [nd_bin, ih, Nat.add_mul (n + 1) 1]
    omega
def spNg (K : PySem.W.Frag) (CP CA : Addr) : Sp := fun vs H Q _ => ∃ (o : Addr) (t : Tr), vs = [.ref o] ∧ PatAt K CP CA H o t ∧ Tr.nd t ≤ 60 ∧ ∀ o' H', H o' = none → Ex H H' → PatAt K CP CA H' o' (mir t) → Q (.ref o') H'
def spMul (K : PySem.W.Frag) (CP CA CN : Addr) : Sp := fun vs H Q E => ∃ (o : Addr) (y : V) (t : Tr), vs = [.ref o, y] ∧ PatAt K CP CA H o t ∧
  ((∃ k : Nat, y = .int ((k + 1 : Nat) : Int) ∧ k ≤ 60 ∧ Tr.nd (pw t k) ≤ 60 ∧ ∀ o' H', H o' = none → Ex H H' → PatAt K CP CA H' o' (pw t k) → Q (.ref o') H') ∨
   (((∃ i : Int, y = .int i ∧ i < 1) ∨ NoInt K H y) ∧ Raised CN H y E))
theorem raisedF {CN : Addr} {H : Hp} {y : V} {E : XK} (h : Raised CN H y E) : RaisedF CN "value" H y E := h
section
variable {K : PySem.W.Frag} {te tb : TE} {σ : L2.St} {H : Hp} {CA CP : Addr}
theorem est_rep {os : List Op} {k : Nat} (h : EvSt K te σ H os) (hk : Ev tb σ H (.int (k : Nat))) (hne : os ≠ []) (h2 : k ≤ 1000) (hz : os.length ≤ 1000) : EvSt K (tOp (Vr0.rRepZ K) te tb) σ H (Vq.rp k os) := fun H1 e Q q =>
  h H1 e _ fun p rs H2 e2 hp ho => hk H2 (e.trans e2) _ fun H3 e3 => by
    have hl : rs.length = os.length := by rw [← ho]; exact (List.length_map _).symm
    refine ⟨p, k, rfs rs, rfl, rfl, ex_t e3 hp.1, fun z => hne (List.eq_nil_of_length_eq_zero (by
      have := congrArg List.length z
      rw [rfs_len, hl] at this
      exact this)), h2, by rw [rfs_len, hl]; exact hz, fun h => ?_, fun _ p2 n2 => ?_⟩
    · refine q p rs H3 (e2.trans e3) (hp.mono e3) ?_
      rw [h, Vre.rp_one]
      exact ho
    · have e4 := e3.trans (Ex.new (o := .tup (Vq.rp k (rfs rs))) n2)
      have er : Vq.rp k (rfs rs) = rfs (Vq.rp k rs) := by
        unfold Vq.rp rfs
        rw [List.map_flatten, List.map_replicate]
      refine q p2 (Vq.rp k rs) _ (e2.trans e4) ⟨?_, fun r hr => ?_⟩ ?_
      · rw [← er]
        exact .inl (.inl upd_same)
      · unfold Vq.rp at hr
        obtain ⟨l, hl1, hl2⟩ := List.mem_flatten.mp hr
        rw [(List.mem_replicate.mp hl1).2] at hl2
        exact (hp.2 r hl2).mono e4
      · unfold Vq.rp ops at *
        rw [List.map_flatten, List.map_replicate, ho]
end
section
variable {P : Program} {w : World} {K : PySem.W.Frag} {mg : Str → Option Value} {base : Heap} {CA CP CN : Addr}
theorem scII : FnScope ["value"] ["value"] (defScope sII) := ⟨rfl, rfl, rfl, by decide +kernel, rfl, by decide +kernel, by decide +kernel⟩
theorem ok_ii {f : Addr} {fd : FuncData} (F : FnP K "is_integer" sII f fd) (mIsi : mg "isinstance" = none) (mInt : mg "int" = none) (mBool : mg "bool" = none) : FnOk P w K mg base L2.CX0 1 f fd ["value"] (spIsInt K) := by
  refine F.ok (CX := L2.CX0) scII (fun vs H Q E h => ?_) (fun cdv A outer s H vs Q E hr h => ?_)
  · obtain ⟨x, t, b1, b2, rfl, _⟩ := h
    rfl
  · refine ⟨_, (pss_one (ps_ret (pe_and (pe_callB call_isi (by rfl) mIsi boot_isinstance (pa_cons (pv 0) (pa_cons (pe_bltn (v := V.ty "int") (by rfl) mInt boot_int rfl) pa_nil))) (pe_one (pe_not (pe_callB call_isi (by rfl) mIsi boot_isinstance (pa_cons (pv 0) (pa_cons (pe_bltn (v := V.ty "bool") (by rfl) mBool boot_bool rfl) pa_nil)))))))), ?_⟩
    obtain ⟨x, t, b1, b2, rfl, ht, h1, h2, q⟩ := h
    refine ⟨_, rfl, x, V.ty "int", .type t, .type "int", b1, rfl, .ty _, ht, kit_ty h1, b1, rfl, ?_⟩
    cases b1 with
    | false => exact ifF Bool.false_ne_true q
    | true => exact ifT rfl ⟨_, rfl, x, V.ty "bool", .type t, .type "bool", b2, rfl, .ty _, ht, kit_ty h2, b2, rfl, q⟩
theorem scPng : FnScope ["self"] ["self"] (defScope sPng) := ⟨rfl, rfl, rfl, by decide +kernel, rfl, by decide +kernel, by decide +kernel⟩
theorem ok_ng {f : Addr} {fd : FuncData} (F : FnM K "__neg__" "Pattern.__neg__" sPng f fd) (B : FP K CP) (TOs : Fu P w K mg base L2.CX0 2 "opposite" (spOs K)) (TPt : Nw P w K mg base CP L2.CX0 5 "Pattern" (spPt K CP CA)) : FnOk P w K mg base L2.CX0 7 f fd ["self"] (spNg K CP CA) := by
  refine F.ok (CX := L2.CX0) scPng (fun vs H Q E h => ?_) (fun cdv A' outer s H vs Q E hr h => ?_)
  · obtain ⟨o, t, rfl, _⟩ := h
    rfl
  · refine ⟨_, (pss_one (ps_ret (pe_nw TPt hr (by rfl) (pa_cons (pe_fu TOs hr (by rfl) (pa_cons (pe_fld (pv 0) rfl) pa_nil)) pa_nil)))), ?_⟩
    obtain ⟨o, t, rfl, P1, hl, k⟩ := h
    have hl : t.steps.length ≤ 60 := hl
    have key := epat_new (K := K) (CP := CP) (CA := CA) (E := fun _ => nil0) (t := mir t) (σ := [some (.ref o)]) (H := H) (te := tFu (spOs K) (fun _ => nil0) (tCons (tFld K (tVar 0) "_steps") tNil)) (fun H1 e Q1 q1 => est_fld (i := 0) rfl P1 B.cls B.steps H1 e _ fun p rs H2 e2 hp ho => ⟨p, rs, t, rfl, hp, ho, by
      have : rs.length = (ops rs).length := (List.length_map _).symm
      rw [this, ho]
      exact hl, fun p2 rs2 H3 e3 hp2 ho2 => q1 p2 rs2 H3 (e2.trans e3) hp2 ho2⟩) (by show (mir t).steps.length ≤ 60; rw [mir_nd]; exact hl)
    exact key H (Ex.refl _) _ k
theorem scPmu : FnScope ["self", "other"] ["self", "other"] (defScope sPmu) := ⟨rfl, rfl, rfl, by decide +kernel, rfl, by decide +kernel, by decide +kernel⟩
theorem ok_mu {f : Addr} {fd : FuncData} (F : FnM K "__mul__" "Pattern.__mul__" sPmu f fd) (B : FP K CP) (CnC : Cn mg) (TIi : Fu P w K mg base L2.CX0 1 "is_integer" (spIsInt K)) (EN : Err1 P w K mg base "BadNumber" "value" CN) (TPt : Nw P w K mg base CP L2.CX0 5 "Pattern" (spPt K CP CA)) :
    FnOk P w K mg base (L2.CX P w) 7 f fd ["self", "other"] (spMul K CP CA CN) := by
  obtain ⟨fE, fdE, iC, tI, bE, GE⟩ := EN.ini
  obtain ⟨tTHEN, gTHEN⟩ := CnC.thn
  refine F.ok (CX := L2.CX P w) scPmu (fun vs H Q E h => ?_) (fun cdv A outer s H vs Q E hr h => ?_)
  · obtain ⟨o, y, a, rfl, _⟩ := h
    rfl
  · have hr2 : Room 2 _ := hr.mono (by omega)
    refine ⟨_, (pss_cons (ps_if (PW.pt (pw_or (pt_not (pt_val (pe_fu TIi hr (by rfl) (pa_cons (pv 1) pa_nil)))) (pw_or1 (pt_cmpR op_lt (pv 1) pe_int (nomark _))))) (pss_one (ps_raise rfl (takes_of rfl rfl rfl rfl) (pmk_oex EN.T iC tI GE hr2 bE .nil pass0 (by rfl) EN.g (pa_cons (pv 1) pa_nil)))) pss_nil)
      (pss_one (ps_ret (pe_nw TPt hr (by rfl) (pa_cons (pe_op (op_catA) (pe_fld (pv 0) rfl) (pe_op Vr0.op_repZ (pe_op (op_catA) (pe_fld (pv 0) rfl) (pe_tup (pa_cons (pe_tup (pa_cons (pe_glob (v := V.str (tx kThen)) (by rfl) gTHEN ⟨tTHEN, rfl⟩) (pa_cons (pe_tup pa_nil) pa_nil))) pa_nil))) (pe_op op_sub (pv 1) pe_int))) pa_nil))))), ?_⟩
    obtain ⟨o, y, t, rfl, P1, h⟩ := h
    refine s_seq ?_
    rcases h with ⟨k, rfl, k60, hnd, q⟩ | ⟨⟨i, rfl, hi⟩ | ⟨ty, b1, b2, ht, g1, g2, g3⟩, q⟩
    · refine ⟨_, rfl, _, "int", true, false, rfl, .base (.int ((k + 1 : Nat) : Int)), by decide +kernel, by decide +kernel, true, rfl, ?_⟩
      refine ifF (by decide) ?_
      refine ⟨_, rfl, _, _, rfl, rfl, _, rfl, ?_⟩
      refine ifF (fun z => absurd (of_decide_eq_true z) (by omega)) ?_
      have hl : Tr.nd t ≤ 60 := by
        have h1 := pw_nd t k
        have h2 : 1 * Tr.nd t ≤ (k + 1) * Tr.nd t := Nat.mul_le_mul_right _ (by omega)
        omega
      have hl : t.steps.length ≤ 60 := hl
      have hsz : (Vq.rp k (t.steps ++ [Op.thn])).length ≤ 60 := by
        have h1 : (pw t k).steps.length ≤ 60 := hnd
        rw [pw_steps, List.length_append] at h1
        omega
      have fl : EvSt K (tFld K (tVar 0) "_steps") [some (.ref o), some (.int ((k + 1 : Nat) : Int))] H t.steps := est_fld (i := 0) rfl P1 B.cls B.steps
      have hsub : Ev (tOp (rI0 fun i j => .int (i - j)) (tVar 1) (tC (.int 1))) [some (.ref o), some (.int ((k + 1 : Nat) : Int))] H (.int (k : Nat)) := ev_is (ev_op (ev_var (i := 1) rfl) ev_c rv_I0) (congrArg V.int (by omega))
      have key := epat_new (K := K) (CP := CP) (CA := CA) (E := fun _ => nil0) (t := pw t k) (by
        have := est_cat fl (est_rep (est_cat fl (est_one (K := K) (k := kThen) (op := .thn) rfl rfl) (by show _ + 1 ≤ 1000; omega)) hsub (by simp) (by omega) (by rw [List.length_append]; show _ + 1 ≤ 1000; omega)) (by omega)
        rw [← pw_steps] at this
        exact this) hnd
      exact key H (Ex.refl _) _ q
    · refine ⟨_, rfl, _, "int", true, false, rfl, .base (.int i), by decide +kernel, by decide +kernel, true, rfl, ?_⟩
      refine ifF (by decide) ?_
      refine ⟨_, rfl, _, _, rfl, rfl, _, rfl, ?_⟩
      refine ifT (decide_eq_true hi) ?_
      exact raised_f (W := fun cls d _ H' => E cls d H') 1 rfl rfl (raisedF q)
    · refine ⟨_, rfl, y, ty, b1, b2, rfl, ht, g1, g2, b1 && !b2, rfl, ?_⟩
      rw [g3]
      refine ifT rfl ?_
      exact raised_f (W := fun cls d _ H' => E cls d H') 1 rfl rfl (raisedF q)
end
end K14

set_option Elab.async false
set_option linter.all false
set_option maxRecDepth 100000
set_option maxHeartbeats 4000000
/-! A walk; the words of the opposite. -/
namespace K14
open PySem PySem.Spec PyProof.Rows L2 Vl Evl Vp Vc Ve Ven Vg Vb Vt Vlt Vsa Vle Vo Vr Vda Vw Vx2
abbrev sWo : Stmt := top 51
abbrev nWo : List Str := ["names", "steps", "place", "name"]
theorem star_rev {P Q : List Nm → Prop} (h : ∀ w, P w → Q w.reverse) {w : List Nm} (s : Star P w) : Star Q w.reverse := by
  induction s with
  | nil => exact .nil
  | app hu _ ih =>
    rename_i u v _
    rw [List.reverse_append]
    refine star_app ih ?_
    have := Star.app (h u hu) (Star.nil (P := Q))
    rw [List.append_nil] at this
    exact this
theorem mir_L : ∀ (t : Tr) (w : List Nm), t.L w → (mir t).L w.reverse
  | .atom n ns, w, ⟨x, e, h⟩ => ⟨x, by rw [e]; rfl, h⟩
  | .thn a b, w, ⟨u, v, e, h1, h2⟩ => ⟨v.reverse, u.reverse, by rw [e, List.reverse_append], mir_L b v h2, mir_L a u h1⟩
  | .eith a b, w, h => h.elim (fun h => .inl (mir_L a w h)) fun h => .inr (mir_L b w h)
  | .rep a, w, h => star_rev (mir_L a) h
  | .opt a, w, h => h.elim (fun h => .inl (by rw [h]; rfl)) fun h => .inr (mir_L a w h)
theorem mir_mir : ∀ t : Tr, mir (mir t) = t
  | .atom n ns => rfl
  | .thn a b => by
    show Tr.thn (mir (mir a)) (mir (mir b)) = _
    rw [mir_mir a, mir_mir b]
  | .eith a b => by
    show Tr.eith (mir (mir a)) (mir (mir b)) = _
    rw [mir_mir a, mir_mir b]
  | .rep a => by
    show Tr.rep (mir (mir a)) = _
    rw [mir_mir a]
  | .opt a => by
    show Tr.opt (mir (mir a)) = _
    rw [mir_mir a]
theorem mir_words (t : Tr) (w : List Nm) : (mir t).L w.reverse ↔ t.L w := by
  refine ⟨fun h => ?_, mir_L t w⟩
  have := mir_L (mir t) w.reverse h
  rw [mir_mir, List.reverse_reverse] at this
  exact this
theorem mir_nms : ∀ (t : Tr) (x : Nm), x ∈ nmsOf (mir t).steps ↔ x ∈ nmsOf t.steps
  | .atom n ns, x => Iff.rfl
  | .thn a b, x => by
    show x ∈ nmsOf ((mir b).steps ++ ((mir a).steps ++ [.thn])) ↔ x ∈ nmsOf (a.steps ++ (b.steps ++ [.thn]))
    rw [nmsOf_app, nmsOf_app, nmsOf_app, nmsOf_app, List.mem_append, List.mem_append, List.mem_append, List.mem_append, mir_nms a, mir_nms b]
    exact ⟨fun h => h.elim (fun h => .inr (.inl h)) fun h => h.elim .inl fun h => .inr (.inr h), fun h => h.elim (fun h => .inr (.inl h)) fun h => h.elim .inl fun h => .inr (.inr h)⟩
  | .eith a b, x => by
    show x ∈ nmsOf ((mir a).steps ++ ((mir b).steps ++ [.eith])) ↔ x ∈ nmsOf (a.steps ++ (b.steps ++ [.eith]))
    rw [nmsOf_app, nmsOf_app, nmsOf_app, nmsOf_app, List.mem_append, List.mem_append, List.mem_append, List.mem_append, mir_nms a, mir_nms b]
  | .rep a, x => by
    show x ∈ nmsOf ((mir a).steps ++ [.rep]) ↔ x ∈ nmsOf (a.steps ++ [.rep])
    rw [nmsOf_app, nmsOf_app, List.mem_append, List.mem_append, mir_nms a]
  | .opt a, x => by
    show x ∈ nmsOf ((mir a).steps ++ [.opt]) ↔ x ∈ nmsOf (a.steps ++ [.opt])
    rw [nmsOf_app, nmsOf_app, List.mem_append, List.mem_append, mir_nms a]
def wkn (xs : List Nm) : Nat → Tr
  | 0 => .atom false [xs.getD 0 []]
  | n + 1 => .thn (wkn xs n) (.atom false [xs.getD (n + 1) []])
def wst (xs : List Nm) : Nat → List Op
  | 0 => []
  | n + 1 => (wkn xs n).steps
def wk (xs : List Nm) : Tr := wkn xs (xs.length - 1)
theorem wkn_nd (xs : List Nm) : ∀ n, (wkn xs n).steps.length = 2 * n + 1
  | 0 => rfl
  | n + 1 => by
    show ((wkn xs n).steps ++ ([Op.atom false [xs.getD (n + 1) []]] ++ [Op.thn])).length = _
    rw [List.length_append, wkn_nd xs n]
    show _ + 2 = _
    omega
def spWo (K : PySem.W.Frag) (CP CA : Addr) : Sp := fun vs H Q _ => ∃ (p : Addr) (xs : List Nm), vs = [.ref p] ∧ H p = some (.tup (vtx xs)) ∧ (∀ l ∈ xs, nam l) ∧ 1 ≤ xs.length ∧ xs.length ≤ 10 ∧ ∀ o H', H o = none → Ex H H' → PatAt K CP CA H' o (wk xs) → Q (.ref o) H'
theorem StepAt.upd {H : Hp} {p st : Addr} {o : Op} {xs us : List V} (h : StepAt H p o) (hs : H st = some (.lst xs)) : StepAt (upd H st (.lst us)) p o := by
  obtain ⟨a, h1, h2⟩ := h
  exact ⟨a, (upd_ne fun z => by rw [z, hs] at h1; cases h1).trans h1, (upd_ne fun z => by rw [z, hs] at h2; cases h2).trans h2⟩
/-- a list of steps that grows -/
structure Ls (H H' : Hp) (st : Addr) (rs : List Rw) : Prop where
  ex : Ex H H'
  no : H st = none
  st : H' st = some (.lst (rfs rs))
  row : ∀ r ∈ rs, StepAt H' r.1 r.2
theorem Ls.mono {H H' H2 : Hp} {st : Addr} {rs : List Rw} (h : Ls H H' st rs) (e : Ex H' H2) : Ls H H2 st rs := ⟨h.ex.trans e, h.no, e _ _ h.st, fun r hr => (h.row r hr).mono e⟩
theorem Ls.push {H H' : Hp} {st : Addr} {rs : List Rw} {r : Rw} (h : Ls H H' st rs) (hr : StepAt H' r.1 r.2) : Ls H (upd H' st (.lst (rfs rs ++ [.ref r.1]))) st (rs ++ [r]) := by
  refine ⟨Ex.mut h.ex h.no, h.no, ?_, fun c hc => ?_⟩
  · rw [upd_same]
    unfold rfs
    rw [List.map_append]
    rfl
  · rcases List.mem_append.mp hc with hc | hc
    · exact (h.row c hc).upd h.st
    · rw [List.mem_singleton.mp hc]
      exact hr.upd h.st
section
variable {K : PySem.W.Frag} {σ : L2.St} {H : Hp}
theorem s_forEnT {D : L2.Ends} {g : TG} {tu : TS} {ta : TA} {a : Addr} {xs : List V} (h : EvA ta σ H [.ref a]) (hx : SqT K H a xs) (Pv : Nat → L2.St → Hp → Prop) (h0 : ∀ H1, Ex H H1 → Pv 0 σ H1) (hl : ∀ i σ' H', Pv i σ' H' → SqT K H' a xs)
    (hs : ∀ i x T σ' H', xs[i]? = some x → Pv i σ' H' → H' T = none → g (.ref T) σ' (upd H' T (.tup [.int (i : Nat), x])) fun σ2 H2 => tu { D with nx := Pv (i + 1), ct := Pv (i + 1), bk := D.nx } σ2 H2) (hd : ∀ σ' H', Pv xs.length σ' H' → D.nx σ' H') : tFor (iEnumA K ta) g tu D σ H :=
  h H (Ex.refl H) _ fun H1 e => ⟨a, xs, rfl, .inr ⟨ex_t e hx, for_it walk_enT Pv (h0 H1 e) (fun i σ' H' _ p => hl i σ' H' p) (fun i v σ' H' H2 _ p ⟨T, x, e1, e2, e3, e4⟩ => by subst e1 e3; exact hs i x T σ' H' e4 p e2) hd⟩⟩
/-- steps.append((KIND, (names,))) -/
theorem s_step {D : L2.Ends} {H0 : Hp} {st : Addr} {rs : List Rw} {i : Nat} {ta : TA} {xs : List Nm} {k : List Nat} {o : Op} (L : Ls H0 H st rs) (hv : σ[i]? = some (some (.ref st))) (hl : rs.length ≤ 1000) (h : EvA ta σ H (vtx xs)) (hx : xs.length ≤ 1000) (hk : kd o = k) (hn : nms o = xs)
    (q : ∀ p H2, Ls H0 H2 st (rs ++ [(p, o)]) → D.nx σ H2) : tDrop (tBM K "list" rAppend (tVar i) (tCons (tTup (tCons (tC (.str (tx k))) (tCons (tTup ta) tNil))) tNil)) D σ H := by
  refine ⟨_, hv, .inl ⟨rfl, _, sq_of L.st⟩, ?_⟩
  refine h H (Ex.refl _) _ fun H1 e1 => ⟨by rw [vtx_len]; exact sz_of (by omega), fun a na => ⟨sz_of (by show 2 ≤ 100000; omega), fun b nb => ?_⟩⟩
  have e2 := (e1.trans (Ex.new (o := .tup (vtx xs)) na)).trans (Ex.new (o := .tup [.str (tx k), .ref a]) nb)
  have L2 := L.mono e2
  refine ⟨st, _, _, rfl, rfl, L2.st, sz_lt (by rw [rfs_len]; omega), q b _ (L2.push (r := (b, o)) ⟨a, ?_, ?_⟩)⟩
  · rw [hk]
    exact upd_same
  · rw [hn]
    exact Ex.new nb _ _ upd_same
end
section
variable {P : Program} {w : World} {K : PySem.W.Frag} {mg : Str → Option Value} {base : Heap} {CA CP CN : Addr}
theorem scWo : FnScope nWo ["names"] (defScope sWo) := ⟨rfl, rfl, rfl, by decide +kernel, rfl, by decide +kernel, by decide +kernel⟩
theorem ok_wo {f : Addr} {fd : FuncData} (F : FnP K "walk_of" sWo f fd) (CN : Cn mg) (TCs : Fu P w K mg base L2.CX0 3 "check_sequence" (spChkS K)) (TPt : Nw P w K mg base CP L2.CX0 5 "Pattern" (spPt K CP CA)) (mEnum : mg "enumerate" = none) (mTuple : mg "tuple" = none) :
    FnR P w K mg base L2.CX0 7 f (spSt (spWo K CP CA)) := by
  obtain ⟨tANY, gANY⟩ := CN.any
  obtain ⟨tTHEN, gTHEN⟩ := CN.thn
  refine okStar (CX := L2.CX0) F (S := scWo) StX.cxUp_none (fun kV doc pm cdv ct an rest => by cases rest <;> rfl) (fun cdv A' outer s H vs Q E hr h => ?_)
  refine ⟨_, (pss_cons (ps_expr (pe_fu TCs hr (by rfl) (pa_cons (pv 0) pa_nil)))
      (pss_cons (ps_set (i := 1) scWo.nd rfl (by first | exact Or.inl rfl | exact Or.inr rfl) (pe_lst pa_nil))
      (pss_cons (ps_for (passes_of rfl) rfl (pi_enumA (by rfl) mEnum (pa_cons (pv 0) pa_nil)) (pg_tup rfl (pgs_cons (pg_name (i := 2) scWo.nd rfl (by first | exact Or.inl rfl | exact Or.inr rfl)) (pgs_cons (pg_name (i := 3) scWo.nd rfl (by first | exact Or.inl rfl | exact Or.inr rfl)) pgs_nil))) (pss_cons (ps_expr (pe_bm PySem.F.plainAttrs_list PySem.F.slot_list_append PySem.F.type_list_append mt_append (pv 1) (pa_cons (pe_tup (pa_cons (pe_glob (v := V.str (tx kAny)) (by rfl) gANY ⟨tANY, rfl⟩) (pa_cons (pe_tup (pa_cons (pv 3) pa_nil)) pa_nil))) pa_nil)))
      (pss_one (ps_if (pt_cmpR op_gt (pv 2) pe_int (nomark _)) (pss_one (ps_expr (pe_bm PySem.F.plainAttrs_list PySem.F.slot_list_append PySem.F.type_list_append mt_append (pv 1) (pa_cons (pe_tup (pa_cons (pe_glob (v := V.str (tx kThen)) (by rfl) gTHEN ⟨tTHEN, rfl⟩) (pa_cons (pe_tup pa_nil) pa_nil))) pa_nil)))) pss_nil))))
      (pss_one (ps_ret (pe_nw TPt hr (by rfl) (pa_cons (pe_callTy call_tuple_of (by rfl) mTuple boot_tuple (pa_cons (pv 1) pa_nil)) pa_nil))))))), ?_⟩
  obtain ⟨p, xs, rfl, hp, hn, h1, h10, k⟩ := h
  refine q_drop (v := .non) (ev_fu (ea_cons (ev_var rfl) ea_nil) fun G1 g1 Q1 q1 E1 => ⟨p, xs, rfl, .inr (st_of (g1 _ _ hp)), hn, h1, fun G2 g2 => q1 G2 g2⟩) fun H1 e1 => ?_
  refine q_asgL (xs := []) (el_lst ea_nil (by show 0 ≤ 100000; omega)) fun st H2 nst e2 hst => ?_
  have L0 : Ls H H2 st [] := ⟨e1.trans e2, fresh_back e1 nst, hst, fun _ h => nomatch h⟩
  refine s_seq ?_
  have hpT : SqT K H p (vtx xs) := st_of hp
  refine s_forEnT (a := p) (xs := vtx xs) (ea_cons (ev_var rfl) ea_nil) (ex_t (e1.trans e2) hpT) (fun i st' H' => ∃ (t2 t3 : Option V) (rs : List Rw), st' = [some (.ref p), some (.ref st), t2, t3] ∧ Ls H H' st rs ∧ ops rs = wst xs i ∧ rs.length ≤ 2 * i) (fun H3 e3 => ⟨none, none, [], rfl, L0.mono e3, rfl, Nat.le_refl _⟩) (fun i σ' H' ⟨_, _, _, _, L, _⟩ => ex_t L.ex hpT) ?_ ?_
  · rintro i v T σ' H3 hx ⟨t2, t3, rs, rfl, L, hops, hrl⟩ nT
    unfold vtx at hx
    rw [List.getElem?_map] at hx
    obtain ⟨x, hx2, rfl⟩ := Option.map_eq_some_iff.mp hx
    have hx := hx2
    have hi : i < xs.length := (List.getElem?_eq_some_iff.mp hx).1
    have hg : xs.getD i [] = x := by rw [List.getD_eq_getElem?_getD, hx]; rfl
    refine ⟨T, _, rfl, .inl (.inl upd_same), rfl, ?_⟩
    refine ⟨_, _, rfl, _, _, rfl, rfl, ?_⟩
    dsimp only [List.set]
    have L1 := L.mono (Ex.new (o := .tup [.int (i : Nat), .str (tx x)]) nT)
    refine s_seq ?_
    refine s_step (i := 1) (k := kAny) (o := .atom false [x]) (xs := [x]) L1 rfl (by omega) (ea_cons (ev_var rfl) ea_nil) (by show 1 ≤ 1000; omega) rfl rfl fun pa H4 L4 => ?_
    cases i with
    | zero =>
      refine s_when (b := false) (et_test (ev_op (ev_var rfl) ev_c rv_I0)) (fun z => nomatch z) fun _ H5 e5 => ⟨_, _, _, rfl, L4.mono e5, ?_, by rw [List.length_append]; show _ + 1 ≤ _; omega⟩
      rw [ops_app, hops, ← hg]
      rfl
    | succ n =>
      refine s_when (b := true) (et_test (ev_is (ev_op (ev_var rfl) ev_c rv_I0) (congrArg V.bl (decide_eq_true (by omega))))) (fun _ H5 e5 => ?_) fun z => nomatch z
      refine s_step (i := 1) (k := kThen) (o := .thn) (xs := []) (L4.mono e5) rfl (by rw [List.length_append]; show _ + 1 ≤ _; omega) ea_nil (by show 0 ≤ 1000; omega) rfl rfl fun pb H6 L6 => ⟨_, _, _, rfl, L6, ?_, by rw [List.length_append, List.length_append]; show _ + 1 + 1 ≤ _; omega⟩
      rw [ops_app, ops_app, hops, ← hg, List.append_assoc]
      rfl
  · rintro σ' H3 ⟨t2, t3, rs, rfl, L, hops, hrl⟩
    rw [vtx_len] at hops hrl
    obtain ⟨n, hn⟩ : ∃ n, xs.length = n + 1 := ⟨xs.length - 1, by omega⟩
    have hwk : wk xs = wkn xs n := by
      unfold wk
      rw [hn]
      rfl
    rw [hn] at hops
    have hst : EvSt K (tCB (fun vs H Q => ∃ p ys, vs = [.ref p] ∧ ((SqL K H p ys ∧ ∀ l, H l = none → Q (.ref l) (upd H l (.tup ys))) ∨ (SqT K H p ys ∧ Q (.ref p) H))) (tCons (tVar 1) tNil)) [some (.ref p), some (.ref st), t2, t3] H3 (wk xs).steps := fun H4 e4 Q4 q4 =>
      eu_tupleA (K := K) (ev_var (i := 1) rfl) (sq_of L.st) H4 e4 _ fun pt H5 npt e5 hpt => q4 pt rs H5 e5 ⟨st_of hpt, fun r hr => (L.row r hr).mono (e4.trans e5)⟩ (by rw [hwk]; exact hops)
    refine epat_new (K := K) (CP := CP) (CA := CA) (E := fun _ => nil0) hst (by show (wk xs).steps.length ≤ 60; rw [hwk, wkn_nd]; omega) H3 (Ex.refl _) _ fun o H4 no e4 PA => k o H4 ?_ (L.ex.trans e4) PA
    exact fresh_back L.ex no
end
end K14

set_option Elab.async false
set_option linter.all false
set_option maxRecDepth 100000
set_option maxHeartbeats 4000000
/-! All short words, each once. -/
namespace K14
open PySem PySem.Spec PyProof.Rows L2 Vl Evl Vp Vc Ve Ven Vg Vb Vt Vlt Vsa Vle Vo Vr Vda Vw Vx2
/-- the rows of this length, in order -/
def lvl (xs : List Nm) : Nat → List (List Nm)
  | 0 => [[]]
  | n + 1 => (lvl xs n).flatMap fun r => xs.map fun x => r ++ [x]
def upto (xs : List Nm) : Nat → List (List Nm)
  | 0 => [[]]
  | n + 1 => upto xs n ++ lvl xs (n + 1)
theorem lvl_len {xs : List Nm} : ∀ (n : Nat) (r : List Nm), r ∈ lvl xs n → r.length = n
  | 0, r, h => by rw [List.mem_singleton.mp h]; rfl
  | n + 1, r, h => by
    obtain ⟨r0, h0, h1⟩ := List.mem_flatMap.mp h
    obtain ⟨x, _, rfl⟩ := List.mem_map.mp h1
    rw [List.length_append, lvl_len n r0 h0]
    rfl
theorem lvl_of {xs : List Nm} : ∀ (n : Nat) (r : List Nm), r ∈ lvl xs n → ∀ x ∈ r, x ∈ xs
  | 0, r, h, x, hx => by
    rw [List.mem_singleton.mp h] at hx
    cases hx
  | n + 1, r, h, x, hx => by
    obtain ⟨r0, h0, h1⟩ := List.mem_flatMap.mp h
    obtain ⟨y, hy, rfl⟩ := List.mem_map.mp h1
    rcases List.mem_append.mp hx with hx | hx
    · exact lvl_of n r0 h0 x hx
    · rw [List.mem_singleton.mp hx]
      exact hy
theorem upto_of {xs : List Nm} : ∀ (n : Nat) (r : List Nm), r ∈ upto xs n → r.length ≤ n ∧ ∀ x ∈ r, x ∈ xs
  | 0, r, h => by
    rw [List.mem_singleton.mp h]
    exact ⟨Nat.le_refl _, fun _ h => nomatch h⟩
  | n + 1, r, h => by
    rcases List.mem_append.mp h with h | h
    · exact ⟨Nat.le_succ_of_le (upto_of n r h).1, (upto_of n r h).2⟩
    · exact ⟨Nat.le_of_eq (lvl_len _ r h), lvl_of _ r h⟩
theorem filt_map {xs : List Nm} (nd : xs.Nodup) (r w : List Nm) (x : Nm) (hx : x ∈ xs) : (xs.map fun y => r ++ [y]).filter (fun v => decide (v = w ++ [x])) = if r = w then [w ++ [x]] else [] := by
  induction xs with
  | nil => cases hx
  | cons y ys ih =>
    obtain ⟨n1, n2⟩ := List.nodup_cons.mp nd
    rw [List.map_cons]
    have e : (r ++ [y] = w ++ [x]) ↔ (r = w ∧ y = x) := by
      constructor
      · intro h
        have := List.append_inj' h rfl
        exact ⟨this.1, (List.cons.inj this.2).1⟩
      · rintro ⟨rfl, rfl⟩
        rfl
    by_cases hyx : y = x
    · subst hyx
      have rest : (ys.map fun z => r ++ [z]).filter (fun v => decide (v = w ++ [y])) = [] := by
        rw [List.filter_eq_nil_iff]
        intro v hv z
        obtain ⟨u, hu, rfl⟩ := List.mem_map.mp hv
        have := List.append_inj' (of_decide_eq_true z) rfl
        rw [(List.cons.inj this.2).1] at hu
        exact n1 hu
      by_cases hrw : r = w
      · rw [List.filter_cons_of_pos (by exact decide_eq_true (e.mpr ⟨hrw, rfl⟩)), rest, if_pos hrw, hrw]
      · rw [List.filter_cons_of_neg (by rw [decide_eq_false (fun z => hrw (e.mp z).1)]; exact Bool.false_ne_true), rest, if_neg hrw]
    · rw [List.filter_cons_of_neg (by rw [decide_eq_false (fun z => hyx (e.mp z).2)]; exact Bool.false_ne_true)]
      exact ih n2 ((List.mem_cons.mp hx).resolve_left fun z => hyx z.symm)
theorem filt_lvl {xs : List Nm} (nd : xs.Nodup) : ∀ (n : Nat) (w : List Nm), (∀ x ∈ w, x ∈ xs) → w.length = n → (lvl xs n).filter (fun v => decide (v = w)) = [w]
  | 0, w, _, h => by
    obtain rfl := List.eq_nil_of_length_eq_zero h
    rfl
  | n + 1, w, hw, h => by
    have hne : w ≠ [] := fun z => by rw [z] at h; cases h
    obtain ⟨w', x, rfl⟩ : ∃ w' x, w = w' ++ [x] := ⟨w.dropLast, w.getLast hne, (List.dropLast_concat_getLast hne).symm⟩
    rw [List.length_append] at h
    have h : w'.length = n := Nat.succ.inj h
    show (((lvl xs n).flatMap fun r => xs.map fun x => r ++ [x]).filter _) = _
    have key : ∀ L : List (List Nm), (L.flatMap fun r => xs.map fun x => r ++ [x]).filter (fun v => decide (v = w' ++ [x])) = (L.filter fun v => decide (v = w')).map fun v => v ++ [x] := by
      intro L
      induction L with
      | nil => rfl
      | cons r L ih2 =>
        rw [List.flatMap_cons, List.filter_append, ih2, filt_map nd r w' x (hw x (List.mem_append_right _ List.mem_cons_self))]
        by_cases hrw : r = w'
        · rw [if_pos hrw, List.filter_cons_of_pos (by exact decide_eq_true hrw), List.map_cons, hrw]
          rfl
        · rw [if_neg hrw, List.filter_cons_of_neg (by rw [decide_eq_false hrw]; exact Bool.false_ne_true)]
          rfl
    rw [key, filt_lvl nd n w' (fun y hy => hw y (List.mem_append_left _ hy)) h]
    rfl
theorem filt_ne {xs : List Nm} {w : List Nm} {n : Nat} (h : n ≠ w.length) : (lvl xs n).filter (fun v => decide (v = w)) = [] := by
  rw [List.filter_eq_nil_iff]
  intro v hv z
  have := lvl_len n v hv
  rw [of_decide_eq_true z] at this
  exact h this.symm
theorem filt_upto {xs : List Nm} (nd : xs.Nodup) {w : List Nm} (hw : ∀ x ∈ w, x ∈ xs) : ∀ n, (upto xs n).filter (fun v => decide (v = w)) = if w.length ≤ n then [w] else []
  | 0 => by
    by_cases h : w.length ≤ 0
    · rw [if_pos h]
      obtain rfl := List.eq_nil_of_length_eq_zero (Nat.le_zero.mp h)
      rfl
    · rw [if_neg h]
      exact filt_ne (xs := xs) (n := 0) fun z => h (Nat.le_of_eq z.symm)
  | n + 1 => by
    show ((upto xs n ++ lvl xs (n + 1)).filter _) = _
    rw [List.filter_append, filt_upto nd hw n]
    by_cases h : w.length ≤ n
    · rw [if_pos h, if_pos (by omega), filt_ne (by omega)]
      rfl
    · rw [if_neg h]
      by_cases h2 : w.length = n + 1
      · rw [if_pos (by omega), filt_lvl nd (n + 1) w hw h2]
        rfl
      · rw [if_neg (by omega), filt_ne (by omega)]
        rfl
def spAwX : Sp := fun vs H Q _ => ∃ (l : Addr) (xs : List Nm) (n : Nat), vs = [.ref l, .int (n : Nat)] ∧ H l = some (.lst (vtx xs)) ∧ xs.length ≤ 4 ∧ n ≤ 4 ∧ ∀ p rows H', H p = none → Ex H H' → H' p = some (.lst (rfs rows)) → RwsAt H' rows → rows.map (·.2) = upto xs n → Q (.ref p) H'
section
variable {P : Program} {w : World} {K : PySem.W.Frag} {mg : Str → Option Value} {base : Heap} {CA CP : Addr}
theorem ok_awX {f : Addr} {fd : FuncData} (F : FnP K "_law_all_words" sAw f fd) (mRange : mg "range" = none) : FnOk P w K mg base L2.CX0 1 f fd ["_law_names_here", "_law_most"] spAwX := by
  refine F.ok (CX := L2.CX0) scAw (fun vs H Q E h => ?_) (fun cdv A' outer s H vs Q E hr h => ?_)
  · obtain ⟨l, xs, n, rfl, _⟩ := h
    rfl
  · refine ⟨_, (pss_cons (ps_set (i := 2) scAw.nd rfl (by first | exact Or.inl rfl | exact Or.inr rfl) (pe_lst (pa_cons (pe_lst pa_nil) pa_nil)))
      (pss_cons (ps_set (i := 3) scAw.nd rfl (by first | exact Or.inl rfl | exact Or.inr rfl) (pe_lst (pa_cons (pe_lst pa_nil) pa_nil)))
      (pss_cons (ps_for (passes_of rfl) rfl (pi_range1 (by rfl) mRange (pa_cons (pv 1) pa_nil)) (pg_name (i := 4) scAw.nd rfl (by first | exact Or.inl rfl | exact Or.inr rfl)) (pss_cons (ps_set (i := 5) scAw.nd rfl (by first | exact Or.inl rfl | exact Or.inr rfl) (pe_lst pa_nil))
      (pss_cons (ps_for (passes_of rfl) rfl (pi_list (pv 2)) (pg_name (i := 6) scAw.nd rfl (by first | exact Or.inl rfl | exact Or.inr rfl)) (pss_one (ps_set (i := 5) scAw.nd rfl (by first | exact Or.inl rfl | exact Or.inr rfl) (pe_op op_cat (pv 5) (pe_lc (own := [("_law_name", 7)]) (g := (gName 7)) (tt := tYes) (te := (tOp rCat (tVar 6) (tLst (tCons (tVar 7) tNil)))) rfl scAw.nd (pi_list (pv 0)) (blkOk_by (own := [("_law_name", 7)]) (N := nAw) (sc := defScope sAw) (by decide +kernel)) (fun _ _ _ _ _ => (pg_name (i := 7) scAw.nd rfl (by first | exact Or.inl rfl | exact Or.inr rfl))) (fun _ _ _ _ _ => pts_nil) (fun _ _ _ _ _ => (pe_op op_cat (pv 6) (pe_lst (pa_cons (pv 7) pa_nil)))))))))
      (pss_cons (ps_set (i := 2) scAw.nd rfl (by first | exact Or.inl rfl | exact Or.inr rfl) (pv 5))
      (pss_one (ps_set (i := 3) scAw.nd rfl (by first | exact Or.inl rfl | exact Or.inr rfl) (pe_op op_cat (pv 3) (pv 2))))))))
      (pss_one (ps_ret (pv 3)))))), ?_⟩
    obtain ⟨l, xs, n, rfl, hl, hx4, hn4, k⟩ := h
    refine q_asgLL fun q0 p0 H2 nH0 e2 hp0 hq0 => ?_
    refine q_asgLL fun q1 p1 H4 np1 e4 hp1 hq1 => ?_
    have e14 := e2.trans e4
    have nH1 : H p1 = none := fresh_back e2 np1
    have R0 : RwsAt H4 [(q0, [])] := fun r hr => by rw [List.mem_singleton.mp hr]; exact e4 _ _ hq0
    have R1 : RwsAt H4 [(q1, [])] := fun r hr => by rw [List.mem_singleton.mp hr]; exact hq1
    have hp0' := e4 _ _ hp0
    refine s_seq ?_
    refine s_forR1 (n := (n : Int)) (ea_cons (ev_var (i := 1) rfl) ea_nil) (by omega) (fun i st H' => ∃ (pr pf : Addr) (rows found : Rws) (t4 t5 t6 : Option V), st = [some (.ref l), some (.int (n : Nat)), some (.ref pr), some (.ref pf), t4, t5, t6, none] ∧ Ex H4 H' ∧ H' pr = some (.lst (rfs rows)) ∧ H' pf = some (.lst (rfs found)) ∧ H pf = none ∧ RwsAt H' rows ∧ RwsAt H' found ∧ rows.map (·.2) = lvl xs i ∧ found.map (·.2) = upto xs i ∧ rows.length ≤ 4 ^ i ∧ found.length ≤ 4 ^ (i + 1))
      (fun H5 e5 => ⟨p0, p1, [(q0, [])], [(q1, [])], none, none, none, rfl, e5, e5 _ _ hp0', e5 _ _ hp1, nH1, R0.mono e5, R1.mono e5, rfl, rfl, Nat.le_refl _, (by show 1 ≤ 4; omega)⟩) ?_ ?_
    · rintro i st H5 hi ⟨pr, pf, rows, found, t4, t5, t6, rfl, e5, hpr, hpf, nf, Rr, Rf, Or_, Of_, lr, lf⟩
      have hi4 : i < 4 := by omega
      have h4i : 4 ^ i ≤ 64 := by
        match i, hi4 with
        | 0, _ => decide
        | 1, _ => decide
        | 2, _ => decide
        | 3, _ => decide
      have h4s : 4 ^ (i + 1) = 4 * 4 ^ i := by rw [Nat.pow_succ]; omega
      have h4t : 4 ^ (i + 1 + 1) = 4 * 4 ^ (i + 1) := by rw [Nat.pow_succ]; omega
      have e05 := e14.trans e5
      dsimp only [List.set]
      refine q_asgL (xs := []) (el_lst ea_nil (by show 0 ≤ 100000; omega)) fun pl H6 npl e6 hpl => ?_
      dsimp only [List.set]
      have e06 := e05.trans e6
      refine s_seq ?_
      refine s_forL (a := pr) (xs := rfs rows) (ev_var (i := 2) rfl) (sq_of (e6 _ _ hpr)) (fun j st H' => ∃ (pg : Addr) (lg : Rws) (t6 : Option V), st = [some (.ref l), some (.int (n : Nat)), some (.ref pr), some (.ref pf), some (.int (i : Nat)), some (.ref pg), t6, none] ∧ Ex H6 H' ∧ H' pg = some (.lst (rfs lg)) ∧ RwsAt H' lg ∧ lg.map (·.2) = ((lvl xs i).take j).flatMap (fun r => xs.map fun x => r ++ [x]) ∧ lg.length ≤ 4 * j)
        (fun H7 e7 => ⟨pl, [], t6, rfl, e7, e7 _ _ hpl, (fun _ h => nomatch h), rfl, Nat.zero_le _⟩) (fun j st H' _ ⟨_, _, _, _, e, _⟩ => sq_of ((e6.trans e) _ _ hpr)) ?_ ?_
      · rintro j x st H7 hx ⟨pg, lg, t6', rfl, e7, hpg, Rg, Og, lgl⟩
        obtain ⟨r, hr', rfl⟩ := rfs_of hx
        have hjl : j < rows.length := (List.getElem?_eq_some_iff.mp hr').1
        have hrm := List.mem_of_getElem? hr'
        have hrow := (e6.trans e7) _ _ (Rr r hrm)
        have hlv : (lvl xs i)[j]? = some r.2 := by rw [← Or_, List.getElem?_map, hr']; rfl
        have hrl : r.2.length ≤ i := Nat.le_of_eq (lvl_len i r.2 (List.mem_of_getElem? hlv))
        have hls := (e06.trans e7) _ _ hl
        unfold tAsg tOp
        refine ⟨_, rfl, ?_⟩
        refine el_lcNL (K := K) (tl := tVar 0) (te := tOp rCat (tVar 6) (tLst (tCons (tVar 7) tNil))) (ys := xs) (g := fun x => V.str (tx x)) (a := l) (j := 7) (vs := [7]) (fun x => r.2 ++ [x]) (ev_var rfl) (sq_of hls) (by omega) (fun _ => rfl) (fun y H8 e8 hy => ?_) H7 (Ex.refl _) _ fun pc cs H8 npc e8 hpc hcs Rc _ => ?_
        · rw [← vtx_snoc]
          exact Vtx.el_catA (ev_var rfl) (e8 _ _ hrow) (el_lst (ea_cons (ev_var rfl) ea_nil) (by show 1 ≤ 100000; omega)) (by rw [vtx_len]; show _ + 1 ≤ _; omega)
        · have hcl : cs.length = xs.length := by
            have := congrArg List.length hcs
            rw [List.length_map, List.length_map] at this
            exact this
          refine ⟨pg, pc, rfs lg, rfs cs, rfl, rfl, e8 _ _ hpg, hpc, sz_of (by rw [rfs_len, rfs_len]; omega), fun p np => ?_⟩
          rw [rfs_app]
          refine ⟨p, lg ++ cs, _, rfl, (e7.trans e8).trans (Ex.new np), upd_same, ((Rg.mono e8).app Rc).mono (Ex.new np), ?_, by rw [List.length_append]; omega⟩
          rw [List.take_succ, hlv, List.map_append, List.flatMap_append, Og, hcs]
          show _ ++ _ = _ ++ ([r.2].flatMap fun r => xs.map fun x => r ++ [x])
          rw [List.flatMap_cons, List.flatMap_nil, List.append_nil]
      · rintro st H7 ⟨pg, lg, t6', rfl, e7, hpg, Rg, Og, lgl⟩
        rw [rfs_len] at lgl Og
        rw [show rows.length = (lvl xs i).length by rw [← Or_, List.length_map], List.take_length] at Og
        refine q_asg (v := .ref pg) (ev_var (i := 5) rfl) fun H8 e8 => ?_
        dsimp only [List.set]
        have hpf8 := ((e6.trans e7).trans e8) _ _ hpf
        unfold tAsg tOp
        refine ⟨_, rfl, _, rfl, pf, pg, rfs found, rfs lg, rfl, rfl, hpf8, e8 _ _ hpg, sz_of (by rw [rfs_len, rfs_len]; omega), fun p np => ?_⟩
        rw [rfs_app]
        have en := Ex.new (o := .lst (rfs (found ++ lg))) np
        have E8 := (e6.trans e7).trans e8
        exact ⟨pg, p, lg, found ++ lg, _, _, _, rfl, (e5.trans E8).trans en, en _ _ (e8 _ _ hpg), upd_same, fresh_back (e05.trans E8) np, (Rg.mono e8).mono en, (((Rf.mono E8).app (Rg.mono e8))).mono en, Og, by rw [List.map_append, Of_, Og]; rfl, by omega, by rw [List.length_append]; omega⟩
    · rintro st H5 ⟨pr, pf, rows, found, t4, t5, t6, rfl, e5, hpr, hpf, nf, Rr, Rf, Or_, Of_, lr, lf⟩
      exact s_ret (ev_var (i := 3) rfl) fun H6 e6 => k pf found H6 nf ((e14.trans e5).trans e6) (e6 _ _ hpf) (Rf.mono e6) Of_
end
end K14

set_option Elab.async false
set_option linter.all false
set_option maxRecDepth 100000
set_option maxHeartbeats 4000000
/-! What outlives a pool; pairs of patterns and trees. -/
namespace K14
open PySem PySem.Spec PyProof.Rows L2 Vl Evl Vp Vc Ve Ven Vg Vb Vt Vlt Vsa Vle Vo Vr Vda Vw Vx2
/-- all but lists stays -/
def Nl (H H' : Hp) : Prop := ∀ a o, H a = some o → (∀ xs, o ≠ .lst xs) → H' a = some o
theorem nl_pl {Hk H : Hp} {p : Addr} {n : Nat} (P : Pl Hk p n H) : Nl H (Wo H p) := fun a o h hn => by
  obtain ⟨x, y, z, hp, _⟩ := P.at_
  exact wo_at h fun e => by
    rw [e, hp] at h
    exact hn _ (Option.some.inj h).symm
section
variable {K : PySem.W.Frag} {H H' : Hp} {CA CP : Addr}
theorem Nl.sq (h : Nl H H') {p : Addr} {xs : List V} (s : SqT K H p xs) : SqT K H' p xs := by
  rcases s with (s | ⟨ob, s⟩) | s
  · exact .inl (.inl (h _ _ s fun _ z => nomatch z))
  · exact .inl (.inr ⟨ob, h _ _ s fun _ z => nomatch z⟩)
  · exact .inr s
theorem Nl.step (h : Nl H H') {p : Addr} {o : Op} (s : StepAt H p o) : StepAt H' p o := by
  obtain ⟨a, h1, h2⟩ := s
  exact ⟨a, h _ _ h1 (fun _ z => nomatch z), h _ _ h2 fun _ z => nomatch z⟩
theorem Nl.atm (h : Nl H H') {o : Addr} {t : Tr} (s : Atm K CA H o t) : Atm K CA H' o t := by
  obtain ⟨dx, F, L, fol, fo, tk, ras, M⟩ := s
  exact ⟨dx, F, L, fol, fo, tk, ras, h _ _ M.at_ (fun _ z => nomatch z), h.sq M.fls, h.sq M.tak, M.eqs, fun r hr => by
    obtain ⟨b, h1, h2⟩ := M.row r hr
    exact ⟨b, h _ _ h1 (fun _ z => nomatch z), h _ _ h2 fun _ z => nomatch z⟩, M.auto⟩
theorem Nl.pat (h : Nl H H') {o : Addr} {t : Tr} (s : PatAt K CP CA H o t) : PatAt K CP CA H' o t := by
  obtain ⟨dx, sa, a, rs, h1, h2, h3, h4⟩ := s
  exact ⟨dx, sa, a, rs, h _ _ h1 (fun _ z => nomatch z), ⟨h.sq h2.1, fun r hr => h.step (h2.2 r hr)⟩, h3, h.atm h4⟩
theorem pl_vtx {Hk : Hp} {p q : Addr} {n : Nat} {xs : List Nm} (P : Pl Hk p n H) (h : H q = some (.lst (vtx xs))) : Wo H p q = some (.lst (vtx xs)) := wo_at h fun e => by
  obtain ⟨x, y, z, hp, _⟩ := P.at_
  rw [e, hp] at h
  have := Option.some.inj h
  cases xs with
  | nil => cases this
  | cons u us => cases this
theorem pl_rfs {Hk : Hp} {p q : Addr} {n : Nat} {α : Type} {xs : List (Addr × α)} (P : Pl Hk p n H) (h : H q = some (.lst (rfs xs))) : Wo H p q = some (.lst (rfs xs)) := wo_at h fun e => by
  obtain ⟨x, y, z, hp, _⟩ := P.at_
  rw [e, hp] at h
  have := Option.some.inj h
  cases xs with
  | nil => cases this
  | cons u us => cases this
theorem pl_tr {Hk : Hp} {p : Addr} {n : Nat} (P : Pl Hk p n H) : ∀ {t : Tr} {r : Addr}, TrAt H t r → TrAt (Wo H p) t r
  | .atom _ _, _, ⟨l, h1, h2⟩ => ⟨l, nl_pl P _ _ h1 (fun _ z => nomatch z), pl_vtx P h2⟩
  | .thn a b, _, ⟨q, r, h, h1, h2⟩ => ⟨q, r, nl_pl P _ _ h (fun _ z => nomatch z), pl_tr P h1, pl_tr P h2⟩
  | .eith a b, _, ⟨q, r, h, h1, h2⟩ => ⟨q, r, nl_pl P _ _ h (fun _ z => nomatch z), pl_tr P h1, pl_tr P h2⟩
  | .rep a, _, ⟨q, h, h1⟩ => ⟨q, nl_pl P _ _ h (fun _ z => nomatch z), pl_tr P h1⟩
  | .opt a, _, ⟨q, h, h1⟩ => ⟨q, nl_pl P _ _ h (fun _ z => nomatch z), pl_tr P h1⟩
theorem pl_rows {Hk : Hp} {p : Addr} {n : Nat} {rows : Rws} (P : Pl Hk p n H) (h : RwsAt H rows) : RwsAt (Wo H p) rows := fun r hr => pl_vtx P (h r hr)
theorem TrOk.up : ∀ {xs : List Nm} {t : Tr} {d : Nat}, TrOk xs d t → TrOk xs (d + 1) t
  | xs, .atom n ys, d, h => by cases d <;> exact h
  | xs, .thn a b, d + 1, ⟨h1, h2⟩ => ⟨TrOk.up h1, TrOk.up h2⟩
  | xs, .eith a b, d + 1, ⟨h1, h2⟩ => ⟨TrOk.up h1, TrOk.up h2⟩
  | xs, .rep a, d + 1, h => TrOk.up (t := a) (d := d) h
  | xs, .opt a, d + 1, h => TrOk.up (t := a) (d := d) h
end
section
variable {K : PySem.W.Frag} {te tb : TE} {σ : L2.St} {H : Hp} {CA CP CN : Addr} {T T1 T2 t t1 t2 : Tr}
def EvP (K : PySem.W.Frag) (CP CA : Addr) (te : TE) (σ : L2.St) (H : Hp) (T : Tr) : Prop := ∀ H1, Ex H H1 → ∀ Q : VK, (∀ o H2, Ex H1 H2 → PatAt K CP CA H2 o T → Q (.ref o) H2) → te σ H1 Q
def EvTr (te : TE) (σ : L2.St) (H : Hp) (t : Tr) : Prop := ∀ H1, Ex H H1 → ∀ Q : VK, (∀ r H2, Ex H1 H2 → TrAt H2 t r → Q (.ref r) H2) → te σ H1 Q
theorem evp_var {i : Nat} {o : Addr} (hv : σ[i]? = some (some (.ref o))) (h : PatAt K CP CA H o T) : EvP K CP CA (tVar i) σ H T := fun H1 e Q q => ⟨_, hv, q o H1 (Ex.refl _) (h.mono e)⟩
theorem evt_var {i : Nat} {r : Addr} (hv : σ[i]? = some (some (.ref r))) (h : TrAt H t r) : EvTr (tVar i) σ H t := fun H1 e Q q => ⟨_, hv, q r H1 (Ex.refl _) (h.mono e)⟩
theorem evp_bin {mk : Tr → Tr → Tr} {E : L2.St → XK} {i j : Nat} {o1 o2 : Addr} (v1 : σ[i]? = some (some (.ref o1))) (h1 : PatAt K CP CA H o1 T1) (v2 : σ[j]? = some (some (.ref o2))) (h2 : PatAt K CP CA H o2 T2) (hl : Tr.nd T1 + Tr.nd T2 ≤ 59) : EvP K CP CA (Vo2.tOwS CP (spBn K CP CA mk) E (tVar i) (tVar j)) σ H (mk T1 T2) := fun H1 e Q q => by
  have P1 := h1.mono e
  have P2 := h2.mono e
  obtain ⟨dx, sa, a, rs, hi1, _⟩ := id P1
  obtain ⟨dx2, sa2, a2, rs2, hi2, _⟩ := id P2
  exact ⟨_, v1, _, v2, o1, dx, _, o2, dx2, _, rfl, hi1, rfl, hi2, o1, o2, T1, T2, rfl, P1, P2, hl, fun o H2 _ e2 P => q o H2 e2 P⟩
theorem evp_un {mk : Tr → Tr} {E : L2.St → XK} {i : Nat} {o1 : Addr} (v1 : σ[i]? = some (some (.ref o1))) (h1 : PatAt K CP CA H o1 T1) (hl : Tr.nd T1 ≤ 59) : EvP K CP CA (tFu (spUn K CP CA mk) E (tCons (tVar i) tNil)) σ H (mk T1) := fun H1 e Q q => ⟨_, v1, o1, T1, rfl, h1.mono e, hl, fun o H2 _ e2 P => q o H2 e2 P⟩
theorem evp_mul {E : L2.St → XK} {i j k : Nat} {o1 : Addr} (v1 : σ[i]? = some (some (.ref o1))) (h1 : PatAt K CP CA H o1 T1) (v2 : σ[j]? = some (some (.int ((k + 1 : Nat) : Int)))) (hk : k ≤ 60) (hl : Tr.nd (pw T1 k) ≤ 60) : EvP K CP CA (Vw.tOw CP (spMul K CP CA CN) E (tVar i) (tVar j)) σ H (pw T1 k) := fun H1 e Q q => by
  have P1 := h1.mono e
  obtain ⟨dx, sa, a, rs, hi1, _⟩ := id P1
  exact ⟨_, v1, _, v2, o1, dx, _, "int", rfl, hi1, .inr (.inl ⟨_, rfl, rfl⟩), o1, _, T1, rfl, P1, .inl ⟨k, rfl, hk, hl, fun o H2 _ e2 P => q o H2 e2 P⟩⟩
theorem evt_join {k : String} {mk : Tr → Tr → Tr} {i j : Nat} {r1 r2 : Addr} (hk : ∀ (G : Hp) p, G p = some (.tup [tS k, .ref r1, .ref r2]) → TrAt G t1 r1 → TrAt G t2 r2 → TrAt G (mk t1 t2) p) (v1 : σ[i]? = some (some (.ref r1))) (h1 : TrAt H t1 r1) (v2 : σ[j]? = some (some (.ref r2))) (h2 : TrAt H t2 r2) :
    EvTr (tTup (tCons (tC (tS k)) (tCons (tVar i) (tCons (tVar j) tNil)))) σ H (mk t1 t2) := fun H1 e Q q =>
  eu_tup (ea_cons ev_c (ea_cons (ev_var v1) (ea_cons (ev_var v2) ea_nil))) (by show 3 ≤ 100000; omega) H1 e _ fun p H2 np e2 hp => q p H2 e2 (hk H2 p hp (h1.mono (e.trans e2)) (h2.mono (e.trans e2)))
theorem evt_one {k : String} {mk : Tr → Tr} {i : Nat} {r1 : Addr} (hk : ∀ (G : Hp) p, G p = some (.tup [tS k, .ref r1]) → TrAt G t1 r1 → TrAt G (mk t1) p) (v1 : σ[i]? = some (some (.ref r1))) (h1 : TrAt H t1 r1) :
    EvTr (tTup (tCons (tC (tS k)) (tCons (tVar i) tNil))) σ H (mk t1) := fun H1 e Q q =>
  eu_tup (ea_cons ev_c (ea_cons (ev_var v1) ea_nil)) (by show 2 ≤ 100000; omega) H1 e _ fun p H2 np e2 hp => q p H2 e2 (hk H2 p hp (h1.mono (e.trans e2)))
/-- a pattern with its tree -/
def Mk (K : PySem.W.Frag) (CP CA : Addr) (xs : List Nm) (H : Hp) (v : V) : Prop := ∃ (pm o r : Addr) (t T : Tr), v = .ref pm ∧ H pm = some (.tup [.ref o, .ref r]) ∧ PatAt K CP CA H o T ∧ SrtT t T ∧ TrAt H t r ∧ TrOk xs 3 t ∧ Tr.nd T ≤ 60
theorem Mk.mono {xs : List Nm} {H H' : Hp} {v : V} (e : Ex H H') (h : Mk K CP CA xs H v) : Mk K CP CA xs H' v := by
  obtain ⟨pm, o, r, t, T, h0, h1, h2, h3, h4, h5⟩ := h
  exact ⟨pm, o, r, t, T, h0, e _ _ h1, h2.mono e, h3, h4.mono e, h5⟩
def EvM (K : PySem.W.Frag) (CP CA : Addr) (xs : List Nm) (te : TE) (σ : L2.St) (H : Hp) : Prop := ∀ H1, Ex H H1 → ∀ Q : VK, (∀ v H2, Ex H1 H2 → Mk K CP CA xs H2 v → Q v H2) → te σ H1 Q
def EvML (K : PySem.W.Frag) (CP CA : Addr) (xs : List Nm) (te : TE) (σ : L2.St) (H : Hp) (n : Nat) : Prop := ∀ H1, Ex H H1 → ∀ Q : VK, (∀ p vs H2, Ex H1 H2 → H2 p = some (.lst vs) → (∀ v ∈ vs, Mk K CP CA xs H2 v) → vs.length ≤ n → Q (.ref p) H2) → te σ H1 Q
theorem evm_pair {xs : List Nm} (hp : EvP K CP CA te σ H T) (ht : EvTr tb σ H t) (hs : SrtT t T) (ho : TrOk xs 3 t) (hl : Tr.nd T ≤ 60) : EvM K CP CA xs (tTup (tCons te (tCons tb tNil))) σ H := fun H1 e Q q =>
  hp H1 e _ fun o H2 e2 P => ht H2 (e.trans e2) _ fun r H3 e3 R => ⟨sz_of (by show 2 ≤ 100000; omega), fun pm np => q _ _ ((e2.trans e3).trans (Ex.new np)) ⟨pm, o, r, t, T, rfl, upd_same, (P.mono e3).mono (Ex.new np), hs, R.mono (Ex.new np), ho, hl⟩⟩
theorem evm_two {xs : List Nm} (h1 : EvM K CP CA xs te σ H) (h2 : EvM K CP CA xs tb σ H) : EvML K CP CA xs (tLst (tCons te (tCons tb tNil))) σ H 2 := fun H1 e Q q =>
  h1 H1 e _ fun v H2 e2 m1 => h2 H2 (e.trans e2) _ fun u H3 e3 m2 => ⟨sz_of (by show 2 ≤ 100000; omega), fun p np => q p _ _ ((e2.trans e3).trans (Ex.new np)) upd_same (fun x hx => by
    rcases List.mem_cons.mp hx with rfl | hx
    · exact (m1.mono e3).mono (Ex.new np)
    · rw [List.mem_singleton.mp hx]
      exact m2.mono (Ex.new np)) (Nat.le_refl _)⟩
theorem evm_cat {xs : List Nm} {p : Addr} {vs : List V} {i n : Nat} (hv : σ[i]? = some (some (.ref p))) (h : H p = some (.lst vs)) (hm : ∀ v ∈ vs, Mk K CP CA xs H v) (hl : vs.length ≤ 1000) (h2 : EvML K CP CA xs tb σ H n) (hn : n ≤ 1000) : EvML K CP CA xs (tOp rCat (tVar i) tb) σ H (vs.length + n) := fun H1 e Q q =>
  ⟨_, hv, h2 H1 e _ fun p2 us H2 e2 hp2 hm2 hl2 => ⟨p, p2, vs, us, rfl, rfl, (e.trans e2) _ _ h, hp2, sz_of (by omega), fun p3 np => q p3 (vs ++ us) _ (e2.trans (Ex.new np)) upd_same (fun x hx => (List.mem_append.mp hx).elim (fun z => ((hm x z).mono (e.trans e2)).mono (Ex.new np)) fun z => (hm2 x z).mono (Ex.new np)) (by rw [List.length_append]; omega)⟩⟩
theorem q_mades {xs : List Nm} {D : L2.Ends} {tz : TS} {n i : Nat} (h : EvML K CP CA xs te σ H n) (k : ∀ p vs H1, Ex H H1 → H1 p = some (.lst vs) → (∀ v ∈ vs, Mk K CP CA xs H1 v) → vs.length ≤ n → tz D (σ.set i (some (.ref p))) H1) : tSeq (tAsg te (gName i)) tz D σ H :=
  h H (Ex.refl _) _ fun p vs H1 e hp hm hl => k p vs H1 e hp hm hl
end
end K14

set_option Elab.async false
set_option linter.all false
set_option maxRecDepth 100000
set_option maxHeartbeats 2000000
/-! What is reached on a graph; a search that goes through its own list. -/
namespace Vrc
variable {α : Type}
inductive Reach (E : α → α → Prop) (a : α) : α → Prop
  | refl : Reach E a a
  | step {b c : α} : Reach E a b → E b c → Reach E a c
theorem Reach.trans {E : α → α → Prop} {a b c : α} (h : Reach E a b) (h2 : Reach E b c) : Reach E a c := by
  induction h2 with
  | refl => exact h
  | step _ e ih => exact .step ih e
theorem Reach.one {E : α → α → Prop} {a b : α} (e : E a b) : Reach E a b := .step .refl e
theorem Reach.mono {E F : α → α → Prop} (h : ∀ x y, E x y → F x y) {a b : α} (r : Reach E a b) : Reach F a b := by
  induction r with
  | refl => exact .refl
  | step _ e ih => exact .step ih (h _ _ e)
/-- ks is what has been found, the first j of it looked at -/
structure Bfs (E : α → α → Prop) (a : α) (ks : List α) (j : Nat) : Prop where
  nd : ks.Nodup
  src : a ∈ ks
  re : ∀ b ∈ ks, Reach E a b
  cl : ∀ (i : Nat) (b : α), i < j → ks[i]? = some b → ∀ c, E b c → c ∈ ks
theorem Bfs.start {E : α → α → Prop} (a : α) : Bfs E a [a] 0 := ⟨List.nodup_cons.mpr ⟨(fun h => nomatch h), List.nodup_nil⟩, List.mem_cons_self, fun b hb => by rw [List.mem_singleton.mp hb]; exact .refl, fun i b hi => absurd hi (Nat.not_lt_zero i)⟩
theorem Bfs.add {E : α → α → Prop} {a b c : α} {ks : List α} {j : Nat} (h : Bfs E a ks j) (hj : j ≤ ks.length) (hb : b ∈ ks) (e : E b c) (hc : c ∉ ks) : Bfs E a (ks ++ [c]) j := by
  refine ⟨?_, List.mem_append_left _ h.src, fun x hx => ?_, fun i x hi hx y hy => ?_⟩
  · rw [List.nodup_append]
    exact ⟨h.nd, List.nodup_cons.mpr ⟨(fun h => nomatch h), List.nodup_nil⟩, fun u hu v hv z => hc (by rw [← List.mem_singleton.mp hv, ← z]; exact hu)⟩
  · rcases List.mem_append.mp hx with hx | hx
    · exact h.re x hx
    · rw [List.mem_singleton.mp hx]
      exact .step (h.re b hb) e
  · rw [List.getElem?_append_left (by omega)] at hx
    exact List.mem_append_left _ (h.cl i x hi hx y hy)
theorem Bfs.next {E : α → α → Prop} {a b : α} {ks : List α} {j : Nat} (h : Bfs E a ks j) (hb : ks[j]? = some b) (hc : ∀ c, E b c → c ∈ ks) : Bfs E a ks (j + 1) :=
  ⟨h.nd, h.src, h.re, fun i x hi hx y hy => by
    by_cases hij : i < j
    · exact h.cl i x hij hx y hy
    · obtain rfl : i = j := by omega
      rw [hb] at hx
      rw [← Option.some.inj hx] at hy
      exact hc y hy⟩
theorem Bfs.done {E : α → α → Prop} {a : α} {ks : List α} {j : Nat} (h : Bfs E a ks j) (hj : ks.length ≤ j) (b : α) : b ∈ ks ↔ Reach E a b := by
  refine ⟨h.re b, fun r => ?_⟩
  induction r with
  | refl => exact h.src
  | step _ e ih =>
    obtain ⟨i, hi⟩ := List.getElem?_of_mem ih
    have := (List.getElem?_eq_some_iff.mp hi).1
    exact h.cl i _ (by omega) hi _ e
theorem few_of {ks ps : List α} (nd : ks.Nodup) (h : ∀ b ∈ ks, b ∈ ps) : ks.length ≤ ps.length := nd.length_le_of_subset h
end Vrc

set_option Elab.async false
set_option linter.all false
set_option maxRecDepth 100000
set_option maxHeartbeats 2000000
/-! Ways with their lanes: a search by width finds shortest ones. -/
namespace Vwy
variable {α β : Type}
inductive Wk (E : β → α → α → Prop) (a : α) : α → List β → Prop
  | nil : Wk E a a []
  | snoc {b c : α} {l : β} {ls : List β} : Wk E a b ls → E l b c → Wk E a c (ls ++ [l])
/-- a shortest way -/
structure Best (E : β → α → α → Prop) (a b : α) (ls : List β) : Prop where
  wk : Wk E a b ls
  le : ∀ ls', Wk E a b ls' → ls.length ≤ ls'.length
theorem Best.len {E : β → α → α → Prop} {a b : α} {ls ls' : List β} (h : Best E a b ls) (h' : Best E a b ls') : ls.length = ls'.length := Nat.le_antisymm (h.le _ h'.wk) (h'.le _ h.wk)
structure Lev (E : β → α → α → Prop) (a : α) (ws : List (α × List β)) (j : Nat) : Prop where
  mono : ∀ (i k : Nat) x y, i ≤ k → ws[i]? = some x → ws[k]? = some y → x.2.length ≤ y.2.length
  bound : ∀ x, ws[j]? = some x → ∀ y ∈ ws, y.2.length ≤ x.2.length + 1
  src : (a, ([] : List β)) ∈ ws
  wk : ∀ x ∈ ws, Wk E a x.1 x.2
  cl : ∀ (i : Nat) x, i < j → ws[i]? = some x → ∀ l c, E l x.1 c → ∃ y ∈ ws, y.1 = c ∧ y.2.length ≤ x.2.length + 1
theorem Lev.start {E : β → α → α → Prop} (a : α) : Lev E a [(a, [])] 0 :=
  ⟨fun i k x y hik hx hy => by
    have hi : i = 0 := by
      have := (List.getElem?_eq_some_iff.mp hx).1
      rw [List.length_singleton] at this
      omega
    have hk : k = 0 := by
      have := (List.getElem?_eq_some_iff.mp hy).1
      rw [List.length_singleton] at this
      omega
    rw [hi] at hx
    rw [hk, hx] at hy
    rw [Option.some.inj hy]
    exact Nat.le_refl _,
   fun x hx y hy => by rw [List.mem_singleton.mp hy]; exact Nat.zero_le _, List.mem_singleton.mpr rfl,
   fun x hx => by rw [List.mem_singleton.mp hx]; exact .nil, fun i x hi => absurd hi (Nat.not_lt_zero i)⟩
theorem Lev.add {E : β → α → α → Prop} {a b c : α} {l : β} {ls : List β} {ws : List (α × List β)} {j : Nat} (h : Lev E a ws j) (hj : ws[j]? = some (b, ls)) (e : E l b c) : Lev E a (ws ++ [(c, ls ++ [l])]) j := by
  have hjl := (List.getElem?_eq_some_iff.mp hj).1
  have hbd := h.bound _ hj
  have hlen : (ls ++ [l]).length = ls.length + 1 := by rw [List.length_append]; rfl
  refine ⟨fun i k x y hik hx hy => ?_, fun x hx y hy => ?_, List.mem_append_left _ h.src, fun x hx => ?_, fun i x hi hx l' c' he => ?_⟩
  · by_cases hk : k < ws.length
    · rw [List.getElem?_append_left (by omega)] at hx
      rw [List.getElem?_append_left hk] at hy
      exact h.mono i k x y hik hx hy
    · have hkl : k = ws.length := by
        have := (List.getElem?_eq_some_iff.mp hy).1
        rw [List.length_append, List.length_singleton] at this
        omega
      rw [hkl, List.getElem?_append_right (Nat.le_refl _), Nat.sub_self] at hy
      have hy2 : (c, ls ++ [l]) = y := Option.some.inj hy
      rw [← hy2]
      show x.2.length ≤ (ls ++ [l]).length
      rw [hlen]
      by_cases hi : i < ws.length
      · rw [List.getElem?_append_left hi] at hx
        exact hbd x (List.mem_of_getElem? hx)
      · have hil : i = ws.length := by omega
        rw [hil, List.getElem?_append_right (Nat.le_refl _), Nat.sub_self] at hx
        have hx2 : (c, ls ++ [l]) = x := Option.some.inj hx
        rw [← hx2]
        show (ls ++ [l]).length ≤ _
        omega
  · rw [List.getElem?_append_left hjl, hj] at hx
    rw [← Option.some.inj hx]
    rcases List.mem_append.mp hy with hy | hy
    · exact hbd y hy
    · rw [List.mem_singleton.mp hy]
      show (ls ++ [l]).length ≤ ls.length + 1
      omega
  · rcases List.mem_append.mp hx with hx | hx
    · exact h.wk x hx
    · rw [List.mem_singleton.mp hx]
      exact .snoc (h.wk _ (List.mem_of_getElem? hj)) e
  · rw [List.getElem?_append_left (by omega)] at hx
    obtain ⟨y, hy, h1, h2⟩ := h.cl i x hi hx l' c' he
    exact ⟨y, List.mem_append_left _ hy, h1, h2⟩
theorem Lev.next {E : β → α → α → Prop} {a b : α} {ls : List β} {ws : List (α × List β)} {j : Nat} (h : Lev E a ws j) (hj : ws[j]? = some (b, ls)) (hc : ∀ l c, E l b c → c ∈ ws.map fun w => w.1) : Lev E a ws (j + 1) := by
  refine ⟨h.mono, fun x hx y hy => ?_, h.src, h.wk, fun i x hi hx l c he => ?_⟩
  · have h1 := h.bound _ hj y hy
    have h2 := h.mono j (j + 1) _ x (Nat.le_succ j) hj hx
    omega
  · by_cases hij : i < j
    · exact h.cl i x hij hx l c he
    · obtain rfl : i = j := by omega
      rw [hj] at hx
      have hx2 : (b, ls) = x := Option.some.inj hx
      rw [← hx2] at he ⊢
      obtain ⟨y, hy, rfl⟩ := List.mem_map.mp (hc l c he)
      exact ⟨y, hy, rfl, h.bound _ hj y hy⟩
theorem Lev.done {E : β → α → α → Prop} {a : α} {ws : List (α × List β)} {j : Nat} (h : Lev E a ws j) (hj : ws.length ≤ j) (nd : (ws.map fun w => w.1).Nodup) : ∀ x ∈ ws, Best E a x.1 x.2 := by
  have own : ∀ x ∈ ws, ∀ y ∈ ws, x.1 = y.1 → x = y := fun x hx y hy e => by
    obtain ⟨i, hi⟩ := List.getElem?_of_mem hx
    obtain ⟨k, hk⟩ := List.getElem?_of_mem hy
    have h1 : (ws.map fun w => w.1)[i]? = some x.1 := by rw [List.getElem?_map, hi]; rfl
    have h2 : (ws.map fun w => w.1)[k]? = some x.1 := by rw [List.getElem?_map, hk, e]; rfl
    have l1 := (List.getElem?_eq_some_iff.mp h1)
    have l2 := (List.getElem?_eq_some_iff.mp h2)
    have : i = k := L2.nd_ix nd h1 h2
    rw [this, hk] at hi
    exact (Option.some.inj hi).symm
  have key : ∀ b ls', Wk E a b ls' → ∃ y ∈ ws, y.1 = b ∧ y.2.length ≤ ls'.length := fun b ls' w => by
    induction w with
    | nil => exact ⟨_, h.src, rfl, Nat.le_refl _⟩
    | snoc _ e ih =>
      obtain ⟨y, hy, h1, h2⟩ := ih
      obtain ⟨i, hi⟩ := List.getElem?_of_mem hy
      have hlt := (List.getElem?_eq_some_iff.mp hi).1
      obtain ⟨z, hz, h3, h4⟩ := h.cl i y (by omega) hi _ _ (by rw [h1]; exact e)
      refine ⟨z, hz, h3, ?_⟩
      rw [List.length_append, List.length_singleton]
      omega
  intro x hx
  refine ⟨h.wk x hx, fun ls' w => ?_⟩
  obtain ⟨y, hy, h1, h2⟩ := key _ _ w
  rw [own x hx y hy h1.symm]
  exact h2
end Vwy

set_option Elab.async false
set_option linter.all false
set_option maxRecDepth 100000
set_option maxHeartbeats 2000000
/-! Searches whose nodes are tuples: {node: None}, what came, the way traced back. -/
namespace Vct
open PySem PySem.Spec PyProof.Rows L2 Evl Vl Vp
/-- {k: v}, k a tuple -/
def tDispT (tk tv : TE) : TE := fun σ H Q => ∀ p, H p = none → tk σ (upd H p (.dT [])) fun x H1 => tv σ H1 fun y H2 => H2 p = some (.dT []) ∧ ∃ (b : Addr) (k : List Key), x = .ref b ∧ H2 b = some (.tup (k.map kV)) ∧ Q (.ref p) (upd H2 p (.dT [(k, y)]))
theorem pe_dispT {X : Cx} {pos : Pos} {k v : Expr} {tk tv : TE} (hk : PE X k tk) (hv : PE X v tv) (hu : X.A.units + 1 < cLine) : PE X (.Dict [some k] [v] pos) (tDispT tk tv) := by
  refine ⟨fun pins sh st G R J todo => ?_⟩
  have empty := J.hok.fresh (Nat.le_refl sh.heap.objs.size)
  have J1 := J.laid (a := sh.heap.objs.size) (o := .dT []) (h' := sh.heap.push { cls := .type "dict", data := .dict #[] }) (t' := sh.toks) (fun _ _ q => Heap.get?_push_of_some _ q) (Nat.le_refl _) (dt_empty sh.heap J.big)
  rw [arm_eval_Dict, zip_pairTrees [some k] [v] X.env pos rfl rfl, dictDisplay_pairs _ (fun z => by cases z) (by show 1 < 17; decide)]
  refine wpAny_bind (wpAny_standAt (wpAny_bind (wpAny_subDictH (knd := tupleKind (mixKind X.prog X.w)) (Q := fun d s' => wpAny (model X.prog X.w) X.A (pure (Value.ref d)) _ X.xe s') (show X.A.units < cLine from Nat.lt_of_succ_lt hu) (by show 1 ≤ 15; decide) ?_)))
  have walk := (pps_cons (pos := pos) hk hv pps_nil).run pins _ st _ (fun ps H2 => match ps with
    | [(x, y)] => H2 sh.heap.objs.size = some (.dT []) ∧ ∃ (b : Addr) (k : List Key), x = .ref b ∧ H2 b = some (.tup (k.map kV)) ∧ R (.ref sh.heap.objs.size) (upd H2 sh.heap.objs.size (.dT [(k, y)]))
    | _ => False) J1 (todo _ empty)
  refine thn walk fun ws s2 got => ?_
  obtain ⟨ps, H2, J2, rel, q⟩ := got
  match ps, rel, q with
  | [(x, y)], rel, q =>
    obtain ⟨ed, b, ks, ex, eb, q⟩ := q
    subst ex
    cases rel with
    | @cons _ w0 _ ws0 h0 t0 =>
      cases t0
      obtain ⟨key, val⟩ := w0
      obtain ⟨r1, r2⟩ := h0
      obtain rfl : key = Value.ref b := r1
      obtain ⟨_, hd, xs, relK, dd⟩ := dt_of J2.hok ed
      cases relK
      refine ⟨[(ks, b, val)], ⟨rfl, rfl, key_of J2.hok eb, trivial⟩, dd, fun h' tk' dd' hs => ?_⟩
      obtain ⟨ob, es, ep, hq, h2, h3, h4, _, h5⟩ := dd'
      refine wpAny_pure ⟨V.ref sh.heap.objs.size, upd H2 sh.heap.objs.size (.dT [(ks, y)]), ?_, rfl, q⟩
      have nil0 : KT H2 [] ([] : List (List Key × Addr × Value)) := .nil
      have okd : ObjOk X.prog X.w (upd H2 sh.heap.objs.size (.dT [(ks, y)])) h' sh.heap.objs.size (.dT [(ks, y)]) := by
        refine ⟨by rw [sizeLine_eq]; show 1 ≤ _; decide, hd, _, (nil0.put ks eb r2).keeps fun c ys ec => ?_, ob, es, ep, hq, h2, h3, h4, h5⟩
        rw [upd_ne (ne_of ec ed (fun z => nomatch z))]
        exact ec
      exact d_write J2 (by rw [ed]; exact True.intro) hs ⟨ob, hq⟩ okd
/-! what came: (the node's tuple, the node), and behind it nothing or (the pair, (the tuple and the node ahead, the lane)) -/
abbrev Nd : Type := List Key
abbrev CE : Type := (Addr × Nd) × Option (Addr × ((Addr × Nd) × List Nat))
def cv : Option (Addr × ((Addr × Nd) × List Nat)) → V
  | none => .non
  | some p => .ref p.1
def ckeys (cs : List CE) : List Nd := cs.map fun c => c.1.2
def dCame (cs : List CE) : List (Nd × V) := cs.map fun c => (c.1.2, cv c.2)
theorem came_get {cs : List CE} (nd : (ckeys cs).Nodup) {c : CE} (h : c ∈ cs) : valV (dCame cs) c.1.2 = some (cv c.2) := by
  induction cs with
  | nil => cases h
  | cons x r ih =>
    unfold dCame
    rw [List.map_cons]
    have nd2 := List.nodup_cons.mp nd
    rcases List.mem_cons.mp h with rfl | h
    · rw [valV_pos rfl]
    · rw [valV_neg (fun z => nd2.1 (by show x.1.2 ∈ r.map fun c => c.1.2; rw [show x.1.2 = c.1.2 from z]; exact List.mem_map_of_mem (f := fun c : CE => c.1.2) h))]
      exact ih nd2.2 h
theorem came_none {cs : List CE} {n : Nd} (h : n ∉ ckeys cs) : valV (dCame cs) n = none := by
  induction cs with
  | nil => rfl
  | cons x r ih =>
    unfold dCame
    rw [List.map_cons, valV_neg (fun z => h (by rw [← z]; exact List.mem_cons_self))]
    exact ih fun z => h (List.mem_cons_of_mem _ z)
theorem came_val {cs : List CE} (nd : (ckeys cs).Nodup) (n : Nd) : (valV (dCame cs) n).isSome = true ↔ n ∈ ckeys cs := by
  by_cases h : n ∈ ckeys cs
  · obtain ⟨c, hc, rfl⟩ := List.mem_map.mp (show n ∈ cs.map fun c => c.1.2 from h)
    rw [came_get nd hc]
    exact ⟨fun _ => h, fun _ => rfl⟩
  · rw [came_none h]
    exact ⟨(fun z => nomatch z), fun z => absurd z h⟩
inductive Tr (cs : List CE) : Nd → List (List Nat) → Prop
  | nil {b : Addr} {n : Nd} : ((b, n), none) ∈ cs → Tr cs n []
  | snoc {b b' a : Addr} {n p : Nd} {l : List Nat} {ls : List (List Nat)} : ((b, n), some (a, ((b', p), l))) ∈ cs → Tr cs p ls → Tr cs n (ls ++ [l])
theorem Tr.mono {cs cs' : List CE} (h : ∀ c ∈ cs, c ∈ cs') {n : Nd} {ls : List (List Nat)} (t : Tr cs n ls) : Tr cs' n ls := by
  induction t with
  | nil hm => exact .nil (h _ hm)
  | snoc hm _ ih => exact .snoc (h _ hm) ih
structure CEAt (H : Hp) (c : CE) : Prop where
  node : H c.1.1 = some (.tup (c.1.2.map kV))
  pair : ∀ p, c.2 = some p → H p.1 = some (.tup [.ref p.2.1.1, .str (tx p.2.2)]) ∧ H p.2.1.1 = some (.tup (p.2.1.2.map kV))
theorem CEAt.mono {H H' : Hp} {c : CE} (e : Ex H H') (h : CEAt H c) : CEAt H' c := ⟨e _ _ h.node, fun p hp => ⟨e _ _ (h.pair p hp).1, e _ _ (h.pair p hp).2⟩⟩
def spTr : Sp := fun vs H Q _ => ∃ (d b : Addr) (cs : List CE) (n : Nd) (ls : List (List Nat)), vs = [.ref d, .ref b] ∧ H d = some (.dT (dCame cs)) ∧ H b = some (.tup (n.map kV)) ∧ (ckeys cs).Nodup ∧ (∀ c ∈ cs, CEAt H c) ∧ Tr cs n ls ∧ ls.length ≤ 90000 ∧
  ∀ q H', Ex H H' → H q = none → H' q = some (.lst (vtx ls)) → Q (.ref q) H'
theorem el_rev {K : PySem.W.Frag} {σ : L2.St} {H : Hp} {te : TE} {a : Addr} {xs : List V} (h : Ev te σ H (.ref a)) (hx : SqL K H a xs) : EvL (tRevL K te) σ H xs.reverse := fun H1 e Q q => h H1 e _ fun H2 e2 => ⟨a, xs, rfl, ex_l (e.trans e2) hx, fun r nr => q r _ (fresh_back e2 nr) (e2.trans (Ex.new nr)) upd_same⟩
end Vct

set_option linter.all false
/-! How two patterns are told apart: a search over pairs of masks. -/
namespace Vpt
open Vg Vwy Vp
abbrev M2 : Type := Nat × Nat
/-- the mask of a pattern behind a word -/
def At2 (t : Tr) (w : List Nm) (m : Nat) : Prop := ∀ q, m.testBit q = true ↔ Rch t.Ex (Lb t.ats 0) (fun p => p = t.sz) w q
theorem at_one {t : Tr} {w : List Nm} {m m' : Nat} (h : At2 t w m) (h' : At2 t w m') : m = m' := Nat.eq_of_testBit_eq fun q => Bool.eq_iff_iff.mpr ((h q).trans (h' q).symm)
theorem at_run {t : Tr} {F L : Nat} {fol : List Nat} (A : Auto t F L fol) (w : List Nm) : At2 t w (w.foldl (rdM t.ats (fol ++ [F])) (2 ^ t.sz)) :=
  rd_bits A (T := fun _ => True) w (2 ^ t.sz) (fun p => p = t.sz) fun q => by rw [Nat.testBit_two_pow, decide_eq_true_iff]; exact eq_comm
/-- at most N pairs of masks behind words -/
def Cnt (t1 t2 : Tr) (N : Nat) : Prop := ∀ l : List M2, l.Nodup → (∀ s ∈ l, ∃ w, At2 t1 w s.1 ∧ At2 t2 w s.2) → l.length ≤ N
/-- one lane for each way in which the atoms take it -/
structure Lns (t1 t2 : Tr) (es : List (M2 × Nm)) : Prop where
  key : ∀ e ∈ es, e.1 = (takM t1.ats e.2, takM t2.ats e.2)
  nm : ∀ e ∈ es, nam e.2
  nd : (es.map fun e => e.1).Nodup
  all : ∀ x : Nm, ∃ e ∈ es, e.1 = (takM t1.ats x, takM t2.ats x)
def Ed (fs1 fs2 : List Nat) (es : List (M2 × Nm)) (l : Nm) (a c : M2) : Prop := ∃ e ∈ es, e.2 = l ∧ c = (aftM fs1 a.1 &&& e.1.1, aftM fs2 a.2 &&& e.1.2)
section
variable {t1 t2 : Tr} {fs1 fs2 : List Nat} {es : List (M2 × Nm)}
abbrev ru (t : Tr) (fs : List Nat) (w : List Nm) : Nat := w.foldl (rdM t.ats fs) (2 ^ t.sz)
abbrev st0 (t1 t2 : Tr) : M2 := (2 ^ t1.sz, 2 ^ t2.sz)
theorem wk_run (G : Lns t1 t2 es) {s : M2} {ws : List Nm} (h : Wk (Ed fs1 fs2 es) (st0 t1 t2) s ws) : s = (ru t1 fs1 ws, ru t2 fs2 ws) ∧ ∀ x ∈ ws, nam x := by
  induction h with
  | nil => exact ⟨rfl, fun _ h => nomatch h⟩
  | @snoc b c l ls hw he ih =>
    obtain ⟨e, hm, rfl, rfl⟩ := he
    obtain ⟨rfl, ih2⟩ := ih
    refine ⟨?_, fun x hx => ?_⟩
    · unfold ru
      rw [List.foldl_append, List.foldl_append, G.key e hm]
      rfl
    · rcases List.mem_append.mp hx with hx | hx
      · exact ih2 x hx
      · rw [List.mem_singleton.mp hx]
        exact G.nm e hm
theorem run_wk (G : Lns t1 t2 es) : ∀ (n : Nat) (w : List Nm), w.length = n → ∃ ws : List Nm, ws.length = n ∧ Wk (Ed fs1 fs2 es) (st0 t1 t2) (ru t1 fs1 w, ru t2 fs2 w) ws
  | 0, w, h => by
    obtain rfl := List.eq_nil_of_length_eq_zero h
    exact ⟨[], rfl, .nil⟩
  | n + 1, w, h => by
    have hne : w ≠ [] := fun z => by rw [z] at h; cases h
    obtain ⟨w', x, rfl⟩ : ∃ w' x, w = w' ++ [x] := ⟨w.dropLast, w.getLast hne, (List.dropLast_concat_getLast hne).symm⟩
    rw [List.length_append] at h
    obtain ⟨ws, h1, h2⟩ := run_wk G n w' (Nat.succ.inj h)
    obtain ⟨e, he, hk⟩ := G.all x
    refine ⟨ws ++ [e.2], by rw [List.length_append, h1]; rfl, .snoc h2 ⟨e, he, rfl, ?_⟩⟩
    unfold ru
    rw [List.foldl_append, List.foldl_append, hk]
    rfl
end
/-- what is nearer stands ahead -/
theorem lev_near {α β : Type} {E : β → α → α → Prop} {a b : α} {ls : List β} {ws : List (α × List β)} {j : Nat} (h : Lev E a ws j) (hj : ws[j]? = some (b, ls)) :
    ∀ {c : α} {ls' : List β}, Wk E a c ls' → ls'.length < ls.length → ∃ (i : Nat) (x : α × List β), i < j ∧ ws[i]? = some x ∧ x.1 = c ∧ x.2.length ≤ ls'.length := by
  have ahead : ∀ {y : α × List β}, y ∈ ws → y.2.length < ls.length → ∃ i, i < j ∧ ws[i]? = some y := fun {y} hy hl => by
    obtain ⟨i, hi⟩ := List.getElem?_of_mem hy
    refine ⟨i, ?_, hi⟩
    rcases Nat.lt_or_ge i j with z | z
    · exact z
    · have : ls.length ≤ y.2.length := h.mono j i _ _ z hj hi
      omega
  intro c ls' w
  induction w with
  | nil =>
    intro hl
    obtain ⟨i, h1, h2⟩ := ahead h.src hl
    exact ⟨i, _, h1, h2, rfl, Nat.le_refl _⟩
  | @snoc b' c' l ls2 _ e ih =>
    intro hl
    rw [List.length_append, List.length_singleton] at hl
    obtain ⟨i, x, h1, h2, h3, h4⟩ := ih (by omega)
    obtain ⟨y, hy, h5, h6⟩ := h.cl i x h1 h2 l c' (by rw [h3]; exact e)
    obtain ⟨k, h7, h8⟩ := ahead hy (by omega)
    exact ⟨k, y, h7, h8, h5, by rw [List.length_append, List.length_singleton]; omega⟩
theorem lev_all {α β : Type} {E : β → α → α → Prop} {a : α} {ws : List (α × List β)} {j : Nat} (h : Lev E a ws j) (hj : ws.length ≤ j) : ∀ {c : α} {ls' : List β}, Wk E a c ls' → ∃ (i : Nat) (x : α × List β), ws[i]? = some x ∧ x.1 = c := by
  intro c ls' w
  induction w with
  | nil =>
    obtain ⟨i, hi⟩ := List.getElem?_of_mem h.src
    exact ⟨i, _, hi, rfl⟩
  | @snoc b' c' l ls2 _ e ih =>
    obtain ⟨i, x, h1, h2⟩ := ih
    have := (List.getElem?_eq_some_iff.mp h1).1
    obtain ⟨y, hy, h5, h6⟩ := h.cl i x (by omega) h1 l c' (by rw [h2]; exact e)
    obtain ⟨k, hk⟩ := List.getElem?_of_mem hy
    exact ⟨k, y, hk, h5⟩
section
variable {t1 t2 : Tr} {F1 L1 F2 L2 : Nat} {fol1 fol2 : List Nat} {es : List (M2 × Nm)} {ws : List (M2 × List Nm)} {j : Nat}
/-- the two patterns agree behind what stands there -/
def Same (t1 t2 : Tr) (L1 L2 : Nat) (s : M2) : Prop := 0 < (s.1 &&& endM t1 L1) ↔ 0 < (s.2 &&& endM t2 L2)
theorem same_word (A1 : Auto t1 F1 L1 fol1) (A2 : Auto t2 F2 L2 fol2) (w : List Nm) : Same t1 t2 L1 L2 (ru t1 (fol1 ++ [F1]) w, ru t2 (fol2 ++ [F2]) w) ↔ (t1.L w ↔ t2.L w) := by
  unfold Same
  rw [has_word A1 w, has_word A2 w]
theorem none_parts (A1 : Auto t1 F1 L1 fol1) (A2 : Auto t2 F2 L2 fol2) (G : Lns t1 t2 es) (h : Lev (Ed (fol1 ++ [F1]) (fol2 ++ [F2]) es) (st0 t1 t2) ws j) (hj : ws.length ≤ j) (hs : ∀ (i : Nat) x, i < j → ws[i]? = some x → Same t1 t2 L1 L2 x.1) (w : List Nm) : t1.L w ↔ t2.L w := by
  obtain ⟨ws', _, hw⟩ := run_wk (fs1 := fol1 ++ [F1]) (fs2 := fol2 ++ [F2]) G w.length w rfl
  obtain ⟨i, x, h1, h2⟩ := lev_all h hj hw
  have h3 := hs i x (by have := (List.getElem?_eq_some_iff.mp h1).1; omega) h1
  rw [h2] at h3
  exact (same_word A1 A2 w).mp h3
theorem parts (A1 : Auto t1 F1 L1 fol1) (A2 : Auto t2 F2 L2 fol2) (G : Lns t1 t2 es) (h : Lev (Ed (fol1 ++ [F1]) (fol2 ++ [F2]) es) (st0 t1 t2) ws j) {s : M2} {ls : List Nm} (hj : ws[j]? = some (s, ls)) (hs : ∀ (i : Nat) x, i < j → ws[i]? = some x → Same t1 t2 L1 L2 x.1) (hd : ¬ Same t1 t2 L1 L2 s) :
    ¬ (t1.L ls ↔ t2.L ls) ∧ (∀ x ∈ ls, nam x) ∧ ∀ w : List Nm, w.length < ls.length → (t1.L w ↔ t2.L w) := by
  obtain ⟨h1, h2⟩ := wk_run G (h.wk _ (List.mem_of_getElem? hj))
  have h1 : s = (ru t1 (fol1 ++ [F1]) ls, ru t2 (fol2 ++ [F2]) ls) := h1
  refine ⟨fun z => hd (by rw [h1]; exact (same_word A1 A2 ls).mpr z), h2, fun w hw => ?_⟩
  obtain ⟨ws', h3, h4⟩ := run_wk (fs1 := fol1 ++ [F1]) (fs2 := fol2 ++ [F2]) G w.length w rfl
  obtain ⟨i, x, h5, h6, h7, _⟩ := lev_near h hj h4 (by omega)
  have h8 := hs i x h5 h6
  rw [h7] at h8
  exact (same_word A1 A2 w).mp h8
end
/-- masks behind words but the empty one have the atoms' bits alone -/
theorem at_lt {t : Tr} {w : List Nm} {m : Nat} (h : At2 t w m) (hw : w ≠ []) : m < 2 ^ t.sz := by
  obtain ⟨F, L, fol, _, A⟩ := auto_of t
  obtain rfl := at_one h (at_run A w)
  obtain ⟨w', x, rfl⟩ : ∃ w' x, w = w' ++ [x] := ⟨w.dropLast, w.getLast hw, (List.dropLast_concat_getLast hw).symm⟩
  refine Nat.lt_pow_two_of_testBit _ fun q hq => ?_
  rw [List.foldl_append]
  show (aftM _ _ &&& takM t.ats x).testBit q = false
  rw [Nat.testBit_and, ← Bool.not_eq_true, Bool.and_eq_true]
  rintro ⟨_, z⟩
  have := (takM_bit t.ats x q).mp z
  have := lb_lt this
  have : t.ats.length = t.sz := rfl
  omega
theorem at_nil {t : Tr} {m : Nat} (h : At2 t [] m) : m = 2 ^ t.sz := by
  obtain ⟨F, L, fol, _, A⟩ := auto_of t
  exact at_one h (at_run A [])
/-- a shortest word with a property that both patterns' verdicts make is shorter than there are pairs of masks -/
theorem short {A B : Tr} {N : Nat} (c : Cnt A B N) (d : Prop → Prop → Prop) {w : List Nm} (hw : d (A.L w) (B.L w)) (hs : ∀ w' : List Nm, w'.length < w.length → ¬ d (A.L w') (B.L w')) : w.length < N := by
  obtain ⟨F1, L1, fol1, _, A1⟩ := auto_of A
  obtain ⟨F2, L2, fol2, _, A2⟩ := auto_of B
  have nd : ((List.range (w.length + 1)).map fun i => ((ru A (fol1 ++ [F1]) (w.take i), ru B (fol2 ++ [F2]) (w.take i)) : M2)).Nodup := by
    refine List.pairwise_map.mpr (List.Pairwise.imp_of_mem (fun {i j} hi hj hij z => ?_) (List.pairwise_lt_range (n := w.length + 1)))
    have hj2 := List.mem_range.mp hj
    injection z with z1 z2
    have e1 : ru A (fol1 ++ [F1]) (w.take i ++ w.drop j) = ru A (fol1 ++ [F1]) w := by
      have : ru A (fol1 ++ [F1]) (w.take j ++ w.drop j) = ru A (fol1 ++ [F1]) w := by rw [List.take_append_drop]
      rw [← this]
      unfold ru at z1 ⊢
      rw [List.foldl_append, List.foldl_append, z1]
    have e2 : ru B (fol2 ++ [F2]) (w.take i ++ w.drop j) = ru B (fol2 ++ [F2]) w := by
      have : ru B (fol2 ++ [F2]) (w.take j ++ w.drop j) = ru B (fol2 ++ [F2]) w := by rw [List.take_append_drop]
      rw [← this]
      unfold ru at z2 ⊢
      rw [List.foldl_append, List.foldl_append, z2]
    refine hs (w.take i ++ w.drop j) (by rw [List.length_append, List.length_take, List.length_drop]; omega) ?_
    have k1 : A.L (w.take i ++ w.drop j) ↔ A.L w := by
      rw [← has_word A1, ← has_word A1 w]
      unfold ru at e1
      rw [e1]
    have k2 : B.L (w.take i ++ w.drop j) ↔ B.L w := by
      rw [← has_word A2, ← has_word A2 w]
      unfold ru at e2
      rw [e2]
    rw [propext k1, propext k2]
    exact hw
  have := c _ nd fun s hs2 => by
    obtain ⟨i, _, rfl⟩ := List.mem_map.mp hs2
    exact ⟨w.take i, at_run A1 _, at_run A2 _⟩
  rw [List.length_map, List.length_range] at this
  omega
/-- the number of pairs of masks, by the numbers of atoms -/
theorem cnt_pow {t1 t2 : Tr} {k : Nat} (h : t1.sz + t2.sz ≤ k) : Cnt t1 t2 (2 ^ k + 1) := fun l nd hl => by
  have small : ∀ s ∈ l, s ≠ st0 t1 t2 → s.1 < 2 ^ t1.sz ∧ s.2 < 2 ^ t2.sz := fun s hs hn => by
    obtain ⟨w, h1, h2⟩ := hl s hs
    by_cases hw : w = []
    · subst hw
      exact absurd (Prod.ext (at_nil h1) (at_nil h2)) hn
    · exact ⟨at_lt h1 hw, at_lt h2 hw⟩
  have hp : 2 ^ t1.sz * 2 ^ t2.sz ≤ 2 ^ k := by
    rw [← Nat.pow_add]
    exact Nat.pow_le_pow_right (by decide) h
  have nd2 : (l.map fun s : M2 => if s = st0 t1 t2 then 2 ^ k else s.1 + 2 ^ t1.sz * s.2).Nodup := by
    refine List.pairwise_map.mpr (List.Pairwise.imp_of_mem (fun {a b} ha hb hab => ?_) nd)
    intro z
    by_cases ea : a = st0 t1 t2
    · by_cases eb : b = st0 t1 t2
      · exact hab (ea.trans eb.symm)
      · rw [if_pos ea, if_neg eb] at z
        obtain ⟨h1, h2⟩ := small b hb eb
        have : 2 ^ t1.sz * b.2 + 2 ^ t1.sz ≤ 2 ^ t1.sz * 2 ^ t2.sz := by
          rw [← Nat.mul_succ]
          exact Nat.mul_le_mul_left _ h2
        omega
    · obtain ⟨h1, h2⟩ := small a ha ea
      by_cases eb : b = st0 t1 t2
      · rw [if_neg ea, if_pos eb] at z
        have : 2 ^ t1.sz * a.2 + 2 ^ t1.sz ≤ 2 ^ t1.sz * 2 ^ t2.sz := by
          rw [← Nat.mul_succ]
          exact Nat.mul_le_mul_left _ h2
        omega
      · rw [if_neg ea, if_neg eb] at z
        obtain ⟨h3, h4⟩ := small b hb eb
        have m1 := congrArg (· % 2 ^ t1.sz) z
        have m2 := congrArg (· / 2 ^ t1.sz) z
        simp only [Nat.add_mul_mod_self_left, Nat.mod_eq_of_lt h1, Nat.mod_eq_of_lt h3] at m1
        simp only [Nat.add_mul_div_left _ _ (Nat.two_pow_pos t1.sz), Nat.div_eq_of_lt h1, Nat.div_eq_of_lt h3, Nat.zero_add] at m2
        exact hab (Prod.ext m1 m2)
  have sub : ∀ x ∈ l.map fun s : M2 => if s = st0 t1 t2 then 2 ^ k else s.1 + 2 ^ t1.sz * s.2, x ∈ List.range (2 ^ k + 1) := fun x hx => by
    obtain ⟨s, hs, rfl⟩ := List.mem_map.mp hx
    rw [List.mem_range]
    by_cases es : s = st0 t1 t2
    · rw [if_pos es]
      omega
    · rw [if_neg es]
      obtain ⟨h1, h2⟩ := small s hs es
      have : 2 ^ t1.sz * s.2 + 2 ^ t1.sz ≤ 2 ^ t1.sz * 2 ^ t2.sz := by
        rw [← Nat.mul_succ]
        exact Nat.mul_le_mul_left _ h2
      omega
  have := nd2.length_le_of_subset sub
  rw [List.length_map, List.length_range] at this
  exact this
end Vpt

set_option Elab.async false
set_option linter.all false
set_option maxRecDepth 100000
set_option maxHeartbeats 4000000
/-! Traced, pattern_of, a name that is none of these. -/
namespace K14
open PySem PySem.Spec PyProof.Rows L2 Vl Evl Vp Vc Ve Ven Vg Vb Vt Vlt Vsa Vle Vo Vr Vda Vw Vx2 Vtx Vlk
abbrev sTc : Stmt := top 46
abbrev sPof : Stmt := top 54
abbrev sOn : Stmt := top 55
abbrev nTc : List Str := ["came", "node", "lanes", "lane"]
abbrev nPof : List Str := ["given"]
abbrev nOn : List Str := ["names", "count"]
/-! a call f(*x) of a def with *names -/
section
variable {X : Cx} {CX : CXT} {j k : Nat} {x : Str} {sp : Sp} {E : XK} {p pos sp_ : Pos} {e : Expr} {te : TE}
def tFuS (K : PySem.W.Frag) (sp : Sp) (E : XK) (te : TE) : TE := fun σ H Q => te σ H fun y H1 => ∃ a xs, y = V.ref a ∧ (SqT K H1 a xs ∨ SqL K H1 a xs) ∧ sp xs H1 Q E
theorem pe_fuS (T : FuR X.prog X.w X.K X.mg X.base CX k x sp) (hr : Room j X.A) (hg : Gl X x) (hx : Passes CX X E) (he : PE X e te) (hk : k ≤ j := by decide) (hdb : (x == ("__debug__" : Str)) = false := by decide) : PE X (.Call (.Name x p) [.Starred e sp_] [] pos) (tFuS X.K sp E te) := by
  obtain ⟨f, F, hm, kp⟩ := T.ex
  exact StX.pe_callS1 F (hr.mono hk) kp hg hm hx he hdb
end
section
variable {P : Program} {w : World} {K : PySem.W.Frag} {mg : Str → Option Value} {base : Heap} {CA CP : Addr}
theorem ev_isNo {te : TE} {σ : L2.St} {H : Hp} {x : V} (h : Ev te σ H x) : Ev (tOp (fun x y H Q => y = .non ∧ Q (.bl (decide (x = .non))) H) te (tC .non)) σ H (.bl (decide (x = .non))) := ev_op h ev_c fun H1 _ Q q => ⟨rfl, q H1 (Ex.refl _)⟩
theorem ev_notNo {te : TE} {σ : L2.St} {H : Hp} {x : V} (h : Ev te σ H x) : Ev (tOp (fun x y H Q => y = .non ∧ Q (.bl (!decide (x = .non))) H) te (tC .non)) σ H (.bl (!decide (x = .non))) := ev_op h ev_c fun H1 _ Q q => ⟨rfl, q H1 (Ex.refl _)⟩
theorem scTc : FnScope nTc ["came", "node"] (defScope sTc) := ⟨rfl, rfl, rfl, by decide +kernel, rfl, by decide +kernel, by decide +kernel⟩
theorem ok_tc {f : Addr} {fd : FuncData} (F : FnP K "traced" sTc f fd) : FnOk P w K mg base L2.CX0 1 f fd ["came", "node"] Vct.spTr := by
  refine F.ok (CX := L2.CX0) scTc (fun vs H Q E h => ?_) (fun cdv A outer s H vs Q E hr h => ?_)
  · obtain ⟨d, b, cs, n, ls, rfl, _⟩ := h
    rfl
  · refine ⟨_, (pss_cons (ps_set (i := 2) scTc.nd rfl (by first | exact Or.inl rfl | exact Or.inr rfl) (pe_lst pa_nil))
      (pss_cons (ps_while (passes_of rfl) (pt_cmpR op_notN (pe_dget (Nat.lt_of_le_of_lt (Nat.add_le_add_left (show 1 ≤ 64 by decide) _) hr.units) (pv 0) (pv 1) (fun _ _ => rfl)) pe_non (nomark _)) (pss_cons (ps_asg (pe_dget (Nat.lt_of_le_of_lt (Nat.add_le_add_left (show 1 ≤ 64 by decide) _) hr.units) (pv 0) (pv 1) (fun _ _ => rfl)) (pg_tup rfl (pgs_cons (pg_name (i := 1) scTc.nd rfl (by first | exact Or.inl rfl | exact Or.inr rfl)) (pgs_cons (pg_name (i := 3) scTc.nd rfl (by first | exact Or.inl rfl | exact Or.inr rfl)) pgs_nil))))
      (pss_one (ps_expr (pe_bm PySem.F.plainAttrs_list PySem.F.slot_list_append PySem.F.type_list_append mt_append (pv 2) (pa_cons (pv 3) pa_nil))))))
      (pss_one (ps_ret (pe_revL (pv 2)))))), ?_⟩
    obtain ⟨d, b, cs, n, ls, rfl, hd, hb, nd, tp, tr, hlen, k⟩ := h
    refine s_seq ?_
    refine s_asgL (el_lst ea_nil (by decide)) fun q H1 nq e1 hq => ?_
    dsimp only
    refine q_while (fun m st H' => ∃ (t3 : Option V) (b : Addr) (node : Vct.Nd) (rem app : List (List Nat)), st = [some (.ref d), some (.ref b), some (.ref q), t3] ∧ H' b = some (.tup (node.map kV)) ∧ Vct.Tr cs node rem ∧ rem ++ app.reverse = ls ∧ Ex H H' ∧ H' q = some (.lst (vtx app)) ∧ m = rem.length) ls.length
      ⟨none, b, n, ls, [], rfl, e1 _ _ hb, tr, List.append_nil _, e1, hq, rfl⟩ ?_
    rintro m st H2 ⟨t3, b, node, rem, app, rfl, hb2, tr2, hra, e2, hq2, rfl⟩
    have hd2 := e2 _ _ hd
    have happ : rem.length + app.length = ls.length := by rw [← hra, List.length_append, List.length_reverse]
    cases tr2 with
    | @nil b0 _ hm =>
      have hv := Vct.came_get nd hm
      refine ⟨false, et_test (ev_is (ev_notNo (ev_dget (v := .non) (ev_var rfl) (ev_var rfl) (by rw [show (some V.non) = valV (Vct.dCame cs) node from hv.symm]; exact DGet.t hd2 hb2))) rfl), (fun z => by cases z), fun _ H3 e3 => ?_⟩
      refine s_retL (xs := vtx ls) ?_ fun r H4 nr e4 hr4 => k r H4 ((e2.trans e3).trans e4) (fresh_back (e2.trans e3) nr) hr4
      have := Vct.el_rev (K := K) (te := tVar 2) (σ := [some (.ref d), some (.ref b), some (.ref q), t3]) (ev_var rfl) (sq_of (e3 _ _ hq2))
      rw [show (vtx app).reverse = vtx ls by rw [← hra]; unfold vtx; rw [← List.map_reverse]; rfl] at this
      exact this
    | @snoc b0 b' a _ p l rem' hm tr3 =>
      have hv := Vct.came_get nd hm
      obtain ⟨htp, hb'⟩ := (tp _ hm).pair _ rfl
      have hev : ∀ {H3 : Hp}, Ex H2 H3 → Ev (tDGet (tVar 0) (tVar 1)) [some (.ref d), some (.ref b), some (.ref q), t3] H3 (.ref a) := fun e => ev_dget (ev_var rfl) (ev_var rfl) (by rw [show (some (V.ref a)) = valV (Vct.dCame cs) node from hv.symm]; exact DGet.t (e _ _ hd2) (e _ _ hb2))
      refine ⟨true, et_test (ev_is (ev_notNo (hev (Ex.refl _))) rfl), fun _ H3 e3 => ?_, (fun z => by cases z)⟩
      refine ⟨fun st H' => ∃ (t3 : Option V) (b : Addr) (node : Vct.Nd) (app : List (List Nat)), st = [some (.ref d), some (.ref b), some (.ref q), t3] ∧ H' b = some (.tup (node.map kV)) ∧ Vct.Tr cs node rem' ∧ rem' ++ app.reverse = ls ∧ Ex H H' ∧ H' q = some (.lst (vtx app)), ?_, ?_⟩
      · rintro st H4 ⟨t3, b, node, app, rfl, h0, h1, h2, h3, h4⟩
        exact ⟨rem'.length, by rw [List.length_append]; exact Nat.lt_succ_self _, t3, b, node, rem', app, rfl, h0, h1, h2, h3, h4, rfl⟩
      · refine s_seq ?_
        refine hev e3 H3 (Ex.refl _) _ fun H4 e4 => ?_
        refine ⟨a, _, rfl, st_of ((e2.trans (e3.trans e4)) _ _ htp), rfl, ?_⟩
        refine ⟨_, _, rfl, _, _, rfl, rfl, ?_⟩
        dsimp only
        refine s_app (l := q) (xs := vtx app) ((e3.trans e4) _ _ hq2) (ev_var rfl) (ev_var rfl) (by rw [vtx_len]; omega) fun H5 e5 => ?_
        have hbq : b' ≠ q := fun z => by
          have h1 := ((e2.trans e3).trans e4) _ _ hb'
          rw [z, (e3.trans e4) _ _ hq2] at h1
          cases h1
        refine ⟨_, b', p, app ++ [l], rfl, (upd_ne hbq).trans ((((e2.trans e3).trans e4).trans e5) _ _ hb'), tr3, ?_, Ex.mut (((e2.trans e3).trans e4).trans e5) nq, ?_⟩
        · rw [List.reverse_append]
          show rem' ++ ([l] ++ app.reverse) = ls
          rw [← hra, List.append_assoc]
        · rw [upd_same, vtx_app]
          rfl
/-! pattern_of -/
/-- v stands for the pattern of the tree -/
def GivP (K : PySem.W.Frag) (CP CA : Addr) (H : Hp) (v : V) (T : Tr) : Prop := (∃ o, v = .ref o ∧ PatAt K CP CA H o T) ∨ ∃ p xs, v = .ref p ∧ SqT K H p (vtx xs) ∧ (∀ x ∈ xs, nam x) ∧ 1 ≤ xs.length ∧ xs.length ≤ 10 ∧ T = wk xs
theorem GivP.mono {H H' : Hp} {v : V} {T : Tr} (e : Ex H H') (h : GivP K CP CA H v T) : GivP K CP CA H' v T := by
  rcases h with ⟨o, rfl, h⟩ | ⟨p, xs, rfl, h, r⟩
  · exact .inl ⟨o, rfl, h.mono e⟩
  · exact .inr ⟨p, xs, rfl, ex_t e h, r⟩
def spPo (K : PySem.W.Frag) (CP CA : Addr) : Sp := fun vs H Q _ => ∃ (v : V) (T : Tr), vs = [v] ∧ GivP K CP CA H v T ∧ ∀ o H', Ex H H' → PatAt K CP CA H' o T → Q (.ref o) H'
theorem scPof : FnScope nPof ["given"] (defScope sPof) := ⟨rfl, rfl, rfl, by decide +kernel, rfl, by decide +kernel, by decide +kernel⟩
theorem ok_po3 {f : Addr} {fd : FuncData} (F : FnP K "pattern_of" sPof f fd) (c : C8.InsC K CP) (no : PySem.W.kitOne K (.type "tuple") (.ref CP) = some false) (gP : mg "Pattern" = some (.ref CP)) (TWo : FuR P w K mg base L2.CX0 7 "walk_of" (Vsa.spSt (spWo K CP CA))) (mIsi : mg "isinstance" = none) :
    FnOk P w K mg base L2.CX0 8 f fd ["given"] (spPo K CP CA) := by
  refine F.ok (CX := L2.CX0) scPof (fun vs H Q E h => ?_) (fun cdv A outer s H vs Q E hr h => ?_)
  · obtain ⟨v, T, rfl, _⟩ := h
    rfl
  · refine ⟨_, (pss_cons (ps_if (pt_val (pe_callB call_isi (by rfl) mIsi boot_isinstance (pa_cons (pv 0) (pa_cons (pe_glob (v := V.ref CP) (by rfl) gP rfl) pa_nil)))) (pss_one (ps_ret (pv 0))) pss_nil)
      (pss_one (ps_ret (pe_fuS (E := nil0) TWo hr (by rfl) pass0 (pv 0))))), ?_⟩
    obtain ⟨v, T, rfl, g, k⟩ := h
    refine s_seq ?_
    rcases g with ⟨o, rfl, PA⟩ | ⟨p, xs, rfl, hp, hn, h1, h10, rfl⟩
    · obtain ⟨dx, sa, a, rs, hi, _⟩ := id PA
      refine s_when (b := true) (et_B fun H1 e Q1 q1 => ⟨_, rfl, V.ref o, V.ref CP, .ref CP, .ref CP, true, rfl, .own CP, .base (.ins (e _ _ hi) c.cl c.ha c.hn c.htk c.hm), c.me, q1 H1 (Ex.refl _)⟩) (fun _ H1 e1 => ?_) fun z => nomatch z
      exact s_ret (ev_var rfl) fun H2 e2 => k o H2 (e1.trans e2) (PA.mono (e1.trans e2))
    · refine s_when (b := false) (et_B fun H1 e Q1 q1 => ⟨_, rfl, V.ref p, V.ref CP, .type "tuple", .ref CP, false, rfl, .own CP, ?_, no, q1 H1 (Ex.refl _)⟩) (fun z => nomatch z) fun _ H1 e1 => ?_
      · rcases ex_t e hp with (h1 | ⟨ob, h1⟩) | ⟨ob, its, n, h1, h2, _⟩
        · exact .base (.tup h1)
        · exact .fTuple h1
        · exact .kTuple h1 h2
      · refine ⟨_, rfl, p, vtx xs, rfl, .inl (ex_t e1 hp), by rw [vtx_len]; omega, fun pa npa => ⟨pa, xs, rfl, upd_same, hn, h1, h10, fun o H2 no2 e2 PA => ?_⟩⟩
        exact k o H2 ((e1.trans (Ex.new npa)).trans e2) PA
end
end K14

set_option Elab.async false
set_option linter.all false
set_option maxRecDepth 100000
set_option maxHeartbeats 4000000
/-! A name that is none of these; one lane for each way in which atoms take it. -/
namespace K14
open PySem PySem.Spec PyProof.Rows L2 Vl Evl Vp Vc Ve Ven Vg Vb Vt Vlt Vsa Vle Vo Vr Vda Vw Vx2 Vtx Vlk
abbrev sOn2 : Stmt := top 55
abbrev sDl : Stmt := top 58
abbrev nDl : List Str := ["one", "two", "names", "lanes", "lane", "taking"]
/-- a number below hundred, in digits -/
def dig (n : Nat) : List Nat := if n < 10 then [48 + n] else [48 + n / 10, 48 + n % 10]
theorem dig_str : ∀ n : Nat, n < 100 → (toString (n : Int) : Str) = tx (dig n) := by decide +kernel
theorem dig_inj : ∀ a : Nat, a < 100 → ∀ b : Nat, b < 100 → dig a = dig b → a = b := by decide +kernel
def xn (n : Nat) : Nm := 120 :: dig n
theorem xn_nam {n : Nat} (h : n < 100) : nam (xn n) := by
  have key : ∀ n : Nat, n < 100 → (dig n).all (fun c => decide (c ∈ Vp.signs)) = true ∧ (dig n).length ≤ 7 := by decide +kernel
  refine ⟨120, dig n, rfl, by decide, fun x hx => of_decide_eq_true (List.all_eq_true.mp (key n h).1 x hx), (key n h).2⟩
section
variable {K : PySem.W.Frag} {σ : L2.St} {H : Hp} {ta tb tc te : TE} {E : L2.St → XK}
theorem ev_sC {t : String} {z : List Nat} (h : Str.ofString t = tx z) : Ev (tC (.str (Str.ofString t))) σ H (.str (tx z)) := by
  rw [h]
  exact ev_c
/-- f"x{i}" -/
theorem ev_xn {n : Nat} (h : Ev te σ H (.int (n : Nat))) (hn : n < 100) : Ev (fun σ H Q => tJs [tC (.str (Str.ofString "x")), tFmt te] Str.empty σ H fun out H1 => Q (.str out) H1) σ H (.str (tx (xn n))) := fun H1 e Q q => by
  have hx : Str.ofString "x" = tx [120] := by decide +kernel
  refine ⟨_, rfl, by rw [hx]; decide +kernel, ?_⟩
  refine h H1 e _ fun H2 e2 => .inr ⟨(n : Int), rfl, ?_, _, rfl, ?_, ?_⟩
  · have : (n : Int).natAbs = n := Int.natAbs_natCast n
    rw [this]
    exact Nat.lt_of_le_of_lt (Nat.log2_le_self n) (by omega)
  · rw [dig_str n hn, hx]
    have : (Str.empty ++ tx [120] ++ tx (dig n)) = tx (xn n) := by
      have h0 : (Str.empty ++ tx [120]) = tx [120] := by decide +kernel
      rw [h0, tx_app]
      rfl
    rw [this, tx_len]
    have := (nam_len (xn_nam hn)).2
    exact sz_of (by omega)
  · rw [dig_str n hn, hx]
    have : (Str.empty ++ tx [120] ++ tx (dig n)) = tx (xn n) := by
      have h0 : (Str.empty ++ tx [120]) = tx [120] := by decide +kernel
      rw [h0, tx_app]
      rfl
    rw [this]
    exact q H2 e2
end
def spOn (K : PySem.W.Frag) : Sp := fun vs H Q _ => ∃ (p : Addr) (xs : List Nm), vs = [.ref p] ∧ SqT K H p (vtx xs) ∧ xs.length ≤ 90 ∧ ∀ x H', Ex H H' → nam x → x ∉ xs → Q (.str (tx x)) H'
section
variable {P : Program} {w : World} {K : PySem.W.Frag} {mg : Str → Option Value} {base : Heap} {CA CP : Addr}
theorem scOn : FnScope nOn ["names"] (defScope sOn) := ⟨rfl, rfl, rfl, by decide +kernel, rfl, by decide +kernel, by decide +kernel⟩
theorem ok_on {f : Addr} {fd : FuncData} (F : FnP K "_other_name" sOn f fd) : FnOk P w K mg base L2.CX0 1 f fd ["names"] (spOn K) := by
  refine F.ok (CX := L2.CX0) scOn (fun vs H Q E h => ?_) (fun cdv A outer s H vs Q E hr h => ?_)
  · obtain ⟨p, xs, rfl, _⟩ := h
    rfl
  · refine ⟨_, (pss_cons (ps_set (i := 1) scOn.nd rfl (by first | exact Or.inl rfl | exact Or.inr rfl) pe_int)
      (pss_cons (ps_while (passes_of rfl) (pt_cmpR op_in_seq (pe_joined (PJ.cons pe_str (PJ.cons (pe_fmt (pv 1)) PJ.nil))) (pv 0) rfl) (pss_one (ps_set (i := 1) scOn.nd rfl (by first | exact Or.inl rfl | exact Or.inr rfl) (pe_op op_add (pv 1) pe_int))))
      (pss_one (ps_ret (pe_joined (PJ.cons pe_str (PJ.cons (pe_fmt (pv 1)) PJ.nil))))))), ?_⟩
    obtain ⟨p, xs, rfl, hp, hz, k⟩ := h
    refine q_asg (v := .int ((0 : Nat) : Int)) (ev_is ev_c rfl) fun H1 e1 => ?_
    refine q_while (fun m st H' => ∃ n : Nat, st = [some (.ref p), some (.int (n : Nat))] ∧ Ex H H' ∧ (∀ i, i < n → xn i ∈ xs) ∧ m + n = xs.length) xs.length ⟨0, rfl, e1, fun i h => absurd h (Nat.not_lt_zero i), rfl⟩ ?_
    rintro m st H2 ⟨n, rfl, e2, hin, hm⟩
    have hn : n < 100 := by omega
    refine ⟨decide (xn n ∈ xs), et_test (ev_is (ev_op (ev_xn (ev_var (i := 1) rfl) hn) (ev_var (i := 0) rfl) (rv_inT (neg := false) (ex_t e2 hp) rfl (flat_vtx _))) (by show V.bl (inV _ _) = _; rw [inV_vtx])), fun hb H3 e3 => ?_, fun hb H3 e3 => ?_⟩
    · have hmem := of_decide_eq_true hb
      have hlt : n < xs.length := by
        have nd : ((List.range (n + 1)).map xn).Nodup := by
          refine List.pairwise_map.mpr (List.Pairwise.imp_of_mem (fun {a b} ha hb hab z => ?_) List.nodup_range)
          have h1 := List.mem_range.mp ha
          have h2 := List.mem_range.mp hb
          exact hab (dig_inj a (by omega) b (by omega) (by injection z))
        have := nd.length_le_of_subset (l₂ := xs) fun x hx => by
          obtain ⟨i, hi, rfl⟩ := List.mem_map.mp hx
          have := List.mem_range.mp hi
          rcases Nat.lt_or_ge i n with z | z
          · exact hin i z
          · rw [show i = n by omega]
            exact hmem
        rw [List.length_map, List.length_range] at this
        omega
      refine ⟨fun st H' => st = [some (.ref p), some (.int ((n + 1 : Nat) : Int))] ∧ Ex H H', ?_, ?_⟩
      · rintro st H4 ⟨rfl, e4⟩
        exact ⟨xs.length - (n + 1), by omega, n + 1, rfl, e4, fun i hi => by
          rcases Nat.lt_or_ge i n with z | z
          · exact hin i z
          · rw [show i = n by omega]
            exact hmem, by omega⟩
      · exact s_asg (v := .int ((n + 1 : Nat) : Int)) (ev_is (ev_op (ev_var (i := 1) rfl) ev_c rv_I0) rfl) fun H4 e4 => ⟨rfl, (e2.trans e3).trans e4⟩
    · exact s_ret (ev_xn (ev_var (i := 1) rfl) hn) fun H4 e4 => k _ H4 ((e2.trans e3).trans e4) (xn_nam hn) (of_decide_eq_false hb)
end
end K14

set_option Elab.async false
set_option linter.all false
set_option maxRecDepth 100000
set_option maxHeartbeats 4000000
/-! One lane for each way in which atoms take it. -/
namespace K14
open PySem PySem.Spec PyProof.Rows L2 Vl Evl Vp Vc Ve Ven Vg Vb Vt Vlt Vsa Vle Vo Vr Vda Vw Vx2 Vtx Vlk Vpt
/-- a pair of masks as a dict's key -/
def key (s : M2) : Vct.Nd := [Sum.inl (s.1 : Int), Sum.inl (s.2 : Int)]
theorem key_inj {a b : M2} (h : key a = key b) : a = b := by
  unfold key at h
  injection h with h1 h
  injection h with h2 _
  injection h1 with h1
  injection h2 with h2
  exact Prod.ext (Int.ofNat.inj h1) (Int.ofNat.inj h2)
theorem key_tup (s : M2) : (key s).map kV = [.int (s.1 : Nat), .int (s.2 : Nat)] := rfl
def dLn (es : List (M2 × Nm)) : List (Vct.Nd × V) := es.map fun e => (key e.1, .str (tx e.2))
theorem dln_none {es : List (M2 × Nm)} {s : M2} (h : s ∉ es.map fun e => e.1) : valV (dLn es) (key s) = none := by
  induction es with
  | nil => rfl
  | cons x r ih =>
    unfold dLn
    rw [List.map_cons, valV_neg (fun z => h (by rw [← key_inj z]; exact List.mem_cons_self))]
    exact ih fun z => h (List.mem_cons_of_mem _ z)
theorem dln_get {es : List (M2 × Nm)} (nd : (es.map fun e => e.1).Nodup) {e : M2 × Nm} (h : e ∈ es) : valV (dLn es) (key e.1) = some (.str (tx e.2)) := by
  induction es with
  | nil => cases h
  | cons x r ih =>
    unfold dLn
    rw [List.map_cons]
    have nd2 := List.nodup_cons.mp nd
    rcases List.mem_cons.mp h with rfl | h
    · rw [valV_pos rfl]
    · rw [valV_neg (fun z => nd2.1 (by show x.1 ∈ _; rw [key_inj z]; exact List.mem_map_of_mem (f := fun e : M2 × Nm => e.1) h))]
      exact ih nd2.2 h
theorem dln_some {es : List (M2 × Nm)} (nd : (es.map fun e => e.1).Nodup) (s : M2) : (valV (dLn es) (key s)).isSome = true ↔ s ∈ es.map fun e => e.1 := by
  by_cases h : s ∈ es.map fun e => e.1
  · obtain ⟨e, he, rfl⟩ := List.mem_map.mp h
    rw [dln_get nd he]
    exact ⟨fun _ => h, fun _ => rfl⟩
  · rw [dln_none h]
    exact ⟨(fun z => nomatch z), fun z => absurd z h⟩
/-- how a lane is taken that no atom names -/
theorem takM_out {t : Tr} {x y : Nm} (hx : x ∉ nmsOf t.steps) (hy : y ∉ nmsOf t.steps) : takM t.ats x = takM t.ats y := by
  have out : ∀ {z : Nm}, z ∉ nmsOf t.steps → ∀ a ∈ t.ats, z ∉ a.2 := fun {z} hz a ha hm => by
    rw [← ats_steps, List.mem_flatMap] at ha
    obtain ⟨o, ho, h1⟩ := ha
    refine hz ?_
    unfold nmsOf
    rw [List.mem_flatMap]
    refine ⟨o, ho, ?_⟩
    cases o with
    | atom n ns =>
      rw [List.mem_singleton.mp h1] at hm
      exact hm
    | _ => cases h1
  refine Nat.eq_of_testBit_eq fun q => Bool.eq_iff_iff.mpr ?_
  rw [takM_bit, takM_bit]
  unfold Lb
  refine and_congr_right fun _ => exists_congr fun a => and_congr_right fun ha => ?_
  have hm := List.mem_of_getElem? ha
  unfold takes
  rw [decide_eq_false (out hx a hm), decide_eq_false (out hy a hm)]
def tk2 (t1 t2 : Tr) (x : Nm) : M2 := (takM t1.ats x, takM t2.ats x)
def spDl (K : PySem.W.Frag) (CP CA : Addr) : Sp := fun vs H Q _ => ∃ (o1 o2 : Addr) (T1 T2 : Tr), vs = [.ref o1, .ref o2] ∧ PatAt K CP CA H o1 T1 ∧ PatAt K CP CA H o2 T2 ∧ T1.sz ≤ 60 ∧ T2.sz ≤ 60 ∧ (nmsOf T1.steps).length ≤ 40 ∧ (nmsOf T2.steps).length ≤ 40 ∧ (∀ x ∈ nmsOf T1.steps, nam x) ∧ (∀ x ∈ nmsOf T2.steps, nam x) ∧
  ∀ d es H', H d = none → Ex H H' → H' d = some (.dT (dLn es)) → Lns T1 T2 es → Q (.ref d) H'
section
variable {K : PySem.W.Frag} {σ : L2.St} {H : Hp} {ta tb tc te : TE} {E : L2.St → XK} {CA CP o : Addr} {T : Tr}
theorem pm_go (h : Ev te σ H (.ref o)) (PA : PatAt K CP CA H o T) (hl : (nmsOf T.steps).length ≤ 60) : ∀ H1, Ex H H1 → ∀ Q : VK, (∀ q ys H2, H1 q = none → Ex H1 H2 → H2 q = some (.tup (vtx ys)) → Vtx.Srt ys (nmsOf T.steps) → Q (.ref q) H2) → tPr CP (spPm K CP CA) te σ H1 Q := fun H1 e Q q =>
  h H1 e _ fun H2 e2 => by
    have P := PA.mono (e.trans e2)
    obtain ⟨dx, sa, a, rs, hi, _⟩ := id P
    exact ⟨o, dx, _, rfl, hi, o, T, rfl, P, hl, fun t ys H3 nt e3 ht hs => q t ys H3 (fresh_back e2 nt) (e2.trans e3) ht hs⟩
theorem cat_go {a b : Addr} {xs ys : List V} {Q : VK} (ha : SqT K H a xs) (hb : SqT K H b ys) (hz : xs.length + ys.length ≤ 100000) (q : ∀ p H2, Ex H H2 → SqT K H2 p (xs ++ ys) → Q (.ref p) H2) : rCatA K (.ref a) (.ref b) H Q := by
  have := Vt.et_cat (K := K) (σ := []) (H := H) (Vt.et_ref (te := tC (.ref a)) ev_c ha) (Vt.et_ref (te := tC (.ref b)) ev_c hb) hz H (Ex.refl _) Q q
  unfold tOp tC at this
  exact this
theorem sqt_wo {a d : Addr} {xs : List V} {kvs : List (Vct.Nd × V)} (h : SqT K H a xs) (hd : H d = some (.dT kvs)) : SqT K (Wo H d) a xs := by
  rcases h with (h | ⟨ob, h⟩) | h
  · exact .inl (.inl (wo_at h fun z => by rw [z, hd] at h; cases h))
  · exact .inl (.inr ⟨ob, wo_at h fun z => by rw [z, hd] at h; cases h⟩)
  · exact .inr h
theorem s_forTq {D : L2.Ends} {tu : TS} {g : TG} {R : Addr → Hp → Prop} (h : ∀ Q1 : VK, (∀ a H', R a H' → Q1 (.ref a) H') → te σ H Q1) (k : ∀ a H', R a H' → tFor (iTup K (tC (.ref a))) g tu D σ H') : tFor (iTup K te) g tu D σ H := h _ fun a H' r => k a H' r
/-- the mask of the atoms of a pattern's object that take a lane -/
theorem ev_tk {x : Nm} {i : Nat} (c : Cls K CP) (n : NoAttr K CP "atoms") (h : σ[i]? = some (some (.ref o))) (PA : PatAt K CP CA H o T) (hz : T.sz ≤ 60) (hx : Ev tb σ H (.str (tx x))) : Ev (Vtr.tMethS CA "taking" (spTk K CA) (fun _ => nil0) (tFld K (tVar i) "atoms") (tCons tb tNil)) σ H (.int ((takM T.ats x : Nat) : Int)) := by
  obtain ⟨dx, sa, a, rs, hi, _, _, dx2, Fm, L, fol, fo, tk, ras, M⟩ := PA
  exact ev_me (ev_fld h hi c n rfl) M.at_ rfl (ea_cons hx ea_nil) fun G1 g1 Q1 q1 E1 => ⟨a, T, dx2, Fm, L, fol, fo, tk, ras, x, rfl, M.mono g1, hz, fun G2 g2 => q1 G2 g2⟩
end
section
variable {P : Program} {w : World} {K : PySem.W.Frag} {mg : Str → Option Value} {base : Heap} {CA CP : Addr}
theorem scDl : FnScope nDl ["one", "two"] (defScope sDl) := ⟨rfl, rfl, rfl, by decide +kernel, rfl, by decide +kernel, by decide +kernel⟩
theorem ok_dl {f : Addr} {fd : FuncData} (F : FnP K "_different_lanes" sDl f fd) (B : FP K CP) (KA : KA P w K mg base CA) (TPm : Pr P w K mg base CP 3 "names" (spPm K CP CA)) (TOn : Fu P w K mg base L2.CX0 1 "_other_name" (spOn K)) : FnOk P w K mg base L2.CX0 5 f fd ["one", "two"] (spDl K CP CA) := by
  refine F.ok (CX := L2.CX0) scDl (fun vs H Q E h => ?_) (fun cdv A outer s H vs Q E hr h => ?_)
  · obtain ⟨o1, o2, T1, T2, rfl, _⟩ := h
    rfl
  · refine ⟨_, (pss_cons (ps_set (i := 2) scDl.nd rfl (by first | exact Or.inl rfl | exact Or.inr rfl) (pe_op (op_catA) (pe_pr (pv 0) B.cls TPm hr) (pe_pr (pv 1) B.cls TPm hr)))
      (pss_cons (ps_set (i := 3) scDl.nd rfl (by first | exact Or.inl rfl | exact Or.inr rfl) pe_dnewT)
      (pss_cons (ps_for (passes_of rfl) rfl (pi_tup (pe_op (op_catA) (pv 2) (pe_tup (pa_cons (pe_fu TOn hr (by rfl) (pa_cons (pv 2) pa_nil)) pa_nil)))) (pg_name (i := 4) scDl.nd rfl (by first | exact Or.inl rfl | exact Or.inr rfl)) (pss_cons (ps_set (i := 5) scDl.nd rfl (by first | exact Or.inl rfl | exact Or.inr rfl) (pe_tup (pa_cons (pe_mo (pe_fld (pv 0) rfl) KA.cls KA.taking hr (pa_cons (pv 4) pa_nil)) (pa_cons (pe_mo (pe_fld (pv 1) rfl) KA.cls KA.taking hr (pa_cons (pv 4) pa_nil)) pa_nil))))
      (pss_one (ps_if (pt_cmp (pc_dnotin (Nat.lt_of_le_of_lt (Nat.add_le_add_left (show 1 ≤ 64 by decide) _) hr.units) (pv 5) (pv 3))) (pss_one (ps_dput (Nat.lt_of_le_of_lt (Nat.add_le_add_left (show 1 ≤ 64 by decide) _) hr.units) (pv 3) (pv 5) (pv 4) rfl)) pss_nil))))
      (pss_one (ps_ret (pv 3)))))), ?_⟩
    obtain ⟨o1, o2, T1, T2, rfl, P1, P2, z1, z2, l1, l2, n1, n2, k⟩ := h
    refine s_seq ?_
    refine pm_go (K := K) (ev_var rfl) P1 (by omega) H (Ex.refl _) _ fun q1 ys1 H1 nq1 e1 hq1 s1 => ?_
    refine pm_go (K := K) (σ := [some (.ref o1), some (.ref o2), none, none, none, none]) (H := H) (ev_var rfl) P2 (by omega) H1 e1 _ fun q2 ys2 H2 nq2 e2 hq2 s2 => ?_
    have ly1 := s1.len
    have ly2 := s2.len
    refine cat_go (K := K) (st_of (e2 _ _ hq1)) (st_of hq2) (by rw [vtx_len, vtx_len]; omega) fun np H3 e3 hnp => ?_
    rw [← vtx_app] at hnp
    dsimp only [gName, List.set]
    refine s_seq ?_
    intro d nd
    dsimp only [gName, List.set]
    have e03 := (e1.trans e2).trans e3
    have e4 := Ex.new (o := .dT []) nd
    have hd4 : (upd H3 d (.dT [])) d = some (.dT (dLn [])) := upd_same
    have d0 : H d = none := fresh_back e03 nd
    generalize upd H3 d (.dT []) = H4 at e4 hd4 ⊢
    have hnp4 := ex_t e4 hnp
    refine s_seq ?_
    have hy1 : ∀ z, z ∉ ys1 → z ∉ nmsOf T1.steps := fun z h1 h2 => h1 ((s1.mem z).mpr h2)
    have hy2 : ∀ z, z ∉ ys2 → z ∉ nmsOf T2.steps := fun z h1 h2 => h1 ((s2.mem z).mpr h2)
    have ny : ∀ z ∈ ys1 ++ ys2, nam z := fun z hz => (List.mem_append.mp hz).elim (fun h => n1 z ((s1.mem z).mp h)) fun h => n2 z ((s2.mem z).mp h)
    have ly : (ys1 ++ ys2).length ≤ 80 := by
      rw [List.length_append]
      omega
    have hsub : ∀ z, z ∉ ys1 ++ ys2 → tk2 T1 T2 z = tk2 T1 T2 z ∧ z ∉ nmsOf T1.steps ∧ z ∉ nmsOf T2.steps := fun z hz => ⟨rfl, hy1 z fun h => hz (List.mem_append_left _ h), hy2 z fun h => hz (List.mem_append_right _ h)⟩
    generalize ys1 ++ ys2 = ys at hnp hnp4 ny ly hsub ⊢
    refine s_forTq (K := K) (R := fun a H' => ∃ x, Ex H4 H' ∧ SqT K H' a (vtx (ys ++ [x])) ∧ nam x ∧ x ∉ ys) (fun Q1 q1 => ?_) ?_
    · refine ⟨_, rfl, _, rfl, np, ys, rfl, hnp4, by omega, fun x H5 e5 nx hx => ⟨sz_of (by show 1 ≤ 100000; omega), fun t nt => ?_⟩⟩
      have e6 := Ex.new (o := .tup [.str (tx x)]) nt
      refine cat_go (K := K) (xs := vtx ys) (ys := vtx [x]) (ex_t (e5.trans e6) hnp4) (st_of upd_same) (by rw [vtx_len]; show _ + 1 ≤ _; omega) fun a H6 e7 ha => ?_
      rw [← vtx_app] at ha
      exact q1 a H6 ⟨x, (e5.trans e6).trans e7, ha, nx, hx⟩
    · rintro a H5 ⟨x, e5, ha, nx, hx⟩
      have hd5 := e5 _ _ hd4
      have haw := sqt_wo ha hd5
      have e0w : Ex H (Wo H5 d) := wo_of d0 ((e03.trans e4).trans e5)
      have hx1 := hsub x hx
      have nyx : ∀ z ∈ ys ++ [x], nam z := fun z hz => (List.mem_append.mp hz).elim (ny z) fun h => by rw [List.mem_singleton.mp h]; exact nx
      refine s_forT (a := a) (xs := vtx (ys ++ [x])) ev_c ha (fun i st H' => ∃ t4 t5 es, st = [some (.ref o1), some (.ref o2), some (.ref np), some (.ref d), t4, t5] ∧ Ex (Wo H5 d) H' ∧ H' d = some (.dT (dLn es)) ∧ (∀ e ∈ es, e.1 = tk2 T1 T2 e.2 ∧ nam e.2) ∧ (es.map fun e => e.1).Nodup ∧ (∀ l ∈ (ys ++ [x]).take i, tk2 T1 T2 l ∈ es.map fun e => e.1) ∧ es.length ≤ i)
        (fun H6 e6 => ⟨none, none, [], rfl, (wo_ex H5 d).trans e6, e6 _ _ hd5, fun _ h => (nomatch h), List.nodup_nil, fun _ h => (nomatch h), Nat.zero_le _⟩) (fun i st H' _ ⟨_, _, _, _, e, _⟩ => ex_t e haw) ?_ ?_
      · rintro i v st H6 hv ⟨t4, t5, es, rfl, e6, hd6, hes, hnd, hall, hlen⟩
        unfold vtx at hv
        rw [List.getElem?_map] at hv
        obtain ⟨l, hl, rfl⟩ := Option.map_eq_some_iff.mp hv
        have hil := (List.getElem?_eq_some_iff.mp hl).1
        rw [List.length_append, List.length_singleton] at hil
        have nl := nyx l (List.mem_of_getElem? hl)
        have htk : (ys ++ [x]).take (i + 1) = (ys ++ [x]).take i ++ [l] := by rw [List.take_succ, hl]; rfl
        have E6 := e0w.trans e6
        dsimp only [gName, List.set]
        refine s_seq ?_
        unfold tAsg
        refine eu_tup (σ := [some (.ref o1), some (.ref o2), some (.ref np), some (.ref d), some (.str (tx l)), t5]) (H := H6) (vs := [.int ((takM T1.ats l : Nat) : Int), .int ((takM T2.ats l : Nat) : Int)]) (ea_cons (ev_tk (K := K) (i := 0) B.cls B.atoms rfl (P1.mono E6) z1 (ev_var (i := 4) rfl)) (ea_cons (ev_tk (K := K) (i := 1) B.cls B.atoms rfl (P2.mono E6) z2 (ev_var (i := 4) rfl)) ea_nil)) (by show 2 ≤ 100000; omega) H6 (Ex.refl _) _ fun b H7 nb e7 hb => ?_
        dsimp only [gName, List.set]
        have hd7 := e7 _ _ hd6
        have hbk : H7 b = some (.tup ((key (tk2 T1 T2 l)).map kV)) := hb
        refine s_when (b := !(valV (dLn es) (key (tk2 T1 T2 l))).isSome) (et_notin (ev_var rfl) (ev_var rfl) (DGet.t hd7 hbk)) (fun hc H8 e8 => ?_) fun hc H8 e8 => ?_
        · have hno : tk2 T1 T2 l ∉ es.map fun e => e.1 := fun z => by
            rw [(dln_some hnd _).mpr z] at hc
            cases hc
          refine ⟨_, rfl, _, rfl, _, rfl, d, _, rfl, DPut.t (e8 _ _ hd7) (e8 _ _ hbk) (by unfold dLn; rw [List.length_map, sizeLine_eq]; omega), ?_⟩
          refine ⟨_, _, es ++ [(tk2 T1 T2 l, l)], rfl, Ex.mut ((e6.trans e7).trans e8) (wo_self H5 d), ?_, ?_, ?_, ?_, ?_⟩
          · rw [upd_same, putK_new _ (dln_none hno)]
            unfold dLn
            rw [List.map_append]
            rfl
          · intro e he
            rcases List.mem_append.mp he with he | he
            · exact hes e he
            · rw [List.mem_singleton.mp he]
              exact ⟨rfl, nl⟩
          · rw [List.map_append, List.nodup_append]
            refine ⟨hnd, by simp, fun a1 ha1 b1 hb1 z => ?_⟩
            rw [List.map_cons, List.map_nil] at hb1
            rw [z, List.mem_singleton.mp hb1] at ha1
            exact hno ha1
          · intro l2 hl2
            rw [List.map_append]
            rw [htk] at hl2
            rcases List.mem_append.mp hl2 with h | h
            · exact List.mem_append_left _ (hall l2 h)
            · rw [List.mem_singleton.mp h]
              exact List.mem_append_right _ List.mem_cons_self
          · rw [List.length_append, List.length_singleton]
            omega
        · have hin : tk2 T1 T2 l ∈ es.map fun e => e.1 := (dln_some hnd _).mp (by
            cases hq : (valV (dLn es) (key (tk2 T1 T2 l))).isSome with
            | true => rfl
            | false => rw [hq] at hc; cases hc)
          refine ⟨_, _, es, rfl, (e6.trans e7).trans e8, e8 _ _ hd7, hes, hnd, fun l2 hl2 => ?_, by omega⟩
          rw [htk] at hl2
          rcases List.mem_append.mp hl2 with h | h
          · exact hall l2 h
          · rw [List.mem_singleton.mp h]
            exact hin
      · rintro st H6 ⟨t4, t5, es, rfl, e6, hd6, hes, hnd, hall, hlen⟩
        rw [vtx_len, List.take_length] at hall
        refine s_ret (ev_var rfl) fun H7 e7 => k d es H7 d0 ((e0w.trans e6).trans e7) (e7 _ _ hd6) ⟨fun e he => (hes e he).1, fun e he => (hes e he).2, hnd, fun z => ?_⟩
        by_cases hz : z ∈ ys
        · obtain ⟨e, he, h1⟩ := List.mem_map.mp (hall z (List.mem_append_left _ hz))
          exact ⟨e, he, h1⟩
        · obtain ⟨e, he, h1⟩ := List.mem_map.mp (hall x (List.mem_append_right _ List.mem_cons_self))
          have hz1 := hsub z hz
          refine ⟨e, he, h1.trans (Prod.ext (takM_out hx1.2.1 hz1.2.1) (takM_out hx1.2.2 hz1.2.2))⟩
end
end K14

set_option Elab.async false
set_option linter.all false
set_option maxRecDepth 100000
set_option maxHeartbeats 4000000
/-! Where two patterns part. -/
namespace K14
open PySem PySem.Spec PyProof.Rows L2 Vl Evl Vp Vc Ve Ven Vg Vb Vt Vlt Vsa Vle Vo Vr Vda Vw Vx2 Vtx Vlk Vpt Vwy
abbrev sPg : Stmt := top 57
abbrev nPg : List Str := ["p", "q", "left", "right", "one", "two", "lanes", "start", "came", "queue", "at", "here", "ahead", "first", "second", "there"]
/-- what is asked of two patterns that are told apart -/
structure PgOk (T1 T2 : Tr) (N : Nat) : Prop where
  z1 : T1.sz ≤ 60
  z2 : T2.sz ≤ 60
  l1 : (nmsOf T1.steps).length ≤ 40
  l2 : (nmsOf T2.steps).length ≤ 40
  n1 : ∀ x ∈ nmsOf T1.steps, nam x
  n2 : ∀ x ∈ nmsOf T2.steps, nam x
  cnt : Cnt T1 T2 N
  few : N ≤ 90000
def spPg (K : PySem.W.Frag) (CP CA : Addr) : Sp := fun vs H Q _ => ∃ (v1 v2 : V) (T1 T2 : Tr) (N : Nat), vs = [v1, v2] ∧ GivP K CP CA H v1 T1 ∧ GivP K CP CA H v2 T2 ∧ PgOk T1 T2 N ∧ (∀ H', Ex H H' → (∀ w, T1.L w ↔ T2.L w) → Q .non H') ∧
  ∀ p ws H', Ex H H' → H' p = some (.tup (vtx ws)) → ¬ (T1.L ws ↔ T2.L ws) → (∀ x ∈ ws, nam x) → (∀ w, w.length < ws.length → (T1.L w ↔ T2.L w)) → ws.length < N → Q (.ref p) H'
/-! the search -/
abbrev PEn : Type := Vct.CE × (M2 × List Nm)
def cs (xs : List PEn) : List Vct.CE := xs.map fun x => x.1
def wl (xs : List PEn) : List (M2 × List Nm) := xs.map fun x => x.2
def nds (xs : List PEn) : List M2 := xs.map fun x => x.2.1
structure PS (H0 H : Hp) (d q : Addr) (xs : List PEn) : Prop where
  ex : Ex H0 H
  fd : H0 d = none
  fq : H0 q = none
  dct : H d = some (.dT (Vct.dCame (cs xs)))
  que : H q = some (.lst (xs.map fun x => V.ref x.1.1.1))
  ce : ∀ x ∈ xs, Vct.CEAt H x.1
  ky : ∀ x ∈ xs, x.1.1.2 = key x.2.1
  tr : ∀ x ∈ xs, Vct.Tr (cs xs) (key x.2.1) x.2.2 ∧ x.2.2.length < xs.length
  nd : (nds xs).Nodup
theorem PS.grow {H0 H H' : Hp} {d q : Addr} {xs : List PEn} (h : PS H0 H d q xs) (e : Ex H H') : PS H0 H' d q xs :=
  ⟨h.ex.trans e, h.fd, h.fq, e _ _ h.dct, e _ _ h.que, fun x hx => (h.ce x hx).mono e, h.ky, h.tr, h.nd⟩
theorem ceat_upd {H : Hp} {c : Vct.CE} {b : Addr} {u : HO} (h : Vct.CEAt H c) (hb : ∀ ys, H b ≠ some (.tup ys)) : Vct.CEAt (upd H b u) c := by
  have go : ∀ {a : Addr} {ys : List V}, H a = some (.tup ys) → L2.upd H b u a = some (.tup ys) := fun {a ys} ha => (upd_ne fun z => hb ys (by rw [← z]; exact ha)).trans ha
  exact ⟨go h.node, fun p hp => ⟨go (h.pair p hp).1, go (h.pair p hp).2⟩⟩
theorem PS.frz {H0 H : Hp} {d q b : Addr} {u : HO} {xs : List PEn} (h : PS H0 H d q xs) (hn : H0 b = none) (hd : d ≠ b) (hq : q ≠ b) (hb : ∀ ys, H b ≠ some (.tup ys)) : PS H0 (upd H b u) d q xs :=
  ⟨Ex.mut h.ex hn, h.fd, h.fq, (upd_ne hd).trans h.dct, (upd_ne hq).trans h.que, fun x hx => ceat_upd (h.ce x hx) hb, h.ky, h.tr, h.nd⟩
theorem PS.keys {H0 H : Hp} {d q : Addr} {xs : List PEn} (h : PS H0 H d q xs) : Vct.ckeys (cs xs) = (nds xs).map key := by
  unfold Vct.ckeys cs nds
  rw [List.map_map, List.map_map]
  exact List.map_congr_left fun x hx => h.ky x hx
theorem PS.knd {H0 H : Hp} {d q : Addr} {xs : List PEn} (h : PS H0 H d q xs) : (Vct.ckeys (cs xs)).Nodup := by
  rw [h.keys]
  exact List.pairwise_map.mpr (h.nd.imp fun hab z => hab (key_inj z))
theorem PS.has {H0 H : Hp} {d q : Addr} {xs : List PEn} (h : PS H0 H d q xs) (s : M2) : (valV (Vct.dCame (cs xs)) (key s)).isSome = true ↔ s ∈ nds xs := by
  rw [Vct.came_val h.knd, h.keys, List.mem_map]
  exact ⟨fun ⟨a, ha, e⟩ => by rw [← key_inj e]; exact ha, fun z => ⟨s, z, rfl⟩⟩
/-- there are no more than N -/
theorem ps_few {T1 T2 : Tr} {N F1 L1 F2 L2 : Nat} {fol1 fol2 : List Nat} {es : List (M2 × Nm)} {xs : List PEn} {j : Nat} (A1 : Auto T1 F1 L1 fol1) (A2 : Auto T2 F2 L2 fol2) (G : Lns T1 T2 es) (c : Cnt T1 T2 N) (nd : (nds xs).Nodup) (h : Lev (Ed (fol1 ++ [F1]) (fol2 ++ [F2]) es) (st0 T1 T2) (wl xs) j) : xs.length ≤ N := by
  have := c (nds xs) nd fun s hs => by
    obtain ⟨x, hx, rfl⟩ := List.mem_map.mp hs
    have hw := (wk_run G (h.wk x.2 (List.mem_map_of_mem hx))).1
    refine ⟨x.2.2, ?_⟩
    have h1 : x.2.1 = (ru T1 (fol1 ++ [F1]) x.2.2, ru T2 (fol2 ++ [F2]) x.2.2) := hw
    rw [h1]
    exact ⟨at_run A1 _, at_run A2 _⟩
  unfold nds at this
  rwa [List.length_map] at this
/-- one more -/
theorem PS.put {H0 H H9 : Hp} {d q bj bt pr : Addr} {xs : List PEn} {j : Nat} {x : PEn} {s' : M2} {l : Nm} (h : PS H0 H d q xs) (hj : xs[j]? = some x) (hx : x.1.1.1 = bj) (hs : s' ∉ nds xs) (hbt : H bt = some (.tup ((key s').map kV))) (hpr : H pr = some (.tup [.ref bj, .str (tx l)]))
    (e9 : Ex (upd H d (.dT (putK (Vct.dCame (cs xs)) (key s') (.ref pr)))) H9) :
    PS H0 (upd H9 q (.lst ((xs.map fun x => V.ref x.1.1.1) ++ [.ref bt]))) d q (xs ++ [((((bt, key s'), some (pr, ((bj, key x.2.1), l))), (s', x.2.2 ++ [l])) : PEn)]) := by
  have hm := List.mem_of_getElem? hj
  have qd : q ≠ d := fun z => by
    have h1 := h.que
    rw [z, h.dct] at h1
    cases h1
  have old : ∀ {a : Addr} {ys : List V}, H a = some (.tup ys) → upd H9 q (.lst ((xs.map fun x => V.ref x.1.1.1) ++ [.ref bt])) a = some (.tup ys) := fun {a ys} ha => by
    rw [upd_ne (fun z => by rw [z, h.que] at ha; cases ha)]
    refine e9 _ _ ?_
    rw [upd_ne (fun z => by rw [z, h.dct] at ha; cases ha)]
    exact ha
  have hno : valV (Vct.dCame (cs xs)) (key s') = none := Vct.came_none fun z => hs ((h.has s').mp ((Vct.came_val h.knd (key s')).mpr z))
  have hnode : H bj = some (.tup ((key x.2.1).map kV)) := by
    have := (h.ce x hm).node
    rw [hx, h.ky x hm] at this
    exact this
  refine ⟨Ex.mut ((Ex.mut h.ex h.fd).trans e9) h.fq, h.fd, h.fq, ?_, ?_, ?_, ?_, ?_, ?_⟩
  · rw [upd_ne qd.symm]
    refine e9 _ _ ?_
    rw [upd_same, putK_new _ hno]
    unfold Vct.dCame cs
    rw [List.map_append, List.map_append]
    rfl
  · rw [upd_same, List.map_append]
    rfl
  · intro y hy
    rcases List.mem_append.mp hy with hy | hy
    · have h1 := h.ce y hy
      exact ⟨old h1.node, fun p hp => ⟨old (h1.pair p hp).1, old (h1.pair p hp).2⟩⟩
    · rw [List.mem_singleton.mp hy]
      refine ⟨old hbt, fun p hp => ?_⟩
      cases hp
      exact ⟨old hpr, old hnode⟩
  · intro y hy
    rcases List.mem_append.mp hy with hy | hy
    · exact h.ky y hy
    · rw [List.mem_singleton.mp hy]
  · have sub : ∀ c ∈ cs xs, c ∈ cs (xs ++ [((((bt, key s'), some (pr, ((bj, key x.2.1), l))), (s', x.2.2 ++ [l])) : PEn)]) := fun c hc => by
      unfold cs
      rw [List.map_append]
      exact List.mem_append_left _ hc
    intro y hy
    rw [List.length_append, List.length_singleton]
    rcases List.mem_append.mp hy with hy | hy
    · obtain ⟨h1, h2⟩ := h.tr y hy
      exact ⟨h1.mono sub, by omega⟩
    · rw [List.mem_singleton.mp hy]
      obtain ⟨h1, h2⟩ := h.tr x hm
      refine ⟨.snoc (b := bt) (b' := bj) (a := pr) (p := key x.2.1) ?_ (h1.mono sub), ?_⟩
      · unfold cs
        rw [List.map_append]
        exact List.mem_append_right _ List.mem_cons_self
      · show (x.2.2 ++ [l]).length < _
        rw [List.length_append, List.length_singleton]
        omega
  · unfold nds
    rw [List.map_append, List.nodup_append]
    refine ⟨h.nd, by simp, fun a ha b hb z => ?_⟩
    rw [List.map_cons, List.map_nil] at hb
    rw [z, List.mem_singleton.mp hb] at ha
    exact hs ha
section
variable {P : Program} {w : World} {K : PySem.W.Frag} {mg : Str → Option Value} {base : Heap} {CA CP : Addr}
theorem scPg : FnScope nPg ["p", "q"] (defScope sPg) := ⟨rfl, rfl, rfl, by decide +kernel, rfl, by decide +kernel, by decide +kernel⟩
theorem ok_pg {f : Addr} {fd : FuncData} (F : FnP K "parting" sPg f fd) (B : FP K CP) (A : FA K CA) (KA : KA P w K mg base CA) (TPo2 : Fu P w K mg base L2.CX0 8 "pattern_of" (spPo K CP CA)) (TDl : Fu P w K mg base L2.CX0 5 "_different_lanes" (spDl K CP CA)) (TTc : Fu P w K mg base L2.CX0 1 "traced" Vct.spTr) (mLen : mg "len" = none) (mTuple : mg "tuple" = none) : FnOk P w K mg base L2.CX0 9 f fd ["p", "q"] (spPg K CP CA) := by
  refine F.ok (CX := L2.CX0) scPg (fun vs H Q E h => ?_) (fun cdv A' outer s H vs Q E hr h => ?_)
  · obtain ⟨v1, v2, T1, T2, N, rfl, _⟩ := h
    rfl
  · refine ⟨_, (pss_cons (ps_set (i := 2) scPg.nd rfl (by first | exact Or.inl rfl | exact Or.inr rfl) (pe_fu TPo2 hr (by rfl) (pa_cons (pv 0) pa_nil)))
      (pss_cons (ps_set (i := 3) scPg.nd rfl (by first | exact Or.inl rfl | exact Or.inr rfl) (pe_fu TPo2 hr (by rfl) (pa_cons (pv 1) pa_nil)))
      (pss_cons (ps_set (i := 4) scPg.nd rfl (by first | exact Or.inl rfl | exact Or.inr rfl) (pe_fld (pv 2) rfl))
      (pss_cons (ps_set (i := 5) scPg.nd rfl (by first | exact Or.inl rfl | exact Or.inr rfl) (pe_fld (pv 3) rfl))
      (pss_cons (ps_set (i := 6) scPg.nd rfl (by first | exact Or.inl rfl | exact Or.inr rfl) (pe_fu TDl hr (by rfl) (pa_cons (pv 2) (pa_cons (pv 3) pa_nil))))
      (pss_cons (ps_set (i := 7) scPg.nd rfl (by first | exact Or.inl rfl | exact Or.inr rfl) (pe_tup (pa_cons (pe_fld (pv 4) rfl) (pa_cons (pe_fld (pv 5) rfl) pa_nil))))
      (pss_cons (ps_set (i := 8) scPg.nd rfl (by first | exact Or.inl rfl | exact Or.inr rfl) (Vct.pe_dispT (pv 7) pe_non (Nat.lt_of_le_of_lt (Nat.add_le_add_left (show 1 ≤ 64 by decide) _) hr.units)))
      (pss_cons (ps_set (i := 9) scPg.nd rfl (by first | exact Or.inl rfl | exact Or.inr rfl) (pe_lst (pa_cons (pv 7) pa_nil)))
      (pss_cons (ps_set (i := 10) scPg.nd rfl (by first | exact Or.inl rfl | exact Or.inr rfl) pe_int)
      (pss_cons (ps_while (passes_of rfl) (pt_cmpR op_lt (pv 10) (pe_callB call_len (by rfl) mLen boot_len (pa_cons (pv 9) pa_nil)) (nomark _)) (pss_cons (ps_set (i := 11) scPg.nd rfl (by first | exact Or.inl rfl | exact Or.inr rfl) (pe_ix ix_list (pv 9) (pv 10) fun _ _ => rfl))
      (pss_cons (ps_set (i := 10) scPg.nd rfl (by first | exact Or.inl rfl | exact Or.inr rfl) (pe_op op_add (pv 10) pe_int))
      (pss_cons (ps_if (pt_cmpR op_ne (pe_cmpR op_gt (pe_op op_and (pe_ix ix_tup (pv 11) pe_int fun _ _ => rfl) (pe_fld (pv 4) rfl)) pe_int (nomark _)) (pe_cmpR op_gt (pe_op op_and (pe_ix ix_tup (pv 11) pe_int fun _ _ => rfl) (pe_fld (pv 5) rfl)) pe_int (nomark _)) (nomark _)) (pss_one (ps_ret (pe_callTy call_tuple_of (by rfl) mTuple boot_tuple (pa_cons (pe_fu TTc hr (by rfl) (pa_cons (pv 8) (pa_cons (pv 11) pa_nil))) pa_nil)))) pss_nil)
      (pss_cons (ps_set (i := 12) scPg.nd rfl (by first | exact Or.inl rfl | exact Or.inr rfl) (pe_tup (pa_cons (pe_mo (pv 4) KA.cls KA.after hr (pa_cons (pe_ix ix_tup (pv 11) pe_int fun _ _ => rfl) pa_nil)) (pa_cons (pe_mo (pv 5) KA.cls KA.after hr (pa_cons (pe_ix ix_tup (pv 11) pe_int fun _ _ => rfl) pa_nil)) pa_nil))))
      (pss_one (ps_lock (ps_for (passes_of rfl) rfl (pi_keys (pv 6)) (pg_tup rfl (pgs_cons (pg_name (i := 13) scPg.nd rfl (by first | exact Or.inl rfl | exact Or.inr rfl)) (pgs_cons (pg_name (i := 14) scPg.nd rfl (by first | exact Or.inl rfl | exact Or.inr rfl)) pgs_nil))) (pss_cons (ps_set (i := 15) scPg.nd rfl (by first | exact Or.inl rfl | exact Or.inr rfl) (pe_tup (pa_cons (pe_op op_and (pe_ix ix_tup (pv 12) pe_int fun _ _ => rfl) (pv 13)) (pa_cons (pe_op op_and (pe_ix ix_tup (pv 12) pe_int fun _ _ => rfl) (pv 14)) pa_nil))))
      (pss_one (ps_if (pt_cmp (pc_dnotin (Nat.lt_of_le_of_lt (Nat.add_le_add_left (show 1 ≤ 64 by decide) _) hr.units) (pv 15) (pv 8))) (pss_cons (ps_dput (Nat.lt_of_le_of_lt (Nat.add_le_add_left (show 1 ≤ 64 by decide) _) hr.units) (pv 8) (pv 15) (pe_tup (pa_cons (pv 11) (pa_cons (pe_dget (Nat.lt_of_le_of_lt (Nat.add_le_add_left (show 1 ≤ 64 by decide) _) hr.units) (pv 6) (pe_tup (pa_cons (pv 13) (pa_cons (pv 14) pa_nil))) (fun _ _ => rfl)) pa_nil))) rfl)
      (pss_one (ps_expr (pe_bm PySem.F.plainAttrs_list PySem.F.slot_list_append PySem.F.type_list_append mt_append (pv 9) (pa_cons (pv 15) pa_nil))))) pss_nil)))))))))))
      (pss_one (ps_ret pe_non)))))))))))), ?_⟩
    obtain ⟨v1, v2, T1, T2, N, rfl, g1, g2, OK, kn, kp⟩ := h
    have z1 := OK.z1
    have z2 := OK.z2
    refine s_seq ?_
    refine ⟨_, rfl, v1, T1, rfl, g1, fun o1 H1 e1 P1 => ?_⟩
    dsimp only [gName, List.set]
    refine s_seq ?_
    refine ⟨_, rfl, v2, T2, rfl, g2.mono e1, fun o2 H2 e2 P2 => ?_⟩
    dsimp only [gName, List.set]
    have P1 := P1.mono e2
    obtain ⟨dx1, sa1, a1, rs1, hi1, _, _, dy1, F1, L1, fol1, fo1, tk1, ras1, M1⟩ := id P1
    obtain ⟨dx2, sa2, a2, rs2, hi2, _, _, dy2, F2, L2', fol2, fo2, tk2', ras2, M2'⟩ := id P2
    refine q_asg (v := .ref a1) (ev_fld (i := 2) rfl hi1 B.cls B.atoms rfl) fun H3 e3 => ?_
    refine q_asg (v := .ref a2) (ev_fld (i := 3) rfl (e3 _ _ hi2) B.cls B.atoms rfl) fun H4 e4 => ?_
    have e24 := e3.trans e4
    have P1 := P1.mono e24
    have P2 := P2.mono e24
    have M1 := M1.mono e24
    have M2' := M2'.mono e24
    -- lanes
    refine s_seq ?_
    refine ⟨_, rfl, _, rfl, o1, o2, T1, T2, rfl, P1, P2, z1, z2, OK.l1, OK.l2, OK.n1, OK.n2, fun dl es H5 ndl e5 hdl G => ?_⟩
    dsimp only [gName, List.set]
    -- start
    refine s_seq ?_
    unfold tAsg
    refine eu_tup (σ := [some v1, some v2, some (.ref o1), some (.ref o2), some (.ref a1), some (.ref a2), some (.ref dl), none, none, none, none, none, none, none, none, none]) (H := H5) (vs := [.int ((2 ^ T1.sz : Nat) : Int), .int ((2 ^ T2.sz : Nat) : Int)]) (ea_cons (ev_fld (i := 4) rfl (e5 _ _ M1.at_) A.cls A.begin rfl) (ea_cons (ev_fld (i := 5) rfl (e5 _ _ M2'.at_) A.cls A.begin rfl) ea_nil)) (by show 2 ≤ 100000; omega) H5 (Ex.refl _) _ fun b0 H6 nb0 e6 hb0 => ?_
    dsimp only [gName, List.set]
    have hb0k : H6 b0 = some (.tup ((key (st0 T1 T2)).map kV)) := hb0
    -- came
    refine s_seq ?_
    intro d nd
    refine ⟨_, rfl, upd_same, b0, key (st0 T1 T2), rfl, (upd_ne fun z => by rw [z, nd] at hb0; cases hb0).trans hb0k, ?_⟩
    dsimp only [gName, List.set]
    have e46 := e5.trans e6
    have d4 : H4 d = none := fresh_back e46 nd
    have hdd : d ≠ dl := fun z => by rw [z, e6 _ _ hdl] at nd; cases nd
    have e7 : Ex H4 (upd (upd H6 d (.dT [])) d (.dT [(key (st0 T1 T2), .non)])) := Ex.mut (Ex.mut e46 d4) d4
    have hd7 : (upd (upd H6 d (.dT [])) d (.dT [(key (st0 T1 T2), V.non)])) d = some (.dT [(key (st0 T1 T2), .non)]) := upd_same
    have hdl7 : (upd (upd H6 d (.dT [])) d (.dT [(key (st0 T1 T2), V.non)])) dl = some (.dT (dLn es)) := (upd_ne hdd.symm).trans ((upd_ne hdd.symm).trans (e6 _ _ hdl))
    have hb7 : (upd (upd H6 d (.dT [])) d (.dT [(key (st0 T1 T2), V.non)])) b0 = some (.tup ((key (st0 T1 T2)).map kV)) := by
      have hne : b0 ≠ d := fun z => by rw [z, nd] at hb0; cases hb0
      exact (upd_ne hne).trans ((upd_ne hne).trans hb0k)
    generalize upd (upd H6 d (.dT [])) d (.dT [(key (st0 T1 T2), V.non)]) = H7 at e7 hd7 hdl7 hb7 ⊢
    -- queue
    refine q_asgL (xs := [.ref b0]) (el_lst (ea_cons (ev_var (i := 7) rfl) ea_nil) (by show 1 ≤ 100000; omega)) fun q H8 nq e8 hq => ?_
    refine q_asg (v := .int ((0 : Nat) : Int)) (ev_is ev_c rfl) fun H9 e9 => ?_
    have e79 := e8.trans e9
    have q4 : H4 q = none := fresh_back e7 nq
    have hqd : q ≠ d := fun z => by rw [z, hd7] at nq; cases nq
    have hql : q ≠ dl := fun z => by rw [z, hdl7] at nq; cases nq
    have S0 : PS H4 H9 d q [((((b0, key (st0 T1 T2)), none), (st0 T1 T2, [])) : PEn)] :=
      ⟨e7.trans e79, d4, q4, e79 _ _ hd7, e9 _ _ hq, fun x hx => by
        rw [List.mem_singleton.mp hx]
        exact ⟨e79 _ _ hb7, fun p hp => nomatch hp⟩, fun x hx => by rw [List.mem_singleton.mp hx], fun x hx => by
        rw [List.mem_singleton.mp hx]
        exact ⟨.nil (b := b0) List.mem_cons_self, Nat.zero_lt_one⟩, by unfold nds; simp⟩
    have hdl9 := e79 _ _ hdl7
    have M1 := M1
    have few : ∀ {xs : List PEn} {j : Nat}, (nds xs).Nodup → Lev (Ed (fol1 ++ [F1]) (fol2 ++ [F2]) es) (st0 T1 T2) (wl xs) j → xs.length ≤ N := fun nd h => ps_few M1.auto M2'.auto G OK.cnt nd h
    have hN := OK.few
    refine s_seq ?_
    refine s_while (fun m st H' => ∃ t11 t12 t13 t14 t15, ∃ (xs : List PEn) (j : Nat), st = [some v1, some v2, some (.ref o1), some (.ref o2), some (.ref a1), some (.ref a2), some (.ref dl), some (.ref b0), some (.ref d), some (.ref q), some (.int (j : Nat)), t11, t12, t13, t14, t15] ∧ PS H4 H' d q xs ∧ H' dl = some (.dT (dLn es)) ∧ Lev (Ed (fol1 ++ [F1]) (fol2 ++ [F2]) es) (st0 T1 T2) (wl xs) j ∧ j ≤ xs.length ∧ (∀ (i : Nat) x, i < j → (wl xs)[i]? = some x → Same T1 T2 L1 L2' x.1) ∧ m + j = N) N
      ⟨none, none, none, none, none, _, 0, rfl, S0, hdl9, Lev.start _, Nat.zero_le _, fun i x h => absurd h (Nat.not_lt_zero i), rfl⟩ ?_
    rintro m st H10 ⟨t11, t12, t13, t14, t15, xs, j, rfl, S, hdl10, Lv, hj, hsm, hm⟩
    have hxl := few S.nd Lv
    have hwl : (wl xs).length = xs.length := List.length_map _
    refine ⟨_, et_test (ev_op (ev_var (i := 10) rfl) (ev_lenA (ev_var (i := 9) rfl) (sq_of S.que)) rv_I0), fun hb H11 e11 => ?_, fun hb H11 e11 => ?_⟩
    · have hlt : j < xs.length := by
        have := of_decide_eq_true hb
        rw [List.length_map] at this
        omega
      obtain ⟨x, hx⟩ : ∃ x, xs[j]? = some x := ⟨xs[j], List.getElem?_eq_getElem hlt⟩
      have S := S.grow e11
      have hdl11 := e11 _ _ hdl10
      have hxm := List.mem_of_getElem? hx
      have hwx : (wl xs)[j]? = some x.2 := by
        unfold wl
        rw [List.getElem?_map, hx]
        rfl
      have hgq : (xs.map fun x => V.ref x.1.1.1)[j]? = some (.ref x.1.1.1) := by rw [List.getElem?_map, hx]; rfl
      have hkx := S.ky x hxm
      have hnx : H11 x.1.1.1 = some (.tup [.int (x.2.1.1 : Nat), .int (x.2.1.2 : Nat)]) := by
        have := (S.ce x hxm).node
        rw [hkx] at this
        exact this
      generalize hbj : x.1.1.1 = bj at hgq hnx
      have hrun := (wk_run G (Lv.wk x.2 (List.mem_of_getElem? hwx))).1
      have hat1 : At2 T1 x.2.2 x.2.1.1 := by
        rw [show x.2.1.1 = ru T1 (fol1 ++ [F1]) x.2.2 from congrArg Prod.fst hrun]
        exact at_run M1.auto _
      have hat2 : At2 T2 x.2.2 x.2.1.2 := by
        rw [show x.2.1.2 = ru T2 (fol2 ++ [F2]) x.2.2 from congrArg Prod.snd hrun]
        exact at_run M2'.auto _
      have bit : ∀ {t : Tr} {w : List Nm} {m : Nat}, At2 t w m → ∀ q, m.testBit q = true → q < t.sz + 1 := fun {t w m} h q hq => by
        by_cases hw : w = []
        · subst hw
          rw [at_nil h, Nat.testBit_two_pow, decide_eq_true_iff] at hq
          omega
        · rcases Nat.lt_or_ge q (t.sz + 1) with z | z
          · exact z
          · rw [Nat.testBit_lt_two_pow (Nat.lt_of_lt_of_le (at_lt h hw) (Nat.pow_le_pow_right (by decide) (by omega)))] at hq
            cases hq
      have E11 : Ex H4 H11 := S.ex
      refine ⟨fun st H' => ∃ t11 t12 t13 t14 t15, ∃ (xs : List PEn), st = [some v1, some v2, some (.ref o1), some (.ref o2), some (.ref a1), some (.ref a2), some (.ref dl), some (.ref b0), some (.ref d), some (.ref q), some (.int ((j + 1 : Nat) : Int)), t11, t12, t13, t14, t15] ∧ PS H4 H' d q xs ∧ H' dl = some (.dT (dLn es)) ∧ Lev (Ed (fol1 ++ [F1]) (fol2 ++ [F2]) es) (st0 T1 T2) (wl xs) (j + 1) ∧ j + 1 ≤ xs.length ∧ ∀ (i : Nat) x, i < j + 1 → (wl xs)[i]? = some x → Same T1 T2 L1 L2' x.1, ?_, ?_⟩
      · rintro st H12 ⟨t11, t12, t13, t14, t15, xs, rfl, S2, h2, Lv2, hj2, hsm2⟩
        have := few S2.nd Lv2
        exact ⟨N - (j + 1), by omega, t11, t12, t13, t14, t15, xs, j + 1, rfl, S2, h2, Lv2, hj2, hsm2, by omega⟩
      refine q_asg (v := .ref bj) (ev_op (ev_var (i := 9) rfl) (ev_var (i := 10) rfl) (rv_ixL (sq_of S.que) (at_of rfl hgq))) fun H12 e12 => ?_
      refine q_asg (v := .int ((j + 1 : Nat) : Int)) (ev_is (ev_op (ev_var (i := 10) rfl) ev_c rv_I0) rfl) fun H13 e13 => ?_
      have e23 := e12.trans e13
      have S := S.grow e23
      have hdl13 := e23 _ _ hdl11
      have hnx := e23 _ _ hnx
      have E13 := E11.trans e23
      have i0 : ∀ {σ : L2.St} {G : Hp}, σ[11]? = some (some (.ref bj)) → Ex H13 G → Ev (tOp (rIxT K) (tVar 11) (tC (.int 0))) σ G (.int ((x.2.1.1 : Nat) : Int)) := fun h g => ev_op (ev_var h) ev_c (rv_ixT (st_of (g _ _ hnx)) rfl)
      have i1 : ∀ {σ : L2.St} {G : Hp}, σ[11]? = some (some (.ref bj)) → Ex H13 G → Ev (tOp (rIxT K) (tVar 11) (tC (.int 1))) σ G (.int ((x.2.1.2 : Nat) : Int)) := fun h g => ev_op (ev_var h) ev_c (rv_ixT (st_of (g _ _ hnx)) rfl)
      have pos : ∀ (n : Nat), V.bl (decide ((n : Int) > 0)) = V.bl (decide (0 < n)) := fun n => by
        congr 1
        exact decide_eq_decide.mpr (by omega)
      refine s_seq ?_
      refine s_when (b := decide (0 < (x.2.1.1 &&& endM T1 L1)) != decide (0 < (x.2.1.2 &&& endM T2 L2'))) (et_test (ev_is (ev_op (ev_is (ev_op (ev_op (i0 rfl (Ex.refl _)) (ev_fld (i := 4) rfl (E13 _ _ M1.at_) A.cls A.ends rfl) rv_and) ev_c rv_I0) (pos _)) (ev_is (ev_op (ev_op (i1 rfl (Ex.refl _)) (ev_fld (i := 5) rfl (E13 _ _ M2'.at_) A.cls A.ends rfl) rv_and) ev_c rv_I0) (pos _)) (rv_ne rfl)) (by rw [gNum]))) (fun hc H14 e14 => ?_) fun hc H14 e14 => ?_
      · -- they part
        have hdiff : ¬ Same T1 T2 L1 L2' x.2.1 := fun z => by
          rw [bne_iff_ne, ne_eq] at hc
          exact hc (decide_eq_decide.mpr z)
        obtain ⟨p1, p2, p3⟩ := parts M1.auto M2'.auto G Lv hwx hsm hdiff
        have S := S.grow e14
        obtain ⟨tr1, tr2⟩ := S.tr x hxm
        refine s_retU (eu_tupleL (el_fu (ea_cons (ev_var (i := 8) rfl) (ea_cons (ev_var (i := 11) rfl) ea_nil)) fun G1 g1 Q1 q1 E1 => ⟨d, bj, cs xs, key x.2.1, x.2.2, rfl, g1 _ _ S.dct, (e14.trans g1) _ _ hnx, S.knd, fun c hc2 => by
          obtain ⟨y, hy, rfl⟩ := List.mem_map.mp hc2
          exact (S.ce y hy).mono g1, tr1, by omega, fun qq G2 g2 nqq hqq => q1 qq G2 nqq g2 hqq⟩)) fun pp H15 npp e15 hpp => ?_
        exact kp pp x.2.2 H15 ((((e1.trans e2).trans e24).trans S.ex).trans e15) hpp p1 p2 p3 (by omega)
      · have hsame : Same T1 T2 L1 L2' x.2.1 := by
          have h1 : decide (0 < (x.2.1.1 &&& endM T1 L1)) = decide (0 < (x.2.1.2 &&& endM T2 L2')) := by
            cases h2 : decide (0 < (x.2.1.1 &&& endM T1 L1)) <;> cases h3 : decide (0 < (x.2.1.2 &&& endM T2 L2')) <;> rw [h2, h3] at hc <;> first | rfl | cases hc
          exact decide_eq_decide.mp h1
        have S := S.grow e14
        have hdl14 := e14 _ _ hdl13
        have E14 := E13.trans e14
        dsimp only
        refine s_seq ?_
        obtain ⟨m1, hm1⟩ : ∃ m1, m1 = aftM (fol1 ++ [F1]) x.2.1.1 := ⟨_, rfl⟩
        obtain ⟨m2, hm2⟩ : ∃ m2, m2 = aftM (fol2 ++ [F2]) x.2.1.2 := ⟨_, rfl⟩
        refine eu_tup (σ := [some v1, some v2, some (.ref o1), some (.ref o2), some (.ref a1), some (.ref a2), some (.ref dl), some (.ref b0), some (.ref d), some (.ref q), some (.int ((j + 1 : Nat) : Int)), some (.ref bj), t12, t13, t14, t15]) (H := H14) (vs := [.int (m1 : Nat), .int (m2 : Nat)])
          (ea_cons (ev_me (ev_var (i := 4) rfl) (E14 _ _ M1.at_) rfl (ea_cons (i0 rfl e14) ea_nil) fun G1 g1 Q1 q1 E1 => ⟨a1, T1, dy1, F1, L1, fol1, fo1, tk1, ras1, x.2.1.1, rfl, (M1.mono E14).mono g1, z1, bit hat1, fun G2 g2 => by rw [← hm1]; exact q1 G2 g2⟩)
          (ea_cons (ev_me (ev_var (i := 5) rfl) (E14 _ _ M2'.at_) rfl (ea_cons (i1 rfl e14) ea_nil) fun G1 g1 Q1 q1 E1 => ⟨a2, T2, dy2, F2, L2', fol2, fo2, tk2', ras2, x.2.1.2, rfl, (M2'.mono E14).mono g1, z2, bit hat2, fun G2 g2 => by rw [← hm2]; exact q1 G2 g2⟩) ea_nil)) (by show 2 ≤ 100000; omega) H14 (Ex.refl _) _ fun ah H15 nah e15 hah => ?_
        dsimp only [gName, List.set]
        have S := S.grow e15
        have hdl15 := e15 _ _ hdl14
        refine ⟨dl, .dT (dLn es), hdl15, trivial, fun od => ?_⟩
        have SL := S.frz (b := dl) (u := .frz od (.dT (dLn es))) ndl hdd hql (fun ys z => by rw [hdl15] at z; cases z)
        have hahL : upd H15 dl (.frz od (.dT (dLn es))) ah = some (.tup [.int (m1 : Nat), .int (m2 : Nat)]) := (upd_ne fun z => by rw [z, hdl15] at hah; cases hah).trans hah
        have hLd : upd H15 dl (.frz od (.dT (dLn es))) dl = some (.frz od (.dT (dLn es))) := upd_same
        generalize upd H15 dl (.frz od (.dT (dLn es))) = HL at SL hahL hLd ⊢
        have hln : (dLn es).length = es.length := List.length_map _
        refine ⟨_, rfl, dl, od, rfl, .inr ⟨dLn es, hLd, ?_⟩⟩
        refine for_it walk_keysT (fun i st H' => ∃ t13 t14 t15, ∃ (ext : List PEn), st = [some v1, some v2, some (.ref o1), some (.ref o2), some (.ref a1), some (.ref a2), some (.ref dl), some (.ref b0), some (.ref d), some (.ref q), some (.int ((j + 1 : Nat) : Int)), some (.ref bj), some (.ref ah), t13, t14, t15] ∧ PS H4 H' d q (xs ++ ext) ∧ H' dl = some (.frz od (.dT (dLn es))) ∧ H' ah = some (.tup [.int (m1 : Nat), .int (m2 : Nat)]) ∧ Lev (Ed (fol1 ++ [F1]) (fol2 ++ [F2]) es) (st0 T1 T2) (wl (xs ++ ext)) j ∧ ∀ e ∈ es.take i, (m1 &&& e.1.1, m2 &&& e.1.2) ∈ nds (xs ++ ext))
          ⟨_, _, _, [], rfl, by rw [List.append_nil]; exact SL, hLd, hahL, by rw [List.append_nil]; exact Lv, fun e he => by rw [List.take_zero] at he; cases he⟩ (fun i st H' _ ⟨_, _, _, _, _, _, h, _⟩ => h) ?_ ?_
        · rintro i v st HX H16 hi ⟨t13, t14, t15, ext, rfl, S, hfz, hah, Lv, hcl⟩ ⟨rfl, k, vv, kq, hk, rfl, hkq⟩
          obtain ⟨e, he, hke⟩ : ∃ e, es[i]? = some e ∧ (k, vv) = (key e.1, V.str (tx e.2)) := by
            unfold dLn at hk
            rw [List.getElem?_map] at hk
            obtain ⟨e, h1, h2⟩ := Option.map_eq_some_iff.mp hk
            exact ⟨e, h1, h2.symm⟩
          injection hke with hke1 hke2
          subst hke1
          have hem := List.mem_of_getElem? he
          have htk : es.take (i + 1) = es.take i ++ [e] := by rw [List.take_succ, he]; rfl
          refine ⟨kq, _, rfl, st_of hkq, rfl, ?_⟩
          refine ⟨_, _, rfl, _, _, rfl, rfl, ?_⟩
          dsimp only [List.set]
          have hxj : (xs ++ ext)[j]? = some x := by rw [List.getElem?_append_left hlt]; exact hx
          have hwj : (wl (xs ++ ext))[j]? = some x.2 := by
            unfold wl
            rw [List.getElem?_map, hxj]
            rfl
          have hxl2 := few S.nd Lv
          refine s_seq ?_
          refine eu_tup (σ := [some v1, some v2, some (.ref o1), some (.ref o2), some (.ref a1), some (.ref a2), some (.ref dl), some (.ref b0), some (.ref d), some (.ref q), some (.int ((j + 1 : Nat) : Int)), some (.ref bj), some (.ref ah), some (.int (e.1.1 : Nat)), some (.int (e.1.2 : Nat)), t15]) (H := H16) (vs := [.int ((m1 &&& e.1.1 : Nat) : Int), .int ((m2 &&& e.1.2 : Nat) : Int)])
            (ea_cons (ev_op (ev_op (ev_var (i := 12) rfl) ev_c (rv_ixT (st_of hah) rfl)) (ev_var (i := 13) rfl) rv_and) (ea_cons (ev_op (ev_op (ev_var (i := 12) rfl) ev_c (rv_ixT (st_of hah) rfl)) (ev_var (i := 14) rfl) rv_and) ea_nil)) (by show 2 ≤ 100000; omega) H16 (Ex.refl _) _ fun bt H17 nbt e17 hbt => ?_
          dsimp only [gName, List.set]
          obtain ⟨s', hs'⟩ : ∃ s' : M2, s' = (m1 &&& e.1.1, m2 &&& e.1.2) := ⟨_, rfl⟩
          have hbk : H17 bt = some (.tup ((key s').map kV)) := by rw [hs']; exact hbt
          have S := S.grow e17
          have hfz17 := e17 _ _ hfz
          have hah17 := e17 _ _ hah
          refine s_when (b := !(valV (Vct.dCame (cs (xs ++ ext))) (key s')).isSome) (et_notin (ev_var (i := 15) rfl) (ev_var (i := 8) rfl) (DGet.t S.dct hbk)) (fun hc H18 e18 => ?_) fun hc H18 e18 => ?_
          · have hno : s' ∉ nds (xs ++ ext) := fun z => by
              rw [(S.has s').mpr z] at hc
              cases hc
            have S := S.grow e18
            have hfz18 := e18 _ _ hfz17
            have hah18 := e18 _ _ hah17
            have hbk18 := e18 _ _ hbk
            refine s_seq ?_
            have hget : Ev (tDGet (tVar 6) (tTup (tCons (tVar 13) (tCons (tVar 14) tNil)))) [some v1, some v2, some (.ref o1), some (.ref o2), some (.ref a1), some (.ref a2), some (.ref dl), some (.ref b0), some (.ref d), some (.ref q), some (.int ((j + 1 : Nat) : Int)), some (.ref bj), some (.ref ah), some (.int (e.1.1 : Nat)), some (.int (e.1.2 : Nat)), some (.ref bt)] H18 (.str (tx e.2)) := fun GG g Q1 q1 =>
              ⟨_, rfl, _, rfl, _, rfl, sz_of (by show 2 ≤ 100000; omega), fun bk nbk => ⟨dl, .str (tx e.2), rfl, .inr ⟨dLn es, key e.1, bk, .inr ⟨od, (upd_ne fun z => by rw [← z, g _ _ hfz18] at nbk; cases nbk).trans (g _ _ hfz18)⟩, rfl, upd_same, (dln_get G.nd hem).symm⟩, q1 _ (Ex.new nbk)⟩⟩
            refine eu_tup (σ := [some v1, some v2, some (.ref o1), some (.ref o2), some (.ref a1), some (.ref a2), some (.ref dl), some (.ref b0), some (.ref d), some (.ref q), some (.int ((j + 1 : Nat) : Int)), some (.ref bj), some (.ref ah), some (.int (e.1.1 : Nat)), some (.int (e.1.2 : Nat)), some (.ref bt)]) (H := H18) (vs := [.ref bj, .str (tx e.2)]) (ea_cons (ev_var (i := 11) rfl) (ea_cons hget ea_nil)) (by show 2 ≤ 100000; omega) H18 (Ex.refl _) _ fun pr H19 npr e19 hpr => ?_
            have S := S.grow e19
            have hbk19 := e19 _ _ hbk18
            refine ⟨_, rfl, _, rfl, d, _, rfl, DPut.t S.dct hbk19 (by unfold Vct.dCame cs; rw [List.length_map, List.length_map, sizeLine_eq]; omega), ?_⟩
            have qd : q ≠ d := hqd
            refine s_app (l := q) (xs := (xs ++ ext).map fun x => V.ref x.1.1.1) ((upd_ne qd).trans S.que) (ev_var (i := 9) rfl) (ev_var (i := 15) rfl) (by rw [List.length_map]; omega) fun H20 e20 => ?_
            have SN := S.put hxj hbj hno hbk19 hpr e20
            refine ⟨_, _, _, ext ++ [((((bt, key s'), some (pr, ((bj, key x.2.1), e.2))), (s', x.2.2 ++ [e.2])) : PEn)], rfl, by rw [← List.append_assoc]; exact SN, ?_, ?_, ?_, ?_⟩
            · exact (upd_ne hql.symm).trans (e20 _ _ ((upd_ne hdd.symm).trans (e19 _ _ hfz18)))
            · have h1 := e19 _ _ hah18
              refine (upd_ne fun z => ?_).trans (e20 _ _ ((upd_ne fun z => ?_).trans h1))
              · rw [z, S.que] at h1; cases h1
              · rw [z, S.dct] at h1; cases h1
            · have := Lv.add (l := e.2) (c := s') hwj ⟨e, hem, rfl, by rw [hs', hm1, hm2]⟩
              rw [← List.append_assoc]
              unfold wl at this ⊢
              rw [List.map_append]
              exact this
            · intro e2 he2
              rw [← List.append_assoc]
              unfold nds
              rw [List.map_append]
              rw [htk] at he2
              rcases List.mem_append.mp he2 with h | h
              · exact List.mem_append_left _ (hcl e2 h)
              · rw [List.mem_singleton.mp h]
                exact List.mem_append_right _ (by rw [← hs']; exact List.mem_cons_self)
          · have hin : s' ∈ nds (xs ++ ext) := (S.has s').mp (by
              cases hq : (valV (Vct.dCame (cs (xs ++ ext))) (key s')).isSome with
              | true => rfl
              | false => rw [hq] at hc; cases hc)
            refine ⟨_, _, _, ext, rfl, S.grow e18, e18 _ _ hfz17, e18 _ _ hah17, Lv, fun e2 he2 => ?_⟩
            rw [htk] at he2
            rcases List.mem_append.mp he2 with h | h
            · exact hcl e2 h
            · rw [List.mem_singleton.mp h, ← hs']
              exact hin
        · rintro st H16 ⟨t13, t14, t15, ext, rfl, S, hfz, hah, Lv, hcl⟩
          rw [hln, List.take_length] at hcl
          have hxj : (xs ++ ext)[j]? = some x := by rw [List.getElem?_append_left hlt]; exact hx
          have hwj : (wl (xs ++ ext))[j]? = some x.2 := by
            unfold wl
            rw [List.getElem?_map, hxj]
            rfl
          refine ⟨hfz, _, _, _, _, _, xs ++ ext, rfl, S.frz ndl hdd hql (fun ys z => by rw [hfz] at z; cases z), upd_same, Lv.next hwj (fun l c hec => ?_), by rw [List.length_append]; omega, fun i2 y hi2 hy => ?_⟩
          · obtain ⟨e, hem, rfl, rfl⟩ := hec
            have := hcl e hem
            rw [hm1, hm2] at this
            unfold wl
            rw [List.map_map]
            exact this
          · rcases Nat.lt_or_ge i2 j with z | z
            · refine hsm i2 y z ?_
              unfold wl at hy ⊢
              rw [List.map_append, List.getElem?_append_left (by rw [List.length_map]; omega)] at hy
              exact hy
            · obtain rfl : i2 = j := by omega
              rw [hwj] at hy
              rw [← Option.some.inj hy]
              exact hsame
    · have hge : xs.length ≤ j := by
        have := of_decide_eq_false hb
        rw [List.length_map] at this
        omega
      dsimp only
      refine s_ret ev_c fun H12 e12 => kn H12 ((((e1.trans e2).trans e24).trans S.ex).trans (e11.trans e12)) fun w => none_parts M1.auto M2'.auto G Lv (by rw [hwl]; exact hge) hsm w
end
end K14

set_option Elab.async false
set_option linter.all false
set_option maxRecDepth 100000
set_option maxHeartbeats 4000000
/-! Whether a longer sequence is a word, by the law. -/
namespace K14
open PySem PySem.Spec PyProof.Rows L2 Vl Evl Vp Vc Ve Ven Vg Vb Vt Vlt Vsa Vle
def dp : Tr → Nat
  | .atom _ _ => 0
  | .thn a b => max (dp a) (dp b) + 1
  | .eith a b => max (dp a) (dp b) + 1
  | .rep a => dp a + 1
  | .opt a => dp a + 1
/-- how long the list of ends can be, n places -/
def mS (n : Nat) : Tr → Nat
  | .atom _ _ => 1
  | .thn _ b => n * mS n b
  | .eith a b => mS n a + mS n b
  | .rep _ => n
  | .opt a => 1 + mS n a
def MO (n : Nat) : Tr → Prop
  | .atom _ _ => True
  | .thn a b => MO n a ∧ MO n b ∧ mS n a ≤ 40000 ∧ n * mS n b ≤ 90000
  | .eith a b => MO n a ∧ MO n b ∧ mS n a + mS n b ≤ 90000
  | .rep a => MO n a
  | .opt a => MO n a ∧ 1 + mS n a ≤ 90000
def spEoM : Nat → Sp
  | 0 => fun _ _ _ _ => False
  | m + 1 => fun vs H Q _ => ∃ (r lw : Addr) (s : Nat) (t : Tr) (w : List Nm), vs = [.ref r, .ref lw, .int (s : Nat)] ∧ dp t ≤ m ∧ TrAt H t r ∧ MO (w.length + 1) t ∧ H lw = some (.lst (vtx w)) ∧ w.length ≤ 300 ∧ s ≤ w.length ∧
    ∀ p es H', H p = none → Ex H H' → H' p = some (.lst (intV es)) → Ends t w s es → es.length ≤ mS (w.length + 1) t → Q (.ref p) H'
section
variable {P : Program} {w : World} {K : PySem.W.Frag} {mg : Str → Option Value} {base : Heap} {CA CP : Addr}
theorem ok_eoM {f : Addr} {fd : FuncData} (F : FnP K "_law_ends_of" sEo f fd) (hm : mg "_law_ends_of" = some (.ref f)) (b : L2.Binds K fd ["_law_tree_here", "_law_lanes", "_law_start"] []) (TTk : Fu P w K mg base L2.CX0 1 "_law_takes" spTk2) (TDi : Fu P w K mg base L2.CX0 1 "_law_distinct" spDi) (mLen : mg "len" = none) :
    ∀ m, FnOk P w K mg base L2.CX0 (m + 1) f fd ["_law_tree_here", "_law_lanes", "_law_start"] (spEoM m)
  | 0 => fn_no fun _ _ _ _ h => h
  | m + 1 => by
    have TEo : Fu P w K mg base L2.CX0 (m + 1) "_law_ends_of" (spEoM m) := .of (ok_eoM F hm b TTk TDi mLen m) hm F.kp b
    refine F.ok (CX := L2.CX0) scEo (fun vs H Q E h => ?_) (fun cdv A' outer s H vs Q E hr h => ?_)
    · obtain ⟨r, lw, s, t, w, rfl, _⟩ := h
      rfl
    · refine ⟨_, (pss_cons (ps_if (pt_cmpR op_in_seq (pe_ix ix_tup (pv 0) pe_int fun _ _ => rfl) (pe_tup (pa_cons pe_str (pa_cons pe_str pa_nil))) rfl) (pss_cons (ps_if (PW.pt (pw_and (pt_cmpR op_lt (pv 2) (pe_callB call_len (by rfl) mLen boot_len (pa_cons (pv 1) pa_nil)) (nomark _)) (pw_and1 (pt_val (pe_fu (hk := by omega) TTk hr (by rfl) (pa_cons (pv 0) (pa_cons (pe_ix ix_list (pv 1) (pv 2) fun _ _ => rfl) pa_nil))))))) (pss_one (ps_ret (pe_lst (pa_cons (pe_op op_add (pv 2) pe_int) pa_nil)))) pss_nil)
      (pss_one (ps_ret (pe_lst pa_nil)))) pss_nil)
      (pss_cons (ps_if (pt_cmpR op_eq (pe_ix ix_tup (pv 0) pe_int fun _ _ => rfl) pe_str (nomark _)) (pss_one (ps_ret (pe_op op_cat (pe_fu (hk := Nat.le_refl _) TEo hr (by rfl) (pa_cons (pe_ix ix_tup (pv 0) pe_int fun _ _ => rfl) (pa_cons (pv 1) (pa_cons (pv 2) pa_nil)))) (pe_fu (hk := Nat.le_refl _) TEo hr (by rfl) (pa_cons (pe_ix ix_tup (pv 0) pe_int fun _ _ => rfl) (pa_cons (pv 1) (pa_cons (pv 2) pa_nil))))))) pss_nil)
      (pss_cons (ps_if (pt_cmpR op_eq (pe_ix ix_tup (pv 0) pe_int fun _ _ => rfl) pe_str (nomark _)) (pss_one (ps_ret (pe_op op_cat (pe_lst (pa_cons (pv 2) pa_nil)) (pe_fu (hk := Nat.le_refl _) TEo hr (by rfl) (pa_cons (pe_ix ix_tup (pv 0) pe_int fun _ _ => rfl) (pa_cons (pv 1) (pa_cons (pv 2) pa_nil))))))) pss_nil)
      (pss_cons (ps_if (pt_cmpR op_eq (pe_ix ix_tup (pv 0) pe_int fun _ _ => rfl) pe_str (nomark _)) (pss_cons (ps_set (i := 3) scEo.nd rfl (by first | exact Or.inl rfl | exact Or.inr rfl) (pe_lst pa_nil))
      (pss_cons (ps_for (passes_of rfl) rfl (pi_list (pe_fu (hk := by omega) TDi hr (by rfl) (pa_cons (pe_fu (hk := Nat.le_refl _) TEo hr (by rfl) (pa_cons (pe_ix ix_tup (pv 0) pe_int fun _ _ => rfl) (pa_cons (pv 1) (pa_cons (pv 2) pa_nil)))) pa_nil))) (pg_name (i := 4) scEo.nd rfl (by first | exact Or.inl rfl | exact Or.inr rfl)) (pss_one (ps_set (i := 3) scEo.nd rfl (by first | exact Or.inl rfl | exact Or.inr rfl) (pe_op op_cat (pv 3) (pe_fu (hk := Nat.le_refl _) TEo hr (by rfl) (pa_cons (pe_ix ix_tup (pv 0) pe_int fun _ _ => rfl) (pa_cons (pv 1) (pa_cons (pv 4) pa_nil))))))))
      (pss_one (ps_ret (pv 3))))) pss_nil)
      (pss_cons (ps_set (i := 3) scEo.nd rfl (by first | exact Or.inl rfl | exact Or.inr rfl) (pe_lst (pa_cons (pv 2) pa_nil)))
      (pss_cons (ps_set (i := 5) scEo.nd rfl (by first | exact Or.inl rfl | exact Or.inr rfl) pe_int)
      (pss_cons (ps_while (passes_of rfl) (pt_cmpR op_lt (pv 5) (pe_callB call_len (by rfl) mLen boot_len (pa_cons (pv 3) pa_nil)) (nomark _)) (pss_cons (ps_for (passes_of rfl) rfl (pi_list (pe_fu (hk := Nat.le_refl _) TEo hr (by rfl) (pa_cons (pe_ix ix_tup (pv 0) pe_int fun _ _ => rfl) (pa_cons (pv 1) (pa_cons (pe_ix ix_list (pv 3) (pv 5) fun _ _ => rfl) pa_nil))))) (pg_name (i := 4) scEo.nd rfl (by first | exact Or.inl rfl | exact Or.inr rfl)) (pss_one (ps_if (pt_cmpR op_notIn_seq (pv 4) (pv 3) rfl) (pss_one (ps_expr (pe_bm PySem.F.plainAttrs_list PySem.F.slot_list_append PySem.F.type_list_append mt_append (pv 3) (pa_cons (pv 4) pa_nil)))) pss_nil)))
      (pss_one (ps_set (i := 5) scEo.nd rfl (by first | exact Or.inl rfl | exact Or.inr rfl) (pe_op op_add (pv 5) pe_int)))))
      (pss_one (ps_ret (pv 3)))))))))), ?_⟩
      obtain ⟨r, lw, s, t, wd, rfl, hd, T, O, hw, hw10, hs, k⟩ := h
      have rec1 : ∀ {σ : L2.St} {H1 : Hp} {us : List V} {j s' : Nat} {q : Addr} {a : Tr} {ts : TE} {Q1 : VK}, dp a < m + 1 → 1 ≤ m → dp a ≤ m - 1 → σ[0]? = some (some (.ref r)) → σ[1]? = some (some (.ref lw)) → H1 r = some (.tup us) → us[j]? = some (.ref q) → TrAt H1 a q → MO (wd.length + 1) a → H1 lw = some (.lst (vtx wd)) → s' ≤ wd.length → Ev ts σ H1 (.int (s' : Nat)) →
          (∀ p es H', H1 p = none → Ex H1 H' → H' p = some (.lst (intV es)) → Ends a wd s' es → es.length ≤ mS (wd.length + 1) a → Q1 (.ref p) H') →
          tFu (spEoM m) (fun _ => nil0) (tCons (tOp (rIxT K) (tVar 0) (tC (.int (j : Nat)))) (tCons (tVar 1) (tCons ts tNil))) σ H1 Q1 := by
        intro σ H1 us j s' q a ts Q1 _ hm1 hdd hv0 hv1 hus hj Ta Oa hlw hs' hts q1
        obtain ⟨m', rfl⟩ : ∃ m', m = m' + 1 := ⟨m - 1, by omega⟩
        exact (ea_cons (ev_tix (K := K) hv0 hus hj) (ea_cons (ev_var hv1) (ea_cons hts ea_nil)) : EvA _ _ _ _) H1 (Ex.refl _) _ fun H2 e2 => ⟨q, lw, s', a, wd, rfl, by omega, Ta.mono e2, Oa, e2 _ _ hlw, hw10, hs', fun p es H3 np e3 hp hE hl => q1 p es H3 (fresh_back e2 np) (e2.trans e3) hp hE hl⟩
      refine s_seq ?_
      cases t with
      | atom neg ns =>
        obtain ⟨l, h1, h2⟩ := id T
        refine s_when (b := true) (et_atm rfl h1 rfl (by cases neg <;> rfl)) (fun _ H1 e1 => ?_) fun z => Bool.noConfusion z
        refine s_seq ?_
        have hlen : Ev (tCB (fun xs H Q => ∃ x n, xs = [x] ∧ LenV K x H n ∧ Q (.int n) H) (tCons (tVar 1) tNil)) [some (.ref r), some (.ref lw), some (.int (s : Nat)), none, none, none] H1 (.int (wd.length : Nat)) := ev_is (ev_lenA (ev_var rfl) (sq_of (e1 _ _ hw))) (by rw [vtx_len])
        by_cases hlt : s < wd.length
        · have htk : Ev (tFu spTk2 (fun _ => nil0) (tCons (tVar 0) (tCons (tOp (rIxL K) (tVar 1) (tVar 2)) tNil))) [some (.ref r), some (.ref lw), some (.int (s : Nat)), none, none, none] H1 (.bl (takes (neg, ns) wd[s])) :=
            ev_fu (ea_cons (ev_var rfl) (ea_cons (ev_op (ev_var rfl) (ev_var rfl) (rv_ixL (sq_of (e1 _ _ hw)) (at_of rfl (vtx_at (List.getElem?_eq_getElem hlt))))) ea_nil)) fun G1 g1 Q1 q1 E1 => ⟨r, neg, ns, wd[s], rfl, T.mono (e1.trans g1), fun G2 g2 => q1 G2 g2⟩
          refine s_when (b := takes (neg, ns) wd[s]) (et_is (et_and (a := true) (et_test (ev_is (ev_op (ev_var rfl) hlen rv_I0) (by rw [decide_eq_true (show ((s : Nat) : Int) < ((wd.length : Nat) : Int) by omega)]))) fun _ => et_B htk) (Bool.true_and _)) (fun hb H2 e2 => ?_) fun hb H2 e2 => ?_
          · refine s_retL (xs := intV [s + 1]) (el_lst (ea_cons (ev_is (ev_op (ev_var rfl) ev_c rv_I0) rfl) ea_nil) (by show 1 ≤ 100000; omega)) fun p H3 np e3 hp => ?_
            refine k p [s + 1] H3 (fresh_back (e1.trans e2) np) ((e1.trans e2).trans e3) hp (fun j => ?_) (Nat.le_refl 1)
            rw [go_atom, List.mem_singleton]
            exact ⟨fun z => ⟨z, wd[s], List.getElem?_eq_getElem hlt, hb⟩, fun z => z.1⟩
          · refine s_retL (σ := [some (.ref r), some (.ref lw), some (.int (s : Nat)), none, none, none]) (xs := intV []) (el_lst ea_nil (by show 0 ≤ 100000; omega)) fun p H3 np e3 hp => ?_
            refine k p [] H3 (fresh_back (e1.trans e2) np) ((e1.trans e2).trans e3) hp (fun j => ?_) (Nat.zero_le _)
            rw [go_atom]
            refine ⟨fun z => (nomatch z), fun ⟨_, x, hx, hy⟩ => ?_⟩
            rw [List.getElem?_eq_getElem hlt] at hx
            rw [← Option.some.inj hx, hb] at hy
            exact Bool.noConfusion hy
        · refine s_when (b := false) (et_and (a := false) (b := true) (et_test (ev_is (ev_op (ev_var rfl) hlen rv_I0) (by rw [decide_eq_false (show ¬ ((s : Nat) : Int) < ((wd.length : Nat) : Int) by omega)]))) fun z => Bool.noConfusion z) (fun z => Bool.noConfusion z) fun hb H2 e2 => ?_
          refine s_retL (σ := [some (.ref r), some (.ref lw), some (.int (s : Nat)), none, none, none]) (xs := intV []) (el_lst ea_nil (by show 0 ≤ 100000; omega)) fun p H3 np e3 hp => ?_
          refine k p [] H3 (fresh_back (e1.trans e2) np) ((e1.trans e2).trans e3) hp (fun j => ?_) (Nat.zero_le _)
          rw [go_atom]
          refine ⟨fun z => (nomatch z), fun ⟨_, x, hx, hy⟩ => ?_⟩
          have := (List.getElem?_eq_some_iff.mp hx).1
          omega
      | eith a b =>
        obtain ⟨q, q2, h1, T1, T2⟩ := T
        have hdab : max (dp a) (dp b) + 1 ≤ m := hd
        have O : MO (wd.length + 1) a ∧ MO (wd.length + 1) b ∧ mS (wd.length + 1) a + mS (wd.length + 1) b ≤ 90000 := O
        have O3 := O.2.2
        refine s_when (b := false) (et_atm rfl h1 rfl rfl) (fun z => Bool.noConfusion z) fun _ H1 e1 => ?_
        refine s_seq ?_
        refine s_when (b := true) (et_knd rfl (e1 _ _ h1) rfl rfl) (fun _ H2 e2 => ?_) fun z => Bool.noConfusion z
        have e12 := e1.trans e2
        unfold tRet tOp
        refine rec1 (j := 1) (by omega) (by omega) (by omega) rfl rfl (e12 _ _ h1) rfl (T1.mono e12) O.1 (e12 _ _ hw) hs (ev_var rfl) fun p1 es1 H3 np1 e3 hp1 hE1 hl1 => ?_
        have e13 := e12.trans e3
        refine rec1 (j := 2) (by omega) (by omega) (by omega) rfl rfl (e13 _ _ h1) rfl (T2.mono e13) O.2.1 (e13 _ _ hw) hs (ev_var rfl) fun p2 es2 H4 np2 e4 hp2 hE2 hl2 => ?_
        refine ⟨p1, p2, intV es1, intV es2, rfl, rfl, e4 _ _ hp1, hp2, sz_of (by rw [intV_len, intV_len]; omega), fun p np => ?_⟩
        have ea : intV es1 ++ intV es2 = intV (es1 ++ es2) := by unfold intV; rw [List.map_append]
        rw [ea]
        refine k p (es1 ++ es2) _ (fresh_back (e13.trans e4) np) ((e13.trans e4).trans (Ex.new np)) upd_same (fun j => ?_) (by rw [List.length_append]; show _ ≤ mS (wd.length + 1) a + mS (wd.length + 1) b; omega)
        rw [List.mem_append, hE1 j, hE2 j, go_eith]
      | opt a =>
        obtain ⟨q, h1, T1⟩ := T
        have hda : dp a + 1 ≤ m := hd
        have O : MO (wd.length + 1) a ∧ 1 + mS (wd.length + 1) a ≤ 90000 := O
        have O3 := O.2
        refine s_when (b := false) (et_atm rfl h1 rfl rfl) (fun z => Bool.noConfusion z) fun _ H1 e1 => ?_
        refine s_seq ?_
        refine s_when (b := false) (et_knd rfl (e1 _ _ h1) rfl rfl) (fun z => Bool.noConfusion z) fun _ H2 e2 => ?_
        have e12 := e1.trans e2
        refine s_seq ?_
        refine s_when (b := true) (et_knd rfl (e12 _ _ h1) rfl rfl) (fun _ H3 e3 => ?_) fun z => Bool.noConfusion z
        have e13 := e12.trans e3
        unfold tRet tOp
        refine (el_lst (ea_cons (ev_var (i := 2) rfl) ea_nil) (by show 1 ≤ 100000; omega) : EvL (tLst (tCons (tVar 2) tNil)) [some (.ref r), some (.ref lw), some (.int (s : Nat)), none, none, none] H3 [.int (s : Nat)]) H3 (Ex.refl _) _ fun p1 H4 np1 e4 hp1 => ?_
        have e14 := e13.trans e4
        refine rec1 (j := 1) (by omega) (by omega) (by omega) rfl rfl (e14 _ _ h1) rfl (T1.mono e14) O.1 (e14 _ _ hw) hs (ev_var rfl) fun p2 es2 H5 np2 e5 hp2 hE2 hl2 => ?_
        refine ⟨p1, p2, [.int (s : Nat)], intV es2, rfl, rfl, e5 _ _ hp1, hp2, sz_of (by rw [intV_len]; show 1 + _ ≤ _; omega), fun p np => ?_⟩
        refine k p (s :: es2) _ (fresh_back (e14.trans e5) np) ((e14.trans e5).trans (Ex.new np)) upd_same (fun j => ?_) (by rw [List.length_cons]; show _ ≤ 1 + mS (wd.length + 1) a; omega)
        rw [List.mem_cons, hE2 j, go_opt hs]
      | thn a b =>
        obtain ⟨q, q2, h1, T1, T2⟩ := T
        have hdab : max (dp a) (dp b) + 1 ≤ m := hd
        have O : MO (wd.length + 1) a ∧ MO (wd.length + 1) b ∧ mS (wd.length + 1) a ≤ 40000 ∧ (wd.length + 1) * mS (wd.length + 1) b ≤ 90000 := O
        have O3 := O.2.2.1
        have O4 := O.2.2.2
        refine s_when (b := false) (et_atm rfl h1 rfl rfl) (fun z => Bool.noConfusion z) fun _ H1 e1 => ?_
        refine s_seq ?_
        refine s_when (b := false) (et_knd rfl (e1 _ _ h1) rfl rfl) (fun z => Bool.noConfusion z) fun _ H2 e2 => ?_
        have e12 := e1.trans e2
        refine s_seq ?_
        refine s_when (b := false) (et_knd rfl (e12 _ _ h1) rfl rfl) (fun z => Bool.noConfusion z) fun _ H3 e3 => ?_
        have e13 := e12.trans e3
        refine s_seq ?_
        refine s_when (b := true) (et_knd rfl (e13 _ _ h1) rfl rfl) (fun _ H4 e4 => ?_) fun z => Bool.noConfusion z
        have e14 := e13.trans e4
        refine q_asgL (xs := []) (el_lst ea_nil (by show 0 ≤ 100000; omega)) fun F5 H5 nF5 e5 hF5 => ?_
        have e15 := e14.trans e5
        refine s_seq ?_
        unfold tFor iList
        refine rec1 (j := 1) (by omega) (by omega) (by omega) rfl rfl (e15 _ _ h1) rfl (T1.mono e15) O.1 (e15 _ _ hw) hs (ev_var rfl) fun p1 es1 H6 np1 e6 hp1 hE1 hl1 => ?_
        have e16 := e15.trans e6
        refine ⟨p1, es1, rfl, hp1, by omega, fun pd ds H7 npd e7 hpd hnd hds => ?_⟩
        have e17 := e16.trans e7
        have hdl : ds.length ≤ wd.length + 1 := by
          have := nodup_bits (n := wd.length + 1) hnd fun x hx => by
            have := ((hE1 x).mp ((hds x).mp hx)).2.1
            omega
          omega
        refine ⟨pd, rfl, ⟨_, .inl (.inl hpd)⟩, for_list (xs := intV ds) (fun i σ' H' => ∃ (F : Addr) (cur : List Nat) (t4 : Option V), σ' = [some (.ref r), some (.ref lw), some (.int (s : Nat)), some (.ref F), t4, none] ∧ Ex H7 H' ∧ H' F = some (.lst (intV cur)) ∧ H F = none ∧ (∀ j, j ∈ cur ↔ ∃ c ∈ ds.take i, Go b wd c j) ∧ cur.length ≤ i * mS (wd.length + 1) b)
          ⟨F5, [], none, rfl, Ex.refl _, (e6.trans e7) _ _ hF5, fresh_back e14 nF5, fun j => ⟨fun z => (nomatch z), fun ⟨c, hc, _⟩ => by rw [List.take_zero] at hc; exact (nomatch hc)⟩, Nat.zero_le _⟩ (fun i σ' H' _ ⟨_, _, _, _, e, _⟩ => sq_of (e _ _ hpd)) ?_ ?_⟩
        · rintro i v σ' H8 hx ⟨F, cur, t4, rfl, e8, hF, hF0, hcur, hcl⟩
          obtain ⟨c, hc, rfl⟩ := intV_of hx
          have hi : i < ds.length := (List.getElem?_eq_some_iff.mp hc).1
          have hcm := List.mem_of_getElem? hc
          have hcw : c ≤ wd.length := ((hE1 c).mp ((hds c).mp hcm)).2.1
          have htk : ds.take (i + 1) = ds.take i ++ [c] := by rw [List.take_succ, hc]; rfl
          have e18 := e17.trans e8
          unfold tAsg tOp
          refine ⟨_, rfl, ?_⟩
          refine rec1 (j := 2) (by omega) (by omega) (by omega) rfl rfl (e18 _ _ h1) rfl (T2.mono e18) O.2.1 (e18 _ _ hw) hcw (ev_var rfl) fun p2 es2 H9 np2 e9 hp2 hE2 hl2 => ?_
          have hmul : (i + 1) * mS (wd.length + 1) b ≤ (wd.length + 1) * mS (wd.length + 1) b := Nat.mul_le_mul_right _ (by omega)
          rw [Nat.succ_mul] at hmul
          refine ⟨F, p2, intV cur, intV es2, rfl, rfl, e9 _ _ hF, hp2, sz_of (by rw [intV_len, intV_len]; omega), fun p np => ?_⟩
          have ea : intV cur ++ intV es2 = intV (cur ++ es2) := by unfold intV; rw [List.map_append]
          rw [ea]
          refine ⟨p, cur ++ es2, _, rfl, (e8.trans e9).trans (Ex.new np), upd_same, fresh_back (e18.trans e9) np, fun j => ?_, ?_⟩
          · rw [List.mem_append, hcur j, hE2 j, htk]
            constructor
            · rintro (⟨c', h, h'⟩ | h)
              · exact ⟨c', List.mem_append_left _ h, h'⟩
              · exact ⟨c, List.mem_append_right _ List.mem_cons_self, h⟩
            · rintro ⟨c', h, h'⟩
              rcases List.mem_append.mp h with h | h
              · exact .inl ⟨c', h, h'⟩
              · rw [List.mem_singleton.mp h] at h'
                exact .inr h'
          · rw [List.length_append, Nat.succ_mul]
            omega
        · rintro σ' H8 ⟨F, cur, t4, rfl, e8, hF, hF0, hcur, hcl⟩
          rw [intV_len, List.take_length] at hcur
          rw [intV_len] at hcl
          have hmul : ds.length * mS (wd.length + 1) b ≤ (wd.length + 1) * mS (wd.length + 1) b := Nat.mul_le_mul_right _ hdl
          refine s_ret (ev_var (i := 3) rfl) fun H9 e9 => ?_
          refine k F cur H9 hF0 ((e17.trans e8).trans e9) (e9 _ _ hF) (fun j => ?_) (show _ ≤ (wd.length + 1) * mS (wd.length + 1) b by omega)
          rw [hcur j, go_thn]
          exact ⟨fun ⟨c, hc, h⟩ => ⟨c, (hE1 c).mp ((hds c).mp hc), h⟩, fun ⟨c, hc, h⟩ => ⟨c, (hds c).mpr ((hE1 c).mpr hc), h⟩⟩
      | rep a =>
        obtain ⟨q, h1, T1⟩ := T
        have hda : dp a + 1 ≤ m := hd
        have O : MO (wd.length + 1) a := O
        refine s_when (b := false) (et_atm rfl h1 rfl rfl) (fun z => Bool.noConfusion z) fun _ H1 e1 => ?_
        refine s_seq ?_
        refine s_when (b := false) (et_knd rfl (e1 _ _ h1) rfl rfl) (fun z => Bool.noConfusion z) fun _ H2 e2 => ?_
        have e12 := e1.trans e2
        refine s_seq ?_
        refine s_when (b := false) (et_knd rfl (e12 _ _ h1) rfl rfl) (fun z => Bool.noConfusion z) fun _ H3 e3 => ?_
        have e13 := e12.trans e3
        refine s_seq ?_
        refine s_when (b := false) (et_knd rfl (e13 _ _ h1) rfl rfl) (fun z => Bool.noConfusion z) fun _ H4 e4 => ?_
        have e14 := e13.trans e4
        refine q_asgL (xs := intV [s]) (el_lst (ea_cons (ev_var (i := 2) rfl) ea_nil) (by show 1 ≤ 100000; omega)) fun F H5 nF e5 hF => ?_
        refine q_asg (v := .int 0) ev_c fun H6 e6 => ?_
        have hF0 : H F = none := fresh_back e14 nF
        refine q_while (fun n st H' => ∃ (fs : List Nat) (at_ : Nat) (t4 : Option V), st = [some (.ref r), some (.ref lw), some (.int (s : Nat)), some (.ref F), t4, some (.int (at_ : Nat))] ∧ n = wd.length + 2 - at_ ∧ Ex H H' ∧ H' F = some (.lst (intV fs)) ∧ fs.Nodup ∧ (∀ x ∈ fs, Go (.rep a) wd s x) ∧ s ∈ fs ∧ at_ ≤ fs.length ∧ ∀ (i x : Nat), i < at_ → fs[i]? = some x → ∀ j, Go a wd x j → j ∈ fs)
          (wd.length + 2) ⟨[s], 0, none, rfl, rfl, (e14.trans e5).trans e6, e6 _ _ hF, by simp, fun x hx => by rw [List.mem_singleton.mp hx]; exact go_rep_self hs, List.mem_cons_self, Nat.zero_le _, fun i x hi => absurd hi (Nat.not_lt_zero i)⟩ ?_
        rintro n st H7 ⟨fs, at_, t4, rfl, rfl, e7, hF7, hnd, hgo, hsf, hat, hcl⟩
        have hfl : fs.length ≤ wd.length + 1 := nodup_bits hnd fun x hx => by
          have := (hgo x hx).2.1
          omega
        refine ⟨decide ((at_ : Int) < (fs.length : Int)), et_test (ev_op (ev_var rfl) (ev_is (ev_lenA (ev_var (i := 3) rfl) (sq_of hF7)) (by rw [intV_len])) rv_I0), fun hb H8 e8 => ?_, fun hb H8 e8 => ?_⟩
        · have hlt : at_ < fs.length := by
            have := of_decide_eq_true hb
            omega
          refine ⟨_, fun σ2 H9 h => h, ?_⟩
          refine s_seq ?_
          have e08 := e7.trans e8
          have hF8 := e8 _ _ hF7
          have hxw : fs[at_] ≤ wd.length := (hgo _ (List.getElem_mem hlt)).2.1
          unfold tFor iList
          refine rec1 (j := 1) (by omega) (by omega) (by omega) rfl rfl (e08 _ _ h1) rfl (T1.mono e08) O (e08 _ _ hw) hxw (ev_op (ev_var (i := 3) rfl) (ev_var (i := 5) rfl) (rv_ixL (sq_of hF8) (at_of rfl (intV_at (List.getElem?_eq_getElem hlt))))) fun p es H9 np e9 hp hE hl => ?_
          have hpF : p ≠ F := fun z => by rw [z, hF8] at np; cases np
          refine ⟨p, rfl, ⟨_, .inl (.inl hp)⟩, for_list (xs := intV es) (fun i σ' H' => ∃ (gs : List Nat) (t4 : Option V), σ' = [some (.ref r), some (.ref lw), some (.int (s : Nat)), some (.ref F), t4, some (.int (at_ : Nat))] ∧ Ex H H' ∧ H' F = some (.lst (intV (fs ++ gs))) ∧ H' p = some (.lst (intV es)) ∧ (fs ++ gs).Nodup ∧ (∀ x ∈ fs ++ gs, Go (.rep a) wd s x) ∧ ∀ x ∈ es.take i, x ∈ fs ++ gs)
            ⟨[], t4, rfl, e08.trans e9, by rw [List.append_nil]; exact e9 _ _ hF8, hp, by rw [List.append_nil]; exact hnd, by rw [List.append_nil]; exact hgo, fun x hx => by rw [List.take_zero] at hx; exact (nomatch hx)⟩ (fun i σ' H' _ ⟨_, _, _, _, _, h, _⟩ => sq_of h) ?_ ?_⟩
          · rintro i v σ' H10 hx ⟨gs, t4', rfl, e10, hF10, hp10, hnd10, hgo10, htk10⟩
            obtain ⟨x, hx1, rfl⟩ := intV_of hx
            have hxm := List.mem_of_getElem? hx1
            have htk : es.take (i + 1) = es.take i ++ [x] := by rw [List.take_succ, hx1]; rfl
            have hgx := go_rep_more (hgo _ (List.getElem_mem hlt)) ((hE x).mp hxm)
            refine s_when (b := !decide (x ∈ fs ++ gs)) (et_test (ev_is (ev_op (ev_var (i := 4) rfl) (ev_var (i := 3) rfl) (rv_niL (sq_of hF10) rfl (flat_int _))) (by rw [inV_int]))) (fun hb H11 e11 => ?_) fun hb H11 e11 => ?_
            · have hnx : x ∉ fs ++ gs := by
                intro z
                rw [decide_eq_true z] at hb
                exact Bool.noConfusion hb
              have hlen10 : (fs ++ gs).length ≤ wd.length + 1 := nodup_bits hnd10 fun x hx => by
                have := (hgo10 x hx).2.1
                omega
              refine s_app (l := F) (xs := intV (fs ++ gs)) (v := .int (x : Nat)) (e11 _ _ hF10) (ev_var (i := 3) rfl) (ev_var (i := 4) rfl) (by rw [intV_len]; omega) fun H12 e12 => ?_
              have ea : intV (fs ++ gs) ++ [V.int (x : Nat)] = intV (fs ++ (gs ++ [x])) := by rw [← List.append_assoc]; unfold intV; rw [List.map_append (l₂ := [x])]; rfl
              rw [ea]
              refine ⟨gs ++ [x], _, rfl, Ex.mut ((e10.trans e11).trans e12) hF0, upd_same, (upd_ne hpF).trans (e12 _ _ (e11 _ _ hp10)), ?_, ?_, ?_⟩
              · rw [← List.append_assoc, List.nodup_append]
                refine ⟨hnd10, by simp, fun y hy z hz => ?_⟩
                rw [List.mem_singleton.mp hz]
                intro e
                rw [e] at hy
                exact hnx hy
              · intro y hy
                rw [← List.append_assoc] at hy
                rcases List.mem_append.mp hy with hy | hy
                · exact hgo10 y hy
                · rw [List.mem_singleton.mp hy]
                  exact hgx
              · intro y hy
                rw [← List.append_assoc]
                rw [htk] at hy
                rcases List.mem_append.mp hy with hy | hy
                · exact List.mem_append_left _ (htk10 y hy)
                · exact List.mem_append_right _ hy
            · have hix : x ∈ fs ++ gs := by
                refine Classical.byContradiction fun z => ?_
                rw [decide_eq_false z] at hb
                exact Bool.noConfusion hb
              refine ⟨gs, _, rfl, e10.trans e11, e11 _ _ hF10, e11 _ _ hp10, hnd10, hgo10, fun y hy => ?_⟩
              rw [htk] at hy
              rcases List.mem_append.mp hy with hy | hy
              · exact htk10 y hy
              · rw [List.mem_singleton.mp hy]
                exact hix
          · rintro σ' H10 ⟨gs, t4', rfl, e10, hF10, hp10, hnd10, hgo10, htk10⟩
            rw [intV_len, List.take_length] at htk10
            refine s_asg (v := .int ((at_ + 1 : Nat) : Int)) (ev_is (ev_op (ev_var (i := 5) rfl) ev_c rv_I0) rfl) fun H11 e11 => ?_
            refine ⟨wd.length + 2 - (at_ + 1), by omega, fs ++ gs, at_ + 1, _, rfl, rfl, e10.trans e11, e11 _ _ hF10, hnd10, hgo10, List.mem_append_left _ hsf, by rw [List.length_append]; omega, fun i x hi hx j hj => ?_⟩
            by_cases hia : i < at_
            · rw [List.getElem?_append_left (by omega)] at hx
              exact List.mem_append_left _ (hcl i x hia hx j hj)
            · have ei : i = at_ := by omega
              subst ei
              rw [List.getElem?_append_left hlt, List.getElem?_eq_getElem hlt] at hx
              rw [← Option.some.inj hx] at hj
              exact htk10 j ((hE j).mpr hj)
        · have hge : at_ = fs.length := by
            have := of_decide_eq_false hb
            omega
          subst hge
          refine s_ret (ev_var (i := 3) rfl) fun H9 e9 => ?_
          refine k F fs H9 hF0 ((e7.trans e8).trans e9) (e9 _ _ (e8 _ _ hF7)) (fun j => ⟨hgo j, fun h => ?_⟩) (show _ ≤ wd.length + 1 by omega)
          refine go_rep_closed (S := fun x => x ∈ fs) (fun x y hx hxy => ?_) hsf h
          obtain ⟨i, hi, rfl⟩ := List.getElem_of_mem hx
          exact hcl i _ hi (List.getElem?_eq_getElem hi) y hxy
def spIwM : Sp := fun vs H Q _ => ∃ (r lw : Addr) (t : Tr) (wd : List Nm), vs = [.ref r, .ref lw] ∧ dp t ≤ 3 ∧ TrAt H t r ∧ MO (wd.length + 1) t ∧ H lw = some (.lst (vtx wd)) ∧ wd.length ≤ 300 ∧ ∀ b H', (b = true ↔ t.L wd) → Ex H H' → Q (.bl b) H'
theorem ok_iwM {f : Addr} {fd : FuncData} (F : FnP K "_law_is_word" sIw f fd) (TEo : Fu P w K mg base L2.CX0 5 "_law_ends_of" (spEoM 4)) (mLen : mg "len" = none) : FnOk P w K mg base L2.CX0 6 f fd ["_law_tree_here", "_law_lanes"] spIwM := by
  refine F.ok (CX := L2.CX0) scIw (fun vs H Q E h => ?_) (fun cdv A' outer s H vs Q E hr h => ?_)
  · obtain ⟨r, lw, t, wd, rfl, _⟩ := h
    rfl
  · refine ⟨_, (pss_one (ps_ret (pe_cmpR op_in_seq (pe_callB call_len (by rfl) mLen boot_len (pa_cons (pv 1) pa_nil)) (pe_fu TEo hr (by rfl) (pa_cons (pv 0) (pa_cons (pv 1) (pa_cons pe_int pa_nil)))) rfl))), ?_⟩
    obtain ⟨r, lw, t, wd, rfl, hd, T, O, hw, hw10, k⟩ := h
    unfold tRet tOp
    refine (ev_is (ev_lenA (ev_var (i := 1) rfl) (sq_of hw)) (by rw [vtx_len]) : Ev (tCB (fun xs H Q => ∃ x n, xs = [x] ∧ LenV K x H n ∧ Q (.int n) H) (tCons (tVar 1) tNil)) [some (.ref r), some (.ref lw)] H (.int (wd.length : Nat))) H (Ex.refl _) _ fun H1 e1 => ?_
    refine ⟨_, rfl, _, rfl, r, lw, (0 : Nat), t, wd, rfl, hd, T.mono e1, O, e1 _ _ hw, hw10, Nat.zero_le _, fun p es H2 np e2 hp hE hl => ?_⟩
    refine rv_isL (sq_of hp) rfl (flat_int _) H2 (Ex.refl _) _ fun H3 e3 => k _ H3 ?_ ((e1.trans e2).trans e3)
    rw [inV_int, decide_eq_true_iff, hE, go_word]
end
end K14

set_option Elab.async false
set_option linter.all false
set_option maxRecDepth 100000
set_option maxHeartbeats 4000000
/-! Whether the words of one pattern are words of another; the words of one alone. -/
namespace K14
open PySem PySem.Spec PyProof.Rows L2 Vl Evl Vp Vc Ve Ven Vg Vb Vt Vlt Vsa Vle Vo Vr Vda Vw Vx2 Vtx Vlk Vpt Vwy
abbrev sWi : Stmt := top 56
abbrev sOy : Stmt := top 73
abbrev nWi : List Str := ["p", "q", "less", "more"]
abbrev nOy : List Str := ["_law_one", "_law_two", "_law_words", "_law_lanes"]
def spWi (K : PySem.W.Frag) (CP CA : Addr) : Sp := fun vs H Q _ => ∃ (v1 v2 : V) (T1 T2 : Tr) (N : Nat), vs = [v1, v2] ∧ GivP K CP CA H v1 T1 ∧ GivP K CP CA H v2 T2 ∧ PgOk (.eith T1 T2) T2 N ∧ Tr.nd T1 + Tr.nd T2 ≤ 59 ∧ ∀ b H', Ex H H' → (b = true ↔ ∀ w, T1.L w → T2.L w) → Q (.bl b) H'
noncomputable def onlyB (a b : Tr) (w : List Nm) : Bool := @decide (a.L w ∧ ¬ b.L w) (Classical.propDecidable _)
theorem onlyB_iff {a b : Tr} {w : List Nm} : onlyB a b w = true ↔ a.L w ∧ ¬ b.L w := @decide_eq_true_iff _ (Classical.propDecidable _)
/-- what the law's helper asks of a tree: how deep, how long its lists of ends -/
structure MT (t : Tr) : Prop where
  dp : dp t ≤ 3
  mo : ∀ n, 1 ≤ n → n ≤ 258 → MO n t
def spOy : Sp := fun vs H Q _ => ∃ (r1 r2 lw : Addr) (t1 t2 : Tr) (rows : Rws), vs = [.ref r1, .ref r2, .ref lw] ∧ TrAt H t1 r1 ∧ TrAt H t2 r2 ∧ MT t1 ∧ MT t2 ∧ H lw = some (.lst (rfs rows)) ∧ RwsAt H rows ∧ (∀ c ∈ rows, c.2.length ≤ 250) ∧ rows.length ≤ 1000 ∧
  ∀ q H', H q = none → Ex H H' → H' q = some (.lst (rfs (rows.filter fun c => onlyB t1 t2 c.2))) → Q (.ref q) H'
section
variable {K : PySem.W.Frag} {σ : L2.St} {H : Hp} {ta tb te : TE} {E : L2.St → XK}
/-- a word by the law -/
theorem ev_iw {t : Tr} {r lw : Addr} {wd : List Nm} (h1 : Ev ta σ H (.ref r)) (h2 : Ev tb σ H (.ref lw)) (T : TrAt H t r) (M : MT t) (hl : H lw = some (.lst (vtx wd))) (hz : wd.length ≤ 257) {b : Bool} (hb : b = true ↔ t.L wd) : Ev (tFu spIwM E (tCons ta (tCons tb tNil))) σ H (.bl b) :=
  ev_fu (ea_cons h1 (ea_cons h2 ea_nil)) fun G1 g1 Q1 q1 E1 => ⟨r, lw, t, wd, rfl, M.dp, T.mono g1, M.mo _ (by omega) (by omega), g1 _ _ hl, by omega, fun b2 G2 hb2 g2 => by
    have : b2 = b := by rw [Bool.eq_iff_iff, hb2, hb]
    rw [this]
    exact q1 G2 g2⟩
end
section
variable {P : Program} {w : World} {K : PySem.W.Frag} {mg : Str → Option Value} {base : Heap} {CA CP : Addr}
theorem scWi : FnScope nWi ["p", "q"] (defScope sWi) := ⟨rfl, rfl, rfl, by decide +kernel, rfl, by decide +kernel, by decide +kernel⟩
theorem ok_wi {f : Addr} {fd : FuncData} (F : FnP K "within" sWi f fd) (TPo2 : Fu P w K mg base L2.CX0 8 "pattern_of" (spPo K CP CA)) (TOr : Vo2.OwS P w K mg base CP (L2.CX P w) 7 "or" (spBn K CP CA .eith)) (TPg : Fu P w K mg base L2.CX0 9 "parting" (spPg K CP CA)) : FnOk P w K mg base L2.CX0 10 f fd ["p", "q"] (spWi K CP CA) := by
  refine F.ok (CX := L2.CX0) scWi (fun vs H Q E h => ?_) (fun cdv A' outer s H vs Q E hr h => ?_)
  · obtain ⟨v1, v2, T1, T2, N, rfl, _⟩ := h
    rfl
  · refine ⟨_, (pss_cons (ps_set (i := 2) scWi.nd rfl (by first | exact Or.inl rfl | exact Or.inr rfl) (pe_fu TPo2 hr (by rfl) (pa_cons (pv 0) pa_nil)))
      (pss_cons (ps_set (i := 3) scWi.nd rfl (by first | exact Or.inl rfl | exact Or.inr rfl) (pe_fu TPo2 hr (by rfl) (pa_cons (pv 1) pa_nil)))
      (pss_one (ps_ret (pe_cmpR op_isN (pe_fu TPg hr (by rfl) (pa_cons (Vo2.pe_owSN TOr hr (pv 2) (pv 3)) (pa_cons (pv 3) pa_nil))) pe_non (nomark _)))))), ?_⟩
    obtain ⟨v1, v2, T1, T2, N, rfl, g1, g2, OK, hnd, k⟩ := h
    refine s_seq ?_
    refine ⟨_, rfl, v1, T1, rfl, g1, fun o1 H1 e1 P1 => ?_⟩
    dsimp only [gName, List.set]
    refine s_seq ?_
    refine ⟨_, rfl, v2, T2, rfl, g2.mono e1, fun o2 H2 e2 P2 => ?_⟩
    dsimp only [gName, List.set]
    have P1 := P1.mono e2
    have hL : ∀ w, ((Tr.eith T1 T2).L w ↔ T2.L w) ↔ (T1.L w → T2.L w) := fun w => by
      show ((T1.L w ∨ T2.L w) ↔ T2.L w) ↔ _
      exact ⟨fun h h1 => h.mp (.inl h1), fun h => ⟨fun z => z.elim h id, .inr⟩⟩
    refine evp_bin (K := K) (mk := .eith) (E := fun _ => nil0) (σ := [some v1, some v2, some (.ref o1), some (.ref o2)]) (i := 2) (j := 3) rfl P1 rfl P2 hnd H2 (Ex.refl _) _ fun o H3 e3 PO => ?_
    refine ⟨_, rfl, .ref o, .ref o2, .eith T1 T2, T2, N, rfl, .inl ⟨o, rfl, PO⟩, .inl ⟨o2, rfl, P2.mono e3⟩, OK, fun H4 e4 h => ?_, fun p ws H4 e4 hp hn hnm hmin hlen => ?_⟩
    · exact ⟨rfl, k true H4 (((e1.trans e2).trans e3).trans e4) ⟨fun _ w => (hL w).mp (h w), fun _ => rfl⟩⟩
    · exact ⟨rfl, k false H4 (((e1.trans e2).trans e3).trans e4) ⟨(fun z => nomatch z), fun z => absurd ((hL ws).mpr (z ws)) hn⟩⟩
theorem scOy : FnScope nOy ["_law_one", "_law_two", "_law_words"] (defScope sOy) := ⟨rfl, rfl, rfl, by decide +kernel, rfl, by decide +kernel, by decide +kernel⟩
theorem ok_oy {f : Addr} {fd : FuncData} (F : FnP K "_law_only" sOy f fd) (TIw : Fu P w K mg base L2.CX0 6 "_law_is_word" spIwM) : FnOk P w K mg base L2.CX0 7 f fd ["_law_one", "_law_two", "_law_words"] spOy := by
  refine F.ok (CX := L2.CX0) scOy (fun vs H Q E h => ?_) (fun cdv A' outer s H vs Q E hr h => ?_)
  · obtain ⟨r1, r2, lw, t1, t2, rows, rfl, _⟩ := h
    rfl
  · refine ⟨_, (pss_one (ps_ret (pe_lc (own := [("_law_lanes", 3)]) (g := (gName 3)) (tt := (tAnd (tB (tFu spIwM (fun _ => nil0) (tCons (tVar 0) (tCons (tVar 3) tNil)))) (tNot (tB (tFu spIwM (fun _ => nil0) (tCons (tVar 1) (tCons (tVar 3) tNil))))))) (te := (tVar 3)) rfl scOy.nd (pi_list (pv 2)) (blkOk_by (own := [("_law_lanes", 3)]) (N := nOy) (sc := defScope sOy) (by decide +kernel)) (fun _ _ _ _ _ => (pg_name (i := 3) scOy.nd rfl (by first | exact Or.inl rfl | exact Or.inr rfl))) (fun _ _ _ _ _ => (pts_one (PW.pt (pw_and (pt_val (pe_fu TIw hr (by rfl) (pa_cons (pv 0) (pa_cons (pv 3) pa_nil)))) (pw_and1 (pt_not (pt_val (pe_fu TIw hr (by rfl) (pa_cons (pv 1) (pa_cons (pv 3) pa_nil)))))))))) (fun _ _ _ _ _ => (pv 3))))), ?_⟩
    obtain ⟨r1, r2, lw, t1, t2, rows, rfl, Ta, Tb, M1, M2, hlw, RA, hl, hz, k⟩ := h
    have wb : ∀ (t : Tr) (w : List Nm), ∃ b : Bool, b = true ↔ t.L w := fun t w => by
      by_cases h : t.L w
      · exact ⟨true, fun _ => h, fun _ => rfl⟩
      · exact ⟨false, (fun z => nomatch z), fun z => absurd z h⟩
    have main : ∀ (c : Addr × List Nm) (G : Hp), Ex H G → c ∈ rows → EvT (tAnd (tB (tFu spIwM (fun _ => nil0) (tCons (tVar 0) (tCons (tVar 3) tNil)))) (tNot (tB (tFu spIwM (fun _ => nil0) (tCons (tVar 1) (tCons (tVar 3) tNil)))))) [some (.ref r1), some (.ref r2), some (.ref lw), some (.ref c.1)] G (onlyB t1 t2 c.2) := fun c G g hc => by
      obtain ⟨b1, hb1⟩ := wb t1 c.2
      obtain ⟨b2, hb2⟩ := wb t2 c.2
      have hcl := Nat.le_trans (hl c hc) (show 250 ≤ 257 by decide)
      refine et_is (et_and (a := b1) (b := !b2) (et_B (ev_iw (ev_var rfl) (ev_var rfl) (Ta.mono g) M1 (g _ _ (RA c hc)) hcl hb1)) fun _ => et_not (a := b2) (et_B (ev_iw (ev_var rfl) (ev_var rfl) (Tb.mono g) M2 (g _ _ (RA c hc)) hcl hb2))) ?_
      rw [Bool.eq_iff_iff, onlyB_iff, ← hb1, ← hb2]
      cases b1 <;> cases b2 <;> simp
    refine s_retL (el_lcA (K := K) (te := tVar 3) (tt := tAnd (tB (tFu spIwM (fun _ => nil0) (tCons (tVar 0) (tCons (tVar 3) tNil)))) (tNot (tB (tFu spIwM (fun _ => nil0) (tCons (tVar 1) (tCons (tVar 3) tNil)))))) (σ := [some (.ref r1), some (.ref r2), some (.ref lw), none]) (H := H) (ys := rows) (g := fun c : Addr × List Nm => V.ref c.1) (a := lw) (tl := tVar 2) (j := 3) (vs := [3]) (fun c => onlyB t1 t2 c.2) (fun c => V.ref c.1)
      (ev_var rfl) (sq_of hlw) (by omega) (fun _ => rfl) (fun c G g hc => main c G g hc) (fun c G g hc hf => ev_var rfl)) fun q H1 nq e1 hq => k q H1 nq e1 hq
end
end K14

set_option Elab.async false
set_option linter.all false
set_option maxRecDepth 100000
set_option maxHeartbeats 4000000
/-! Both patterns compared, by the law. -/
namespace K14
open PySem PySem.Spec PyProof.Rows L2 Vl Evl Vp Vc Ve Ven Vg Vb Vt Vlt Vsa Vle Vo Vr Vda Vw Vx2 Vtx Vlk Vpt Vwy
abbrev sRi2 : Stmt := top 74
abbrev nRi2 : List Str := ["_law_one", "_law_two", "_law_words", "_law_longer", "_law_first", "_law_second_here", "_law_here", "_law_there", "_law_found", "_law_lanes"]
theorem srtT_sz : ∀ {t T : Tr}, SrtT t T → T.sz = t.sz
  | .atom n xs, .atom m ys, _ => rfl
  | .thn a b, .thn c d, ⟨h1, h2⟩ => by
    show (c.ats ++ d.ats).length = (a.ats ++ b.ats).length
    rw [List.length_append, List.length_append]
    exact congr (congrArg _ (srtT_sz h1)) (srtT_sz h2)
  | .eith a b, .eith c d, ⟨h1, h2⟩ => by
    show (c.ats ++ d.ats).length = (a.ats ++ b.ats).length
    rw [List.length_append, List.length_append]
    exact congr (congrArg _ (srtT_sz h1)) (srtT_sz h2)
  | .rep a, .rep c, h => srtT_sz (t := a) (T := c) h
  | .opt a, .opt c, h => srtT_sz (t := a) (T := c) h
theorem tr_sz : ∀ {xs : List Nm} {t : Tr} {d : Nat}, TrOk xs d t → t.sz ≤ 2 ^ d
  | xs, .atom n ys, d, _ => Nat.one_le_two_pow
  | xs, .thn a b, d + 1, h => by
    have h1 := tr_sz h.1
    have h2 := tr_sz h.2
    show (a.ats ++ b.ats).length ≤ _
    rw [List.length_append, Nat.pow_succ]
    show a.sz + b.sz ≤ _
    omega
  | xs, .eith a b, d + 1, h => by
    have h1 := tr_sz h.1
    have h2 := tr_sz h.2
    show (a.ats ++ b.ats).length ≤ _
    rw [List.length_append, Nat.pow_succ]
    show a.sz + b.sz ≤ _
    omega
  | xs, .rep a, d + 1, h => by
    have h1 := tr_sz (t := a) h
    show a.sz ≤ _
    rw [Nat.pow_succ]
    omega
  | xs, .opt a, d + 1, h => by
    have h1 := tr_sz (t := a) h
    show a.sz ≤ _
    rw [Nat.pow_succ]
    omega
/-- what is asked of two trees that the law compares -/
structure PR (xs : List Nm) (a b : Tr) : Prop where
  oa : TrOk xs 3 a
  ob : TrOk xs 3 b
  ma : MT a
  mb : MT b
  s1 : a.sz + 2 * b.sz ≤ 16
  s2 : b.sz + 2 * a.sz ≤ 16
  sh : ∀ w : List Nm, ¬ (a.L w ↔ b.L w) → (∀ w' : List Nm, w'.length < w.length → (a.L w' ↔ b.L w')) → w.length ≤ 256
theorem PR.symm {xs : List Nm} {a b : Tr} (h : PR xs a b) : PR xs b a := ⟨h.ob, h.oa, h.mb, h.ma, h.s2, h.s1, fun w h1 h2 => h.sh w (fun z => h1 z.symm) fun w' h' => (h2 w' h').symm⟩
theorem nms3 {xs : List Nm} {a A : Tr} (hn : ∀ x ∈ xs, nam x) (o : TrOk xs 3 a) (s : SrtT a A) : (nmsOf A.steps).length ≤ 16 ∧ ∀ x ∈ nmsOf A.steps, nam x := by
  have h1 := tr_nms o
  have h2 : 2 ^ (3 + 1) = 16 := rfl
  have h3 := s.nms.2
  exact ⟨by omega, fun x hx => hn x (nms_mem o x ((s.nms.1 x).mp hx))⟩
theorem PR.pg {xs : List Nm} {a b A B : Tr} (h : PR xs a b) (hn : ∀ x ∈ xs, nam x) (sa : SrtT a A) (sb : SrtT b B) : PgOk A B 65537 := by
  obtain ⟨l1, n1⟩ := nms3 hn h.oa sa
  obtain ⟨l2, n2⟩ := nms3 hn h.ob sb
  have e1 := srtT_sz sa
  have e2 := srtT_sz sb
  have s1 := h.s1
  have s2 := h.s2
  exact ⟨by omega, by omega, by omega, by omega, n1, n2, cnt_pow (k := 16) (by omega), by decide⟩
theorem PR.wi {xs : List Nm} {a b A B : Tr} (h : PR xs a b) (hn : ∀ x ∈ xs, nam x) (sa : SrtT a A) (sb : SrtT b B) : PgOk (.eith A B) B 65537 := by
  obtain ⟨l1, n1⟩ := nms3 hn h.oa sa
  obtain ⟨l2, n2⟩ := nms3 hn h.ob sb
  have e1 := srtT_sz sa
  have e2 := srtT_sz sb
  have s1 := h.s1
  have s2 := h.s2
  have e3 : (Tr.eith A B).sz = A.sz + B.sz := List.length_append
  have en : nmsOf (Tr.eith A B).steps = nmsOf A.steps ++ (nmsOf B.steps ++ []) := by
    show nmsOf (A.steps ++ (B.steps ++ [Op.eith])) = _
    rw [nmsOf_app, nmsOf_app]
    rfl
  refine ⟨by omega, by omega, ?_, by omega, ?_, n2, cnt_pow (k := 16) (by omega), by decide⟩
  · rw [en, List.append_nil, List.length_append]
    omega
  · intro x hx
    rw [en, List.append_nil] at hx
    exact (List.mem_append.mp hx).elim (n1 x) (n2 x)
theorem PR.nd {xs : List Nm} {a b A B : Tr} (h : PR xs a b) (sa : SrtT a A) (sb : SrtT b B) : Tr.nd A + Tr.nd B ≤ 59 := by
  have h1 : Tr.nd A = a.steps.length := sa.nd
  have h2 : Tr.nd B = b.steps.length := sb.nd
  have h3 := tr_nd h.oa
  have h4 := tr_nd h.ob
  have h5 : 2 ^ (3 + 1) = 16 := rfl
  omega
/-- lists of names as data -/
def lls (L : List (List Nm)) : PyData := .list (L.map wls)
theorem sh_lls {L : List (List Nm)} (h : ∀ w ∈ L, ∀ x ∈ w, nam x) : SeqAt.shaped (lls L) = true := by
  have h1 : ∀ L : List (List Nm), (∀ w ∈ L, ∀ x ∈ w, nam x) → PyData.canLayAll0 (L.map wls) = true ∧ PyData.depthAll (L.map wls) ≤ 1 := by
    intro L
    induction L with
    | nil => intro _; exact ⟨rfl, Nat.zero_le _⟩
    | cons w r ih =>
      intro h
      obtain ⟨i1, i2⟩ := ih fun v hv => h v (List.mem_cons_of_mem _ hv)
      have l1 := lay_ok w (oks_nam (h w List.mem_cons_self))
      refine ⟨?_, ?_⟩
      · show (PyData.canLayAll0 (dtx w) && PyData.canLayAll0 (r.map wls)) = true
        rw [l1, i1]
        rfl
      · show Nat.max (PyData.depthAll (dtx w) + 1) (PyData.depthAll (r.map wls)) ≤ 1
        rw [dep_dtx]
        exact Nat.max_le.mpr ⟨Nat.le_refl _, i2⟩
  obtain ⟨i1, i2⟩ := h1 L h
  exact shaped_of i1 (by show PyData.depthAll (L.map wls) + 1 ≤ 64; omega)
section
variable {K : PySem.W.Frag} {σ : L2.St} {H : Hp} {ta tb te : TE} {E : L2.St → XK} {CA CP : Addr}
theorem dpa_rows {rows : Rws} : RwsAt H rows → DpAll K H (rows.map fun c => V.ref c.1) ((rows.map (·.2)).map wls) := by
  induction rows with
  | nil => intro _; exact .nil
  | cons c r ih => intro h; exact .cons (.lst (sq_of (h c List.mem_cons_self)) (dpa_vtx _)) (ih fun d hd => h d (List.mem_cons_of_mem _ hd))
theorem ed_rows {rows : Rws} (h : EvL te σ H (rfs rows)) (RA : RwsAt H rows) : EvD K te σ H (lls (rows.map (·.2))) := ed_L (show EvL te σ H (rows.map fun c : Addr × List Nm => V.ref c.1) from h) (dpa_rows RA)
theorem ed_rowsV {q : Addr} {rows : Rws} (h : Ev te σ H (.ref q)) (hq : H q = some (.lst (rfs rows))) (RA : RwsAt H rows) : EvD K te σ H (lls (rows.map (·.2))) := ed_ev h (.lst (sq_of (show H q = some (.lst (rows.map fun c : Addr × List Nm => V.ref c.1)) from hq)) (dpa_rows RA))
/-- some rows against the empty list -/
theorem ev_neNil {rows : Rws} (h1 : EvD K te σ H (lls (rows.map (·.2)))) (hn : ∀ c ∈ rows, ∀ x ∈ c.2, nam x) : Ev (tOp (rNeD K) te (tLst tNil)) σ H (.bl (!rows.isEmpty)) := by
  have h2 := ev_neD (K := K) (tb := tLst tNil) h1 (ed_lst (ds := []) eda_nil (by show 0 ≤ 100000; omega)) (sh_lls fun w hw => by
    obtain ⟨c, hc, rfl⟩ := List.mem_map.mp hw
    exact hn c hc) (sh_lls (L := []) fun _ h => nomatch h)
  refine ev_is h2 ?_
  cases rows with
  | nil => rfl
  | cons c r => rfl
theorem ev_eqNil {rows : Rws} (h1 : EvD K te σ H (lls (rows.map (·.2)))) (hn : ∀ c ∈ rows, ∀ x ∈ c.2, nam x) : Ev (tOp (rEqD K) te (tLst tNil)) σ H (.bl rows.isEmpty) := by
  have h2 := ev_eqD (K := K) (tb := tLst tNil) h1 (ed_lst (ds := []) eda_nil (by show 0 ≤ 100000; omega)) (sh_lls fun w hw => by
    obtain ⟨c, hc, rfl⟩ := List.mem_map.mp hw
    exact hn c hc) (sh_lls (L := []) fun _ h => nomatch h)
  refine ev_is h2 ?_
  cases rows with
  | nil => rfl
  | cons c r => rfl
theorem el_listT {p : Addr} {xs : List V} (ha : Ev ta σ H (.ref p)) (h : SqT K H p xs) : EvL (tCB (rListS K) (tCons ta tNil)) σ H xs := fun H1 e Q q =>
  ha H1 e _ fun H2 e2 => ⟨p, xs, rfl, .inr (ex_t (e.trans e2) h), fun l nl => q l _ (fresh_back e2 nl) (e2.trans (Ex.new nl)) upd_same⟩
theorem ev_iwL {t : Tr} {r : Addr} {wd : List Nm} (h1 : Ev ta σ H (.ref r)) (h2 : EvL tb σ H (vtx wd)) (T : TrAt H t r) (M : MT t) (hz : wd.length ≤ 257) {b : Bool} (hb : b = true ↔ t.L wd) : Ev (tFu spIwM E (tCons ta (tCons tb tNil))) σ H (.bl b) := fun H1 e Q q =>
  h1 H1 e _ fun H2 e2 => h2 H2 (e.trans e2) _ fun lw H3 nl e3 hl => ⟨r, lw, t, wd, rfl, M.dp, T.mono ((e.trans e2).trans e3), M.mo _ (by omega) (by omega), hl, by omega, fun b2 G2 hb2 g2 => by
    have : b2 = b := by rw [Bool.eq_iff_iff, hb2, hb]
    rw [this]
    exact q G2 ((e2.trans e3).trans g2)⟩
theorem ev_wi {o1 o2 : Addr} {a b A B : Tr} {xs : List Nm} (h1 : Ev ta σ H (.ref o1)) (h2 : Ev tb σ H (.ref o2)) (P1 : PatAt K CP CA H o1 A) (P2 : PatAt K CP CA H o2 B) (sa : SrtT a A) (sb : SrtT b B) (R : PR xs a b) (hn : ∀ x ∈ xs, nam x) {v : Bool} (hv : v = true ↔ ∀ w, a.L w → b.L w) : Ev (tFu (spWi K CP CA) E (tCons ta (tCons tb tNil))) σ H (.bl v) :=
  ev_fu (ea_cons h1 (ea_cons h2 ea_nil)) fun G1 g1 Q1 q1 E1 => ⟨.ref o1, .ref o2, A, B, 65537, rfl, .inl ⟨o1, rfl, P1.mono g1⟩, .inl ⟨o2, rfl, P2.mono g1⟩, R.wi hn sa sb, R.nd sa sb, fun b2 G2 g2 hb2 => by
    have : b2 = v := by
      rw [Bool.eq_iff_iff, hb2, hv]
      exact ⟨fun h w hw => (sb.words w).mp (h w ((sa.words w).mpr hw)), fun h w hw => (sb.words w).mpr (h w ((sa.words w).mp hw))⟩
    rw [this]
    exact q1 G2 g2⟩
theorem el_oy {r1 r2 lw : Addr} {a b : Tr} {rows : Rws} {tc : TE} (h1 : Ev ta σ H (.ref r1)) (h2 : Ev tb σ H (.ref r2)) (h3 : Ev tc σ H (.ref lw)) (Ta : TrAt H a r1) (Tb : TrAt H b r2) (Ma : MT a) (Mb : MT b) (hl : H lw = some (.lst (rfs rows))) (RA : RwsAt H rows) (hz : ∀ c ∈ rows, c.2.length ≤ 250) (hr : rows.length ≤ 1000) :
    EvL (tFu spOy E (tCons ta (tCons tb (tCons tc tNil)))) σ H (rfs (rows.filter fun c => onlyB a b c.2)) :=
  el_fu (ea_cons h1 (ea_cons h2 (ea_cons h3 ea_nil))) fun G1 g1 Q1 q1 E1 => ⟨r1, r2, lw, a, b, rows, rfl, Ta.mono g1, Tb.mono g1, Ma, Mb, g1 _ _ hl, fun c hc => g1 _ _ (RA c hc), hz, hr, fun q G2 nq g2 hq => q1 q G2 nq g2 hq⟩
theorem el_cat2 {p1 p2 : Addr} {xs ys : List V} (h : Ev ta σ H (.ref p1)) (hx : H p1 = some (.lst xs)) (h2 : Ev tb σ H (.ref p2)) (hy : H p2 = some (.lst ys)) (hz : xs.length + ys.length ≤ 100000) : EvL (tOp rCat ta tb) σ H (xs ++ ys) := fun H1 e Q q =>
  h H1 e _ fun H2 e2 => h2 H2 (e.trans e2) _ fun H3 e3 => ⟨p1, p2, xs, ys, rfl, rfl, ((e.trans e2).trans e3) _ _ hx, ((e.trans e2).trans e3) _ _ hy, sz_of hz, fun p np => q p _ (fresh_back (e2.trans e3) np) ((e2.trans e3).trans (Ex.new np)) upd_same⟩
/-- a comprehension over a new list, by its items -/
theorem el_lcF {α : Type} {ys : List α} {g : α → V} {tl : TE} {j : Nat} {vs : List Nat} {tt : TT} (c : α → Bool) (w : α → V) (h : EvL tl σ H (ys.map g)) (hz : ys.length ≤ 40000) (hw : ∀ x, wipe ((wipe σ vs).set j (some x)) vs = wipe σ vs)
    (ht : ∀ (y : α) (H1 : Hp), Ex H H1 → y ∈ ys → EvT tt ((wipe σ vs).set j (some (g y))) H1 (c y)) (he : ∀ (y : α) (H1 : Hp), Ex H H1 → y ∈ ys → c y = true → Ev te ((wipe σ vs).set j (some (g y))) H1 (w y)) : EvL (tLc (iList K tl) (gName j) tt te vs) σ H ((ys.filter c).map w) := fun H1 e Q q => h H1 e _ fun a H2 na e2 ha => by
  have key : EvL (tLc (iList K (tC (.ref a))) (gName j) tt te vs) σ H2 _ := el_lcA (K := K) (σ := σ) (H := H2) (te := te) (tt := tt) (tl := tC (.ref a)) (j := j) (vs := vs) c w ev_c (sq_of ha) hz hw (fun y H3 e3 hy => ht y H3 ((e.trans e2).trans e3) hy) (fun y H3 e3 hy hc => he y H3 ((e.trans e2).trans e3) hy hc)
  exact key H2 (Ex.refl _) Q fun p H3 np e3 hp => q p H3 (fresh_back e2 np) (e2.trans e3) hp
end
def spRi2 : Sp := fun vs H Q _ => ∃ (r1 r2 lw ll : Addr) (a b : Tr) (xs : List Nm) (rows more : Rws), vs = [.ref r1, .ref r2, .ref lw, .ref ll] ∧ TrAt H a r1 ∧ TrAt H b r2 ∧ PR xs a b ∧ (∀ x ∈ xs, nam x) ∧ H lw = some (.lst (rfs rows)) ∧ RwsAt H rows ∧ (∀ c ∈ rows, (∀ x ∈ c.2, nam x) ∧ c.2.length ≤ 250) ∧ rows.length ≤ 1000 ∧ H ll = some (.lst (rfs more)) ∧ RwsAt H more ∧ (∀ c ∈ more, (∀ x ∈ c.2, nam x) ∧ c.2.length ≤ 250) ∧ more.length ≤ 1000 ∧ ∀ H', Ex H H' → Q (.bl true) H'
section
variable {P : Program} {w : World} {K : PySem.W.Frag} {mg : Str → Option Value} {base : Heap} {CA CP : Addr}
theorem scRi2 : FnScope nRi2 ["_law_one", "_law_two", "_law_words", "_law_longer"] (defScope sRi2) := ⟨rfl, rfl, rfl, by decide +kernel, rfl, by decide +kernel, by decide +kernel⟩
theorem ok_ri2 {f : Addr} {fd : FuncData} (F : FnP K "_law_right" sRi2 f fd) (TPa : Fu P w K mg base L2.CX0 13 "_law_pattern" (spPa K CP CA 4)) (TOy : Fu P w K mg base L2.CX0 7 "_law_only" spOy) (TWi : Fu P w K mg base L2.CX0 10 "within" (spWi K CP CA)) (TPg : Fu P w K mg base L2.CX0 9 "parting" (spPg K CP CA)) (TIw : Fu P w K mg base L2.CX0 6 "_law_is_word" spIwM) (mIsi : mg "isinstance" = none) (mTuple : mg "tuple" = none) (mList : mg "list" = none) (mLen : mg "len" = none) :
    FnOk P w K mg base L2.CX0 14 f fd ["_law_one", "_law_two", "_law_words", "_law_longer"] spRi2 := by
  refine F.ok (CX := L2.CX0) scRi2 (fun vs H Q E h => ?_) (fun cdv A' outer s H vs Q E hr h => ?_)
  · obtain ⟨r1, r2, lw, ll, a, b, xs, rows, more, rfl, _⟩ := h
    rfl
  · refine ⟨_, (pss_cons (ps_set (i := 4) scRi2.nd rfl (by first | exact Or.inl rfl | exact Or.inr rfl) (pe_fu TPa hr (by rfl) (pa_cons (pv 0) pa_nil)))
      (pss_cons (ps_set (i := 5) scRi2.nd rfl (by first | exact Or.inl rfl | exact Or.inr rfl) (pe_fu TPa hr (by rfl) (pa_cons (pv 1) pa_nil)))
      (pss_cons (ps_set (i := 6) scRi2.nd rfl (by first | exact Or.inl rfl | exact Or.inr rfl) (pe_fu TOy hr (by rfl) (pa_cons (pv 0) (pa_cons (pv 1) (pa_cons (pv 2) pa_nil)))))
      (pss_cons (ps_set (i := 7) scRi2.nd rfl (by first | exact Or.inl rfl | exact Or.inr rfl) (pe_fu TOy hr (by rfl) (pa_cons (pv 1) (pa_cons (pv 0) (pa_cons (pv 2) pa_nil)))))
      (pss_cons (ps_if (PW.pt (pw_or (PW.pt (pw_and (pt_cmpR (op_neD hr.units) (pv 6) (pe_lst pa_nil) (nomark _)) (pw_and1 (pt_val (pe_fu TWi hr (by rfl) (pa_cons (pv 4) (pa_cons (pv 5) pa_nil))))))) (pw_or1 (PW.pt (pw_and (pt_cmpR (op_neD hr.units) (pv 7) (pe_lst pa_nil) (nomark _)) (pw_and1 (pt_val (pe_fu TWi hr (by rfl) (pa_cons (pv 5) (pa_cons (pv 4) pa_nil)))))))))) (pss_one (ps_ret pe_bl)) pss_nil)
      (pss_cons (ps_if (PW.pt (pw_and (pt_val (pe_fu TWi hr (by rfl) (pa_cons (pv 4) (pa_cons (pv 5) pa_nil)))) (pw_and1 (pt_cmpR (op_neD hr.units) (pe_fu TOy hr (by rfl) (pa_cons (pv 0) (pa_cons (pv 1) (pa_cons (pv 3) pa_nil)))) (pe_lst pa_nil) (nomark _))))) (pss_one (ps_ret pe_bl)) pss_nil)
      (pss_cons (ps_set (i := 8) scRi2.nd rfl (by first | exact Or.inl rfl | exact Or.inr rfl) (pe_fu TPg hr (by rfl) (pa_cons (pv 4) (pa_cons (pv 5) pa_nil))))
      (pss_cons (ps_if (pt_cmpR op_ne (pe_cmpR op_isN (pv 8) pe_non (nomark _)) (pe_and (pe_fu TWi hr (by rfl) (pa_cons (pv 4) (pa_cons (pv 5) pa_nil))) (pe_one (pe_fu TWi hr (by rfl) (pa_cons (pv 5) (pa_cons (pv 4) pa_nil))))) (nomark _)) (pss_one (ps_ret pe_bl)) pss_nil)
      (pss_cons (ps_if (pt_cmpR op_isN (pv 8) pe_non (nomark _)) (pss_one (ps_ret (pe_cmpR (op_eqD hr.units) (pe_op op_cat (pv 6) (pv 7)) (pe_lst pa_nil) (nomark _)))) pss_nil)
      (pss_cons (ps_if (PW.pt (pw_or (pt_not (pt_val (pe_callB call_isi (by rfl) mIsi boot_isinstance (pa_cons (pv 8) (pa_cons (pe_bltn (v := V.ty "tuple") (by rfl) mTuple boot_tuple rfl) pa_nil))))) (pw_or1 (pt_cmpR op_eq (pe_fu TIw hr (by rfl) (pa_cons (pv 0) (pa_cons (pe_callTy call_list_of (by rfl) mList boot_list (pa_cons (pv 8) pa_nil)) pa_nil))) (pe_fu TIw hr (by rfl) (pa_cons (pv 1) (pa_cons (pe_callTy call_list_of (by rfl) mList boot_list (pa_cons (pv 8) pa_nil)) pa_nil))) (nomark _))))) (pss_one (ps_ret pe_bl)) pss_nil)
      (pss_one (ps_ret (pe_cmpR (op_eqD hr.units) (pe_lc (own := [("_law_lanes", 9)]) (g := (gName 9)) (tt := (tTest (tOp (rI0 fun i j => .bl (decide (i < j))) (tCB (fun xs H Q => ∃ x n, xs = [x] ∧ LenV K x H n ∧ Q (.int n) H) (tCons (tVar 9) tNil)) (tCB (fun xs H Q => ∃ x n, xs = [x] ∧ LenV K x H n ∧ Q (.int n) H) (tCons (tVar 8) tNil))))) (te := (tVar 9)) rfl scRi2.nd (pi_list (pe_op op_cat (pv 6) (pv 7))) (blkOk_by (own := [("_law_lanes", 9)]) (N := nRi2) (sc := defScope sRi2) (by decide +kernel)) (fun _ _ _ _ _ => (pg_name (i := 9) scRi2.nd rfl (by first | exact Or.inl rfl | exact Or.inr rfl))) (fun _ _ _ _ _ => (pts_one (pt_cmpR op_lt (pe_callB call_len (by rfl) mLen boot_len (pa_cons (pv 9) pa_nil)) (pe_callB call_len (by rfl) mLen boot_len (pa_cons (pv 8) pa_nil)) (nomark _)))) (fun _ _ _ _ _ => (pv 9))) (pe_lst pa_nil) (nomark _)))))))))))))), ?_⟩
    obtain ⟨r1, r2, lw, ll, a, b, xs, rows, more, rfl, Ta, Tb, R, hn, hlw, RA, hrow, hrl, hll, RM, hmore, hml, k⟩ := h
    have len_flt : ∀ (L : Rws) (f : Addr × List Nm → Bool), (L.filter f).length ≤ L.length := fun L f => List.length_filter_le f L
    obtain ⟨w12, h12⟩ : ∃ v : Bool, v = true ↔ ∀ w, a.L w → b.L w := by
      by_cases h : ∀ w, a.L w → b.L w
      · exact ⟨true, fun _ => h, fun _ => rfl⟩
      · exact ⟨false, (fun z => nomatch z), fun z => absurd z h⟩
    obtain ⟨w21, h21⟩ : ∃ v : Bool, v = true ↔ ∀ w, b.L w → a.L w := by
      by_cases h : ∀ w, b.L w → a.L w
      · exact ⟨true, fun _ => h, fun _ => rfl⟩
      · exact ⟨false, (fun z => nomatch z), fun z => absurd z h⟩
    have none12 : ∀ L : Rws, w12 = true → (L.filter fun c => onlyB a b c.2) = [] := fun L h => by
      rw [List.filter_eq_nil_iff]
      intro c _ z
      obtain ⟨z1, z2⟩ := onlyB_iff.mp z
      exact z2 (h12.mp h c.2 z1)
    have none21 : ∀ L : Rws, w21 = true → (L.filter fun c => onlyB b a c.2) = [] := fun L h => by
      rw [List.filter_eq_nil_iff]
      intro c _ z
      obtain ⟨z1, z2⟩ := onlyB_iff.mp z
      exact z2 (h21.mp h c.2 z1)
    refine s_seq ?_
    refine ⟨_, rfl, r1, a, (3 : Nat), xs, rfl, Nat.le_refl 3, Nat.le_succ 3, Ta, R.oa, hn, fun o1 A H1 no1 e1 sa PA => ?_⟩
    dsimp only [gName, List.set]
    refine s_seq ?_
    refine ⟨_, rfl, r2, b, (3 : Nat), xs, rfl, Nat.le_refl 3, Nat.le_succ 3, Tb.mono e1, R.ob, hn, fun o2 B H2 no2 e2 sb PB => ?_⟩
    dsimp only [gName, List.set]
    have PA := PA.mono e2
    have e02 := e1.trans e2
    -- here, there
    refine q_asgL (el_oy (a := a) (b := b) (ev_var (i := 0) rfl) (ev_var (i := 1) rfl) (ev_var (i := 2) rfl) (Ta.mono e02) (Tb.mono e02) R.ma R.mb (e02 _ _ hlw) (fun c hc => e02 _ _ (RA c hc)) (fun c hc => (hrow c hc).2) hrl) fun q1 H3 nq1 e3 hq1 => ?_
    have e03 := e02.trans e3
    refine q_asgL (el_oy (a := b) (b := a) (ev_var (i := 1) rfl) (ev_var (i := 0) rfl) (ev_var (i := 2) rfl) (Tb.mono e03) (Ta.mono e03) R.mb R.ma (e03 _ _ hlw) (fun c hc => e03 _ _ (RA c hc)) (fun c hc => (hrow c hc).2) hrl) fun q2 H4 nq2 e4 hq2 => ?_
    have e04 := e03.trans e4
    have hq1 := e4 _ _ hq1
    have PA := (PA.mono e3).mono e4
    have PB := (PB.mono e3).mono e4
    have RA4 : RwsAt H4 rows := fun c hc => e04 _ _ (RA c hc)
    have fl1 : ∀ (f : Addr × List Nm → Bool) {L : Rws} {G : Hp}, RwsAt G L → RwsAt G (L.filter f) := fun f L G h c hc => h c (List.mem_filter.mp hc).1
    have nm1 : ∀ (f : Addr × List Nm → Bool), ∀ c ∈ rows.filter f, ∀ x ∈ c.2, nam x := fun f c hc => (hrow c (List.mem_filter.mp hc).1).1
    have nm2 : ∀ (f : Addr × List Nm → Bool), ∀ c ∈ more.filter f, ∀ x ∈ c.2, nam x := fun f c hc => (hmore c (List.mem_filter.mp hc).1).1
    have i1 : (!(rows.filter fun c => onlyB a b c.2).isEmpty && w12) = false := by
      cases hw : w12 with
      | false => exact Bool.and_false _
      | true => rw [none12 rows hw]; rfl
    have i2 : (!(rows.filter fun c => onlyB b a c.2).isEmpty && w21) = false := by
      cases hw : w21 with
      | false => exact Bool.and_false _
      | true => rw [none21 rows hw]; rfl
    have i3 : (w12 && !(more.filter fun c => onlyB a b c.2).isEmpty) = false := by
      cases hw : w12 with
      | false => rfl
      | true => rw [none12 more hw]; rfl
    -- first test
    refine s_seq ?_
    refine s_when (b := false) (et_or (a := false) (b := false) (et_is (et_and (et_test (ev_neNil (K := K) (ed_rowsV (K := K) (ev_var (i := 6) rfl) hq1 (fl1 _ RA4)) (nm1 _))) fun _ => et_B (ev_wi (K := K) (ev_var (i := 4) rfl) (ev_var (i := 5) rfl) PA PB sa sb R hn h12)) i1)
      (fun _ => et_is (et_and (et_test (ev_neNil (K := K) (ed_rowsV (K := K) (ev_var (i := 7) rfl) hq2 (fl1 _ RA4)) (nm1 _))) fun _ => et_B (ev_wi (K := K) (ev_var (i := 5) rfl) (ev_var (i := 4) rfl) PB PA sb sa R.symm hn h21)) i2)) (fun z => nomatch z) fun _ H5 e5 => ?_
    have e05 := e04.trans e5
    have PA := PA.mono e5
    have PB := PB.mono e5
    -- second test
    dsimp only
    refine s_seq ?_
    refine s_when (b := false) (et_is (et_and (et_B (ev_wi (K := K) (ev_var (i := 4) rfl) (ev_var (i := 5) rfl) PA PB sa sb R hn h12)) fun _ => et_test (ev_neNil (K := K) (ed_rows (K := K) (el_oy (a := a) (b := b) (ev_var (i := 0) rfl) (ev_var (i := 1) rfl) (ev_var (i := 3) rfl) (Ta.mono e05) (Tb.mono e05) R.ma R.mb (e05 _ _ hll) (fun c hc => e05 _ _ (RM c hc)) (fun c hc => (hmore c hc).2) hml) (fl1 _ (fun c hc => e05 _ _ (RM c hc)))) (nm2 _))) i3) (fun z => nomatch z) fun _ H6 e6 => ?_
    have e06 := e05.trans e6
    have e46 := e5.trans e6
    have PA := PA.mono e6
    have PB := PB.mono e6
    -- parting
    dsimp only
    refine s_seq ?_
    refine ⟨_, rfl, _, rfl, .ref o1, .ref o2, A, B, 65537, rfl, .inl ⟨o1, rfl, PA⟩, .inl ⟨o2, rfl, PB⟩, R.pg hn sa sb, fun H7 e7 heq => ?_, fun p ws H7 e7 hp hne hnm hmin hlen => ?_⟩
    · dsimp only [gName, List.set]
      have hab : ∀ w, a.L w ↔ b.L w := fun w => ((sa.words w).symm.trans (heq w)).trans (sb.words w)
      have t12 : w12 = true := h12.mpr fun w => (hab w).mp
      have t21 : w21 = true := h21.mpr fun w => (hab w).mpr
      have PA := PA.mono e7
      have PB := PB.mono e7
      refine s_seq ?_
      refine s_when (b := false) (et_test (ev_is (ev_op (ev_isNo (ev_var (i := 8) rfl)) (ev_andV (a := w12) (b := w21) (ev_wi (K := K) (ev_var (i := 4) rfl) (ev_var (i := 5) rfl) PA PB sa sb R hn h12) fun _ => ev_wi (K := K) (ev_var (i := 5) rfl) (ev_var (i := 4) rfl) PB PA sb sa R.symm hn h21) (rv_ne rfl)) (by rw [t12, t21]; rfl))) (fun z => nomatch z) fun _ H8 e8 => ?_
      refine s_seq ?_
      refine s_when (b := true) (et_test (ev_is (ev_isNo (ev_var (i := 8) rfl)) rfl)) (fun _ H9 e9 => ?_) fun z => nomatch z
      have e49 := ((e46.trans e7).trans e8).trans e9
      have hcat := el_cat2 (σ := [some (.ref r1), some (.ref r2), some (.ref lw), some (.ref ll), some (.ref o1), some (.ref o2), some (.ref q1), some (.ref q2), some .non, none]) (H := H9) (ta := tVar 6) (tb := tVar 7) (ev_var rfl) (e49 _ _ hq1) (ev_var rfl) (e49 _ _ hq2) (by rw [rfs_len, rfs_len]; have := len_flt rows (fun c => onlyB a b c.2); have := len_flt rows (fun c => onlyB b a c.2); omega)
      rw [none12 rows t12, none21 rows t21] at hcat
      exact s_ret (v := .bl true) (ev_eqNil (K := K) (rows := []) (ed_rows (K := K) hcat fun _ h => nomatch h) fun _ h => nomatch h) fun H10 e10 => k H10 ((e04.trans e49).trans e10)
    · dsimp only [gName, List.set]
      have hne : ¬ (a.L ws ↔ b.L ws) := fun z => hne (((sa.words ws).trans z).trans (sb.words ws).symm)
      have hmin : ∀ w', w'.length < ws.length → (a.L w' ↔ b.L w') := fun w' h => ((sa.words w').symm.trans (hmin w' h)).trans (sb.words w')
      have hws := R.sh ws hne hmin
      have hboth : (w12 && w21) = false := by
        cases q1 : w12 with
        | false => rfl
        | true =>
          cases q2 : w21 with
          | false => rfl
          | true => exact absurd ⟨h12.mp q1 ws, h21.mp q2 ws⟩ hne
      have PA := PA.mono e7
      have PB := PB.mono e7
      refine s_seq ?_
      refine s_when (b := false) (et_test (ev_is (ev_op (ev_isNo (ev_var (i := 8) rfl)) (ev_andV (a := w12) (b := w21) (ev_wi (K := K) (ev_var (i := 4) rfl) (ev_var (i := 5) rfl) PA PB sa sb R hn h12) fun _ => ev_wi (K := K) (ev_var (i := 5) rfl) (ev_var (i := 4) rfl) PB PA sb sa R.symm hn h21) (rv_ne rfl)) (by rw [hboth]; rfl))) (fun z => nomatch z) fun _ H8 e8 => ?_
      refine s_seq ?_
      refine s_when (b := false) (et_test (ev_is (ev_isNo (ev_var (i := 8) rfl)) rfl)) (fun z => nomatch z) fun _ H9 e9 => ?_
      have e79 := e8.trans e9
      have e49 := (e46.trans e7).trans e79
      have hp9 := e79 _ _ hp
      obtain ⟨ba, hba⟩ : ∃ v : Bool, v = true ↔ a.L ws := by
        by_cases h : a.L ws
        · exact ⟨true, fun _ => h, fun _ => rfl⟩
        · exact ⟨false, (fun z => nomatch z), fun z => absurd z h⟩
      obtain ⟨bb, hbb⟩ : ∃ v : Bool, v = true ↔ b.L ws := by
        by_cases h : b.L ws
        · exact ⟨true, fun _ => h, fun _ => rfl⟩
        · exact ⟨false, (fun z => nomatch z), fun z => absurd z h⟩
      have hdif : decide (V.bl ba = V.bl bb) = false := decide_eq_false fun z => hne (by
        injection z with z
        rw [← hba, ← hbb, z])
      have e09 := e04.trans e49
      have hisi : Ev (tCB (rIsi K) (tCons (tVar 8) (tCons (tC (V.ty "tuple")) tNil))) [some (.ref r1), some (.ref r2), some (.ref lw), some (.ref ll), some (.ref o1), some (.ref o2), some (.ref q1), some (.ref q2), some (.ref p), none] H9 (.bl true) := fun G g Q1 q1 => ⟨_, rfl, V.ref p, V.ty "tuple", .type "tuple", .type "tuple", true, rfl, .ty _, .base (.tup (g _ _ hp9)), kit_ty (by decide +kernel), q1 G (Ex.refl _)⟩
      have hlis : EvL (tCB (rListS K) (tCons (tVar 8) tNil)) [some (.ref r1), some (.ref r2), some (.ref lw), some (.ref ll), some (.ref o1), some (.ref o2), some (.ref q1), some (.ref q2), some (.ref p), none] H9 (vtx ws) := el_listT (K := K) (ev_var (i := 8) rfl) (st_of hp9)
      refine s_seq ?_
      refine s_when (b := false) (et_or (a := false) (b := false) (et_not (a := true) (et_B hisi))
        (fun _ => et_test (ev_is (ev_op (ev_iwL (ev_var (i := 0) rfl) hlis (Ta.mono e09) R.ma (by omega) hba) (ev_iwL (ev_var (i := 1) rfl) hlis (Tb.mono e09) R.mb (by omega) hbb) (rv_eq rfl)) (congrArg V.bl hdif)))) (fun z => nomatch z) fun _ H10 e10 => ?_
      have e410 := e49.trans e10
      have e710 := e79.trans e10
      have RA10 : RwsAt H10 rows := fun c hc => e410 _ _ (RA4 c hc)
      obtain ⟨L, hL⟩ : ∃ L : Rws, L = (rows.filter fun c => onlyB a b c.2) ++ (rows.filter fun c => onlyB b a c.2) := ⟨_, rfl⟩
      have hcat := el_cat2 (σ := [some (.ref r1), some (.ref r2), some (.ref lw), some (.ref ll), some (.ref o1), some (.ref o2), some (.ref q1), some (.ref q2), some (.ref p), none]) (H := H10) (ta := tVar 6) (tb := tVar 7) (ev_var rfl) (e410 _ _ hq1) (ev_var rfl) (e410 _ _ hq2) (by rw [rfs_len, rfs_len]; have := len_flt rows (fun c => onlyB a b c.2); have := len_flt rows (fun c => onlyB b a c.2); omega)
      rw [rfs_app, ← hL] at hcat
      have hLm : ∀ c ∈ L, c ∈ rows ∧ ¬ (c.2.length < ws.length) := fun c hc => by
        rw [hL] at hc
        rcases List.mem_append.mp hc with hc | hc
        · obtain ⟨h1, h2⟩ := List.mem_filter.mp hc
          obtain ⟨h3, h4⟩ := onlyB_iff.mp h2
          exact ⟨h1, fun z => h4 ((hmin c.2 z).mp h3)⟩
        · obtain ⟨h1, h2⟩ := List.mem_filter.mp hc
          obtain ⟨h3, h4⟩ := onlyB_iff.mp h2
          exact ⟨h1, fun z => h4 ((hmin c.2 z).mpr h3)⟩
      have hLl : L.length ≤ 2000 := by
        rw [hL, List.length_append]
        have := len_flt rows (fun c => onlyB a b c.2)
        have := len_flt rows (fun c => onlyB b a c.2)
        omega
      have hlc := el_lcF (K := K) (σ := [some (.ref r1), some (.ref r2), some (.ref lw), some (.ref ll), some (.ref o1), some (.ref o2), some (.ref q1), some (.ref q2), some (.ref p), none]) (H := H10) (ys := L) (g := fun c : Addr × List Nm => V.ref c.1) (tl := tOp rCat (tVar 6) (tVar 7)) (te := tVar 9) (j := 9) (vs := [9])
        (tt := tTest (tOp (rI0 fun i j => .bl (decide (i < j))) (tCB (fun xs H Q => ∃ x n, xs = [x] ∧ LenV K x H n ∧ Q (.int n) H) (tCons (tVar 9) tNil)) (tCB (fun xs H Q => ∃ x n, xs = [x] ∧ LenV K x H n ∧ Q (.int n) H) (tCons (tVar 8) tNil)))) (fun _ => false) (fun c => V.ref c.1) hcat (by omega) (fun _ => rfl)
        (fun c G g hc => et_test (ev_is (ev_op (ev_lenA (ev_var (i := 9) rfl) (sq_of (g _ _ (RA10 c (hLm c hc).1)))) (ev_lenT (K := K) (ev_var (i := 8) rfl) (st_of ((e710.trans g) _ _ hp))) rv_I0) (by
          rw [vtx_len, vtx_len]
          exact congrArg V.bl (decide_eq_false fun z => (hLm c hc).2 (by omega)))))
        (fun c G g hc hf => nomatch hf)
      have hz : (L.filter fun _ => false).map (fun c : Addr × List Nm => V.ref c.1) = [] := by
        rw [List.filter_eq_nil_iff.mpr (fun _ _ z => Bool.noConfusion z)]
        rfl
      rw [hz] at hlc
      exact s_ret (v := .bl true) (ev_eqNil (K := K) (rows := []) (ed_rows (K := K) hlc fun _ h => nomatch h) fun _ h => nomatch h) fun H11 e11 => k H11 ((e04.trans e410).trans e11)
end
end K14

set_option Elab.async false
set_option linter.all false
set_option maxRecDepth 100000
set_option maxHeartbeats 4000000
/-! The second pattern, drawn. -/
namespace K14
open PySem PySem.Spec PyProof.Rows L2 Vl Evl Vp Vc Ve Ven Vg Vb Vt Vlt Vsa Vle Vo Vr Vda Vw Vx2 Vtx Vlk Vpt Vwy
abbrev sSe : Stmt := top 72
abbrev nSe : List Str := ["_law_pool_here", "_law_names_here", "_law_one", "_law_kind"]
def isRep : Tr → Bool
  | .rep _ => true
  | _ => false
def Sec (xs : List Nm) (a b : Tr) : Prop := b = .opt a ∨ (∃ t, TrOk xs 1 t ∧ b = .eith t a) ∨ (∃ x ∈ xs, b = .eith a (.atom false [x])) ∨ (∃ x, a = .rep x ∧ b = .rep (.rep x)) ∨ TrOk xs 2 b
def spSe : Sp := fun vs H Q _ => ∃ (p q r : Addr) (xs : List Nm) (Hk : Hp) (n : Nat) (a : Tr), vs = [.ref p, .ref q, .ref r] ∧ Pl Hk p n H ∧ n ≤ 1000 ∧ Hk q = some (.lst (vtx xs)) ∧ 1 ≤ xs.length ∧ xs.length ≤ 1000 ∧ TrAt Hk a r ∧
  ∀ r2 b k H', Pl Hk p k H' → k ≤ n + 200 → TrAt H' b r2 → Sec xs a b → Q (.ref r2) H'
section
variable {K : PySem.W.Frag} {te ta tb : TE} {σ : L2.St} {H : Hp} {t1 t2 : Tr}
theorem evt_mk2 {k : String} {mk : Tr → Tr → Tr} (hk : ∀ (G : Hp) p r1 r2, G p = some (.tup [tS k, .ref r1, .ref r2]) → TrAt G t1 r1 → TrAt G t2 r2 → TrAt G (mk t1 t2) p) (h1 : EvTr te σ H t1) (h2 : EvTr tb σ H t2) : EvTr (tTup (tCons (tC (tS k)) (tCons te (tCons tb tNil)))) σ H (mk t1 t2) := fun H1 e Q q =>
  h1 H1 e _ fun r1 H2 e2 T1 => h2 H2 (e.trans e2) _ fun r2 H3 e3 T2 => ⟨sz_of (by show 3 ≤ 100000; omega), fun p np => q p _ ((e2.trans e3).trans (Ex.new np)) (hk _ p r1 r2 upd_same ((T1.mono e3).mono (Ex.new np)) (T2.mono (Ex.new np)))⟩
theorem evt_mk1 {k : String} {mk : Tr → Tr} (hk : ∀ (G : Hp) p r1, G p = some (.tup [tS k, .ref r1]) → TrAt G t1 r1 → TrAt G (mk t1) p) (h1 : EvTr te σ H t1) : EvTr (tTup (tCons (tC (tS k)) (tCons te tNil))) σ H (mk t1) := fun H1 e Q q =>
  h1 H1 e _ fun r1 H3 e3 T1 => ⟨sz_of (by show 2 ≤ 100000; omega), fun p np => q p _ (e3.trans (Ex.new np)) (hk _ p r1 upd_same (T1.mono (Ex.new np)))⟩
theorem evt_any0 {x : Nm} (h : EvL te σ H (vtx [x])) : EvTr (tTup (tCons (tC (tS "any")) (tCons te tNil))) σ H (.atom false [x]) := fun H1 e Q q =>
  h H1 e _ fun l H2 nl e2 hl => ⟨sz_of (by show 2 ≤ 100000; omega), fun p np => q p _ (e2.trans (Ex.new np)) ⟨l, upd_same, (Ex.new np) _ _ hl⟩⟩
theorem evt_any {x : Nm} (h : Ev te σ H (.str (tx x))) : EvTr (tTup (tCons (tC (tS "any")) (tCons (tLst (tCons te tNil)) tNil))) σ H (.atom false [x]) := evt_any0 (el_lst (ea_cons h ea_nil) (by show 1 ≤ 100000; omega))
end
section
variable {P : Program} {w : World} {K : PySem.W.Frag} {mg : Str → Option Value} {base : Heap} {CA CP : Addr}
theorem scSe : FnScope nSe ["_law_pool_here", "_law_names_here", "_law_one"] (defScope sSe) := ⟨rfl, rfl, rfl, by decide +kernel, rfl, by decide +kernel, by decide +kernel⟩
theorem ok_se {f : Addr} {fd : FuncData} (F : FnP K "_law_second" sSe f fd) (TT : Fu P w K mg base L2.CX0 1 "_law_take" spTake) (TTr : Fu P w K mg base L2.CX0 5 "_law_tree" (spTr 4)) : FnOk P w K mg base L2.CX0 6 f fd ["_law_pool_here", "_law_names_here", "_law_one"] spSe := by
  refine F.ok (CX := L2.CX0) scSe (fun vs H Q E h => ?_) (fun cdv A' outer s H vs Q E hr h => ?_)
  · obtain ⟨p, q, r, xs, Hk, n, a, rfl, _⟩ := h
    rfl
  · refine ⟨_, (pss_cons (ps_set (i := 3) scSe.nd rfl (by first | exact Or.inl rfl | exact Or.inr rfl) (pe_fu TT hr (by rfl) (pa_cons (pv 0) (pa_cons pe_int pa_nil))))
      (pss_cons (ps_if (pt_cmpR op_eq (pv 3) pe_int (nomark _)) (pss_one (ps_ret (pe_tup (pa_cons pe_str (pa_cons (pv 2) pa_nil))))) pss_nil)
      (pss_cons (ps_if (pt_cmpR op_eq (pv 3) pe_int (nomark _)) (pss_one (ps_ret (pe_tup (pa_cons pe_str (pa_cons (pe_fu TTr hr (by rfl) (pa_cons (pv 0) (pa_cons (pv 1) (pa_cons pe_int pa_nil)))) (pa_cons (pv 2) pa_nil)))))) pss_nil)
      (pss_cons (ps_if (pt_cmpR op_eq (pv 3) pe_int (nomark _)) (pss_one (ps_ret (pe_tup (pa_cons pe_str (pa_cons (pv 2) (pa_cons (pe_tup (pa_cons pe_str (pa_cons (pe_lst (pa_cons (pe_ix ix_list (pv 1) pe_int fun _ _ => rfl) pa_nil)) pa_nil))) pa_nil)))))) pss_nil)
      (pss_cons (ps_if (PW.pt (pw_and (pt_cmpR op_eq (pv 3) pe_int (nomark _)) (pw_and1 (pt_cmpR op_eq (pe_ix ix_tup (pv 2) pe_int fun _ _ => rfl) pe_str (nomark _))))) (pss_one (ps_ret (pe_tup (pa_cons pe_str (pa_cons (pe_tup (pa_cons pe_str (pa_cons (pe_ix ix_tup (pv 2) pe_int fun _ _ => rfl) pa_nil))) pa_nil))))) pss_nil)
      (pss_one (ps_ret (pe_fu TTr hr (by rfl) (pa_cons (pv 0) (pa_cons (pv 1) (pa_cons pe_int pa_nil))))))))))), ?_⟩
    obtain ⟨p, q, r, xs, Hk, n, a, rfl, P0, hn, hq, hx1, hx2, Ta, k⟩ := h
    refine s_seq ?_
    refine ⟨_, rfl, p, 6, Hk, n, rfl, by omega, by omega, P0, by omega, fun rn H1 n0 n1 P1 => ?_⟩
    obtain ⟨z, rfl⟩ := Int.eq_ofNat_of_zero_le n0
    dsimp only [gName, List.set]
    have Ta1 := Ta.mono P1.ex
    have hq1 := P1.ex _ _ hq
    have tst : ∀ (c : Nat) {G : Hp}, EvT (tTest (tOp rEq (tVar 3) (tC (.int (c : Nat))))) [some (.ref p), some (.ref q), some (.ref r), some (.int (z : Int))] G (decide (z = c)) := fun c G => et_test (ev_is (ev_op (ev_var rfl) ev_c (rv_eq rfl)) (congrArg V.bl (decide_eq_decide.mpr ⟨fun h => by injection h with h; exact Int.ofNat.inj h, fun h => by rw [h]⟩)))
    refine s_seq ?_
    refine s_when (b := decide (z = 0)) (tst 0) (fun hb H2 e2 => ?_) fun hb H2 e2 => ?_
    · refine evt_mk1 (k := "option") (mk := .opt) (fun G pp r1 h1 h2 => ⟨r1, h1, h2⟩) (evt_var (i := 2) (σ := [some (.ref p), some (.ref q), some (.ref r), some (.int (z : Int))]) rfl (Ta1.mono e2)) H2 (Ex.refl _) _ fun r2 H3 e3 T3 => ?_
      exact k r2 (.opt a) _ H3 (P1.grow (e2.trans e3)) (by omega) T3 (.inl rfl)
    have P2 := P1.grow e2
    have Ta2 := Ta1.mono e2
    have hq2 := e2 _ _ hq1
    dsimp only
    refine s_seq ?_
    refine s_when (b := decide (z = 1)) (tst 1) (fun hb H3 e3 => ?_) fun hb H3 e3 => ?_
    · have P3 := P2.grow e3
      refine ⟨_, rfl, _, rfl, p, q, (1 : Nat), xs, Hk, n + 1, rfl, (show 1 ≤ 3 by decide), P3, by show n + 1 + cnT 1 ≤ 90000; have : cnT 1 = 24 := rfl; omega, hq, hx1, hx2, fun r1 t k2 H4 P4 hk2 T4 O4 => ?_⟩
      refine ⟨_, rfl, sz_of (by show 3 ≤ 100000; omega), fun pt npt => ?_⟩
      have hc : cnT 1 = 24 := rfl
      exact k pt (.eith t a) k2 _ (P4.new npt) (by omega) ⟨r1, r, upd_same, T4.mono (Ex.new npt), (Ta.mono P4.ex).mono (Ex.new npt)⟩ (.inr (.inl ⟨t, O4, rfl⟩))
    have P3 := P2.grow e3
    have Ta3 := Ta2.mono e3
    have hq3 := e3 _ _ hq2
    dsimp only
    refine s_seq ?_
    refine s_when (b := decide (z = 2)) (tst 2) (fun hb H4 e4 => ?_) fun hb H4 e4 => ?_
    · obtain ⟨x, r', rfl⟩ : ∃ x r', xs = x :: r' := by
        cases xs with
        | nil => exact absurd hx1 (by decide)
        | cons x r' => exact ⟨x, r', rfl⟩
      refine evt_mk2 (k := "either") (mk := .eith) (fun G pp r1 r2 h1 h2 h3 => ⟨r1, r2, h1, h2, h3⟩) (evt_var (i := 2) (σ := [some (.ref p), some (.ref q), some (.ref r), some (.int (z : Int))]) rfl (Ta3.mono e4)) (evt_any (ev_ixA (K := K) (i := 0) (ev_var (i := 1) rfl) (sq_of (e4 _ _ hq3)) (vtx_at rfl))) H4 (Ex.refl _) _ fun r2 H5 e5 T5 => ?_
      exact k r2 (.eith a (.atom false [x])) _ H5 (P3.grow (e4.trans e5)) (by omega) T5 (.inr (.inr (.inl ⟨x, List.mem_cons_self, rfl⟩)))
    have P4 := P3.grow e4
    have Ta4 := Ta3.mono e4
    have hq4 := e4 _ _ hq3
    dsimp only
    refine s_seq ?_
    have last : ∀ {H5 : Hp}, Ex H4 H5 → tRet (tFu (spTr 4) (fun _ => nil0) (tCons (tVar 0) (tCons (tVar 1) (tCons (tC (.int 2)) tNil)))) { nx := fun _ H2 => Q .non H2, rt := fun v H2 => Q v H2, bk := fun _ _ => False, ct := fun _ _ => False } [some (.ref p), some (.ref q), some (.ref r), some (.int (z : Int))] H5 := fun {H5} e5 => by
      refine ⟨_, rfl, _, rfl, p, q, (2 : Nat), xs, Hk, n + 1, rfl, (show 2 ≤ 3 by decide), P4.grow e5, by show n + 1 + cnT 2 ≤ 90000; have : cnT 2 = 56 := rfl; omega, hq, hx1, hx2, fun r1 t k2 H6 P6 hk2 T6 O6 => ?_⟩
      have hc : cnT 2 = 56 := rfl
      exact k r1 t k2 H6 P6 (by omega) T6 (.inr (.inr (.inr (.inr O6))))
    have knd : EvT (tTest (tOp rEq (tOp (rIxT K) (tVar 2) (tC (.int 0))) (tC (tS "repeat")))) [some (.ref p), some (.ref q), some (.ref r), some (.int (z : Int))] H4 (isRep a) := by
      cases a with
      | atom neg ns =>
        obtain ⟨l, h1, _⟩ := Ta4
        exact et_knd (i := 2) (k := if neg then "none" else "any") rfl h1 rfl (by cases neg <;> (show decide _ = false; decide +kernel))
      | thn b c =>
        obtain ⟨q1, q2, h1, _⟩ := Ta4
        exact et_knd (i := 2) rfl h1 rfl (by show decide _ = false; decide +kernel)
      | eith b c =>
        obtain ⟨q1, q2, h1, _⟩ := Ta4
        exact et_knd (i := 2) rfl h1 rfl (by show decide _ = false; decide +kernel)
      | rep b =>
        obtain ⟨q1, h1, _⟩ := Ta4
        exact et_knd (i := 2) rfl h1 rfl (by show decide _ = true; decide +kernel)
      | opt b =>
        obtain ⟨q1, h1, _⟩ := Ta4
        exact et_knd (i := 2) rfl h1 rfl (by show decide _ = false; decide +kernel)
    refine s_when (b := decide (z = 3) && isRep a) (et_and (tst 3) fun _ => knd) (fun hb H5 e5 => ?_) fun hb H5 e5 => last e5
    obtain ⟨x, rfl⟩ : ∃ x, a = .rep x := by
      cases a with
      | rep x => exact ⟨x, rfl⟩
      | _ => rw [show isRep _ = false from rfl, Bool.and_false] at hb; cases hb
    obtain ⟨q1, h1, Tx⟩ := Ta4.mono e5
    refine evt_mk1 (k := "repeat") (mk := .rep) (fun G pp r1 h1 h2 => ⟨r1, h1, h2⟩) (evt_mk1 (k := "repeat") (mk := .rep) (t1 := x) (te := tOp (rIxT K) (tVar 2) (tC (.int 1))) (σ := [some (.ref p), some (.ref q), some (.ref r), some (.int (z : Int))]) (H := H5) (fun G pp r1 h1 h2 => ⟨r1, h1, h2⟩) fun G g Q1 qq => (ev_tix (K := K) (i := 2) (j := 1) rfl h1 rfl) G g _ fun G2 g2 => qq q1 G2 g2 (Tx.mono (g.trans g2))) H5 (Ex.refl _) _ fun r2 H6 e6 T6 => ?_
    exact k r2 (.rep (.rep x)) _ H6 (P4.grow (e5.trans e6)) (by omega) T6 (.inr (.inr (.inr (.inl ⟨x, rfl, rfl⟩))))
end
end K14

set_option Elab.async false
set_option linter.all false
set_option maxRecDepth 100000
set_option maxHeartbeats 4000000
/-! What the law draws may be compared. -/
namespace K14
open PySem PySem.Spec PyProof.Rows L2 Vl Evl Vp Vc Ve Ven Vg Vb Vt Vlt Vsa Vle Vo Vr Vda Vw Vx2 Vtx Vlk Vpt Vwy
theorem TrOk.sub {xs ys : List Nm} (h : ∀ l ∈ ys, l ∈ xs) : ∀ {t : Tr} {d : Nat}, TrOk ys d t → TrOk xs d t
  | .atom neg ns, d, o => by
    have o : (∀ l ∈ ns, l ∈ ys) ∧ ns.length ≤ 2 ∧ (neg = false → 1 ≤ ns.length) := by cases d <;> exact o
    have o2 : (∀ l ∈ ns, l ∈ xs) ∧ ns.length ≤ 2 ∧ (neg = false → 1 ≤ ns.length) := ⟨fun l hl => h l (o.1 l hl), o.2⟩
    cases d <;> exact o2
  | .thn a b, d + 1, o => ⟨TrOk.sub h o.1, TrOk.sub h o.2⟩
  | .eith a b, d + 1, o => ⟨TrOk.sub h o.1, TrOk.sub h o.2⟩
  | .rep a, d + 1, o => TrOk.sub (t := a) (d := d) h o
  | .opt a, d + 1, o => TrOk.sub (t := a) (d := d) h o
theorem tr_dp {xs : List Nm} : ∀ {t : Tr} {d : Nat}, TrOk xs d t → dp t ≤ d
  | .atom neg ns, d, h => Nat.zero_le _
  | .thn a b, d + 1, h => by have h1 := tr_dp h.1; have h2 := tr_dp h.2; show max (dp a) (dp b) + 1 ≤ d + 1; omega
  | .eith a b, d + 1, h => by have h1 := tr_dp h.1; have h2 := tr_dp h.2; show max (dp a) (dp b) + 1 ≤ d + 1; omega
  | .rep a, d + 1, h => by have h1 := tr_dp (t := a) h; show dp a + 1 ≤ d + 1; omega
  | .opt a, d + 1, h => by have h1 := tr_dp (t := a) h; show dp a + 1 ≤ d + 1; omega
theorem ms_le {xs : List Nm} {n : Nat} (hn : 1 ≤ n) : ∀ {t : Tr} {d : Nat}, TrOk xs d t → mS n t ≤ (n + 1) ^ d
  | .atom neg ns, d, h => Nat.one_le_pow _ _ (by omega)
  | .thn a b, d + 1, h => by
    have h2 := ms_le hn h.2
    show n * mS n b ≤ _
    rw [Nat.pow_succ, Nat.mul_comm]
    exact Nat.mul_le_mul h2 (Nat.le_succ n)
  | .eith a b, d + 1, h => by
    have h1 := ms_le hn h.1
    have h2 := ms_le hn h.2
    show mS n a + mS n b ≤ _
    rw [Nat.pow_succ]
    have : (n + 1) ^ d * 2 ≤ (n + 1) ^ d * (n + 1) := Nat.mul_le_mul_left _ (by omega)
    omega
  | .rep a, d + 1, h => by
    show n ≤ _
    rw [Nat.pow_succ]
    have h1 : 1 ≤ (n + 1) ^ d := Nat.one_le_pow _ _ (by omega)
    have : 1 * (n + 1) ≤ (n + 1) ^ d * (n + 1) := Nat.mul_le_mul_right _ h1
    omega
  | .opt a, d + 1, h => by
    have h1 := ms_le (t := a) hn h
    have h2 : 1 ≤ (n + 1) ^ d := Nat.one_le_pow _ _ (by omega)
    show 1 + mS n a ≤ _
    rw [Nat.pow_succ]
    have : (n + 1) ^ d * 2 ≤ (n + 1) ^ d * (n + 1) := Nat.mul_le_mul_left _ (by omega)
    omega
theorem pw259 {n d : Nat} (hn : n ≤ 258) : (n + 1) ^ d ≤ 259 ^ d := Nat.pow_le_pow_left (by omega) d
theorem mo_of {xs : List Nm} {n : Nat} (h1 : 1 ≤ n) (hn : n ≤ 258) : ∀ {t : Tr} {d : Nat}, d ≤ 2 → TrOk xs d t → MO n t
  | .atom neg ns, d, _, h => trivial
  | .thn a b, d + 1, hd, h => by
    have m1 := Nat.le_trans (ms_le h1 h.1) (pw259 hn)
    have m2 := Nat.le_trans (ms_le h1 h.2) (pw259 hn)
    have p : 259 ^ d ≤ 259 ^ 1 := Nat.pow_le_pow_right (by decide) (by omega)
    have p1 : 259 ^ 1 = 259 := rfl
    refine ⟨mo_of h1 hn (by omega) h.1, mo_of h1 hn (by omega) h.2, by omega, ?_⟩
    have : n * mS n b ≤ 258 * 259 := Nat.mul_le_mul hn (by omega)
    omega
  | .eith a b, d + 1, hd, h => by
    have m1 := Nat.le_trans (ms_le h1 h.1) (pw259 hn)
    have m2 := Nat.le_trans (ms_le h1 h.2) (pw259 hn)
    have p : 259 ^ d ≤ 259 ^ 1 := Nat.pow_le_pow_right (by decide) (by omega)
    have p1 : 259 ^ 1 = 259 := rfl
    exact ⟨mo_of h1 hn (by omega) h.1, mo_of h1 hn (by omega) h.2, by omega⟩
  | .rep a, d + 1, hd, h => mo_of (t := a) h1 hn (show d ≤ 2 by omega) h
  | .opt a, d + 1, hd, h => by
    have m1 := Nat.le_trans (ms_le (t := a) h1 h) (pw259 hn)
    have p : 259 ^ d ≤ 259 ^ 1 := Nat.pow_le_pow_right (by decide) (by omega)
    have p1 : 259 ^ 1 = 259 := rfl
    exact ⟨mo_of (t := a) h1 hn (show d ≤ 2 by omega) h, by omega⟩
theorem ms2 {xs : List Nm} {n : Nat} {t : Tr} (h1 : 1 ≤ n) (hn : n ≤ 258) (o : TrOk xs 2 t) : mS n t ≤ 67081 := Nat.le_trans (ms_le h1 o) (Nat.le_trans (pw259 hn) (by decide))
theorem ms1 {xs : List Nm} {n : Nat} {t : Tr} (h1 : 1 ≤ n) (hn : n ≤ 258) (o : TrOk xs 1 t) : mS n t ≤ 259 := Nat.le_trans (ms_le h1 o) (Nat.le_trans (pw259 hn) (by decide))
theorem mt_of {xs : List Nm} {t : Tr} (o : TrOk xs 2 t) : MT t := ⟨by have := tr_dp o; omega, fun n h1 hn => mo_of h1 hn (Nat.le_refl 2) o⟩
theorem pr_self {xs : List Nm} {a : Tr} (o : TrOk xs 2 a) : PR xs a a := by
  have h1 := tr_sz o
  have h2 : 2 ^ 2 = 4 := rfl
  exact ⟨TrOk.up o, TrOk.up o, mt_of o, mt_of o, by omega, by omega, fun w h _ => absurd Iff.rfl h⟩
theorem pr_of {xs : List Nm} {a b : Tr} (o : TrOk xs 2 a) (s : Sec xs a b) : PR xs a b := by
  have za := tr_sz o
  have z4 : 2 ^ 2 = 4 := rfl
  have da := tr_dp o
  have ma := mt_of o
  rcases s with rfl | ⟨t, ot, rfl⟩ | ⟨x, hx, rfl⟩ | ⟨x, rfl, rfl⟩ | ob
  · have e : (Tr.opt a).sz = a.sz := rfl
    refine ⟨TrOk.up o, o, ma, ⟨by show dp a + 1 ≤ 3; omega, fun n h1 hn => ⟨ma.mo n h1 hn, by have := ms2 h1 hn o; omega⟩⟩, by omega, by omega, fun w h _ => ?_⟩
    have h : ¬ (a.L w ↔ (w = [] ∨ a.L w)) := h
    by_cases hw : w = []
    · rw [hw]
      exact Nat.zero_le _
    · exact absurd ⟨.inr, fun z => z.elim (fun z => absurd z hw) id⟩ h
  · have zt := tr_sz ot
    have z2 : 2 ^ 1 = 2 := rfl
    have dt := tr_dp ot
    have e : (Tr.eith t a).sz = t.sz + a.sz := List.length_append
    refine ⟨TrOk.up o, ⟨TrOk.up ot, o⟩, ma, ⟨by show max (dp t) (dp a) + 1 ≤ 3; omega, fun n h1 hn => ⟨mo_of h1 hn (by decide) ot, ma.mo n h1 hn, by have := ms2 h1 hn o; have := ms1 h1 hn ot; omega⟩⟩, by omega, by omega, fun w h hs => ?_⟩
    have := short (A := t) (B := a) (cnt_pow (k := 6) (by omega)) (fun p q => ¬ (q ↔ (p ∨ q))) (w := w) h fun w' h' z => z (hs w' h')
    have e2 : 2 ^ 6 + 1 = 65 := rfl
    omega
  · have e : (Tr.eith a (.atom false [x])).sz = a.sz + 1 := List.length_append
    have ox : ∀ d, TrOk xs d (.atom false [x]) := fun d => by
      have : (∀ l ∈ [x], l ∈ xs) ∧ [x].length ≤ 2 ∧ (false = false → 1 ≤ [x].length) := ⟨fun l hl => by rw [List.mem_singleton.mp hl]; exact hx, by show 1 ≤ 2; decide, fun _ => by show 1 ≤ 1; decide⟩
      cases d <;> exact this
    refine ⟨TrOk.up o, ⟨o, ox 2⟩, ma, ⟨by show max (dp a) 0 + 1 ≤ 3; omega, fun n h1 hn => ⟨ma.mo n h1 hn, trivial, by have := ms2 h1 hn o; show mS n a + 1 ≤ _; omega⟩⟩, by omega, by omega, fun w h _ => ?_⟩
    have h : ¬ (a.L w ↔ (a.L w ∨ ∃ y, w = [y] ∧ takes (false, [x]) y = true)) := h
    by_cases hw : ∃ y, w = [y] ∧ takes (false, [x]) y = true
    · obtain ⟨y, rfl, _⟩ := hw
      show 1 ≤ 256
      decide
    · exact absurd ⟨.inl, fun z => z.elim id fun z => absurd z hw⟩ h
  · have o1 : TrOk xs 1 x := o
    have e : (Tr.rep (.rep x)).sz = (Tr.rep x).sz := rfl
    have dx := tr_dp o1
    refine ⟨TrOk.up o, show TrOk xs 1 x from o1, ma, ⟨by show dp x + 1 + 1 ≤ 3; omega, fun n h1 hn => mo_of (t := x) (d := 1) h1 hn (by decide) o1⟩, by omega, by omega, fun w h hs => ?_⟩
    have := short (A := .rep x) (B := .rep (.rep x)) (cnt_pow (k := 8) (by omega)) (fun p q => ¬ (p ↔ q)) (w := w) h fun w' h' z => z (hs w' h')
    have e2 : 2 ^ 8 + 1 = 257 := rfl
    omega
  · have zb := tr_sz ob
    refine ⟨TrOk.up o, TrOk.up ob, ma, mt_of ob, by omega, by omega, fun w h hs => ?_⟩
    have := short (A := a) (B := b) (cnt_pow (k := 8) (by omega)) (fun p q => ¬ (p ↔ q)) (w := w) h fun w' h' z => z (hs w' h')
    have e2 : 2 ^ 8 + 1 = 257 := rfl
    omega
end K14

set_option Elab.async false
set_option linter.all false
set_option maxRecDepth 100000
set_option maxHeartbeats 4000000
/-! Patterns that part behind many lanes, and at a name that is no letter. -/
namespace K14
open PySem PySem.Spec PyProof.Rows L2 Vl Evl Vp Vc Ve Ven Vg Vb Vt Vlt Vsa Vle Vo Vr Vda Vw Vx2 Vtx Vlk Vpt Vwy
abbrev sFa : Stmt := top 75
abbrev nFa : List Str := ["_law_name", "_law_number", "_law_single", "_law_one", "_law_two", "_law_letters", "_law_found"]
theorem pw_L {x : Nm} : ∀ (n : Nat) (w : List Nm), (pw (.atom false [x]) n).L w ↔ w = List.replicate (n + 1) x
  | 0, w => by
    show (∃ y, w = [y] ∧ takes (false, [x]) y = true) ↔ _
    constructor
    · rintro ⟨y, rfl, h⟩
      unfold takes at h
      have : y = x := by simpa using h
      rw [this]
      rfl
    · rintro rfl
      exact ⟨x, rfl, by unfold takes; simp⟩
  | n + 1, w => by
    show (∃ u v, w = u ++ v ∧ (pw (.atom false [x]) n).L u ∧ ∃ y, v = [y] ∧ takes (false, [x]) y = true) ↔ _
    constructor
    · rintro ⟨u, v, rfl, h1, y, rfl, h2⟩
      unfold takes at h2
      have : y = x := by simpa using h2
      rw [(pw_L n u).mp h1, this]
      exact List.replicate_succ'.symm
    · rintro rfl
      exact ⟨List.replicate (n + 1) x, [x], List.replicate_succ', (pw_L n _).mpr rfl, x, rfl, by unfold takes; simp⟩
def lA : List Nm := [[97], [98], [99], [100], [101], [102], [103], [104], [105], [106], [107], [108], [109]]
def lB : List Nm := [[110], [111], [112], [113], [114]]
def lC : List Nm := [[115], [116], [117], [118], [119], [120], [121], [122]]
def tL : Tr := .eith (.eith (.atom false lA) (.atom false lB)) (.atom false lC)
theorem tL_one {w : List Nm} (h : tL.L w) : ∃ y, w = [y] := by
  rcases h with (h | h) | h <;> (obtain ⟨y, hy, _⟩ := h; exact ⟨y, hy⟩)
theorem tL_aa : ¬ tL.L [[97, 97]] := by
  have key : takes (false, lA) [97, 97] = false ∧ takes (false, lB) [97, 97] = false ∧ takes (false, lC) [97, 97] = false := by decide +kernel
  rintro ((⟨y, hy, h⟩ | ⟨y, hy, h⟩) | ⟨y, hy, h⟩)
  · injection hy with hy; rw [← hy, key.1] at h; cases h
  · injection hy with hy; rw [← hy, key.2.1] at h; cases h
  · injection hy with hy; rw [← hy, key.2.2] at h; cases h
theorem tN_L {w : List Nm} : (Tr.atom true []).L w ↔ ∃ y, w = [y] := by
  constructor
  · rintro ⟨y, hy, _⟩
    exact ⟨y, hy⟩
  · rintro ⟨y, rfl⟩
    exact ⟨y, rfl, by unfold takes; simp⟩
theorem srtA : Srt lA lA := ⟨by decide, fun _ => Iff.rfl, by decide +kernel⟩
theorem srtB : Srt lB lB := ⟨by decide, fun _ => Iff.rfl, by decide +kernel⟩
theorem srtC : Srt lC lC := ⟨by decide, fun _ => Iff.rfl, by decide +kernel⟩
theorem tL_nms : nmsOf tL.steps = lA ++ (lB ++ lC) := by decide +kernel
theorem nmL : ∀ y ∈ lA ++ (lB ++ lC), nam y := fun c hc => by
  have key : ∀ c ∈ lA ++ (lB ++ lC), namB c = true := by decide +kernel
  exact namB_iff.mp (key c hc)
theorem okL : PgOk (.atom true []) tL 65537 := ⟨by decide, by decide, by decide, by rw [tL_nms]; decide, (fun _ h => nomatch h), fun y hy => nmL y (by rw [← tL_nms]; exact hy), cnt_pow (k := 16) (by decide), by decide⟩
theorem okL2 : PgOk (.eith tL (.atom true [])) (.atom true []) 65537 := by
  have en : nmsOf (Tr.eith tL (.atom true [])).steps = lA ++ (lB ++ lC) := by decide +kernel
  exact ⟨by decide, by decide, by rw [en]; decide, by decide, fun y hy => nmL y (by rw [← en]; exact hy), (fun _ h => nomatch h), cnt_pow (k := 16) (by decide), by decide⟩
theorem pw_nlen (x : Nm) : ∀ n, (nmsOf (pw (.atom false [x]) n).steps).length = n + 1
  | 0 => rfl
  | n + 1 => by
    show (nmsOf ((pw (.atom false [x]) n).steps ++ ([Op.atom false [x]] ++ [Op.thn]))).length = _
    rw [nmsOf_app, nmsOf_app, List.length_append, pw_nlen x n]
    rfl
theorem pw_nms (x : Nm) : ∀ n, ∀ y ∈ nmsOf (pw (.atom false [x]) n).steps, y = x
  | 0, y, hy => List.mem_singleton.mp hy
  | n + 1, y, hy => by
    have hy : y ∈ nmsOf ((pw (.atom false [x]) n).steps ++ ([Op.atom false [x]] ++ [Op.thn])) := hy
    rw [nmsOf_app, nmsOf_app] at hy
    rcases List.mem_append.mp hy with h | h
    · exact pw_nms x n y h
    · rcases List.mem_append.mp h with h | h
      · exact List.mem_singleton.mp h
      · cases h
theorem far_word {P : List Nm → Prop} {m : Nat} {x : Nm} (hP : ∀ w, P w ↔ w = List.replicate m x) (hm : 1 ≤ m) {ws : List Nm} (hd : ¬ (Star P ws ↔ (ws = [] ∨ P ws))) (hs : ∀ w', w'.length < ws.length → (Star P w' ↔ (w' = [] ∨ P w'))) : ws = List.replicate (2 * m) x := by
  have sub : ∀ w, (w = [] ∨ P w) → Star P w := fun w h => by
    rcases h with rfl | h
    · exact .nil
    · have := Star.app h .nil
      rwa [List.append_nil] at this
  have h1 : Star P ws := Classical.byContradiction fun z => hd ⟨fun h => absurd h z, sub ws⟩
  have h2 : ¬ (ws = [] ∨ P ws) := fun z => hd ⟨fun _ => z, fun _ => h1⟩
  cases h1 with
  | nil => exact absurd (.inl rfl) h2
  | @app u v hu hv =>
    cases hv with
    | nil => exact absurd (.inr (by rw [List.append_nil]; exact hu)) h2
    | @app u2 v2 hu2 hv2 =>
      have eu := (hP u).mp hu
      have eu2 := (hP u2).mp hu2
      have e2 : u ++ u2 = List.replicate (2 * m) x := by
        rw [eu, eu2, List.replicate_append_replicate, Nat.two_mul]
      cases v2 with
      | nil => rw [List.append_nil]; exact e2
      | cons y r =>
        have h3 := (hs (u ++ u2) (by simp only [List.length_append, List.length_cons]; omega)).mp (by
          have := Star.app hu (Star.app hu2 .nil)
          rwa [List.append_nil] at this)
        rw [e2] at h3
        rcases h3 with h3 | h3
        · have := congrArg List.length h3
          rw [List.length_replicate] at this
          have : 2 * m = 0 := this
          omega
        · have := congrArg List.length ((hP _).mp h3)
          rw [List.length_replicate, List.length_replicate] at this
          omega
theorem far_two {P : List Nm → Prop} {m : Nat} {x : Nm} (hP : ∀ w, P w ↔ w = List.replicate m x) (hm : 1 ≤ m) : Star P (List.replicate (2 * m) x) ∧ ¬ (List.replicate (2 * m) x = [] ∨ P (List.replicate (2 * m) x)) := by
  refine ⟨?_, fun h => ?_⟩
  · have h1 : P (List.replicate m x) := (hP _).mpr rfl
    have := Star.app h1 (Star.app h1 .nil)
    rwa [List.append_nil, List.replicate_append_replicate, ← Nat.two_mul] at this
  · rcases h with h3 | h3
    · have := congrArg List.length h3
      rw [List.length_replicate] at this
      have : 2 * m = 0 := this
      omega
    · have := congrArg List.length ((hP _).mp h3)
      rw [List.length_replicate, List.length_replicate] at this
      omega
theorem far_sub {P : List Nm → Prop} (w : List Nm) (h : w = [] ∨ P w) : Star P w := by
  rcases h with rfl | h
  · exact .nil
  · have := Star.app h .nil
    rwa [List.append_nil] at this
section
variable {K : PySem.W.Frag} {σ : L2.St} {H : Hp} {ta tb te : TE} {E : L2.St → XK} {CA CP CN : Addr} {T T1 T2 : Tr}
theorem srt1 (x : Nm) : Srt [x] [x] := ⟨by simp, fun _ => Iff.rfl, rfl⟩
theorem srt0 : Srt [] [] := ⟨List.nodup_nil, fun _ => Iff.rfl, rfl⟩
theorem evp_anZ {neg : Bool} {ns zs : List Nm} {t : TA} (h : EvA t σ H (vtx ns)) (hz : Srt zs ns) (hn : ∀ x ∈ ns, nam x) (h1 : neg = false → 1 ≤ ns.length) (hl : ns.length ≤ 60) : EvP K CP CA (tFuR (Vsa.spSt (spAn K CP CA neg)) nil0 t) σ H (.atom neg zs) := fun H1 e Q q =>
  h H1 e _ fun H2 e2 => ⟨by rw [vtx_len]; omega, fun pa npa => ⟨pa, ns, rfl, upd_same, hn, h1, hl, fun o ys H3 no e3 hs PA => by
    obtain rfl := Srt.one hs hz fun _ => Iff.rfl
    exact q o H3 ((e2.trans (Ex.new npa)).trans e3) PA⟩⟩
theorem evp_mul3 {E : L2.St → XK} {k : Nat} (h1 : EvP K CP CA ta σ H T1) (h2 : Ev tb σ H (.int ((k + 1 : Nat) : Int))) (hk : k ≤ 60) (hl : Tr.nd (pw T1 k) ≤ 60) : EvP K CP CA (Vw.tOw CP (spMul K CP CA CN) E ta tb) σ H (pw T1 k) := fun H1 e Q q =>
  h1 H1 e _ fun o1 H2 e2 P1 => h2 H2 (e.trans e2) _ fun H3 e3 => by
    have P1 := P1.mono e3
    obtain ⟨dx, sa, a, rs, hi1, _⟩ := id P1
    exact ⟨o1, dx, _, "int", rfl, hi1, .inr (.inl ⟨_, rfl, rfl⟩), o1, _, T1, rfl, P1, .inl ⟨k, rfl, hk, hl, fun o H4 _ e4 P => q o H4 ((e2.trans e3).trans e4) P⟩⟩
theorem evp_bin3 {mk : Tr → Tr → Tr} {E : L2.St → XK} (h1 : EvP K CP CA ta σ H T1) (h2 : EvP K CP CA tb σ H T2) (hl : Tr.nd T1 + Tr.nd T2 ≤ 59) : EvP K CP CA (Vo2.tOwS CP (spBn K CP CA mk) E ta tb) σ H (mk T1 T2) := fun H1 e Q q =>
  h1 H1 e _ fun o1 H2 e2 P1 => h2 H2 (e.trans e2) _ fun o2 H3 e3 P2 => by
    have P1 := P1.mono e3
    obtain ⟨dx, sa, a, rs, hi1, _⟩ := id P1
    obtain ⟨dx2, sa2, a2, rs2, hi2, _⟩ := id P2
    exact ⟨o1, dx, _, o2, dx2, _, rfl, hi1, rfl, hi2, o1, o2, T1, T2, rfl, P1, P2, hl, fun o H4 _ e4 P => q o H4 ((e2.trans e3).trans e4) P⟩
/-- within, of patterns by terms -/
theorem ev_wi0 {N : Nat} (h1 : EvP K CP CA ta σ H T1) (h2 : EvP K CP CA tb σ H T2) (OK : PgOk (.eith T1 T2) T2 N) (hd : Tr.nd T1 + Tr.nd T2 ≤ 59) {v : Bool} (hv : v = true ↔ ∀ w, T1.L w → T2.L w) : Ev (tFu (spWi K CP CA) E (tCons ta (tCons tb tNil))) σ H (.bl v) := fun H1 e Q q =>
  h1 H1 e _ fun o1 H2 e2 P1 => h2 H2 (e.trans e2) _ fun o2 H3 e3 P2 => ⟨.ref o1, .ref o2, T1, T2, N, rfl, .inl ⟨o1, rfl, P1.mono e3⟩, .inl ⟨o2, rfl, P2⟩, OK, hd, fun b2 G2 g2 hb2 => by
    have : b2 = v := by rw [Bool.eq_iff_iff, hb2, hv]
    rw [this]
    exact q G2 ((e2.trans e3).trans g2)⟩
/-- x in p, x not in p: p by a term -/
theorem ev_inP {q : Addr} {wd : List Nm} {bd neg : Bool} (h : Ev ta σ H (.ref q)) (hq : H q = some (.tup (vtx wd))) (hb : EvP K CP CA tb σ H T) (hsz : T.sz ≤ 60) (hn : ∀ x ∈ wd, nam x) (hl : wd.length ≤ 1000) (hbd : bd = true ↔ T.L wd) : Ev (tOp (rHas CP neg (spPc K CP CA) nil0) ta tb) σ H (.bl (if neg = true then !bd else bd)) := fun H1 e Q q1 =>
  h H1 e _ fun H2 e2 => hb H2 (e.trans e2) _ fun o H3 e3 PA => by
    obtain ⟨dx, sa, a, rs, h1, _⟩ := id PA
    have hodd : ∀ (v : V), v ∈ vtx wd → Odd H3 v := fun v hv => by
      unfold vtx at hv
      obtain ⟨l, hl, rfl⟩ := List.mem_map.mp hv
      exact .inl ⟨l, rfl, by have := nam_len (hn l hl); omega⟩
    refine ⟨o, dx, _, rfl, h1, o, T, _, rfl, PA, hsz, .inl ⟨q, vtx wd, rfl, .inr (((e.trans e2).trans e3) _ _ hq), hodd, by rw [vtx_len]; exact hl, fun b G' hb' g' => ⟨b, rfl, ?_⟩⟩⟩
    have : b = bd := by
      rw [Bool.eq_iff_iff, hb', hbd]
      constructor
      · rintro ⟨ys, hy, _, z⟩
        have : wd = ys := Vtx.map_tx_inj (by
          unfold vtx at hy
          have h5 := congrArg (List.map fun v => match v with | V.str z => z | _ => tx []) hy
          rw [List.map_map, List.map_map] at h5
          exact h5)
        rw [this]
        exact z
      · exact fun z => ⟨wd, rfl, hn, z⟩
    rw [this]
    exact q1 G' ((e2.trans e3).trans g')
end
def spFa : Sp := fun vs H Q _ => ∃ (x : Nm) (m : Nat), vs = [.str (tx x), .int ((m + 2 : Nat) : Int)] ∧ nam x ∧ m ≤ 1 ∧ ∀ H', Ex H H' → Q (.bl true) H'
section
variable {P : Program} {w : World} {K : PySem.W.Frag} {mg : Str → Option Value} {base : Heap} {CA CP CN : Addr}
theorem scFa : FnScope nFa ["_law_name", "_law_number"] (defScope sFa) := ⟨rfl, rfl, rfl, by decide +kernel, rfl, by decide +kernel, by decide +kernel⟩
theorem ok_fa {f : Addr} {fd : FuncData} (F : FnP K "_law_far_parted" sFa f fd) (TRp : Fu P w K mg base L2.CX0 7 "repeated" (spUn K CP CA .rep)) (TOp : Fu P w K mg base L2.CX0 7 "optional" (spUn K CP CA .opt)) (TAn : FuR P w K mg base L2.CX0 7 "any_of" (Vsa.spSt (spAn K CP CA false))) (TNn : FuR P w K mg base L2.CX0 7 "none_of" (Vsa.spSt (spAn K CP CA true)))
    (TOr : Vo2.OwS P w K mg base CP (L2.CX P w) 7 "or" (spBn K CP CA .eith)) (TMul : Ow P w K mg base CP (L2.CX P w) 7 "mul" (spMul K CP CA CN)) (TCo : Mo P w K mg base CP L2.CX0 4 "__contains__" (spPc K CP CA)) (TPg : Fu P w K mg base L2.CX0 9 "parting" (spPg K CP CA)) (TWi : Fu P w K mg base L2.CX0 10 "within" (spWi K CP CA)) (mLen : mg "len" = none) :
    FnOk P w K mg base L2.CX0 11 f fd ["_law_name", "_law_number"] spFa := by
  refine F.ok (CX := L2.CX0) scFa (fun vs H Q E h => ?_) (fun cdv A' outer s H vs Q E hr h => ?_)
  · obtain ⟨x, m, rfl, _⟩ := h
    rfl
  · refine ⟨_, (pss_cons (ps_set (i := 2) scFa.nd rfl (by first | exact Or.inl rfl | exact Or.inr rfl) (Vw.pe_owN TMul hr (pe_fuR (E := nil0) TAn hr (by rfl) pass0 (pa_cons (pv 0) pa_nil)) (pv 1)))
      (pss_cons (ps_par (i := 3) (j := 4) rfl scFa.nd rfl rfl (by decide) rfl rfl (pa_cons (pe_fu TRp hr (by rfl) (pa_cons (pv 2) pa_nil)) (pa_cons (pe_fu TOp hr (by rfl) (pa_cons (pv 2) pa_nil)) pa_nil)) (by rfl))
      (pss_cons (ps_if (PW.pt (pw_or (pt_cmpR (op_neD hr.units) (pe_fu TPg hr (by rfl) (pa_cons (pv 3) (pa_cons (pv 4) pa_nil))) (pe_op Vre.op_repA (pe_tup (pa_cons (pv 0) pa_nil)) (pe_op op_mul pe_int (pv 1))) (nomark _)) (pw_or (pt_val (pe_fu TWi hr (by rfl) (pa_cons (pv 3) (pa_cons (pv 4) pa_nil)))) (pw_or1 (pt_not (pt_val (pe_fu TWi hr (by rfl) (pa_cons (pv 4) (pa_cons (pv 3) pa_nil))))))))) (pss_one (ps_ret pe_bl)) pss_nil)
      (pss_cons (ps_set (i := 5) scFa.nd rfl (by first | exact Or.inl rfl | exact Or.inr rfl) (Vo2.pe_owSN TOr hr (pe_fuR (E := nil0) TAn hr (by rfl) pass0 (pa_cons pe_str (pa_cons pe_str (pa_cons pe_str (pa_cons pe_str (pa_cons pe_str (pa_cons pe_str (pa_cons pe_str (pa_cons pe_str (pa_cons pe_str (pa_cons pe_str (pa_cons pe_str (pa_cons pe_str (pa_cons pe_str pa_nil)))))))))))))) (pe_fuR (E := nil0) TAn hr (by rfl) pass0 (pa_cons pe_str (pa_cons pe_str (pa_cons pe_str (pa_cons pe_str (pa_cons pe_str pa_nil))))))))
      (pss_cons (ps_set (i := 5) scFa.nd rfl (by first | exact Or.inl rfl | exact Or.inr rfl) (Vo2.pe_owSN TOr hr (pv 5) (pe_fuR (E := nil0) TAn hr (by rfl) pass0 (pa_cons pe_str (pa_cons pe_str (pa_cons pe_str (pa_cons pe_str (pa_cons pe_str (pa_cons pe_str (pa_cons pe_str (pa_cons pe_str pa_nil)))))))))))
      (pss_cons (ps_set (i := 6) scFa.nd rfl (by first | exact Or.inl rfl | exact Or.inr rfl) (pe_fu TPg hr (by rfl) (pa_cons (pe_fuR0 (E := nil0) TNn hr (by rfl) pass0) (pa_cons (pv 5) pa_nil))))
      (pss_one (ps_ret (pe_and (pe_cmpR op_eq (pe_callB call_len (by rfl) mLen boot_len (pa_cons (pv 6) pa_nil)) pe_int (nomark _)) (pe_and (pe_cmpR (Vc.op_inM TCo hr) (pv 6) (pe_fuR0 (E := nil0) TNn hr (by rfl) pass0) rfl) (pe_and (pe_cmpR (Vc.op_notInM TCo hr) (pv 6) (pv 5) rfl) (pe_one (pe_fu TWi hr (by rfl) (pa_cons (pv 5) (pa_cons (pe_fuR0 (E := nil0) TNn hr (by rfl) pass0) pa_nil))))))))))))))), ?_⟩
    obtain ⟨x, m, rfl, nx, hm, k⟩ := h
    have ca : Str.ofString "a" = tx [97] := by decide +kernel
    have cb : Str.ofString "b" = tx [98] := by decide +kernel
    have cc : Str.ofString "c" = tx [99] := by decide +kernel
    have cd : Str.ofString "d" = tx [100] := by decide +kernel
    have ce : Str.ofString "e" = tx [101] := by decide +kernel
    have cf : Str.ofString "f" = tx [102] := by decide +kernel
    have cg : Str.ofString "g" = tx [103] := by decide +kernel
    have ch : Str.ofString "h" = tx [104] := by decide +kernel
    have ci : Str.ofString "i" = tx [105] := by decide +kernel
    have cj : Str.ofString "j" = tx [106] := by decide +kernel
    have ck : Str.ofString "k" = tx [107] := by decide +kernel
    have cl : Str.ofString "l" = tx [108] := by decide +kernel
    have cm : Str.ofString "m" = tx [109] := by decide +kernel
    have cn : Str.ofString "n" = tx [110] := by decide +kernel
    have co : Str.ofString "o" = tx [111] := by decide +kernel
    have cp : Str.ofString "p" = tx [112] := by decide +kernel
    have cq : Str.ofString "q" = tx [113] := by decide +kernel
    have cr : Str.ofString "r" = tx [114] := by decide +kernel
    have cs : Str.ofString "s" = tx [115] := by decide +kernel
    have ct : Str.ofString "t" = tx [116] := by decide +kernel
    have cu : Str.ofString "u" = tx [117] := by decide +kernel
    have cv : Str.ofString "v" = tx [118] := by decide +kernel
    have cw : Str.ofString "w" = tx [119] := by decide +kernel
    have cx : Str.ofString "x" = tx [120] := by decide +kernel
    have cy : Str.ofString "y" = tx [121] := by decide +kernel
    have cz : Str.ofString "z" = tx [122] := by decide +kernel
    have hP : ∀ w, (pw (.atom false [x]) (m + 1)).L w ↔ w = List.replicate (m + 2) x := pw_L (m + 1)
    have hnd : Tr.nd (pw (.atom false [x]) (m + 1)) ≤ 5 := by
      rw [pw_nd]
      show (m + 2) * 1 + (m + 1) ≤ 5
      omega
    have gN : ∀ y ∈ [x], nam y := fun y hy => by rw [List.mem_singleton.mp hy]; exact nx
    -- single
    refine s_seq ?_
    unfold tAsg
    refine evp_mul3 (K := K) (CP := CP) (CA := CA) (CN := CN) (k := m + 1) (T1 := .atom false [x]) (σ := [some (.str (tx x)), some (.int ((m + 2 : Nat) : Int)), none, none, none, none, none]) (H := H) (evp_anZ (ea_cons (ev_var (i := 0) rfl) ea_nil) (srt1 x) gN (fun _ => Nat.le_refl 1) (by show 1 ≤ 60; omega)) (ev_var (i := 1) rfl) (by omega) (by omega) H (Ex.refl _) _ fun o2 H2 e2 P2 => ?_
    dsimp only [gName, List.set]
    -- one, two
    refine s_seq ?_
    refine evp_un (K := K) (mk := .rep) (E := fun _ => nil0) (σ := [some (.str (tx x)), some (.int ((m + 2 : Nat) : Int)), some (.ref o2), none, none, none, none]) (i := 2) rfl P2 (by omega) H2 (Ex.refl _) _ fun o3 H3 e3 P3 => ?_
    refine evp_un (K := K) (mk := .opt) (E := fun _ => nil0) (σ := [some (.str (tx x)), some (.int ((m + 2 : Nat) : Int)), some (.ref o2), none, none, none, none]) (i := 2) rfl (P2.mono e3) (by omega) H3 (Ex.refl _) _ fun o4 H4 e4 P4 => ⟨_, _, rfl, ?_⟩
    have P3 := P3.mono e4
    dsimp only [List.set]
    have sz1 : (pw (.atom false [x]) (m + 1)).sz ≤ 5 := by
      have := sz_nd (pw (.atom false [x]) (m + 1))
      omega
    have nlen : (nmsOf (pw (.atom false [x]) (m + 1)).steps).length ≤ 3 := by
      rw [pw_nlen]
      omega
    obtain ⟨S1, hS1⟩ : ∃ S1, S1 = pw (.atom false [x]) (m + 1) := ⟨_, rfl⟩
    rw [← hS1] at P3 P4 hP hnd sz1 nlen
    have np1 := pw_nms x (m + 1)
    rw [← hS1] at np1
    have nms_r : nmsOf (Tr.rep S1).steps = nmsOf S1.steps := by show nmsOf (S1.steps ++ [Op.rep]) = _; rw [nmsOf_app]; exact List.append_nil _
    have nms_o : nmsOf (Tr.opt S1).steps = nmsOf S1.steps := by show nmsOf (S1.steps ++ [Op.opt]) = _; rw [nmsOf_app]; exact List.append_nil _
    have szr : (Tr.rep S1).sz = S1.sz := rfl
    have szo : (Tr.opt S1).sz = S1.sz := rfl
    have nmr : ∀ y ∈ nmsOf (Tr.rep S1).steps, nam y := fun y hy => by rw [nms_r] at hy; rw [np1 y hy]; exact nx
    have nmo : ∀ y ∈ nmsOf (Tr.opt S1).steps, nam y := fun y hy => by rw [nms_o] at hy; rw [np1 y hy]; exact nx
    have ok1 : PgOk (.rep S1) (.opt S1) 65537 := ⟨by omega, by omega, by rw [nms_r]; omega, by rw [nms_o]; omega, nmr, nmo, cnt_pow (k := 16) (by omega), by decide⟩
    have eith_ok : ∀ A B : Tr, A.sz = S1.sz → B.sz = S1.sz → nmsOf A.steps = nmsOf S1.steps → nmsOf B.steps = nmsOf S1.steps → PgOk (.eith A B) B 65537 := fun A B a1 b1 a2 b2 => by
      have e3 : (Tr.eith A B).sz = A.sz + B.sz := List.length_append
      have en : nmsOf (Tr.eith A B).steps = nmsOf A.steps ++ nmsOf B.steps := by
        show nmsOf (A.steps ++ (B.steps ++ [Op.eith])) = _
        rw [nmsOf_app, nmsOf_app]
        exact congrArg _ (List.append_nil _)
      refine ⟨by omega, by omega, by rw [en, List.length_append, a2, b2]; omega, by rw [b2]; omega, fun y hy => ?_, fun y hy => by rw [b2] at hy; rw [np1 y hy]; exact nx, cnt_pow (k := 16) (by omega), by decide⟩
      rw [en, a2, b2] at hy
      rcases List.mem_append.mp hy with h | h <;> (rw [np1 y h]; exact nx)
    have ndr : Tr.nd (Tr.rep S1) ≤ 6 := by show (S1.steps ++ [Op.rep]).length ≤ 6; rw [List.length_append]; show Tr.nd S1 + 1 ≤ 6; omega
    have ndo : Tr.nd (Tr.opt S1) ≤ 6 := by show (S1.steps ++ [Op.opt]).length ≤ 6; rw [List.length_append]; show Tr.nd S1 + 1 ≤ 6; omega
    obtain ⟨f1, f2⟩ := far_two hP (by omega)
    have mem_rep : ∀ n, ∀ l ∈ List.replicate n x, nam l := fun n l hl => by rw [List.eq_of_mem_replicate hl]; exact nx
    have edP : EvD K (tFu (spPg K CP CA) (fun _ => nil0) (tCons (tVar 3) (tCons (tVar 4) tNil))) [some (.str (tx x)), some (.int ((m + 2 : Nat) : Int)), some (.ref o2), some (.ref o3), some (.ref o4), none, none] H4 (Vr.wd (List.replicate (2 * (m + 2)) x)) :=
      ed_fu (ea_cons (ev_var (i := 3) rfl) (ea_cons (ev_var (i := 4) rfl) ea_nil)) fun G g Q1 q1 E1 => ⟨.ref o3, .ref o4, .rep S1, .opt S1, 65537, rfl, .inl ⟨o3, rfl, P3.mono g⟩, .inl ⟨o4, rfl, P4.mono g⟩, ok1, fun H' e' heq => absurd ((heq _).mp f1) f2, fun p ws H' e' hp hne hnm hmin hlen => by
        have hw := far_word hP (by omega) hne hmin
        subst hw
        exact q1 (.ref p) H' e' (dp_wd (st_of hp))⟩
    have hT : Vt.EvT K (tTup (tCons (tVar 0) tNil)) [some (.str (tx x)), some (.int ((m + 2 : Nat) : Int)), some (.ref o2), some (.ref o3), some (.ref o4), none, none] H4 (vtx [x]) := fun G g Q1 q1 => eu_tup (vs := [.str (tx x)]) (ea_cons (ev_var (i := 0) rfl) ea_nil) (by show 1 ≤ 100000; omega) G g Q1 fun p G2 np g2 hp => q1 p G2 g2 (st_of hp)
    have hmul : Ev (tOp (rI CMul fun i j => .int (i * j)) (tC (.int 2)) (tVar 1)) [some (.str (tx x)), some (.int ((m + 2 : Nat) : Int)), some (.ref o2), some (.ref o3), some (.ref o4), none, none] H4 (.int ((2 * (m + 2) : Nat) : Int)) := ev_is (ev_op ev_c (ev_var (i := 1) rfl) (fun G g Q1 q1 => ⟨2, _, rfl, rfl, .inl ⟨by decide, by decide⟩, q1 G (Ex.refl _)⟩)) (congrArg V.int (by omega))
    have hrep := Vre.et_rep (K := K) hT hmul (fun z => nomatch z) (by omega) (by omega) (by show 1 ≤ 1000; decide)
    have hrp : Vq.rp (2 * (m + 2)) (vtx [x]) = vtx (List.replicate (2 * (m + 2)) x) := by
      rw [Vre.vtx_rp]
      unfold Vq.rp
      rw [List.flatten_replicate_singleton]
    rw [hrp] at hrep
    have edR : EvD K (tOp (Vre.rRepA K) (tTup (tCons (tVar 0) tNil)) (tOp (rI CMul fun i j => .int (i * j)) (tC (.int 2)) (tVar 1))) [some (.str (tx x)), some (.int ((m + 2 : Nat) : Int)), some (.ref o2), some (.ref o3), some (.ref o4), none, none] H4 (Vr.wd (List.replicate (2 * (m + 2)) x)) := fun G g Q1 q1 => hrep G g Q1 fun p G2 g2 hp => q1 _ G2 g2 (dp_wd hp)
    refine s_seq ?_
    refine s_when (b := false) (et_or (a := false) (b := false) (et_test (ev_unlike edP edR (sh_w (oks_nam (mem_rep _)))))
      (fun _ => et_or (a := false) (b := false) (et_B (ev_wi0 (K := K) (evp_var (i := 3) rfl P3) (evp_var (i := 4) rfl P4) (eith_ok _ _ szr szo nms_r nms_o) (by omega) (v := false) ⟨(fun z => nomatch z), fun z => absurd (z _ f1) f2⟩))
      (fun _ => et_not (a := true) (et_B (ev_wi0 (K := K) (evp_var (i := 4) rfl P4) (evp_var (i := 3) rfl P3) (eith_ok _ _ szo szr nms_o nms_r) (by omega) (v := true) ⟨fun _ w h => far_sub w h, fun _ => rfl⟩))))) (fun z => nomatch z) fun _ H5 e5 => ?_
    -- letters
    dsimp only
    refine s_seq ?_
    refine evp_bin3 (K := K) (CP := CP) (CA := CA) (mk := .eith) (E := fun _ => nil0) (T1 := .atom false lA) (T2 := .atom false lB) (σ := [some (.str (tx x)), some (.int ((m + 2 : Nat) : Int)), some (.ref o2), some (.ref o3), some (.ref o4), none, none]) (H := H5) (evp_anZ (ns := lA) (ea_cons (ev_sC ca) (ea_cons (ev_sC cb) (ea_cons (ev_sC cc) (ea_cons (ev_sC cd) (ea_cons (ev_sC ce) (ea_cons (ev_sC cf) (ea_cons (ev_sC cg) (ea_cons (ev_sC ch) (ea_cons (ev_sC ci) (ea_cons (ev_sC cj) (ea_cons (ev_sC ck) (ea_cons (ev_sC cl) (ea_cons (ev_sC cm) ea_nil))))))))))))) srtA (fun y hy => nmL y (List.mem_append_left _ hy)) (fun _ => by decide) (by decide)) (evp_anZ (ns := lB) (ea_cons (ev_sC cn) (ea_cons (ev_sC co) (ea_cons (ev_sC cp) (ea_cons (ev_sC cq) (ea_cons (ev_sC cr) ea_nil))))) srtB (fun y hy => nmL y (List.mem_append_right _ (List.mem_append_left _ hy))) (fun _ => by decide) (by decide)) (by decide) H5 (Ex.refl _) _ fun o5 H6 e6 P6 => ?_
    dsimp only [gName, List.set]
    refine s_seq ?_
    refine evp_bin3 (K := K) (CP := CP) (CA := CA) (mk := .eith) (E := fun _ => nil0) (T1 := .eith (.atom false lA) (.atom false lB)) (T2 := .atom false lC) (σ := [some (.str (tx x)), some (.int ((m + 2 : Nat) : Int)), some (.ref o2), some (.ref o3), some (.ref o4), some (.ref o5), none]) (H := H6) (evp_var (i := 5) rfl P6) (evp_anZ (ns := lC) (ea_cons (ev_sC cs) (ea_cons (ev_sC ct) (ea_cons (ev_sC cu) (ea_cons (ev_sC cv) (ea_cons (ev_sC cw) (ea_cons (ev_sC cx) (ea_cons (ev_sC cy) (ea_cons (ev_sC cz) ea_nil)))))))) srtC (fun y hy => nmL y (List.mem_append_right _ (List.mem_append_right _ hy))) (fun _ => by decide) (by decide)) (by decide) H6 (Ex.refl _) _ fun o6 H7 e7 P7 => ?_
    dsimp only [gName, List.set]
    have P7 : PatAt K CP CA H7 o6 tL := P7
    -- found
    refine s_seq ?_
    refine evp_anZ (K := K) (CP := CP) (CA := CA) (neg := true) (ns := []) (σ := [some (.str (tx x)), some (.int ((m + 2 : Nat) : Int)), some (.ref o2), some (.ref o3), some (.ref o4), some (.ref o6), none]) (H := H7) ea_nil srt0 (fun _ h => nomatch h) (fun z => nomatch z) (by decide) H7 (Ex.refl _) _ fun oN H8 e8 PN => ?_
    refine ⟨_, rfl, .ref oN, .ref o6, .atom true [], tL, 65537, rfl, .inl ⟨oN, rfl, PN⟩, .inl ⟨o6, rfl, P7.mono e8⟩, okL, fun H9 e9 heq => absurd ((heq _).mp (tN_L.mpr ⟨_, rfl⟩)) tL_aa, fun p ws H9 e9 hp hne hnm hmin hlen => ?_⟩
    dsimp only [gName, List.set]
    have hN : (Tr.atom true []).L ws ∧ ¬ tL.L ws := by
      by_cases h : tL.L ws
      · exact absurd ⟨fun _ => h, fun _ => tN_L.mpr (tL_one h)⟩ hne
      · exact ⟨Classical.byContradiction fun z => hne ⟨fun h' => absurd h' z, fun h' => absurd h' h⟩, h⟩
    obtain ⟨y, hy⟩ := tN_L.mp hN.1
    have hl1 : ws.length = 1 := by rw [hy]; rfl
    have P9 := P7.mono (e8.trans e9)
    have evN : ∀ {G : Hp}, EvP K CP CA (tFuR (Vsa.spSt (spAn K CP CA true)) nil0 tNil) [some (.str (tx x)), some (.int ((m + 2 : Nat) : Int)), some (.ref o2), some (.ref o3), some (.ref o4), some (.ref o6), some (.ref p)] G (.atom true []) := fun {G} => evp_anZ (K := K) (CP := CP) (CA := CA) (neg := true) (ns := []) ea_nil srt0 (fun _ h => nomatch h) (fun z => nomatch z) (by decide)
    refine s_ret (v := .bl true) (ev_is (ev_andV (a := true) (b := true) (ev_is (ev_op (ev_lenT (K := K) (ev_var (i := 6) rfl) (st_of hp)) ev_c (rv_eq rfl)) (by rw [vtx_len, hl1]; exact congrArg V.bl (decide_eq_true rfl)))
      fun _ => ev_is (ev_andV (a := true) (b := true) (ev_inP (neg := false) (bd := true) (ev_var (i := 6) rfl) hp evN (by decide) hnm (by omega) ⟨fun _ => hN.1, fun _ => rfl⟩)
      fun _ => ev_is (ev_andV (a := true) (b := true) (ev_inP (neg := true) (bd := false) (ev_var (i := 6) rfl) hp (evp_var (i := 5) rfl P9) (by decide) hnm (by omega) ⟨(fun z => nomatch z), fun z => absurd z hN.2⟩)
      fun _ => ev_wi0 (K := K) (evp_var (i := 5) rfl P9) evN okL2 (by decide) (v := true) ⟨fun _ w h => tN_L.mpr (tL_one h), fun _ => rfl⟩) rfl) rfl) rfl) fun H10 e10 => k H10 (((((((e2.trans e3).trans e4).trans e5).trans e6).trans e7).trans (e8.trans e9)).trans e10)
end
end K14

set_option Elab.async false
set_option linter.all false
set_option maxRecDepth 100000
set_option maxHeartbeats 4000000
/-! Draws out of a list that a variable holds: one, many, those for which a draw says so. -/
namespace Vdr
open PySem PySem.Spec PyProof.Rows L2 Vl Evl Vp Vc Ve
theorem plMut {Hk H : Hp} {p x : Addr} {n : Nat} {o : HO} (h : Pl Hk p n H) (hx : Hk x = none) (xp : x ≠ p) : Pl Hk p n (upd H x o) := by
  refine ⟨h.no, Ex.mut h.ex hx, ?_⟩
  obtain ⟨a', b', c', w1, w2⟩ := h.at_
  exact ⟨a', b', c', by rw [upd_ne xp.symm]; exact w1, w2⟩
section
variable {K : PySem.W.Frag} {σ : L2.St} {H : Hp} {D : Ends}
/-- xs[take(pool, len(xs))] -/
abbrev tPick (K : PySem.W.Frag) (pi ai : Nat) : TE := tOp (rIxL K) (tVar ai) (Vc.tFu spTake (fun _ => nil0) (tCons (tVar pi) (tCons (tCB (fun xs H Q => ∃ x n, xs = [x] ∧ LenV K x H n ∧ Q (.int n) H) (tCons (tVar ai) tNil)) tNil)))
theorem e_pick {p a : Addr} {Hk : Hp} {n pi ai : Nat} {xs : List V} (hp : σ[pi]? = some (some (.ref p))) (hA : σ[ai]? = some (some (.ref a))) (P : Pl Hk p n H) (hn : n ≤ 90000) (ha : Hk a = some (.lst xs)) (hx : 1 ≤ xs.length) (hx1 : xs.length ≤ 1000) {Q : VK}
    (k : ∀ (i : Nat) v H2, xs[i]? = some v → Ex (Wo H p) H2 → Pl Hk p (n + 1) H2 → Q v H2) : tPick K pi ai σ H Q := by
  refine ⟨_, hA, _, hp, _, hA, .ref a, xs.length, rfl, .inl ⟨xs, sq_of (P.ex _ _ ha), rfl⟩, p, (xs.length : Int), Wo H p, _, rfl, by omega, by omega, P.re, by omega, fun r H3 r0 r1 hP => ?_⟩
  obtain ⟨z, rfl⟩ := Int.eq_ofNat_of_zero_le r0
  have hz : z < xs.length := by omega
  have P3 := P.back hP
  exact ⟨a, xs, _, _, rfl, rfl, sq_of (P3.ex _ _ ha), at_of rfl (List.getElem?_eq_getElem hz), k z _ H3 (List.getElem?_eq_getElem hz) hP.ex P3⟩
theorem s_pickV {p a : Addr} {Hk : Hp} {n j pi ai : Nat} {xs : List V} (hp : σ[pi]? = some (some (.ref p))) (hA : σ[ai]? = some (some (.ref a))) (P : Pl Hk p n H) (hn : n ≤ 90000) (ha : Hk a = some (.lst xs)) (hx : 1 ≤ xs.length) (hx1 : xs.length ≤ 1000)
    (k : ∀ (i : Nat) v H2, xs[i]? = some v → Pl Hk p (n + 1) H2 → D.nx (σ.set j (some v)) H2) : tAsg (tPick K pi ai) (gName j) D σ H :=
  e_pick hp hA P hn ha hx hx1 fun i v H2 h _ P2 => k i v H2 h P2
/-- [xs[take(len(xs))] for _ in range(..)] -/
theorem lc_draws {p a : Addr} {Hk : Hp} {n lo M pi ai j : Nat} {ta : TA} {xs : List (List Nat)} {Q : VK} (hm : ∀ R : List V → Hp → Prop, (∀ (m : Nat) H1, lo ≤ m → m ≤ M → (m = 0 ∨ 1 ≤ xs.length) → Pl Hk p n H1 → R [.int (m : Nat)] H1) → ta σ H R) (hM : M ≤ 1000) (P0 : Hk p = none) (hn : n + M ≤ 90000) (ha : Hk a = some (.lst (vtx xs))) (hx1 : xs.length ≤ 1000)
    (hw : ∀ x, wipe ((wipe σ [j]).set j (some x)) [j] = wipe σ [j]) (hp : ∀ x, ((wipe σ [j]).set j (some x))[pi]? = some (some (.ref p))) (hA : ∀ x, ((wipe σ [j]).set j (some x))[ai]? = some (some (.ref a)))
    (k : ∀ d ys H1, Hk d = none → Pl Hk p (n + M) H1 → H1 d = some (.lst (vtx ys)) → ys.length ≤ M → (lo ≤ ys.length) → (∀ y ∈ ys, y ∈ xs) → d ≠ p → Q (.ref d) H1) :
    tLc (iRng1 ta) (gName j) tYes (tPick K pi ai) [j] σ H Q := by
  refine hm _ fun m H1 hlo hmM hx P1 => ⟨(m : Nat), rfl, by omega, by omega, fun Dl hD => ?_⟩
  have hDp : Dl ≠ p := P1.ne hD
  have hDk : Hk Dl = none := fresh_back P1.ex hD
  refine lc_range (lo := 0) (n := ((m : Nat) : Int).toNat) (fun i H' => ∃ ys, H' Dl = some (.lst (vtx ys)) ∧ ys.length = i ∧ (∀ y ∈ ys, y ∈ xs) ∧ Pl Hk p (n + i) H') ⟨[], upd_same, rfl, (fun _ h => nomatch h), P1.new hD⟩ ?_ ?_
  · rintro i H2 hi ⟨ys, h1, h2, h3, h4⟩
    rw [Int.toNat_natCast] at hi
    refine ⟨hw _, ?_⟩
    unfold tYes
    dsimp only
    rw [if_pos rfl]
    refine e_pick (xs := vtx xs) (hp _) (hA _) h4 (by omega) ha (by rw [vtx_len]; omega) (by rw [vtx_len]; omega) fun z v H3 hz eW P3 => ?_
    unfold vtx at hz
    rw [List.getElem?_map] at hz
    obtain ⟨y, hy, rfl⟩ := Option.map_eq_some_iff.mp hz
    refine ⟨vtx ys, eW _ _ (wo_at h1 hDp), sz_lt (by rw [vtx_len]; omega), ys ++ [y], by rw [upd_same, vtx_app]; rfl, by rw [List.length_append, List.length_singleton, h2], ?_, plMut P3 hDk hDp⟩
    intro x hx
    rcases List.mem_append.mp hx with hx | hx
    · exact h3 x hx
    · rw [List.mem_singleton.mp hx]
      exact List.mem_of_getElem? hy
  · rintro H2 ⟨ys, h1, h2, h3, h4⟩
    rw [Int.toNat_natCast] at h2 h4
    exact k Dl ys H2 hDk (h4.cnt (by omega)) h1 (by omega) (by omega) h3 hDp
/-- the things for which a draw says so -/
theorem lc_draw {α : Type} {ys : List α} {g : α → V} {tl : TE} {tt : TT} {j : Nat} {σ : L2.St} {B H : Hp} {p : Addr} {n : Nat} {C : α → Prop} (P : Pl B p n H) (h : ∀ R : VK, (∀ a H1, a ≠ p → Ex H H1 → H1 a = some (.lst (ys.map g)) → R (.ref a) H1) → tl σ H R) (hz : ys.length ≤ 1000) (hw : ∀ x, wipe ((wipe σ [j]).set j (some x)) [j] = wipe σ [j]) (hj : ∀ x, ((wipe σ [j]).set j (some x))[j]? = some (some x))
    (ht : ∀ y H1 m, y ∈ ys → Pl B p m H1 → m ≤ n + ys.length → ∀ Q : Bool → Hp → Prop, (∀ b H2 m2, Ex (Wo H1 p) H2 → Pl B p m2 H2 → m2 ≤ m + 1 → (b = true → C y) → Q b H2) → tt ((wipe σ [j]).set j (some (g y))) H1 Q)
    {Q : VK} (k : ∀ (l : Addr) (zs : List α) (H2 : Hp) (m : Nat), H l = none → l ≠ p → Pl B p m H2 → m ≤ n + ys.length → H2 l = some (.lst (zs.map g)) → zs.Sublist ys → (∀ z ∈ zs, C z) → Q (.ref l) H2) : tLc (iList K tl) (gName j) tt (tVar j) [j] σ H Q := by
  unfold tLc iList
  refine h _ fun a H1 ap e1 hx => ⟨a, rfl, ⟨_, sq_of hx⟩, fun D hD => ?_⟩
  have P1 := P.grow e1
  have dp : D ≠ p := P1.ne hD
  have da : D ≠ a := fun z => by rw [z, hx] at hD; cases hD
  have bD : B D = none := fresh_back P1.ex hD
  refine lc_list (xs := ys.map g) (fun i H' => ∃ (zs : List α) (m : Nat), Pl B p m H' ∧ m ≤ n + i ∧ H' a = some (.lst (ys.map g)) ∧ H' D = some (.lst (zs.map g)) ∧ zs.Sublist (ys.take i) ∧ ∀ z ∈ zs, C z)
    ⟨[], n, P1.new hD, Nat.le_refl _, (upd_ne da.symm).trans hx, upd_same, by rw [List.take_zero]; exact List.Sublist.refl _, fun z hz => nomatch hz⟩ (fun i H' _ ⟨_, _, _, _, h, _⟩ => sq_of h) ?_ ?_
  · rintro i x H' hxi ⟨zs, m, P', hm, ha', hD', hs, hc⟩
    rw [List.getElem?_map] at hxi
    obtain ⟨y, hy, rfl⟩ := Option.map_eq_some_iff.mp hxi
    have hi : i < ys.length := (List.getElem?_eq_some_iff.mp hy).1
    have htk : ys.take (i + 1) = ys.take i ++ [y] := by rw [List.take_succ, hy]; rfl
    have hlen : zs.length ≤ ys.length := Nat.le_trans hs.length_le (by rw [List.length_take]; omega)
    refine ⟨hw _, ht y H' m (List.mem_of_getElem? hy) P' (by omega) _ fun b H2 m2 e2 P2 hm2 hb => ?_⟩
    have ha2 := e2 _ _ (wo_at ha' ap)
    have hD2 := e2 _ _ (wo_at hD' dp)
    cases b with
    | true =>
      refine ⟨_, hj _, zs.map g, hD2, sz_lt (by rw [List.length_map]; omega), zs ++ [y], m2, plMut P2 bD dp, by omega, (upd_ne da.symm).trans ha2, ?_, ?_, fun z hz => ?_⟩
      · rw [upd_same, List.map_append]
        rfl
      · rw [htk]
        exact hs.append (List.Sublist.refl _)
      · rcases List.mem_append.mp hz with hz | hz
        · exact hc z hz
        · rw [List.mem_singleton.mp hz]
          exact hb rfl
    | false =>
      refine ⟨zs, m2, P2, by omega, ha2, hD2, ?_, hc⟩
      rw [htk]
      exact hs.trans (List.sublist_append_left _ _)
  · rintro H' ⟨zs, m, P', hm, ha', hD', hs, hc⟩
    rw [List.length_map] at hm hs
    rw [List.take_length] at hs
    exact k D zs H' m (fresh_back e1 hD) dp P' hm hD' hs hc
theorem el_catL {ta tb : TE} {xs zs : List V} (h : EvL ta σ H xs) (h2 : EvL tb σ H zs) (hz : xs.length + zs.length ≤ 100000) : EvL (tOp rCat ta tb) σ H (xs ++ zs) := fun H1 e Q q =>
  h H1 e _ fun a H2 na e2 ha => h2 H2 (e.trans e2) _ fun b H3 nb e3 hb => ⟨a, b, xs, zs, rfl, rfl, e3 _ _ ha, hb, sz_of hz, fun c nc => q c _ (fresh_back (e2.trans e3) nc) ((e2.trans e3).trans (Ex.new nc)) upd_same⟩
theorem el_catL' {ta tb : TE} {a : Addr} {xs zs : List V} (h : Ev ta σ H (.ref a)) (hx : H a = some (.lst xs)) (h2 : EvL tb σ H zs) (hz : xs.length + zs.length ≤ 100000) : EvL (tOp rCat ta tb) σ H (xs ++ zs) := fun H1 e Q q =>
  h H1 e _ fun H2 e2 => h2 H2 (e.trans e2) _ fun b H3 nb e3 hb => ⟨a, b, xs, zs, rfl, rfl, (e.trans (e2.trans e3)) _ _ hx, hb, sz_of hz, fun c nc => q c _ (fresh_back (e2.trans e3) nc) ((e2.trans e3).trans (Ex.new nc)) upd_same⟩
end
end Vdr

set_option Elab.async false
set_option linter.all false
set_option maxRecDepth 100000
set_option maxHeartbeats 4000000
/-! Draws. -/
namespace K14
open PySem PySem.Spec PyProof.Rows L2 Vl Evl Vp Vc Ve Ven Vg Vb Vt Vlt Vsa Vle Vo Vr Vda Vw Vx2 Vtx Vlk Vpt Vwy
section
variable {K : PySem.W.Frag} {σ : L2.St} {H : Hp}
theorem e_pickC {p a : Addr} {Hk : Hp} {n c pi ai : Nat} {xs : List V} (hp : σ[pi]? = some (some (.ref p))) (hA : σ[ai]? = some (some (.ref a))) (P : Pl Hk p n H) (hn : n ≤ 90000) (ha : Hk a = some (.lst xs)) (hc : 1 ≤ c) (hcx : c ≤ xs.length) (hx1 : xs.length ≤ 1000) {Q : VK}
    (k : ∀ (i : Nat) v H2, xs[i]? = some v → Ex (Wo H p) H2 → Pl Hk p (n + 1) H2 → Q v H2) : tOp (rIxL K) (tVar ai) (Vc.tFu spTake (fun _ => nil0) (tCons (tVar pi) (tCons (tC (.int (c : Nat))) tNil))) σ H Q := by
  refine ⟨_, hA, _, hp, p, (c : Int), Wo H p, _, rfl, by omega, by omega, P.re, by omega, fun r H3 r0 r1 hP => ?_⟩
  obtain ⟨z, rfl⟩ := Int.eq_ofNat_of_zero_le r0
  have hz : z < xs.length := by omega
  have P3 := P.back hP
  exact ⟨a, xs, _, _, rfl, rfl, sq_of (P3.ex _ _ ha), at_of rfl (List.getElem?_eq_getElem hz), k z _ H3 (List.getElem?_eq_getElem hz) hP.ex P3⟩
theorem lc_drawsC {p a : Addr} {Hk : Hp} {n a0 b0 c pi ai j : Nat} {xs : List (List Nat)} {Q : VK} (P : Pl Hk p n H) (hn : n ≤ 80000) (hpi : σ[pi]? = some (some (.ref p))) (hb : 1 ≤ b0) (hb2 : b0 ≤ 10) (ha0 : a0 ≤ 10) (ha : Hk a = some (.lst (vtx xs))) (hc : 1 ≤ c) (hcx : c ≤ xs.length) (hx1 : xs.length ≤ 1000)
    (hw : ∀ x, wipe ((wipe σ [j]).set j (some x)) [j] = wipe σ [j]) (hp : ∀ x, ((wipe σ [j]).set j (some x))[pi]? = some (some (.ref p))) (hA : ∀ x, ((wipe σ [j]).set j (some x))[ai]? = some (some (.ref a)))
    (k : ∀ d ys m H1, Hk d = none → Pl Hk p m H1 → m ≤ n + 40 → H1 d = some (.lst (vtx ys)) → a0 ≤ ys.length → ys.length + 1 ≤ a0 + b0 → (∀ y ∈ ys, y ∈ xs) → d ≠ p → Q (.ref d) H1) :
    tLc (iRng1 (tCons (tOp (rI0 fun i j => .int (i + j)) (tC (.int (a0 : Nat))) (Vc.tFu spTake (fun _ => nil0) (tCons (tVar pi) (tCons (tC (.int (b0 : Nat))) tNil)))) tNil)) (gName j) tYes (tOp (rIxL K) (tVar ai) (Vc.tFu spTake (fun _ => nil0) (tCons (tVar pi) (tCons (tC (.int (c : Nat))) tNil)))) [j] σ H Q := by
  refine ⟨_, hpi, p, (b0 : Int), Wo H p, n, rfl, by omega, by omega, P.re, by omega, fun r H1 r0 r1 P0 => ?_⟩
  have P1 := P.back P0
  obtain ⟨m, rfl⟩ := Int.eq_ofNat_of_zero_le r0
  refine ⟨(a0 : Int), (m : Int), rfl, rfl, _, rfl, by omega, by omega, fun Dl hD => ?_⟩
  have hDp : Dl ≠ p := P1.ne hD
  have hDk : Hk Dl = none := fresh_back P1.ex hD
  refine lc_range (lo := 0) (n := ((a0 : Int) + (m : Int)).toNat) (fun i H' => ∃ ys, H' Dl = some (.lst (vtx ys)) ∧ ys.length = i ∧ (∀ y ∈ ys, y ∈ xs) ∧ Pl Hk p (n + 1 + i) H') ⟨[], upd_same, rfl, (fun _ h => nomatch h), P1.new hD⟩ ?_ ?_
  · rintro i H2 hi ⟨ys, h1, h2, h3, h4⟩
    refine ⟨hw _, ?_⟩
    unfold tYes
    dsimp only
    rw [if_pos rfl]
    refine e_pickC (xs := vtx xs) (hp _) (hA _) h4 (by omega) ha hc (by rw [vtx_len]; omega) (by rw [vtx_len]; omega) fun z v H3 hz eW P3 => ?_
    unfold vtx at hz
    rw [List.getElem?_map] at hz
    obtain ⟨y, hy, rfl⟩ := Option.map_eq_some_iff.mp hz
    refine ⟨vtx ys, eW _ _ (wo_at h1 hDp), sz_lt (by rw [vtx_len]; omega), ys ++ [y], by rw [upd_same, vtx_app]; rfl, by rw [List.length_append, List.length_singleton, h2], ?_, Vdr.plMut P3 hDk hDp⟩
    intro x hx
    rcases List.mem_append.mp hx with hx | hx
    · exact h3 x hx
    · rw [List.mem_singleton.mp hx]
      exact List.mem_of_getElem? hy
  · rintro H2 ⟨ys, h1, h2, h3, h4⟩
    exact k Dl ys _ H2 hDk h4 (by omega) h1 (by omega) (by omega) h3 hDp
end
end K14

set_option Elab.async false
set_option linter.all false
set_option maxRecDepth 100000
set_option maxHeartbeats 4000000
/-! A walk's tree. -/
namespace K14
open PySem PySem.Spec PyProof.Rows L2 Vl Evl Vp Vc Ve Ven Vg Vb Vt Vlt Vsa Vle Vo Vr Vda Vw Vx2 Vtx Vlk Vpt Vwy
theorem wkn_srt (xs : List Nm) : ∀ n, SrtT (wkn xs n) (wkn xs n)
  | 0 => ⟨rfl, srt1 _⟩
  | n + 1 => ⟨wkn_srt xs n, rfl, srt1 _⟩
theorem atm_ok {ys : List Nm} {x : Nm} (h : x ∈ ys) (d : Nat) : TrOk ys d (.atom false [x]) := by
  have : (∀ l ∈ [x], l ∈ ys) ∧ [x].length ≤ 2 ∧ (false = false → 1 ≤ [x].length) := ⟨fun l hl => by rw [List.mem_singleton.mp hl]; exact h, by show 1 ≤ 2; decide, fun _ => by show 1 ≤ 1; decide⟩
  cases d <;> exact this
theorem get_mem {xs : List Nm} {n : Nat} (h : n < xs.length) : xs.getD n [] ∈ xs := by
  rw [List.getD_eq_getElem?_getD, List.getElem?_eq_getElem h]
  exact List.getElem_mem h
theorem wkn_ok {xs ys : List Nm} (hs : ∀ x ∈ xs, x ∈ ys) : ∀ n, n < xs.length → TrOk ys n (wkn xs n)
  | 0, h => atm_ok (hs _ (get_mem h)) 0
  | n + 1, h => ⟨wkn_ok hs n (by omega), atm_ok (hs _ (get_mem h)) n⟩
theorem wkn_L (xs : List Nm) : ∀ n, n < xs.length → ∀ w, (wkn xs n).L w ↔ w = xs.take (n + 1)
  | 0, h, w => by
    show (∃ y, w = [y] ∧ takes (false, [xs.getD 0 []]) y = true) ↔ _
    have e : xs.take 1 = [xs.getD 0 []] := by
      match xs, h with
      | x :: r, _ => rfl
    rw [e]
    constructor
    · rintro ⟨y, rfl, h⟩
      unfold takes at h
      have : y = xs.getD 0 [] := by simpa using h
      rw [this]
    · rintro rfl
      exact ⟨_, rfl, by unfold takes; simp⟩
  | n + 1, h, w => by
    show (∃ u v, w = u ++ v ∧ (wkn xs n).L u ∧ ∃ y, v = [y] ∧ takes (false, [xs.getD (n + 1) []]) y = true) ↔ _
    have e : xs.take (n + 1 + 1) = xs.take (n + 1) ++ [xs.getD (n + 1) []] := by
      rw [List.take_succ, List.getD_eq_getElem?_getD, List.getElem?_eq_getElem h]
      rfl
    rw [e]
    constructor
    · rintro ⟨u, v, rfl, h1, y, rfl, h2⟩
      unfold takes at h2
      have : y = xs.getD (n + 1) [] := by simpa using h2
      rw [(wkn_L xs n (by omega) u).mp h1, this]
    · rintro rfl
      exact ⟨_, _, rfl, (wkn_L xs n (by omega) _).mpr rfl, _, rfl, by unfold takes; simp⟩
theorem wk_L {xs : List Nm} (h : 1 ≤ xs.length) (w : List Nm) : (wk xs).L w ↔ w = xs := by
  refine (wkn_L xs (xs.length - 1) (by omega) w).trans ?_
  rw [show xs.length - 1 + 1 = xs.length by omega, List.take_length]
theorem TrOk.le {xs : List Nm} {t : Tr} {d e : Nat} (h : TrOk xs d t) (hd : d ≤ e) : TrOk xs e t := by
  obtain ⟨k, rfl⟩ := Nat.exists_eq_add_of_le hd
  induction k with
  | zero => exact h
  | succ k ih => exact TrOk.up (ih (by omega))
theorem wk_ok {xs ys : List Nm} (hs : ∀ x ∈ xs, x ∈ ys) (h : 1 ≤ xs.length) (h3 : xs.length ≤ 3) : TrOk ys 2 (wk xs) := TrOk.le (wkn_ok hs (xs.length - 1) (by omega)) (by omega)
end K14

set_option Elab.async false
set_option linter.all false
set_option maxRecDepth 100000
set_option maxHeartbeats 4000000
/-! The law. -/
namespace K14
open PySem PySem.Spec PyProof.Rows L2 Vl Evl Vp Vc Ve Ven Vg Vb Vt Vlt Vsa Vle Vo Vr Vda Vw Vx2 Vtx Vlk Vpt Vwy
abbrev sLaw : Stmt := top 76
abbrev nLaw : List Str := ["_law_script", "_law_pool_here", "_law_names_here", "_law_words", "_law_one", "_law_two", "_law_longer", "_law_k", "_law_turn", "_law_walk", "_law_tree_here", "_law_name", "_law_due"]
def spLaw (K : PySem.W.Frag) : Sp := fun vs H Q _ => ∃ (l : Addr) (ns : List Int), vs = [.ref l] ∧ SqL K H l (ns.map V.int) ∧ ∀ H', Q (.bl true) H'
theorem Sec.sub {xs ys : List Nm} (h : ∀ l ∈ ys, l ∈ xs) {a b : Tr} (s : Sec ys a b) : Sec xs a b := by
  rcases s with e | ⟨t, o, e⟩ | ⟨x, hx, e⟩ | e | o
  · exact .inl e
  · exact .inr (.inl ⟨t, TrOk.sub h o, e⟩)
  · exact .inr (.inr (.inl ⟨x, h x hx, e⟩))
  · exact .inr (.inr (.inr (.inl e)))
  · exact .inr (.inr (.inr (.inr (TrOk.sub h o))))
theorem rws_wo {H : Hp} {p : Addr} {n : Nat} {rows : Rws} (hp : PoolAt H p n) (h : RwsAt H rows) : RwsAt (Wo H p) rows := fun c hc => wo_at (h c hc) (pool_vtx hp (h c hc))
section
variable {K : PySem.W.Frag} {CP CA : Addr} {σ : L2.St} {H : Hp} {E : L2.St → XK}
/-- a name for what one call gives, its argument by hand -/
theorem s_asgC {D : L2.Ends} {f : List V → Hp → VK → Prop} {te : TE} {i : Nat} (h : te σ H fun x H1 => f [x] H1 fun v H2 => D.nx (σ.set i (some v)) H2) : tAsg (tCB f (tCons te tNil)) (gName i) D σ H := h
/-- both patterns as the law finds them -/
theorem ev_ri {i j : Nat} {r1 r2 ra L : Addr} {a b : Tr} {xs : List Nm} {rows more : Rws} (h1 : σ[i]? = some (some (.ref r1))) (h2 : σ[j]? = some (some (.ref r2))) (h3 : σ[3]? = some (some (.ref ra))) (h4 : σ[6]? = some (some (.ref L))) (Ta : TrAt H a r1) (Tb : TrAt H b r2) (R : PR xs a b) (hn : ∀ x ∈ xs, nam x)
    (hra : H ra = some (.lst (rfs rows))) (RA : RwsAt H rows) (hr : ∀ c ∈ rows, (∀ x ∈ c.2, nam x) ∧ c.2.length ≤ 250) (hl : rows.length ≤ 1000) (hL : H L = some (.lst (rfs more))) (RM : RwsAt H more) (hm : ∀ c ∈ more, (∀ x ∈ c.2, nam x) ∧ c.2.length ≤ 250) (hk : more.length ≤ 1000) :
    EvT (tB (tFu (spRi2) E (tCons (tVar i) (tCons (tVar j) (tCons (tVar 3) (tCons (tVar 6) tNil)))))) σ H true :=
  et_B (ev_fu (ea_cons (ev_var h1) (ea_cons (ev_var h2) (ea_cons (ev_var h3) (ea_cons (ev_var h4) ea_nil)))) fun G g Q1 q1 E1 => ⟨r1, r2, ra, L, a, b, xs, rows, more, rfl, Ta.mono g, Tb.mono g, R, hn, g _ _ hra, RA.mono g, hr, hl, g _ _ hL, RM.mono g, hm, hk, fun G2 g2 => q1 G2 g2⟩)
/-- whether the walk is within the pattern -/
theorem ev_wiW {i j : Nat} {wa r : Addr} {a : Tr} {xs ys : List Nm} {d : Bool} (hi : σ[i]? = some (some (.ref wa))) (hj : σ[j]? = some (some (.ref r))) (hw : H wa = some (.tup (vtx ys))) (T : TrAt H a r) (O : TrOk xs 2 a) (hn : ∀ x ∈ xs, nam x) (hy : ∀ y ∈ ys, y ∈ xs) (h1 : 1 ≤ ys.length) (h3 : ys.length ≤ 3) (hd : d = true ↔ a.L ys) :
    Ev (tFu (spWi K CP CA) E (tCons (tVar i) (tCons (tFu (spPa K CP CA 4) (fun _ => nil0) (tCons (tVar j) tNil)) tNil))) σ H (.bl d) := fun H1 e Q q =>
  ⟨_, hi, _, hj, r, a, 2, xs, rfl, by decide, by decide, T.mono e, O, hn, fun o U H2 no e2 S PA => ⟨.ref wa, .ref o, wk ys, U, 65537, rfl, .inr ⟨wa, ys, rfl, st_of ((e.trans e2) _ _ hw), fun x hx => hn x (hy x hx), h1, by omega, rfl⟩, .inl ⟨o, rfl, PA⟩,
    PR.wi (pr_of (wk_ok hy h1 h3) (.inr (.inr (.inr (.inr O))))) hn (wkn_srt ys _) S, PR.nd (pr_of (wk_ok hy h1 h3) (.inr (.inr (.inr (.inr O))))) (wkn_srt ys _) S, fun b H3 e3 hb => by
      have : b = d := by
        rw [Bool.eq_iff_iff, hb, hd]
        exact ⟨fun z => (S.words ys).mp (z ys ((wk_L h1 ys).mpr rfl)), fun z w hw => by rw [(wk_L h1 w).mp hw]; exact (S.words ys).mpr z⟩
      rw [this]
      exact q H3 (e2.trans e3)⟩⟩
/-- nothing parts the walk from its own pattern -/
theorem ev_pgW {i j : Nat} {wa r : Addr} {xs ys : List Nm} (hi : σ[i]? = some (some (.ref wa))) (hj : σ[j]? = some (some (.ref r))) (hw : H wa = some (.tup (vtx ys))) (T : TrAt H (wk ys) r) (hn : ∀ x ∈ xs, nam x) (hy : ∀ y ∈ ys, y ∈ xs) (h1 : 1 ≤ ys.length) (h3 : ys.length ≤ 3) :
    Ev (tFu (spPg K CP CA) E (tCons (tVar i) (tCons (tFu (spPa K CP CA 4) (fun _ => nil0) (tCons (tVar j) tNil)) tNil))) σ H .non := fun H1 e Q q =>
  ⟨_, hi, _, hj, r, wk ys, 2, xs, rfl, by decide, by decide, T.mono e, wk_ok hy h1 h3, hn, fun o U H2 no e2 S PA => ⟨.ref wa, .ref o, wk ys, U, 65537, rfl, .inr ⟨wa, ys, rfl, st_of ((e.trans e2) _ _ hw), fun x hx => hn x (hy x hx), h1, by omega, rfl⟩, .inl ⟨o, rfl, PA⟩,
    PR.pg (pr_self (wk_ok hy h1 h3)) hn (wkn_srt ys _) S, fun H3 e3 _ => q H3 (e2.trans e3), fun p ws H3 e3 hp hne => absurd (S.words ws).symm hne⟩⟩
end
section
variable {P : Program} {w : World} {K : PySem.W.Frag} {mg : Str → Option Value} {base : Heap} {CA CP CN : Addr}
theorem scLaw : FnScope nLaw ["_law_script"] (defScope sLaw) := ⟨rfl, rfl, rfl, by decide +kernel, rfl, by decide +kernel, by decide +kernel⟩
theorem ok_law {f : Addr} {fd : FuncData} (F : FnP K "law" sLaw f fd) (B : FP K CP) (TCe : Fu P w K mg base L2.CX0 1 "_law_cell" (spCell K)) (TPo : Fu P w K mg base L2.CX0 1 "_law_pool" spPool) (TT : Fu P w K mg base L2.CX0 1 "_law_take" spTake) (TNa : Fu P w K mg base L2.CX0 2 "_law_names" spNames)
    (TTr : Fu P w K mg base L2.CX0 5 "_law_tree" (spTr 4)) (TPa : Fu P w K mg base L2.CX0 13 "_law_pattern" (spPa K CP CA 4)) (TAw : Fu P w K mg base L2.CX0 1 "_law_all_words" spAwX) (TIw : Fu P w K mg base L2.CX0 6 "_law_is_word" spIwM)
    (TSe : Fu P w K mg base L2.CX0 6 "_law_second" spSe) (TRi : Fu P w K mg base L2.CX0 14 "_law_right" spRi2) (TFa : Fu P w K mg base L2.CX0 11 "_law_far_parted" spFa) (TWi : Fu P w K mg base L2.CX0 10 "within" (spWi K CP CA)) (TPg : Fu P w K mg base L2.CX0 9 "parting" (spPg K CP CA))
    (mRange : mg "range" = none) (mTuple : mg "tuple" = none) (mList : mg "list" = none) :
    FnOk P w K mg base L2.CX0 15 f fd ["_law_script"] (spLaw K) := by
  refine F.ok (CX := L2.CX0) scLaw (fun vs H Q E h => ?_) (fun cdv A' outer s H vs Q E hr h => ?_)
  · obtain ⟨l, ns, rfl, _⟩ := h
    rfl
  · refine ⟨_, (pss_cons (ps_set (i := 1) scLaw.nd rfl (by first | exact Or.inl rfl | exact Or.inr rfl) (pe_fu TPo hr (by rfl) (pa_cons (pe_fu TCe hr (by rfl) (pa_cons (pv 0) (pa_cons pe_int pa_nil))) pa_nil)))
      (pss_cons (ps_set (i := 2) scLaw.nd rfl (by first | exact Or.inl rfl | exact Or.inr rfl) (pe_fu TNa hr (by rfl) (pa_cons (pv 1) (pa_cons pe_int pa_nil))))
      (pss_cons (ps_set (i := 3) scLaw.nd rfl (by first | exact Or.inl rfl | exact Or.inr rfl) (pe_fu TAw hr (by rfl) (pa_cons (pv 2) (pa_cons pe_int pa_nil))))
      (pss_cons (ps_set (i := 4) scLaw.nd rfl (by first | exact Or.inl rfl | exact Or.inr rfl) (pe_fu TTr hr (by rfl) (pa_cons (pv 1) (pa_cons (pe_slice sl_list (pv 2) po_none (po_some (pe_op op_add pe_int (pe_fu TT hr (by rfl) (pa_cons (pv 1) (pa_cons pe_int pa_nil)))))) (pa_cons pe_int pa_nil)))))
      (pss_cons (ps_set (i := 1) scLaw.nd rfl (by first | exact Or.inl rfl | exact Or.inr rfl) (pe_fu TPo hr (by rfl) (pa_cons (pe_fu TCe hr (by rfl) (pa_cons (pv 0) (pa_cons pe_int pa_nil))) pa_nil)))
      (pss_cons (ps_set (i := 5) scLaw.nd rfl (by first | exact Or.inl rfl | exact Or.inr rfl) (pe_fu TSe hr (by rfl) (pa_cons (pv 1) (pa_cons (pe_slice sl_list (pv 2) po_none (po_some pe_int)) (pa_cons (pv 4) pa_nil)))))
      (pss_cons (ps_set (i := 6) scLaw.nd rfl (by first | exact Or.inl rfl | exact Or.inr rfl) (pe_lst pa_nil))
      (pss_cons (ps_for (passes_of rfl) rfl (pi_range1 (by rfl) mRange (pa_cons pe_int pa_nil)) (pg_name (i := 7) scLaw.nd rfl (by first | exact Or.inl rfl | exact Or.inr rfl)) (pss_one (ps_expr (pe_bm PySem.F.plainAttrs_list PySem.F.slot_list_append PySem.F.type_list_append mt_append (pv 6) (pa_cons (pe_lc (own := [("_law_turn", 8)]) (g := (gName 8)) (tt := tYes) (te := (tOp (rIxL K) (tVar 2) (tFu spTake (fun _ => nil0) (tCons (tVar 1) (tCons (tC (.int 4)) tNil))))) rfl scLaw.nd (pi_range1 (by rfl) mRange (pa_cons (pe_op op_add pe_int (pe_fu TT hr (by rfl) (pa_cons (pv 1) (pa_cons pe_int pa_nil)))) pa_nil)) (blkOk_by (own := [("_law_turn", 8)]) (N := nLaw) (sc := defScope sLaw) (by decide +kernel)) (fun _ _ _ _ _ => (pg_name (i := 8) scLaw.nd rfl (by first | exact Or.inl rfl | exact Or.inr rfl))) (fun _ _ _ _ _ => pts_nil) (fun _ _ _ _ _ => (pe_ix ix_list (pv 2) (pe_fu TT hr (by rfl) (pa_cons (pv 1) (pa_cons pe_int pa_nil))) fun _ _ => rfl))) pa_nil)))))
      (pss_cons (ps_if (PW.pt (pw_or (pt_not (pt_val (pe_fu TRi hr (by rfl) (pa_cons (pv 4) (pa_cons (pv 5) (pa_cons (pv 3) (pa_cons (pv 6) pa_nil))))))) (pw_or1 (pt_not (pt_val (pe_fu TRi hr (by rfl) (pa_cons (pv 5) (pa_cons (pv 4) (pa_cons (pv 3) (pa_cons (pv 6) pa_nil)))))))))) (pss_one (ps_ret pe_bl)) pss_nil)
      (pss_cons (ps_if (pt_not (pt_val (pe_fu TRi hr (by rfl) (pa_cons (pv 4) (pa_cons (pv 4) (pa_cons (pv 3) (pa_cons (pv 6) pa_nil))))))) (pss_one (ps_ret pe_bl)) pss_nil)
      (pss_cons (ps_set (i := 9) scLaw.nd rfl (by first | exact Or.inl rfl | exact Or.inr rfl) (pe_callTy call_tuple_of (by rfl) mTuple boot_tuple (pa_cons (pe_lc (own := [("_law_turn", 8)]) (g := (gName 8)) (tt := tYes) (te := (tOp (rIxL K) (tVar 2) (tFu spTake (fun _ => nil0) (tCons (tVar 1) (tCons (tC (.int 2)) tNil))))) rfl scLaw.nd (pi_range1 (by rfl) mRange (pa_cons (pe_op op_add pe_int (pe_fu TT hr (by rfl) (pa_cons (pv 1) (pa_cons pe_int pa_nil)))) pa_nil)) (blkOk_by (own := [("_law_turn", 8)]) (N := nLaw) (sc := defScope sLaw) (by decide +kernel)) (fun _ _ _ _ _ => (pg_name (i := 8) scLaw.nd rfl (by first | exact Or.inl rfl | exact Or.inr rfl))) (fun _ _ _ _ _ => pts_nil) (fun _ _ _ _ _ => (pe_ix ix_list (pv 2) (pe_fu TT hr (by rfl) (pa_cons (pv 1) (pa_cons pe_int pa_nil))) fun _ _ => rfl))) pa_nil)))
      (pss_cons (ps_set (i := 10) scLaw.nd rfl (by first | exact Or.inl rfl | exact Or.inr rfl) (pe_tup (pa_cons pe_str (pa_cons (pe_lst (pa_cons (pe_ix ix_tup (pv 9) pe_int fun _ _ => rfl) pa_nil)) pa_nil))))
      (pss_cons (ps_for (passes_of rfl) rfl (pi_tup (pe_slice sl_tupA (pv 9) (po_some pe_int) po_none)) (pg_name (i := 11) scLaw.nd rfl (by first | exact Or.inl rfl | exact Or.inr rfl)) (pss_one (ps_set (i := 10) scLaw.nd rfl (by first | exact Or.inl rfl | exact Or.inr rfl) (pe_tup (pa_cons pe_str (pa_cons (pv 10) (pa_cons (pe_tup (pa_cons pe_str (pa_cons (pe_lst (pa_cons (pv 11) pa_nil)) pa_nil))) pa_nil)))))))
      (pss_cons (ps_if (pt_not (pt_val (pe_fu TFa hr (by rfl) (pa_cons (pe_ix ix_list (pv 2) pe_int fun _ _ => rfl) (pa_cons (pe_op op_add pe_int (pe_fu TT hr (by rfl) (pa_cons (pv 1) (pa_cons pe_int pa_nil)))) pa_nil))))) (pss_one (ps_ret pe_bl)) pss_nil)
      (pss_cons (ps_set (i := 12) scLaw.nd rfl (by first | exact Or.inl rfl | exact Or.inr rfl) (pe_fu TIw hr (by rfl) (pa_cons (pv 4) (pa_cons (pe_callTy call_list_of (by rfl) mList boot_list (pa_cons (pv 9) pa_nil)) pa_nil))))
      (pss_one (ps_ret (pe_and (pe_cmpR op_eq (pe_fu TWi hr (by rfl) (pa_cons (pv 9) (pa_cons (pe_fu TPa hr (by rfl) (pa_cons (pv 4) pa_nil)) pa_nil))) (pv 12) (nomark _)) (pe_one (pe_cmpR op_isN (pe_fu TPg hr (by rfl) (pa_cons (pv 9) (pa_cons (pe_fu TPa hr (by rfl) (pa_cons (pv 10) pa_nil)) pa_nil))) pe_non (nomark _))))))))))))))))))))), ?_⟩
    obtain ⟨l, ns, rfl, hS, k⟩ := h
    refine s_seq ?_
    refine ⟨_, rfl, l, ns, 0, rfl, hS, _, rfl, fun p H1 np e1 hp => ?_⟩
    have P1 : Pl H p 0 H1 := ⟨np, e1, hp⟩
    dsimp only [gName, List.set]
    refine s_seq ?_
    refine ⟨_, rfl, p, 4, H, 0, rfl, by omega, P1, by omega, fun q xs H2 nq P2 hq hxl NX => ?_⟩
    dsimp only [gName, List.set]
    have hqp : q ≠ p := P1.ne nq
    refine s_seq ?_
    refine ⟨_, rfl, q, xs, 4, rfl, hq, by omega, by omega, fun ra rows H3 nra e3 hra RA hrows => ?_⟩
    dsimp only [gName, List.set]
    have hrow : ∀ c ∈ rows, (∀ x ∈ c.2, nam x) ∧ c.2.length ≤ 250 := fun c hc => by
      have : c.2 ∈ rows.map (·.2) := List.mem_map_of_mem hc
      rw [hrows] at this
      obtain ⟨z1, z2⟩ := upto_of 4 c.2 this
      exact ⟨fun x hx => NX.1 x (z2 x hx), by omega⟩
    have hrl : rows.length ≤ 1000 := by
      have h1 : rows.length = (upto xs 4).length := by rw [← hrows, List.length_map]
      have h2 : (upto xs 4).length = 341 := by
        match xs, hxl with
        | [a, b, c, d], _ => rfl
      exact Nat.le_trans (Nat.le_of_eq (h1.trans h2)) (by decide)
    have P3 := P2.grow e3
    have hq3 := e3 _ _ hq
    have hrap : ra ≠ p := P2.ne nra
    -- one
    refine s_seq ?_
    refine ⟨_, rfl, _, rfl, _, rfl, p, 2, Wo H3 p, _, rfl, by omega, by omega, P3.re, by omega, fun rz H4 r0 r1 P4 => ?_⟩
    obtain ⟨z, rfl⟩ := Int.eq_ofNat_of_zero_le r0
    have hz : z < 2 := by omega
    have hq4 := P4.ex _ _ (wo_at hq3 hqp)
    have hra4 := P4.ex _ _ (wo_at hra hrap)
    have RA4 : RwsAt H4 rows := (rws_wo P3.at_ RA).mono P4.ex
    have P4 := P3.back P4
    refine ⟨2, (z : Int), rfl, rfl, _, rfl, q, vtx xs, rfl, sq_of hq4, fun lq nlq => ?_⟩
    have hcut : cutV (vtx xs) none (some (2 + (z : Int))) = vtx (xs.take (2 + z)) := by
      rw [show (2 : Int) + (z : Int) = ((2 + z : Nat) : Int) by omega]
      refine (cutV0 (vtx xs) (2 + z)).trans ?_
      unfold vtx
      rw [List.map_take]
    rw [hcut]
    have e5 : Ex H4 (upd H4 lq (.lst (vtx (xs.take (2 + z))))) := Ex.new nlq
    have P5 := P4.new (o := .lst (vtx (xs.take (2 + z)))) nlq
    have hlqp : lq ≠ p := P4.ne nlq
    have hlq : upd H4 lq (.lst (vtx (xs.take (2 + z)))) lq = some (.lst (vtx (xs.take (2 + z)))) := upd_same
    generalize upd H4 lq (.lst (vtx (xs.take (2 + z)))) = H5 at P5 hlq e5 ⊢
    have hlen : (xs.take (2 + z)).length = 2 + z := by rw [List.length_take]; omega
    refine ⟨p, lq, (2 : Nat), xs.take (2 + z), Wo H5 p, _, rfl, by decide, P5.re, by decide, wo_at hlq hlqp, by omega, by omega, fun r a kk H6 P6 _ Ta Oa => ?_⟩
    have Oa : TrOk xs 2 a := TrOk.sub (fun x hx => List.mem_of_mem_take hx) Oa
    have hq6 := P6.ex _ _ (wo_at (e5 _ _ hq4) hqp)
    have hra6 := P6.ex _ _ (wo_at (e5 _ _ hra4) hrap)
    have RA6 : RwsAt H6 rows := (rws_wo P5.at_ (RA4.mono e5)).mono P6.ex
    have hS6 := ex_l (P5.back P6).ex hS
    clear P1 P2 P3 P4 P5 P6 hq hq3 hq4 hra hra4 RA RA4 hlq e5 hcut hlen hlqp hrap
    dsimp only [gName, List.set]
    -- the second pool
    refine s_seq ?_
    refine ⟨_, rfl, l, ns, 1, rfl, hS6, _, rfl, fun p2 H7 np2 e7 hp2 => ?_⟩
    have P7 : Pl H6 p2 0 H7 := ⟨np2, e7, hp2⟩
    dsimp only [gName, List.set]
    have qp2 : q ≠ p2 := fun z => by rw [z, np2] at hq6; cases hq6
    have rap2 : ra ≠ p2 := fun z => by rw [z, np2] at hra6; cases hra6
    -- two
    refine s_seq ?_
    refine ⟨_, rfl, _, rfl, 3, rfl, q, vtx xs, rfl, sq_of (e7 _ _ hq6), fun lq nlq => ?_⟩
    have hcut : cutV (vtx xs) none (some 3) = vtx (xs.take 3) := by
      refine (cutV0 (vtx xs) 3).trans ?_
      unfold vtx
      rw [List.map_take]
    rw [hcut]
    have e8 : Ex H7 (upd H7 lq (.lst (vtx (xs.take 3)))) := Ex.new nlq
    have P8 := P7.new (o := .lst (vtx (xs.take 3))) nlq
    have hlqp : lq ≠ p2 := P7.ne nlq
    have hlq : upd H7 lq (.lst (vtx (xs.take 3))) lq = some (.lst (vtx (xs.take 3))) := upd_same
    generalize upd H7 lq (.lst (vtx (xs.take 3))) = H8 at P8 hlq e8 ⊢
    have hlen : (xs.take 3).length = 3 := by rw [List.length_take]; omega
    have e78 := e7.trans e8
    refine ⟨_, rfl, p2, lq, r, xs.take 3, Wo H8 p2, 0, a, rfl, P8.re, by omega, wo_at hlq hlqp, by omega, by omega, TrAt.wo P8.at_ (Ta.mono e78), fun r2 b k2 H9 P9 hk2 Tb S => ?_⟩
    have S := Sec.sub (xs := xs) (fun x hx => List.mem_of_mem_take hx) S
    have Ta9 : TrAt H9 a r := (TrAt.wo P8.at_ (Ta.mono e78)).mono P9.ex
    have hq9 := P9.ex _ _ (wo_at (e78 _ _ hq6) qp2)
    have hra9 := P9.ex _ _ (wo_at (e78 _ _ hra6) rap2)
    have RA9 : RwsAt H9 rows := (rws_wo P8.at_ (RA6.mono e78)).mono P9.ex
    have PB : Pl (Wo H9 p2) p2 k2 H9 := (P8.back P9).re
    obtain ⟨Bs, hB⟩ : ∃ Bs, Bs = Wo H9 p2 := ⟨_, rfl⟩
    have hqB : Bs q = some (.lst (vtx xs)) := by rw [hB]; exact wo_at hq9 qp2
    have hraB : Bs ra = some (.lst (rfs rows)) := by rw [hB]; exact wo_at hra9 rap2
    have RAB : RwsAt Bs rows := by rw [hB]; exact rws_wo PB.at_ RA9
    have TaB : TrAt Bs a r := by rw [hB]; exact TrAt.wo PB.at_ Ta9
    have TbB : TrAt Bs b r2 := by rw [hB]; exact TrAt.wo PB.at_ Tb
    rw [← hB] at PB
    clear hB P7 P8 P9 hq6 hra6 RA6 Ta Ta9 Tb hq9 hra9 RA9 hlq e8 e78 hcut hlen hlqp
    dsimp only [gName, List.set]
    -- longer
    refine s_seq ?_
    refine s_asgL (xs := []) (el_lst ea_nil (by show 0 ≤ 100000; omega)) fun L H10 nL e10 hL => ?_
    dsimp only [List.set]
    have LB : Bs L = none := fresh_back PB.ex nL
    have Lp : L ≠ p2 := PB.ne nL
    have PB := PB.grow e10
    refine s_seq ?_
    refine s_forR1 (n := 12) (ea_cons ev_c ea_nil) (by decide) (fun i st H' => ∃ (t7 : Option V) (more : Rws) (m : Nat), st = [some (.ref l), some (.ref p2), some (.ref q), some (.ref ra), some (.ref r), some (.ref r2), some (.ref L), t7, none, none, none, none, none] ∧ Pl Bs p2 m H' ∧ m ≤ 200 + 50 * i ∧ H' L = some (.lst (rfs more)) ∧ RwsAt H' more ∧ (∀ c ∈ more, c.1 ≠ L ∧ (∀ x ∈ c.2, nam x) ∧ c.2.length ≤ 250) ∧ more.length = i)
      (fun H11 e11 => ⟨none, [], k2, rfl, PB.grow e11, by omega, e11 _ _ hL, (fun _ h => nomatch h), (fun _ h => nomatch h), rfl⟩) ?_ ?_
    · rintro i st H11 hi ⟨t7, more, m, rfl, P11, hm, hL11, RM, hM, hml⟩
      dsimp only [List.set]
      have hi : i < 12 := by omega
      refine ⟨_, rfl, .inl ⟨rfl, _, sq_of hL11⟩, ?_⟩
      refine lc_drawsC (xs := xs) (p := p2) (a := q) (Hk := Wo H11 p2) (n := m) (a0 := 5) (b0 := 4) (c := 4) (pi := 1) (ai := 2) (j := 8) P11.re (by omega) rfl (by omega) (by omega) (by omega) (wo_at (P11.ex _ _ hqB) qp2) (by omega) (by omega) (by omega) (fun _ => rfl) (fun _ => rfl) (fun _ => rfl) fun d ys m2 H12 nd P12 hm2 hd h5 h9 hys hdp => ?_
      have hL12 := P12.ex _ _ (wo_at hL11 Lp)
      have dL : d ≠ L := fun z => by
        rw [z, wo_at hL11 Lp] at nd
        cases nd
      refine ⟨L, _, .ref d, rfl, rfl, hL12, sz_lt (by rw [rfs_len]; omega), ?_⟩
      refine ⟨_, more ++ [(d, ys)], m2, rfl, Vdr.plMut (P11.back P12) LB Lp, by omega, ?_, fun c hc => ?_, fun c hc => ?_, by rw [List.length_append, hml]; rfl⟩
      · rw [upd_same]
        unfold rfs
        rw [List.map_append]
        rfl
      · rcases List.mem_append.mp hc with hc | hc
        · exact (upd_ne (hM c hc).1).trans (P12.ex _ _ (wo_at (RM c hc) (pool_vtx P11.at_ (RM c hc))))
        · rw [List.mem_singleton.mp hc]
          exact (upd_ne dL).trans hd
      · rcases List.mem_append.mp hc with hc | hc
        · exact hM c hc
        · rw [List.mem_singleton.mp hc]
          exact ⟨dL, fun x hx => NX.1 x (hys x hx), by show ys.length ≤ 250; omega⟩
    rintro st H11 ⟨t7, more, m, rfl, P11, hm, hL11, RM, hM, hml⟩
    have hm : m ≤ 800 := Nat.le_trans hm (by decide)
    have hml : more.length = 12 := hml
    have q11 := P11.ex _ _ hqB
    have ra11 := P11.ex _ _ hraB
    have RA11 := RAB.mono P11.ex
    have Ta11 := TaB.mono P11.ex
    have Tb11 := TbB.mono P11.ex
    clear hqB hraB RAB TaB TbB PB hL
    have hM2 : ∀ c ∈ more, (∀ x ∈ c.2, nam x) ∧ c.2.length ≤ 250 := fun c hc => (hM c hc).2
    have R : PR xs a b := pr_of Oa S
    -- both ways
    dsimp only
    refine s_seq ?_
    refine s_when (b := false) (et_or (a := false) (b := false) (et_not (a := true) (ev_ri rfl rfl rfl rfl Ta11 Tb11 R NX.1 ra11 RA11 hrow hrl hL11 RM hM2 (by omega)))
      (fun _ => et_not (a := true) (ev_ri rfl rfl rfl rfl Tb11 Ta11 R.symm NX.1 ra11 RA11 hrow hrl hL11 RM hM2 (by omega)))) (fun z => nomatch z) fun _ H12 e12 => ?_
    -- with itself
    dsimp only
    refine s_seq ?_
    refine s_when (b := false) (et_not (a := true) (ev_ri rfl rfl rfl rfl (Ta11.mono e12) (Ta11.mono e12) (pr_self Oa) NX.1 (e12 _ _ ra11) (RA11.mono e12) hrow hrl (e12 _ _ hL11) (RM.mono e12) hM2 (by omega))) (fun z => nomatch z) fun _ H13 e13 => ?_
    have e1113 := e12.trans e13
    have q13 := e1113 _ _ q11
    have Ta13 := Ta11.mono e1113
    have P13 := (P11.grow e1113).re
    clear P11 q11 ra11 RA11 Ta11 Tb11 hL11 RM hM
    -- walk
    dsimp only
    refine s_seq ?_
    refine s_asgC ?_
    refine lc_drawsC (σ := [some (.ref l), some (.ref p2), some (.ref q), some (.ref ra), some (.ref r), some (.ref r2), some (.ref L), t7, none, none, none, none, none]) (xs := xs) (p := p2) (a := q) (Hk := Wo H13 p2) (n := m) (a0 := 1) (b0 := 3) (c := 2) (pi := 1) (ai := 2) (j := 8) P13 (by omega) rfl (by omega) (by omega) (by omega) (wo_at q13 qp2) (by omega) (by omega) (by omega) (fun _ => rfl) (fun _ => rfl) (fun _ => rfl) fun d ys m2 H14 nd P14 hm2 hd h1 h3 hys hdp => ?_
    refine ⟨d, vtx ys, rfl, .inl ⟨sq_of hd, fun wa nwa => ?_⟩⟩
    dsimp only [gName, List.set]
    have h3 : ys.length ≤ 3 := by omega
    have q14 := P14.ex _ _ (wo_at q13 qp2)
    have Ta14 := (TrAt.wo P13.at_ Ta13).mono P14.ex
    have e15 : Ex H14 (upd H14 wa (.tup (vtx ys))) := Ex.new nwa
    have P15 := (P14.new (o := .tup (vtx ys)) nwa).re
    have wap : wa ≠ p2 := P14.ne nwa
    have hwa : upd H14 wa (.tup (vtx ys)) wa = some (.tup (vtx ys)) := upd_same
    generalize upd H14 wa (.tup (vtx ys)) = H15 at P15 hwa e15 ⊢
    have q15 := e15 _ _ q14
    have Ta15 := Ta14.mono e15
    clear P13 P14 q13 q14 Ta13 Ta14 hd
    obtain ⟨y0, yr, rfl⟩ : ∃ y0 yr, ys = y0 :: yr := by
      cases ys with
      | nil => exact absurd h1 (by show ¬ 1 ≤ 0; omega)
      | cons y0 yr => exact ⟨y0, yr, rfl⟩
    -- its tree
    refine s_seq ?_
    refine evt_any (x := y0) (σ := [some (.ref l), some (.ref p2), some (.ref q), some (.ref ra), some (.ref r), some (.ref r2), some (.ref L), t7, none, some (.ref wa), none, none, none]) (H := H15) (ev_ixTA (K := K) (i := 0) (ev_var rfl) (st_of hwa) rfl) H15 (Ex.refl _) _ fun rt0 H16 e16 T16 => ?_
    dsimp only [gName, List.set]
    refine s_seq ?_
    unfold tFor iTup
    refine Vt.et_cut (K := K) (lo := some ((1 : Nat) : Int)) (hi := none) (Vt.et_ref (ev_var (i := 9) rfl) (st_of (e16 _ _ hwa))) (eo_some ev_c) eo_none H16 (Ex.refl _) _ fun pt H17 e17 hpt => ?_
    rw [cutV1] at hpt
    have hpt : SqT K H17 pt (vtx yr) := hpt
    refine ⟨pt, rfl, ⟨_, hpt⟩, for_tup (xs := vtx yr) (fun i st H' => ∃ (rt : Addr) (t11 : Option V), st = [some (.ref l), some (.ref p2), some (.ref q), some (.ref ra), some (.ref r), some (.ref r2), some (.ref L), t7, none, some (.ref wa), some (.ref rt), t11, none] ∧ Ex H17 H' ∧ TrAt H' (wkn (y0 :: yr) i) rt) ⟨rt0, none, rfl, Ex.refl _, T16.mono e17⟩ (fun i st H' _ ⟨_, _, _, e, _⟩ => ex_t e hpt) ?_ ?_⟩
    · rintro i v st H18 hx ⟨rt, t11, rfl, e18, T18⟩
      unfold vtx at hx
      rw [List.getElem?_map] at hx
      obtain ⟨y, hy, rfl⟩ := Option.map_eq_some_iff.mp hx
      have hyg : (y0 :: yr).getD (i + 1) [] = y := by
        rw [List.getD_eq_getElem?_getD, List.getElem?_cons_succ, hy]
        rfl
      dsimp only [gName, List.set]
      refine evt_mk2 (k := "join") (mk := .thn) (t1 := wkn (y0 :: yr) i) (t2 := .atom false [y]) (σ := [some (.ref l), some (.ref p2), some (.ref q), some (.ref ra), some (.ref r), some (.ref r2), some (.ref L), t7, none, some (.ref wa), some (.ref rt), some (.str (tx y)), none]) (H := H18) (fun G pp r1 r2 h1 h2 h3 => ⟨r1, r2, h1, h2, h3⟩) (evt_var (i := 10) rfl T18) (evt_any (ev_var (i := 11) rfl)) H18 (Ex.refl _) _ fun rt2 H19 e19 T19 => ?_
      refine ⟨rt2, _, rfl, e18.trans e19, ?_⟩
      show TrAt H19 (.thn (wkn (y0 :: yr) i) (.atom false [(y0 :: yr).getD (i + 1) []])) rt2
      rw [hyg]
      exact T19
    rintro st H18 ⟨rt, t11, rfl, e18, T18⟩
    rw [vtx_len] at T18
    have T18 : TrAt H18 (wk (y0 :: yr)) rt := T18
    have e1518 := (e16.trans e17).trans e18
    have q18 := e1518 _ _ q15
    have hwa18 := e1518 _ _ hwa
    have Ta18 := Ta15.mono e1518
    have P18 := (P15.grow e1518).re
    clear P15 hwa q15 Ta15 hpt T16
    -- far parted
    dsimp only
    refine s_seq ?_
    obtain ⟨x0, hx0⟩ : ∃ x0, xs[0]? = some x0 := ⟨xs[0], List.getElem?_eq_getElem (by omega)⟩
    refine ⟨_, rfl, q, vtx xs, 0, _, rfl, rfl, sq_of q18, at_of rfl (vtx_at hx0), ?_⟩
    refine ⟨_, rfl, p2, 2, Wo H18 p2, _, rfl, by omega, by omega, P18, by omega, fun rz H19 r0 r1 P19 => ?_⟩
    obtain ⟨z2, rfl⟩ := Int.eq_ofNat_of_zero_le r0
    have hz2 : z2 < 2 := by omega
    refine ⟨2, (z2 : Int), rfl, rfl, x0, z2, ?_, NX.1 x0 (List.mem_of_getElem? hx0), by omega, fun H20 e20 => ⟨true, rfl, ifF (by decide) ?_⟩⟩
    · show [V.str (tx x0), V.int ((2 : Int) + (z2 : Int))] = _
      rw [show (2 : Int) + (z2 : Int) = ((z2 + 2 : Nat) : Int) by omega]
    have hwa20 := e20 _ _ (P19.ex _ _ (wo_at hwa18 wap))
    have Ta20 := ((TrAt.wo P18.at_ Ta18).mono P19.ex).mono e20
    have T20 := ((TrAt.wo P18.at_ T18).mono P19.ex).mono e20
    clear P18 P19 hwa18 Ta18 T18 q18
    -- due
    obtain ⟨bd, hbd⟩ : ∃ v : Bool, v = true ↔ a.L (y0 :: yr) := by
      by_cases h : a.L (y0 :: yr)
      · exact ⟨true, fun _ => h, fun _ => rfl⟩
      · exact ⟨false, (fun z => nomatch z), fun z => absurd z h⟩
    unfold tNext
    dsimp only
    refine q_asg (ev_iwL (ev_var (i := 4) rfl) (el_listT (K := K) (ev_var (i := 9) rfl) (st_of hwa20)) Ta20 (mt_of Oa) (by omega) hbd) fun H21 e21 => ?_
    dsimp only [List.set]
    refine s_ret (v := .bl true) (ev_is (ev_andV (a := true) (b := true) (ev_is (ev_op (ev_wiW rfl rfl (e21 _ _ hwa20) (Ta20.mono e21) Oa NX.1 hys h1 h3 hbd) (ev_var (i := 12) rfl) (rv_eq rfl)) (congrArg V.bl (decide_eq_true rfl)))
      fun _ => ev_is (ev_isNo (ev_pgW rfl rfl (e21 _ _ hwa20) (T20.mono e21) NX.1 hys h1 h3)) rfl) rfl) fun H22 e22 => k H22
end
end K14

set_option Elab.async false
set_option linter.all false
set_option maxRecDepth 100000
set_option maxHeartbeats 0
namespace K14
open PySem PySem.Spec PyProof.Rows L2 Vh Vw
abbrev iniBadNumber : Stmt := (clB (top 25)).getD 0 (.Pass ⟨0, 0, 0, 0⟩)
def fn : List He.DefD := [gD (top 7) "is_atom", gD (top 8) "is_join", gD (top 9) "in_order", gD (top 10) "named_by", gD (top 16) "places_in", gD (top 17) "_linked", gD (top 18) "_either", gD (top 19) "_joined", gD (top 30) "is_name", gD (top 31) "is_integer", gD (top 32) "check_name", gD (top 33) "check_sequence", gD (top 46) "traced", gD (top 49) "any_of", gD (top 50) "none_of", gD (top 51) "walk_of", gD (top 52) "repeated", gD (top 53) "optional", gD (top 54) "pattern_of", gD (top 55) "_other_name", gD (top 56) "within", gD (top 57) "parting", gD (top 58) "_different_lanes", gD (top 60) "_law_cell", gD (top 61) "_law_pool", gD (top 62) "_law_take", gD (top 63) "_law_names", gD (top 64) "_law_tree", gD (top 65) "_law_atom", gD (top 66) "_law_pattern", gD (top 67) "_law_ends_of", gD (top 68) "_law_takes", gD (top 69) "_law_distinct", gD (top 70) "_law_is_word", gD (top 71) "_law_all_words", gD (top 72) "_law_second", gD (top 73) "_law_only", gD (top 74) "_law_right", gD (top 75) "_law_far_parted", gD (top 76) "law", mD (memA 0) "Atoms" "__init__" "Atoms.__init__", mD (memA 1) "Atoms" "taking" "Atoms.taking", mD (memA 2) "Atoms" "after" "Atoms.after", mD (memA 3) "Atoms" "has_word" "Atoms.has_word", mD (memP 0) "Pattern" "__init__" "Pattern.__init__", mD (memP 4) "Pattern" "__contains__" "Pattern.__contains__", mD (memP 5) "Pattern" "__bool__" "Pattern.__bool__", mD (memP 6) "Pattern" "__add__" "Pattern.__add__", mD (memP 7) "Pattern" "__or__" "Pattern.__or__", mD (memP 8) "Pattern" "__mul__" "Pattern.__mul__", mD iniBadNumber "BadNumber" "__init__" "BadNumber.__init__"]
def pr : List PrD := [(("Pattern", "names"), mD (memP 3) "Pattern" "names" "Pattern.names")]
def globals : List Str := ((["Atoms", "Pattern", "BadNumber", "is_atom", "is_join", "in_order", "named_by", "places_in", "_linked", "_either", "_joined", "is_name", "is_integer", "check_name", "check_sequence", "traced", "any_of", "none_of", "walk_of", "repeated", "optional", "pattern_of", "_other_name", "within", "parting"] : List Str) ++ (["_different_lanes", "_law_cell", "_law_pool", "_law_take", "_law_names", "_law_tree", "_law_atom", "_law_pattern", "_law_ends_of", "_law_takes", "_law_distinct", "_law_is_word", "_law_all_words", "_law_second", "_law_only", "_law_right", "_law_far_parted", "law"] : List Str))
def frees : List Str := ["len", "int", "str", "isinstance", "range", "tuple", "list", "all", "sorted", "set", "bool", "enumerate"]
def fs : List Fact := [glosF globals, freesF frees, strF "LETTERS" (Vp.tx Vp.letters), strF "DIGITS" (Vp.tx Vp.digits), intF "LONGEST" 8, strF "ANY" (Vp.tx kAny), strF "NONE" (Vp.tx kNone), strF "THEN" (Vp.tx kThen), strF "EITHER" (Vp.tx kEither), strF "REPEATED" (Vp.tx kRep), strF "OPTIONAL" (Vp.tx kOpt), clsF "Atoms" ["empty", "last", "begin", "ends", "_follow", "_takes"] ["taking", "after", "has_word"], mkF "Atoms", clsF "Pattern" ["_steps", "atoms"] ["__contains__", "__bool__", "__add__", "__or__", "__mul__"], mkF "Pattern", prpF "Pattern" "names", owF "Pattern" "add", owF "Pattern" "or", owF "Pattern" "mul", takB, errF "BadNumber" ["value"], insF "Pattern", tyF "Pattern"]
abbrev RwK : PySem.W.OpenRow := PySem.W.OpenLaw.row PySem.Challenge.rw_alsoshown_k14_patterns_compared
abbrev hk : PySem.W.Hook := hookP 5 (allF fs) fn pr
def ob (s : PySem.W.SharedT) : He.AlD := obsPG 5 (allF fs) fn pr (HandSHeadRun.getT s)
theorem ob_eq (s : PySem.W.SharedT) : ob s = hk.obs s.abs := obsPG_eq (HandSHeadRun.getT_eq s)
def loose : List Str := (((["__name__", "ShowError", "ANY", "NONE", "THEN", "EITHER", "REPEATED", "OPTIONAL", "is_atom", "is_join", "in_order", "named_by", "text_of", "_text_of_atom", "opposite", "Atoms", "places_in", "_linked", "_either", "_joined", "BadName", "EmptyWalk", "BadText", "BadNumber", "LETTERS"] : List Str) ++ (["DIGITS", "LONGEST", "is_name", "is_integer", "check_name", "check_sequence", "GROUP", "steps_of", "_stands", "_need", "_end_of_name", "_read_atom", "_read_brackets", "_end_groups", "_join", "_go_on", "traced", "Pattern", "any_of", "none_of", "walk_of", "repeated", "optional", "pattern_of", "_other_name"] : List Str) ++ (["within", "parting", "_different_lanes", "_law_cell", "_law_pool", "_law_take", "_law_names", "_law_tree", "_law_atom", "_law_pattern", "_law_ends_of", "_law_takes", "_law_distinct", "_law_is_word", "_law_all_words", "_law_second", "_law_only", "_law_right", "_law_far_parted"] : List Str)) : List Str)
theorem run (w : World) : HandSHeadRun.RunEq RwK (PySem.W.view RwK.prog [76]) hk ob 20000 loose w := by
  intro os
  kernel_rfl
end K14

set_option Elab.async false
set_option linter.all false
set_option maxRecDepth 100000
set_option maxHeartbeats 4000000
namespace K14
open PySem PySem.Spec PyProof.Rows L2 Vl Evl Vh Vc Vx2 Vw Vp Vg Vsa
theorem facts_ok {P : Program} {w : World} {K : PySem.W.Frag} {h : Heap} {mg : Str → Option Value} {f : Addr} (X : K.In h) (G : h.Ns mainGlobals mg) (hfa : mg ("law" : Str) = some (.ref f)) (c : SaysP (allF fs) fn pr K) :
    ∃ fd : FuncData, (∀ (s : Shared) (v : Value), BindsTo s fd ⟨[v], []⟩ [("_law_script", v)]) ∧ ∀ base : Heap, K.In base → base.Ns mainGlobals mg → FnOk P w K mg base L2.CX0 15 f fd ["_law_script"] (spLaw K) := by
  have a := c.one.1
  have gg := glos_ok X G (fact_at a 0)
  have fr := frees_ok X G (fact_at a 1)
  have gL := He.str_ok X G (fact_at a 2)
  have gDg := He.str_ok X G (fact_at a 3)
  have gO := He.int_ok X G (fact_at a 4)
  have gANY := He.str_ok X G (fact_at a 5)
  have gNONE := He.str_ok X G (fact_at a 6)
  have gTHEN := He.str_ok X G (fact_at a 7)
  have gEITHER := He.str_ok X G (fact_at a 8)
  have gREPEATED := He.str_ok X G (fact_at a 9)
  have gOPTIONAL := He.str_ok X G (fact_at a 10)
  have ca := clsF_ok (fact_at a 11)
  have MA := He.mkr_ok (fact_at a 12)
  have cp := clsF_ok (fact_at a 13)
  have MP := He.mkr_ok (fact_at a 14)
  have pN := prpF_ok (fact_at a 15)
  obtain ⟨wAdd, zAdd⟩ := owF_ok (fact_at a 16)
  obtain ⟨wOr, zOr⟩ := owF_ok (fact_at a 17)
  obtain ⟨wMul, zMul⟩ := owF_ok (fact_at a 18)
  have tak := fact_at a 19
  have eBadNumber := fact_at a 20
  have ins := Vw.insF_ok cp.cls (fact_at a 21) tak
  obtain ⟨_, tyno⟩ := Vw.tyF_ok (fact_at a 22)
  obtain ⟨fd_is_atom, D_is_atom⟩ := c.def_ 0 (d := gD (top 7) "is_atom") rfl
  obtain ⟨fd_is_join, D_is_join⟩ := c.def_ 1 (d := gD (top 8) "is_join") rfl
  obtain ⟨fd_in_order, D_in_order⟩ := c.def_ 2 (d := gD (top 9) "in_order") rfl
  obtain ⟨fd_named_by, D_named_by⟩ := c.def_ 3 (d := gD (top 10) "named_by") rfl
  obtain ⟨fd_places_in, D_places_in⟩ := c.def_ 4 (d := gD (top 16) "places_in") rfl
  obtain ⟨fd__linked, D__linked⟩ := c.def_ 5 (d := gD (top 17) "_linked") rfl
  obtain ⟨fd__either, D__either⟩ := c.def_ 6 (d := gD (top 18) "_either") rfl
  obtain ⟨fd__joined, D__joined⟩ := c.def_ 7 (d := gD (top 19) "_joined") rfl
  obtain ⟨fd_is_name, D_is_name⟩ := c.def_ 8 (d := gD (top 30) "is_name") rfl
  obtain ⟨fd_is_integer, D_is_integer⟩ := c.def_ 9 (d := gD (top 31) "is_integer") rfl
  obtain ⟨fd_check_name, D_check_name⟩ := c.def_ 10 (d := gD (top 32) "check_name") rfl
  obtain ⟨fd_check_sequence, D_check_sequence⟩ := c.def_ 11 (d := gD (top 33) "check_sequence") rfl
  obtain ⟨fd_traced, D_traced⟩ := c.def_ 12 (d := gD (top 46) "traced") rfl
  obtain ⟨fd_any_of, D_any_of⟩ := c.def_ 13 (d := gD (top 49) "any_of") rfl
  obtain ⟨fd_none_of, D_none_of⟩ := c.def_ 14 (d := gD (top 50) "none_of") rfl
  obtain ⟨fd_walk_of, D_walk_of⟩ := c.def_ 15 (d := gD (top 51) "walk_of") rfl
  obtain ⟨fd_repeated, D_repeated⟩ := c.def_ 16 (d := gD (top 52) "repeated") rfl
  obtain ⟨fd_optional, D_optional⟩ := c.def_ 17 (d := gD (top 53) "optional") rfl
  obtain ⟨fd_pattern_of, D_pattern_of⟩ := c.def_ 18 (d := gD (top 54) "pattern_of") rfl
  obtain ⟨fd__other_name, D__other_name⟩ := c.def_ 19 (d := gD (top 55) "_other_name") rfl
  obtain ⟨fd_within, D_within⟩ := c.def_ 20 (d := gD (top 56) "within") rfl
  obtain ⟨fd_parting, D_parting⟩ := c.def_ 21 (d := gD (top 57) "parting") rfl
  obtain ⟨fd__different_lanes, D__different_lanes⟩ := c.def_ 22 (d := gD (top 58) "_different_lanes") rfl
  obtain ⟨fd__law_cell, D__law_cell⟩ := c.def_ 23 (d := gD (top 60) "_law_cell") rfl
  obtain ⟨fd__law_pool, D__law_pool⟩ := c.def_ 24 (d := gD (top 61) "_law_pool") rfl
  obtain ⟨fd__law_take, D__law_take⟩ := c.def_ 25 (d := gD (top 62) "_law_take") rfl
  obtain ⟨fd__law_names, D__law_names⟩ := c.def_ 26 (d := gD (top 63) "_law_names") rfl
  obtain ⟨fd__law_tree, D__law_tree⟩ := c.def_ 27 (d := gD (top 64) "_law_tree") rfl
  obtain ⟨fd__law_atom, D__law_atom⟩ := c.def_ 28 (d := gD (top 65) "_law_atom") rfl
  obtain ⟨fd__law_pattern, D__law_pattern⟩ := c.def_ 29 (d := gD (top 66) "_law_pattern") rfl
  obtain ⟨fd__law_ends_of, D__law_ends_of⟩ := c.def_ 30 (d := gD (top 67) "_law_ends_of") rfl
  obtain ⟨fd__law_takes, D__law_takes⟩ := c.def_ 31 (d := gD (top 68) "_law_takes") rfl
  obtain ⟨fd__law_distinct, D__law_distinct⟩ := c.def_ 32 (d := gD (top 69) "_law_distinct") rfl
  obtain ⟨fd__law_is_word, D__law_is_word⟩ := c.def_ 33 (d := gD (top 70) "_law_is_word") rfl
  obtain ⟨fd__law_all_words, D__law_all_words⟩ := c.def_ 34 (d := gD (top 71) "_law_all_words") rfl
  obtain ⟨fd__law_second, D__law_second⟩ := c.def_ 35 (d := gD (top 72) "_law_second") rfl
  obtain ⟨fd__law_only, D__law_only⟩ := c.def_ 36 (d := gD (top 73) "_law_only") rfl
  obtain ⟨fd__law_right, D__law_right⟩ := c.def_ 37 (d := gD (top 74) "_law_right") rfl
  obtain ⟨fd__law_far_parted, D__law_far_parted⟩ := c.def_ 38 (d := gD (top 75) "_law_far_parted") rfl
  obtain ⟨fd_law, D_law⟩ := c.def_ 39 (d := gD (top 76) "law") rfl
  obtain ⟨fd_A__init__, D_A__init__⟩ := c.def_ 40 (d := mD (memA 0) "Atoms" "__init__" "Atoms.__init__") rfl
  obtain ⟨fd_Ataking, D_Ataking⟩ := c.def_ 41 (d := mD (memA 1) "Atoms" "taking" "Atoms.taking") rfl
  obtain ⟨fd_Aafter, D_Aafter⟩ := c.def_ 42 (d := mD (memA 2) "Atoms" "after" "Atoms.after") rfl
  obtain ⟨fd_Ahas_word, D_Ahas_word⟩ := c.def_ 43 (d := mD (memA 3) "Atoms" "has_word" "Atoms.has_word") rfl
  obtain ⟨fd_P__init__, D_P__init__⟩ := c.def_ 44 (d := mD (memP 0) "Pattern" "__init__" "Pattern.__init__") rfl
  obtain ⟨fd_P__contains__, D_P__contains__⟩ := c.def_ 45 (d := mD (memP 4) "Pattern" "__contains__" "Pattern.__contains__") rfl
  obtain ⟨fd_P__bool__, D_P__bool__⟩ := c.def_ 46 (d := mD (memP 5) "Pattern" "__bool__" "Pattern.__bool__") rfl
  obtain ⟨fd_P__add__, D_P__add__⟩ := c.def_ 47 (d := mD (memP 6) "Pattern" "__add__" "Pattern.__add__") rfl
  obtain ⟨fd_P__or__, D_P__or__⟩ := c.def_ 48 (d := mD (memP 7) "Pattern" "__or__" "Pattern.__or__") rfl
  obtain ⟨fd_P__mul__, D_P__mul__⟩ := c.def_ 49 (d := mD (memP 8) "Pattern" "__mul__" "Pattern.__mul__") rfl
  obtain ⟨fd_iBadNumber, D_iBadNumber⟩ := c.def_ 50 (d := mD iniBadNumber "BadNumber" "__init__" "BadNumber.__init__") rfl
  obtain ⟨fd_pnames, D_pnames⟩ := c.prp 0 (q := (("Pattern", "names"), mD (memP 3) "Pattern" "names" "Pattern.names")) rfl
  have e := hfa.symm.trans (gg "law" (by decide))
  cases e
  have b := FunD.bindsA (ps := ["_law_script"]) D_law fun _ _ _ _ _ _ us hl => match us, hl with | [_], _ => rfl
  have b_is_atom : L2.Binds K fd_is_atom ["step"] [] := FunD.bindsN D_is_atom fun _ _ _ _ _ _ us hl => match us, hl with | [_], _ => rfl
  have b_is_join : L2.Binds K fd_is_join ["step"] [] := FunD.bindsN D_is_join fun _ _ _ _ _ _ us hl => match us, hl with | [_], _ => rfl
  have b_in_order : L2.Binds K fd_in_order ["names"] [] := FunD.bindsN D_in_order fun _ _ _ _ _ _ us hl => match us, hl with | [_], _ => rfl
  have b_named_by : L2.Binds K fd_named_by ["steps"] [] := FunD.bindsN D_named_by fun _ _ _ _ _ _ us hl => match us, hl with | [_], _ => rfl
  have b_places_in : L2.Binds K fd_places_in ["mask"] [] := FunD.bindsN D_places_in fun _ _ _ _ _ _ us hl => match us, hl with | [_], _ => rfl
  have b__linked : L2.Binds K fd__linked ["steps"] [] := FunD.bindsN D__linked fun _ _ _ _ _ _ us hl => match us, hl with | [_], _ => rfl
  have b__either : L2.Binds K fd__either ["one", "two"] [] := FunD.bindsN D__either fun _ _ _ _ _ _ us hl => match us, hl with | [_, _], _ => rfl
  have b__joined : L2.Binds K fd__joined ["one", "two"] [] := FunD.bindsN D__joined fun _ _ _ _ _ _ us hl => match us, hl with | [_, _], _ => rfl
  have b_is_name : L2.Binds K fd_is_name ["value"] [] := FunD.bindsN D_is_name fun _ _ _ _ _ _ us hl => match us, hl with | [_], _ => rfl
  have b_is_integer : L2.Binds K fd_is_integer ["value"] [] := FunD.bindsN D_is_integer fun _ _ _ _ _ _ us hl => match us, hl with | [_], _ => rfl
  have b_check_name : L2.Binds K fd_check_name ["value"] [] := FunD.bindsN D_check_name fun _ _ _ _ _ _ us hl => match us, hl with | [_], _ => rfl
  have b_check_sequence : L2.Binds K fd_check_sequence ["names"] [] := FunD.bindsN D_check_sequence fun _ _ _ _ _ _ us hl => match us, hl with | [_], _ => rfl
  have b_traced : L2.Binds K fd_traced ["came", "node"] [] := FunD.bindsN D_traced fun _ _ _ _ _ _ us hl => match us, hl with | [_, _], _ => rfl
  have b_repeated : L2.Binds K fd_repeated ["p"] [] := FunD.bindsN D_repeated fun _ _ _ _ _ _ us hl => match us, hl with | [_], _ => rfl
  have b_optional : L2.Binds K fd_optional ["p"] [] := FunD.bindsN D_optional fun _ _ _ _ _ _ us hl => match us, hl with | [_], _ => rfl
  have b_pattern_of : L2.Binds K fd_pattern_of ["given"] [] := FunD.bindsN D_pattern_of fun _ _ _ _ _ _ us hl => match us, hl with | [_], _ => rfl
  have b__other_name : L2.Binds K fd__other_name ["names"] [] := FunD.bindsN D__other_name fun _ _ _ _ _ _ us hl => match us, hl with | [_], _ => rfl
  have b_within : L2.Binds K fd_within ["p", "q"] [] := FunD.bindsN D_within fun _ _ _ _ _ _ us hl => match us, hl with | [_, _], _ => rfl
  have b_parting : L2.Binds K fd_parting ["p", "q"] [] := FunD.bindsN D_parting fun _ _ _ _ _ _ us hl => match us, hl with | [_, _], _ => rfl
  have b__different_lanes : L2.Binds K fd__different_lanes ["one", "two"] [] := FunD.bindsN D__different_lanes fun _ _ _ _ _ _ us hl => match us, hl with | [_, _], _ => rfl
  have b__law_cell : L2.Binds K fd__law_cell ["_law_script", "_law_k"] [] := FunD.bindsN D__law_cell fun _ _ _ _ _ _ us hl => match us, hl with | [_, _], _ => rfl
  have b__law_pool : L2.Binds K fd__law_pool ["_law_cell_here"] [] := FunD.bindsN D__law_pool fun _ _ _ _ _ _ us hl => match us, hl with | [_], _ => rfl
  have b__law_take : L2.Binds K fd__law_take ["_law_pool_here", "_law_many"] [] := FunD.bindsN D__law_take fun _ _ _ _ _ _ us hl => match us, hl with | [_, _], _ => rfl
  have b__law_names : L2.Binds K fd__law_names ["_law_pool_here", "_law_many"] [] := FunD.bindsN D__law_names fun _ _ _ _ _ _ us hl => match us, hl with | [_, _], _ => rfl
  have b__law_tree : L2.Binds K fd__law_tree ["_law_pool_here", "_law_lanes", "_law_depth"] [] := FunD.bindsN D__law_tree fun _ _ _ _ _ _ us hl => match us, hl with | [_, _, _], _ => rfl
  have b__law_atom : L2.Binds K fd__law_atom ["_law_kind", "_law_names_here"] [] := FunD.bindsN D__law_atom fun _ _ _ _ _ _ us hl => match us, hl with | [_, _], _ => rfl
  have b__law_pattern : L2.Binds K fd__law_pattern ["_law_tree_here"] [] := FunD.bindsN D__law_pattern fun _ _ _ _ _ _ us hl => match us, hl with | [_], _ => rfl
  have b__law_ends_of : L2.Binds K fd__law_ends_of ["_law_tree_here", "_law_lanes", "_law_start"] [] := FunD.bindsN D__law_ends_of fun _ _ _ _ _ _ us hl => match us, hl with | [_, _, _], _ => rfl
  have b__law_takes : L2.Binds K fd__law_takes ["_law_atom_here", "_law_lane"] [] := FunD.bindsN D__law_takes fun _ _ _ _ _ _ us hl => match us, hl with | [_, _], _ => rfl
  have b__law_distinct : L2.Binds K fd__law_distinct ["_law_things"] [] := FunD.bindsN D__law_distinct fun _ _ _ _ _ _ us hl => match us, hl with | [_], _ => rfl
  have b__law_is_word : L2.Binds K fd__law_is_word ["_law_tree_here", "_law_lanes"] [] := FunD.bindsN D__law_is_word fun _ _ _ _ _ _ us hl => match us, hl with | [_, _], _ => rfl
  have b__law_all_words : L2.Binds K fd__law_all_words ["_law_names_here", "_law_most"] [] := FunD.bindsN D__law_all_words fun _ _ _ _ _ _ us hl => match us, hl with | [_, _], _ => rfl
  have b__law_second : L2.Binds K fd__law_second ["_law_pool_here", "_law_names_here", "_law_one"] [] := FunD.bindsN D__law_second fun _ _ _ _ _ _ us hl => match us, hl with | [_, _, _], _ => rfl
  have b__law_only : L2.Binds K fd__law_only ["_law_one", "_law_two", "_law_words"] [] := FunD.bindsN D__law_only fun _ _ _ _ _ _ us hl => match us, hl with | [_, _, _], _ => rfl
  have b__law_right : L2.Binds K fd__law_right ["_law_one", "_law_two", "_law_words", "_law_longer"] [] := FunD.bindsN D__law_right fun _ _ _ _ _ _ us hl => match us, hl with | [_, _, _, _], _ => rfl
  have b__law_far_parted : L2.Binds K fd__law_far_parted ["_law_name", "_law_number"] [] := FunD.bindsN D__law_far_parted fun _ _ _ _ _ _ us hl => match us, hl with | [_, _], _ => rfl
  have b_A__init__ : L2.Binds K fd_A__init__ ["self", "steps"] [] := FunD.bindsN D_A__init__ fun _ _ _ _ _ _ us hl => match us, hl with | [_, _], _ => rfl
  have b_Ataking : L2.Binds K fd_Ataking ["self", "lane"] [] := FunD.bindsN D_Ataking fun _ _ _ _ _ _ us hl => match us, hl with | [_, _], _ => rfl
  have b_Aafter : L2.Binds K fd_Aafter ["self", "mask"] [] := FunD.bindsN D_Aafter fun _ _ _ _ _ _ us hl => match us, hl with | [_, _], _ => rfl
  have b_Ahas_word : L2.Binds K fd_Ahas_word ["self", "word"] [] := FunD.bindsN D_Ahas_word fun _ _ _ _ _ _ us hl => match us, hl with | [_, _], _ => rfl
  have b_P__init__ : L2.Binds K fd_P__init__ ["self", "steps"] [] := FunD.bindsN D_P__init__ fun _ _ _ _ _ _ us hl => match us, hl with | [_, _], _ => rfl
  have b_P__contains__ : L2.Binds K fd_P__contains__ ["self", "x"] [] := FunD.bindsN D_P__contains__ fun _ _ _ _ _ _ us hl => match us, hl with | [_, _], _ => rfl
  have b_P__bool__ : L2.Binds K fd_P__bool__ ["self"] [] := FunD.bindsN D_P__bool__ fun _ _ _ _ _ _ us hl => match us, hl with | [_], _ => rfl
  have b_P__add__ : L2.Binds K fd_P__add__ ["self", "other"] [] := FunD.bindsN D_P__add__ fun _ _ _ _ _ _ us hl => match us, hl with | [_, _], _ => rfl
  have b_P__or__ : L2.Binds K fd_P__or__ ["self", "other"] [] := FunD.bindsN D_P__or__ fun _ _ _ _ _ _ us hl => match us, hl with | [_, _], _ => rfl
  have b_P__mul__ : L2.Binds K fd_P__mul__ ["self", "other"] [] := FunD.bindsN D_P__mul__ fun _ _ _ _ _ _ us hl => match us, hl with | [_, _], _ => rfl
  have b_iBadNumber : L2.Binds K fd_iBadNumber ["self", "value"] [] := FunD.bindsN D_iBadNumber fun _ _ _ _ _ _ us hl => match us, hl with | [_, _], _ => rfl
  have b_pnames : L2.Binds K fd_pnames ["self"] [] := FunD.bindsN D_pnames fun _ _ _ _ _ _ us hl => match us, hl with | [_], _ => rfl
  refine ⟨fd_law, fun s v => b s [v] rfl, fun base _ _ => ?_⟩
  have E_BadNumber : Err1 P w K mg base "BadNumber" "value" (He.ga K "BadNumber") := err1_of eBadNumber tak (gg "BadNumber" (by decide)) (ok_ini1 (f := "value") D_iBadNumber ⟨rfl, rfl, rfl, by decide +kernel, rfl, by decide +kernel, by decide +kernel⟩ rfl (errB_ok (He.ba eBadNumber).1 tak).1 ((iniB_ok (He.ba eBadNumber).2).no "value" (by decide)) (by decide) (by decide)) b_iBadNumber
  have CN : Cn mg := ⟨gANY, gNONE, gTHEN, gEITHER, gREPEATED, gOPTIONAL⟩
  have A : FA K (He.ga K "Atoms") := ⟨ca.cls, ca.no "empty" (by decide), ca.no "last" (by decide), ca.no "begin" (by decide), ca.no "ends" (by decide), ca.no "_follow" (by decide), ca.no "_takes" (by decide)⟩
  have B : FP K (He.ga K "Pattern") := ⟨cp.cls, cp.no "_steps" (by decide), cp.no "atoms" (by decide)⟩
  have TCe : Fu P w K mg base L2.CX0 1 "_law_cell" (spCell K) := .of (ok_cell D__law_cell (fr "len" (by decide))) (gg "_law_cell" (by decide)) D__law_cell.kp b__law_cell
  have TPo : Fu P w K mg base L2.CX0 1 "_law_pool" Vp.spPool := .of (ok_pool D__law_pool (fr "int" (by decide))) (gg "_law_pool" (by decide)) D__law_pool.kp b__law_pool
  have TT : Fu P w K mg base L2.CX0 1 "_law_take" Vp.spTake := .of (ok_take D__law_take (fr "int" (by decide))) (gg "_law_take" (by decide)) D__law_take.kp b__law_take
  have TNa : Fu P w K mg base L2.CX0 2 "_law_names" Vp.spNames := .of (ok_names D__law_names D__law_take (gg "_law_take" (by decide)) (fr "int" (by decide)) (fr "len" (by decide)) (fr "range" (by decide))) (gg "_law_names" (by decide)) D__law_names.kp b__law_names
  have TIa : Fu P w K mg base L2.CX0 1 "is_atom" (spIs isAt) := .of (ok_ia D_is_atom CN) (gg "is_atom" (by decide)) D_is_atom.kp b_is_atom
  have TIj : Fu P w K mg base L2.CX0 1 "is_join" (spIs isJn) := .of (ok_ij D_is_join CN) (gg "is_join" (by decide)) D_is_join.kp b_is_join
  have TIo : Fu P w K mg base L2.CX0 1 "in_order" (spIo K) := .of (ok_io D_in_order (fr "tuple" (by decide)) (fr "sorted" (by decide)) (fr "set" (by decide))) (gg "in_order" (by decide)) D_in_order.kp b_in_order
  have TEi : Fu P w K mg base L2.CX0 1 "_either" (spFr orF) := .of (ok_ei D__either) (gg "_either" (by decide)) D__either.kp b__either
  have TJo : Fu P w K mg base L2.CX0 1 "_joined" (spFr joinF) := .of (ok_jo D__joined) (gg "_joined" (by decide)) D__joined.kp b__joined
  have TPi : Fu P w K mg base L2.CX0 1 "places_in" spPi := .of (ok_pi D_places_in) (gg "places_in" (by decide)) D_places_in.kp b_places_in
  have TLk : Fu P w K mg base L2.CX0 2 "_linked" (spLk K) := .of (ok_lk D__linked CN TIa TPi TEi TJo (fr "len" (by decide))) (gg "_linked" (by decide)) D__linked.kp b__linked
  have TAt : Nw P w K mg base (He.ga K "Atoms") L2.CX0 3 "Atoms" (spAi K (He.ga K "Atoms")) := ⟨_, _, _, ok_ai D_A__init__ A TIa TLk (fr "len" (by decide)) (fr "tuple" (by decide)), MA, b_A__init__, (gg "Atoms" (by decide))⟩
  have KAt : KA P w K mg base (He.ga K "Atoms") := ⟨ca.cls, ⟨_, _, _, ok_at D_Ataking A CN (fr "enumerate" (by decide)), ca.me "taking" (by decide), b_Ataking⟩, ⟨_, _, _, ok_af D_Aafter A TPi, ca.me "after" (by decide), b_Aafter⟩⟩
  have KPt : KP P w K mg base (He.ga K "Atoms") := ⟨ca.cls, ⟨_, _, _, ok_ah D_Ahas_word A KAt, ca.me "has_word" (by decide), b_Ahas_word⟩⟩
  have G_isname := ok_isname (P := P) (w := w) (base := base) D_is_name (fr "isinstance" (by decide)) (fr "str" (by decide)) (fr "len" (by decide)) (fr "all" (by decide)) gL gDg gO
  have G_chkn := ok_chkn D_check_name D_is_name (gg "is_name" (by decide)) G_isname
  have TNm : Fu P w K mg base L2.CX0 1 "is_name" (spNm K) := .of G_isname (gg "is_name" (by decide)) D_is_name.kp b_is_name
  have TCn : Fu P w K mg base L2.CX0 2 "check_name" spChkN := .of G_chkn (gg "check_name" (by decide)) D_check_name.kp b_check_name
  have TCs : Fu P w K mg base L2.CX0 3 "check_sequence" (spChkS K) := .of (ok_chks D_check_sequence D_check_name (gg "check_name" (by decide)) (fr "len" (by decide)) G_chkn) (gg "check_sequence" (by decide)) D_check_sequence.kp b_check_sequence
  have TPt : Nw P w K mg base (He.ga K "Pattern") L2.CX0 5 "Pattern" (spPt K (He.ga K "Pattern") (He.ga K "Atoms")) := ⟨_, _, _, ok_pn D_P__init__ B TAt, MP, b_P__init__, (gg "Pattern" (by decide))⟩
  have TAn : FuR P w K mg base L2.CX0 7 "any_of" (Vsa.spSt (spAn K (He.ga K "Pattern") (He.ga K "Atoms") false)) := ⟨_, ok_an D_any_of CN TCs TIo TPt, (gg "any_of" (by decide)), D_any_of.kp⟩
  have TNn : FuR P w K mg base L2.CX0 7 "none_of" (Vsa.spSt (spAn K (He.ga K "Pattern") (He.ga K "Atoms") true)) := ⟨_, ok_no D_none_of CN TCn TIo TPt, (gg "none_of" (by decide)), D_none_of.kp⟩
  have TAdd : Vo2.OwS P w K mg base (He.ga K "Pattern") (L2.CX P w) 7 "add" (spBn K (He.ga K "Pattern") (He.ga K "Atoms") .thn) := ⟨_, _, _, ok_pa D_P__add__ B CN TPt, wAdd, b_P__add__⟩
  have TOr : Vo2.OwS P w K mg base (He.ga K "Pattern") (L2.CX P w) 7 "or" (spBn K (He.ga K "Pattern") (He.ga K "Atoms") .eith) := ⟨_, _, _, ok_po D_P__or__ B CN TPt, wOr, b_P__or__⟩
  have TRp : Fu P w K mg base L2.CX0 7 "repeated" (spUn K (He.ga K "Pattern") (He.ga K "Atoms") .rep) := .of (ok_rp D_repeated B CN TPt) (gg "repeated" (by decide)) D_repeated.kp b_repeated
  have TOp : Fu P w K mg base L2.CX0 7 "optional" (spUn K (He.ga K "Pattern") (He.ga K "Atoms") .opt) := .of (ok_op D_optional B CN TPt) (gg "optional" (by decide)) D_optional.kp b_optional
  have TNb : Fu P w K mg base L2.CX0 2 "named_by" (spNb K) := .of (ok_nb D_named_by TIo) (gg "named_by" (by decide)) D_named_by.kp b_named_by
  have TBo : Mo P w K mg base (He.ga K "Pattern") L2.CX0 1 "__bool__" (spPb K (He.ga K "Pattern") (He.ga K "Atoms")) := ⟨_, _, _, ok_pb D_P__bool__ B A, cp.me "__bool__" (by decide), b_P__bool__⟩
  have TCo : Mo P w K mg base (He.ga K "Pattern") L2.CX0 4 "__contains__" (spPc K (He.ga K "Pattern") (He.ga K "Atoms")) := ⟨_, _, _, ok_pc D_P__contains__ B KPt TNm (fr "isinstance" (by decide)) (fr "tuple" (by decide)) (fr "list" (by decide)) (fr "all" (by decide)), cp.me "__contains__" (by decide), b_P__contains__⟩
  have TPm : Pr P w K mg base (He.ga K "Pattern") 3 "names" (spPm K (He.ga K "Pattern") (He.ga K "Atoms")) := ⟨_, _, _, _, ok_pm D_pnames B TNb, pN, b_pnames⟩
  have TTr : Fu P w K mg base L2.CX0 5 "_law_tree" (spTr 4) := .of (ok_tr D__law_tree (gg "_law_tree" (by decide)) b__law_tree TT (fr "range" (by decide)) (fr "len" (by decide)) 4) (gg "_law_tree" (by decide)) D__law_tree.kp b__law_tree
  have TAm : Fu P w K mg base L2.CX0 8 "_law_atom" (spAm K (He.ga K "Pattern") (He.ga K "Atoms")) := .of (ok_am D__law_atom TAn TNn (fr "len" (by decide))) (gg "_law_atom" (by decide)) D__law_atom.kp b__law_atom
  have TPa : Fu P w K mg base L2.CX0 13 "_law_pattern" (spPa K (He.ga K "Pattern") (He.ga K "Atoms") 4) := .of (ok_pa2 D__law_pattern (gg "_law_pattern" (by decide)) b__law_pattern TAm TRp TOp TAdd TOr 4) (gg "_law_pattern" (by decide)) D__law_pattern.kp b__law_pattern
  have TTk : Fu P w K mg base L2.CX0 1 "_law_takes" spTk2 := .of (ok_tk2 D__law_takes) (gg "_law_takes" (by decide)) D__law_takes.kp b__law_takes
  have TDi : Fu P w K mg base L2.CX0 1 "_law_distinct" spDi := .of (ok_di D__law_distinct (fr "enumerate" (by decide)) (fr "int" (by decide))) (gg "_law_distinct" (by decide)) D__law_distinct.kp b__law_distinct
  have TEo : Fu P w K mg base L2.CX0 5 "_law_ends_of" (spEoM 4) := .of (ok_eoM D__law_ends_of (gg "_law_ends_of" (by decide)) b__law_ends_of TTk TDi (fr "len" (by decide)) 4) (gg "_law_ends_of" (by decide)) D__law_ends_of.kp b__law_ends_of
  have TAw : Fu P w K mg base L2.CX0 1 "_law_all_words" spAwX := .of (ok_awX D__law_all_words (fr "range" (by decide))) (gg "_law_all_words" (by decide)) D__law_all_words.kp b__law_all_words
  have TIw : Fu P w K mg base L2.CX0 6 "_law_is_word" spIwM := .of (ok_iwM D__law_is_word TEo (fr "len" (by decide))) (gg "_law_is_word" (by decide)) D__law_is_word.kp b__law_is_word
  have TII : Fu P w K mg base L2.CX0 1 "is_integer" (spIsInt K) := .of (ok_ii D_is_integer (fr "isinstance" (by decide)) (fr "int" (by decide)) (fr "bool" (by decide))) (gg "is_integer" (by decide)) D_is_integer.kp b_is_integer
  have TMul : Ow P w K mg base (He.ga K "Pattern") (L2.CX P w) 7 "mul" (spMul K (He.ga K "Pattern") (He.ga K "Atoms") (He.ga K "BadNumber")) := ⟨⟨_, _, _, ok_mu D_P__mul__ B CN TII E_BadNumber TPt, wMul, b_P__mul__⟩, zMul⟩
  have TWo : FuR P w K mg base L2.CX0 7 "walk_of" (Vsa.spSt (spWo K (He.ga K "Pattern") (He.ga K "Atoms"))) := ⟨_, ok_wo D_walk_of CN TCs TPt (fr "enumerate" (by decide)) (fr "tuple" (by decide)), (gg "walk_of" (by decide)), D_walk_of.kp⟩
  have TPo2 : Fu P w K mg base L2.CX0 8 "pattern_of" (spPo K (He.ga K "Pattern") (He.ga K "Atoms")) := .of (ok_po3 D_pattern_of ins (tyno "tuple" (by decide)) (gg "Pattern" (by decide)) TWo (fr "isinstance" (by decide))) (gg "pattern_of" (by decide)) D_pattern_of.kp b_pattern_of
  have TTc : Fu P w K mg base L2.CX0 1 "traced" Vct.spTr := .of (ok_tc D_traced) (gg "traced" (by decide)) D_traced.kp b_traced
  have TOn : Fu P w K mg base L2.CX0 1 "_other_name" (spOn K) := .of (ok_on D__other_name) (gg "_other_name" (by decide)) D__other_name.kp b__other_name
  have TDl : Fu P w K mg base L2.CX0 5 "_different_lanes" (spDl K (He.ga K "Pattern") (He.ga K "Atoms")) := .of (ok_dl D__different_lanes B KAt TPm TOn) (gg "_different_lanes" (by decide)) D__different_lanes.kp b__different_lanes
  have TPg : Fu P w K mg base L2.CX0 9 "parting" (spPg K (He.ga K "Pattern") (He.ga K "Atoms")) := .of (ok_pg D_parting B A KAt TPo2 TDl TTc (fr "len" (by decide)) (fr "tuple" (by decide))) (gg "parting" (by decide)) D_parting.kp b_parting
  have TWi : Fu P w K mg base L2.CX0 10 "within" (spWi K (He.ga K "Pattern") (He.ga K "Atoms")) := .of (ok_wi D_within TPo2 TOr TPg) (gg "within" (by decide)) D_within.kp b_within
  have TSe : Fu P w K mg base L2.CX0 6 "_law_second" spSe := .of (ok_se D__law_second TT TTr) (gg "_law_second" (by decide)) D__law_second.kp b__law_second
  have TOy : Fu P w K mg base L2.CX0 7 "_law_only" spOy := .of (ok_oy D__law_only TIw) (gg "_law_only" (by decide)) D__law_only.kp b__law_only
  have TRi : Fu P w K mg base L2.CX0 14 "_law_right" spRi2 := .of (ok_ri2 D__law_right TPa TOy TWi TPg TIw (fr "isinstance" (by decide)) (fr "tuple" (by decide)) (fr "list" (by decide)) (fr "len" (by decide))) (gg "_law_right" (by decide)) D__law_right.kp b__law_right
  have TFa : Fu P w K mg base L2.CX0 11 "_law_far_parted" spFa := .of (ok_fa D__law_far_parted TRp TOp TAn TNn TOr TMul TCo TPg TWi (fr "len" (by decide))) (gg "_law_far_parted" (by decide)) D__law_far_parted.kp b__law_far_parted
  exact ok_law D_law B TCe TPo TT TNa TTr TPa TAw TIw TSe TRi TFa TWi TPg (fr "range" (by decide)) (fr "tuple" (by decide)) (fr "list" (by decide))
end K14
open PySem PySem.W PySem.Calls PyProof.Rows
theorem PySem.Challenge.cw_alsoshown_k14_patterns_compared_holds : PySem.Challenge.rw_alsoshown_k14_patterns_compared.Holds := by
  w_on; o_law
  refine HandSHeadRun.head_any (r := OpenLaw.row PySem.Challenge.rw_alsoshown_k14_patterns_compared) (q := view (OpenLaw.row PySem.Challenge.rw_alsoshown_k14_patterns_compared).prog [76]) (H := K14.hk) (ob := K14.ob) (M := 20000) (loose := K14.loose)
    (d := HandSHeadRun.topDef (OpenLaw.row PySem.Challenge.rw_alsoshown_k14_patterns_compared).prog 76) (kwd := []) K14.ob_eq
    (by kernel_rfl) (fun s => by kernel_rfl) K14.run (by kernel_rfl) (by kernel_rfl) (by kernel_rfl) (by rfl) (by first | assumption | decide +kernel) (by decide +kernel) ⟨rfl, rfl, rfl, rfl, rfl, by decide +kernel⟩ ?hw ?hc
  case hw => w_witness2
  case hc =>
    refine L2.walk_ofE (l := PySem.Challenge.rw_alsoshown_k14_patterns_compared) (n := 63) (k := 15) (x := "_law_script") (CX := L2.CX0) rfl (by decide) (by kernel_rfl) ⟨rfl, by decide, by decide⟩ ?F (fun _ _ _ _ z => z)
    intro w mg fa h Y G hmg0
    obtain ⟨K, KX, c⟩ := Y
    have hmg : mg ("law" : PySem.Str) = some (.ref fa) := by
      have e : (HandSHeadRun.topDef (OpenLaw.row PySem.Challenge.rw_alsoshown_k14_patterns_compared).prog 76).name = ("law" : PySem.Str) := by kernel_rfl
      rw [← e]
      exact hmg0
    obtain ⟨fd, hb, hF⟩ := K14.facts_ok (P := (PySem.Challenge.rw_alsoshown_k14_patterns_compared).prog) (w := w) KX G hmg c
    exact ⟨K, fd, K14.spLaw K, KX, hb, fun H a ns hl _ hS => ⟨a, ns, rfl, hS, fun _ => rfl⟩, hF⟩
#print axioms PySem.Challenge.cw_alsoshown_k14_patterns_compared_holds
