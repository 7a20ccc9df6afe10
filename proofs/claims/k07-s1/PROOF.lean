import PyProof.Rows.All
import Wide.All
import OpenK.AllK
import Wide.FinOn
import HandS.ForMost
import HandS.ForExc
import HandS.ExcInit
import HandS.IsInst
import HandS.ExcField
import HandS.HeadHook1
import KE.KExcIs
import HandS.Wide
import HandS.Evl
import PyProof.Rows.ReprOcc
import HandS.LawCells
import HandS.Defaults
import KE.KStateDown
import KE.KIsAll
import Lean
import HandS.Head0
import HandS.Head1
import HandS.Head2
import HandS.HeadEnd
import HandS.HeadHook2
import HandS.EndBits
import HandS.Walk
import HandS.More
import HandS.Property
import HandS.CallSlots
import HandS.TupAny
import KE.KOpsOwn
import PyProof.InstNe
import KE.LtData
import KE.DataCmp
import HandS.Style
import HandS.Steps
import HandS.Codes
import HandS.ExcOwn
import HandS.Conv
import PySem.Challenge.RW_alsoshown_k07_rounds_turned
set_option Elab.async false
set_option linter.all false
set_option maxRecDepth 100000
set_option maxHeartbeats 2000000
/-! Exceptions of the program as values: made by a call, kept, read, asked for their class. -/
namespace Vx
open PySem PySem.Spec PyProof.Rows L2
section
variable {X : Cx} {C fI : Addr} {k : Nat} {fd : FuncData} {ps : List Str}
variable {sp : Sp} {e : Expr} {es : List Expr} {ta : TA} {te : TE} {x f : Str}
variable {p pos : Pos}
/-- C(e, ..) for a value: the exception stays tracked -/
def tMkV (C : Addr) (sp : Sp) (ta : TA) : TE := fun st H Q =>
  ta st H fun vs H1 => vs.length ≤ 1000 ∧ ∀ a, H1 a = none →
    sp (.ref a :: vs) (upd H1 a (exo a C none))
      (fun v H2 => v = .non ∧ Q (.ref a) H2) (fun _ _ _ => False)
theorem pe_mkV (T : OexC X.K C)
    (iC : PySem.W.findIn X.K (.ref C) "__init__" = some (some (.ref fI)))
    (tI : PySem.W.typeIn X.K (.ref fI) = some (.type "function"))
    (F1 : FnOk X.prog X.w X.K X.mg X.base CX0 k fI fd ps sp)
    (hr : Room (k + 1) X.A) (hb : Binds X.K fd ps []) (hg : Gl X x)
    (hm : X.mg x = some (.ref C)) (ha : PA X (e :: es) ta)
    (hdb : (x == ("__debug__" : Str)) = false := by decide)
    (he : starEach (e :: es) X.env = (false, eval e X.env) :: starEach es X.env := by rfl)
    (hpl : (backTo pos (starEach es X.env)).any (·.1) = false := by rfl) :
    PE X (.Call (.Name x p) (e :: es) [] pos) (tMkV C sp ta) := by
  refine ⟨fun pins s σ H Q I h => ?_⟩
  obtain ⟨nm, q, N, bs, bm, sn, sub, ab, col, dd, k0, k1, k2, k3, k5, hC, hbm⟩ := T.cls
  refine wpAny_Call_Name_kw (ld_glob I hg hm ?_ hdb)
  refine PySem.W.callWith_K (h₀ := X.base) I.ok.mod.kin T.kC ?_ he hpl
  refine thn (ha.run pos pins s σ H _ I h) ?_
  rintro us s1 ⟨vs, H1, I1, r1, hz, q1⟩
  refine ⟨I1.kIn, ?_⟩
  show wpAny _ _ (call (.ref C) us) _ _ _
  obtain ⟨hp, g, dr, tk, os⟩ := s1
  let h2 : Heap := (hp.push (PySem.W.kdv_tup us)).push (PySem.HandSPX.excO C hp.objs.size)
  have hsz : hp.objs.size ≤ hp.objs.size + 1 := Nat.le_succ _
  have hn : H1 (hp.objs.size + 1) = none := I1.hok.fresh hsz
  have hq := q1 (hp.objs.size + 1) hn
  have kk : ∀ b o, hp.get? b = some o → h2.get? b = some o := by
    intro b o eb
    exact Heap.get?_push_of_some _ (Heap.get?_push_of_some _ eb)
  have hget : h2.get? (hp.objs.size + 1) = some (PySem.HandSPX.excO C hp.objs.size) := by
    show ((hp.push _).push _).get? _ = _
    heap_get
  have I2 : Inv X pins σ (upd H1 (hp.objs.size + 1) (exo (hp.objs.size + 1) C none)) ⟨h2, g, dr, tk, os⟩ :=
    Inv.laid (s := ⟨hp, g, dr, tk, os⟩) (t' := tk) I1 kk hsz (exo_ok hget)
  have r2 : Vals (V.ref (hp.objs.size + 1) :: vs) (Value.ref (hp.objs.size + 1) :: us) := .cons rfl r1
  have hl : (Value.ref (hp.objs.size + 1) :: us ++ []).length = ps.length := by
    have e1 := r2.length
    rw [F1.len _ _ _ _ hq] at e1
    rw [List.append_nil]
    exact e1.symm
  have hus : us.length ≤ sizeLine := by
    have e1 := Paired.length r1
    rw [sizeLine_eq]
    omega
  have hbb := hb ⟨h2, g, dr, tk, os⟩ (Value.ref (hp.objs.size + 1) :: us) I2.kIn hl
  rw [List.append_nil] at hbb
  have run := F1.run (X.A.under (.builtin "type.__call__" ⟨.ref C :: us, []⟩)) X.stack
    ⟨h2, g, dr, tk, os⟩ _ ⟨Value.ref (hp.objs.size + 1) :: us, []⟩
    (Value.ref (hp.objs.size + 1) :: us) _ _ (fun _ _ _ => False)
    (hr.make C us []) (I2.env0.make C us []) hbb r2 hq
  refine wpAny_call ?_
  refine PySem.HandSPX.call_own F.excBase_ValueError
    (fun Y => PySem.HandSPX.refsVE_contains Y bm hbm) (I1.kIn _ _ hC)
    (PySem.W.looks_findIn I1.kIn iC) (fun self => PySem.W.bind_fn I1.kIn self tI) hus ?_
  refine codeAny_mono run ?_
  intro r s' hq'
  cases r with
  | error er => exact (hq' : False).elim
  | ok fl =>
    cases fl with
    | ret u =>
      obtain ⟨v, H2, os2, bare2, un2, hok2, rv, ev, q2⟩ := hq'
      subst ev
      have J := I2.call' (ch := []) os2 un2 hok2 bare2 (fun b z => absurd z (by simp))
      exact ⟨rv, .ref (hp.objs.size + 1), H2, J, rfl, q2⟩
    | next => exact False.elim hq'
    | brk => exact False.elim hq'
    | cont => exact False.elim hq'
/-- C() for a value, C without an own __init__ -/
def tMkP (C : Addr) : TE := fun _ H Q => ∀ a, H a = none → Q (.ref a) (upd H a (exo a C none))
theorem pe_mkP (q : PySem.W.excIn X.K C He.veBase "ValueError.__new__" = true)
    (gC : X.mg x = some (.ref C)) (kC : PySem.W.keepIn X.K (.ref C) = true) (hg : Gl X x)
    (hdb : (x == ("__debug__" : Str)) = false := by decide) :
    PE X (.Call (.Name x p) [] [] pos) (tMkP C) := by
  refine ⟨fun pins s σ H Q I h => ?_⟩
  refine wpAny_Call_Name_kw (ld_glob I hg gC ?_ hdb)
  refine PySem.W.callWith_K0 I.kIn kC ?_
  obtain ⟨bm, N, nm, qn, bs, hdct, sn, sub, ab, col, dd, k0, k1, k2, k3, k5, mN, hC, hN, hni, T⟩ := exc_obj I.kIn q
  obtain ⟨hp, g, dr, tk, os⟩ := s
  refine wpAny_call_exc_subT PySem.F.excBase_ValueError T hC hN hni (fun h' a hm => ?_) (by show 0 ≤ sizeLine; omega)
  have hn : H a = none := I.hok.gone hm.new
  obtain ⟨t, ht, _, _⟩ := hm.there
  refine ⟨.ref a, upd H a (exo a C none), ?_, rfl, h a hn⟩
  have un : Un X.fs [] H (upd H a (exo a C none)) hp h' := {
    keep := fun b u y _ _ _ => hm.keeps b u y
    slot := fun b u y _ _ _ => ⟨u.slots, hm.keeps b u y⟩
    free := fun b u y n _ => by
      rw [upd_ne (fun z => by rw [z, hm.new] at y; cases y)]
      exact n
    there := fun b u y _ => ⟨u, hm.keeps b u y⟩
    tups := fun b xs y => by rw [upd_ne (ne_of_none y hn)]; exact y
    frzs := fun b u xs y => by rw [upd_ne (ne_of_none y hn)]; exact y
    tbls := fun b ps y => ⟨#[], by rw [upd_ne (ne_of_none y hn), y]; simp⟩ }
  refine I.un (t' := tk) un ?_
  intro b u e
  by_cases hb : b = a
  · subst hb
    rw [upd_same] at e
    cases e
    exact exo_ok ht
  · rw [upd_ne hb] at e
    refine (I.hok b u e).stay (fun c v _ y => hm.keeps c v y) (fun c y => ?_) (fun c xs y => ?_)
    · rw [upd_ne (ne_of_none y hn)]; exact y
    · rw [upd_ne (ne_of_none y hn)]; exact y
/-- e.f, e an exception that is kept -/
def tXv (K : PySem.W.Frag) (f : Str) (te : TE) : TE := fun st H Q => te st H fun x H1 =>
  ∃ (a C d : Addr) (fs : List (Str × V)) (v : V), x = .ref a ∧ XfC K C ∧
    PySem.W.findIn K (.ref C) f = some none ∧ H1 a = some (exo a C (some d)) ∧
    H1 d = some (exd d fs) ∧ fs.lookup f = some v ∧ Q v H1
theorem inst_of {P : Program} {w : World} {H : Hp} {h : Heap} {a C : Addr}
    (hok : HOk P w H h) (e : H a = some (exo a C none)) :
    ∃ ob, PySem.W.InstAt h a ob C none := by
  obtain ⟨t1, ho⟩ := exo_at hok e
  exact ⟨_, ho, rfl, rfl, trivial⟩
theorem inst_of2 {P : Program} {w : World} {H : Hp} {h : Heap} {a C d : Addr} {fs : List (Str × V)}
    (hok : HOk P w H h) (e : H a = some (exo a C (some d))) (ed : H d = some (exd d fs)) :
    ∃ ob od, PySem.W.InstAt h a ob C (some od) ∧ h.get? d = some od := by
  obtain ⟨t1, ho⟩ := exo_at hok e
  obtain ⟨mA, hns, rel⟩ := exd_at hok ed
  obtain ⟨od, es, ep, hd, hr⟩ := hns
  exact ⟨_, od, ⟨ho, rfl, rfl, hd⟩, hd⟩
theorem pe_xv (he : PE X e te)
    (hb : attributeBase e f X.env (eval e X.env) = eval e X.env := by rfl) :
    PE X (.Attribute e f pos) (tXv X.K f te) := by
  refine ⟨fun pins s σ H Q I h => ?_⟩
  refine attr_of hb (thn (he.run pins s σ H _ I h) fun u s1 hh => ?_)
  obtain ⟨y, H1, I1, rx, a, C, d, fs, v, ex, T, hno, ea, ed, l, q⟩ := hh
  subst ex
  obtain rfl : u = Value.ref a := rx
  obtain ⟨t1, ho⟩ := exo_at I1.hok ea
  obtain ⟨mA, hns, rel⟩ := exd_at I1.hok ed
  obtain ⟨od, hd, hl⟩ := lookIn_ns hns
  have e1 : RelO (some v) (mA f) := by
    rw [← l]
    exact rel f
  obtain ⟨u2, hu, ru⟩ := RelO.some_of e1
  have J : PySem.W.InstAt s1.heap a _ C (some od) := ⟨ho, rfl, rfl, hd⟩
  exact HandSPX.exc_get I1.kIn J T.ga T.gg T.exC (PySem.W.findObj_own T.hdC hno rfl (by rw [hl, hu])) (handed_of ru) ⟨v, H1, I1.tok _, ru, q⟩
/-- what a class of errors must say so that isinstance is answered -/
structure IsC (K : PySem.W.Frag) (C : Addr) : Prop where
  hc : (PySem.W.clsIn K C).isSome = true
  hg : PySem.W.findIn K (.ref C) "__getattribute__" = some (some (.builtin "BaseException.__getattribute__"))
  hk : PySem.W.findIn K (.ref C) "__getattr__" = some none
  hs : PySem.W.subIn K (.ref C) (.type "BaseException") = some true
  ha : PySem.W.findIn K (.ref C) "__class__" = some (some (.builtin "object.__class__"))
  hn : PySem.W.specialIn K (.builtin "object.__class__") "__get__" = some (some (.builtin "getset_descriptor.__get__"))
  ht : PySem.W.takesIn K (.builtin "object.__class__") = some true
  hm : PySem.W.mroIn K C (.type "object") = some true
/-- at a stands an exception of the class at C -/
def ExAt (H : Hp) (a C : Addr) : Prop :=
  H a = some (exo a C none) ∨ ∃ d fs, H a = some (exo a C (some d)) ∧ H d = some (exd d fs)
def rIsV (K : PySem.W.Frag) : List V → Hp → VK → Prop := fun xs H Q =>
  ∃ (a C : Addr) (c : V) (cv : Value) (b : Bool), xs = [.ref a, c] ∧ (∀ u, RelV c u → u = cv) ∧
    ExAt H a C ∧ IsC K C ∧ PySem.W.kitOne K (.ref C) cv = some b ∧ Q (.bl b) H
theorem call_isV : CallR X (.builtin "isinstance") (rIsV X.K) := by
  intro pins s σ H xs us Q I r h
  obtain ⟨a, C, c, cv, b, rfl, hcv, ex, T, e1, q⟩ := h
  obtain ⟨u1, u2, rfl, r1, r2⟩ := vals2 r
  obtain rfl := hcv _ r2
  obtain rfl : u1 = Value.ref a := r1
  have done : ∀ tk, EP X pins σ Q (.bool b) { s with toks := tk } := fun tk => ⟨.bl b, H, I.tok tk, rfl, q⟩
  rcases ex with ex | ⟨d, fs, ex, ed⟩
  · obtain ⟨ob, J⟩ := inst_of I.hok ex
    exact PySem.W.kia_one (PySem.W.kitx_exc T.hc T.hg T.hk T.hs T.ha T.hn T.ht T.hm) I.kIn J e1 (fun z => nomatch z) done
  · obtain ⟨ob, od, J, _⟩ := inst_of2 I.hok ex ed
    exact PySem.W.kia_one (PySem.W.kitx_exc T.hc T.hg T.hk T.hs T.ha T.hn T.ht T.hm) I.kIn J e1 (fun z => nomatch z) done
end
end Vx

set_option Elab.async false
set_option linter.all false
set_option maxRecDepth 100000
set_option maxHeartbeats 2000000
namespace Vl
open PySem PySem.Spec PyProof.Rows L2
theorem pe_weak {X : Cx} {e : Expr} {t t' : TE} (h : PE X e t) (w : ∀ s H Q, t' s H Q → t s H Q) : PE X e t' :=
  ⟨fun pins s σ H Q I q => h.run pins s σ H Q I (w σ H Q q)⟩
theorem pa_weak {X : Cx} {es : List Expr} {t t' : TA} (h : PA X es t) (w : ∀ s H Q, t' s H Q → t s H Q) : PA X es t' :=
  ⟨fun pos pins s σ H Q I q => h.run pos pins s σ H Q I (w σ H Q q)⟩
theorem s_seq {t u : TS} {D : Ends} {st : L2.St} {H : Hp} (h : t { D with nx := u D } st H) : tSeq t u D st H := h
def tMono (te : TE) : TE := fun s H Q => ∃ R : VK, te s H R ∧ ∀ v H1, R v H1 → Q v H1
theorem pe_mono {X : Cx} {e : Expr} {t : TE} (h : PE X e t) : PE X e (tMono t) :=
  ⟨fun pins s σ H Q I ⟨R, q, w⟩ => thn (h.run pins s σ H R I q) fun _ _ ⟨v, H1, I1, r, k⟩ => ⟨v, H1, I1, r, w v H1 k⟩⟩
theorem same_upd {H : Hp} {p : Addr} {o : HO} (h : H p = none) : Same H (upd H p o) := by
  intro b x e
  rw [upd_ne (ne_of_none e h)]
  exact e
theorem same_sqt {K : PySem.W.Frag} {H H' : Hp} {a : Addr} {xs : List V} (e : Same H H') (h : SqT K H a xs) : SqT K H' a xs := by
  rcases h with (h | ⟨o, h⟩) | h
  · exact .inl (.inl (e _ _ h))
  · exact .inl (.inr ⟨o, e _ _ h⟩)
  · exact .inr h
mutual
theorem dp_same {K : PySem.W.Frag} {H H' : Hp} (e : Same H H') : ∀ {v : V} {d : PyData}, Dp K H v d → Dp K H' v d
  | _, _, .non => .non
  | _, _, .bl b => .bl b
  | _, _, .int i => .int i
  | _, _, .str x => .str x
  | _, _, .lst h hs => .lst (e.seq h) (dpa_same e hs)
  | _, _, .tup h hs => .tup (same_sqt e h) (dpa_same e hs)
theorem dpa_same {K : PySem.W.Frag} {H H' : Hp} (e : Same H H') : ∀ {v : List V} {d : List PyData}, DpAll K H v d → DpAll K H' v d
  | _, _, .nil => .nil
  | _, _, .cons h hs => .cons (dp_same e h) (dpa_same e hs)
end
theorem dpa_rep {K : PySem.W.Frag} {H : Hp} {v : V} {d : PyData} (h : Dp K H v d) : ∀ n, DpAll K H (List.replicate n v) (List.replicate n d)
  | 0 => .nil
  | n + 1 => .cons h (dpa_rep h n)
theorem dpa_bl {K : PySem.W.Frag} {H : Hp} : ∀ bs : List Bool, DpAll K H (bs.map V.bl) (bs.map PyData.bool)
  | [] => .nil
  | b :: r => .cons (.bl b) (dpa_bl r)
/-- data that may be compared -/
def Low (d : PyData) : Prop := d.canLay0 = true ∧ d.depth ≤ 10
theorem low_rep {d : PyData} (h : Low d) : ∀ n, PyData.canLayAll0 (List.replicate n d) = true ∧ PyData.depthAll (List.replicate n d) ≤ 10
  | 0 => ⟨rfl, by show 0 ≤ 10; omega⟩
  | n + 1 => by
    obtain ⟨h1, h2⟩ := low_rep h n
    rw [List.replicate_succ]
    refine ⟨?_, ?_⟩
    · show (d.canLay0 && PyData.canLayAll0 (List.replicate n d)) = true
      rw [h.1, h1]
      rfl
    · show max d.depth (PyData.depthAll (List.replicate n d)) ≤ 10
      exact Nat.max_le.mpr ⟨h.2, h2⟩
theorem shaped_of {d : PyData} (h1 : d.canLay0 = true) (h2 : d.depth ≤ 64) : SeqAt.shaped d = true := by
  unfold SeqAt.shaped
  rw [h1, decide_eq_true h2]
  rfl
theorem low_bl : ∀ bs : List Bool, PyData.canLayAll0 (bs.map PyData.bool) = true ∧ PyData.depthAll (bs.map PyData.bool) = 0
  | [] => ⟨rfl, rfl⟩
  | b :: r => by
    obtain ⟨h1, h2⟩ := low_bl r
    refine ⟨?_, ?_⟩
    · show (true && PyData.canLayAll0 (r.map PyData.bool)) = true
      rw [h1]
      rfl
    · show max 0 (PyData.depthAll (r.map PyData.bool)) = 0
      rw [h2]
      rfl
theorem eqv_same {d : PyData} (h : d.canLay0 = true) : PyData.eqv d d = true := SeqAt.eqv_refl d h
theorem strOk_of (s : String) : PyData.strOk (Str.ofString s) = true := by
  unfold PyData.strOk
  rw [← Array.all_toList, PyProof.Rows.signs_ofString, List.all_eq_true]
  intro c hc
  obtain ⟨x, _, rfl⟩ := List.mem_map.mp hc
  refine decide_eq_true ?_
  have h := x.valid
  have : x.toNat = x.val.toNat := rfl
  rcases h with h | ⟨_, h⟩
  · rw [this]; exact Nat.lt_trans h (by decide)
  · rw [this]; exact h
theorem strOk_app {a b : Str} (ha : PyData.strOk a = true) (hb : PyData.strOk b = true) : PyData.strOk (a ++ b) = true := by
  unfold PyData.strOk at *
  show ((a.cps ++ b.cps).all _) = true
  rw [Array.all_append, ha, hb]
  rfl
def EvP (te : TE) (st : L2.St) (H : Hp) (P : V → Hp → Prop) : Prop :=
  ∀ H1, Evl.Ex H H1 → ∀ Q : VK, (∀ x H2, Evl.Ex H1 H2 → P x H2 → Q x H2) → te st H1 Q
def EvAP (ta : TA) (st : L2.St) (H : Hp) (P : List V → Hp → Prop) : Prop :=
  ∀ H1, Evl.Ex H H1 → ∀ Q : List V → Hp → Prop, (∀ x H2, Evl.Ex H1 H2 → P x H2 → Q x H2) → ta st H1 Q
theorem eap_nil {st : L2.St} {H : Hp} : EvAP tNil st H (fun xs _ => xs = []) :=
  fun H1 _ Q q => q [] H1 (Evl.Ex.refl H1) rfl
theorem eap_cons {te : TE} {tr : TA} {st : L2.St} {H : Hp} {P : V → Hp → Prop} {R : List V → Hp → Prop}
    (h : EvP te st H P) (hr : EvAP tr st H R) (mono : ∀ x H1 H2, Evl.Ex H1 H2 → P x H1 → P x H2) :
    EvAP (tCons te tr) st H (fun vs H1 => ∃ x xs, vs = x :: xs ∧ P x H1 ∧ R xs H1) := by
  intro H1 e Q q
  refine h H1 e _ fun x H2 e2 p => ?_
  refine hr H2 (e.trans e2) _ fun xs H3 e3 r => ?_
  exact q _ H3 (e2.trans e3) ⟨x, xs, rfl, mono x H2 H3 e3 p, r⟩
/-- an error: its class at C, its only field f holding v -/
def ErrV (H : Hp) (a C : Addr) (f : Str) (v : V) : Prop :=
  ∃ d, H a = some (exo a C (some d)) ∧ H d = some (exd d [(f, v)])
theorem ErrV.mono {H H' : Hp} {a C : Addr} {f : Str} {v : V} (e : Evl.Ex H H') (h : ErrV H a C f v) : ErrV H' a C f v := by
  obtain ⟨d, h1, h2⟩ := h
  exact ⟨d, e _ _ h1, e _ _ h2⟩
theorem ErrV.at_ {H : Hp} {a C : Addr} {f : Str} {v : V} (h : ErrV H a C f v) : Vx.ExAt H a C := by
  obtain ⟨d, h1, h2⟩ := h
  exact .inr ⟨d, _, h1, h2⟩
theorem exAt_mono {H H' : Hp} {a C : Addr} (e : Evl.Ex H H') (h : Vx.ExAt H a C) : Vx.ExAt H' a C := by
  rcases h with h | ⟨d, fs, h1, h2⟩
  · exact .inl (e _ _ h)
  · exact .inr ⟨d, fs, e _ _ h1, e _ _ h2⟩
def Errs (v : V) : List (Addr × Str) → List V → Hp → Prop
  | [], xs, _ => xs = []
  | (C, f) :: r, xs, H => ∃ a ys, xs = .ref a :: ys ∧ ErrV H a C f v ∧ Errs v r ys H
theorem Errs.mono {v : V} {H H' : Hp} (e : Evl.Ex H H') : ∀ {l : List (Addr × Str)} {xs : List V}, Errs v l xs H → Errs v l xs H'
  | [], _, h => h
  | (C, f) :: r, _, h => by
    obtain ⟨a, ys, h1, h2, h3⟩ := h
    exact ⟨a, ys, h1, h2.mono e, Errs.mono e h3⟩
theorem Errs.len {v : V} {H : Hp} : ∀ {l : List (Addr × Str)} {xs : List V}, Errs v l xs H → xs.length = l.length
  | [], _, h => by
    rw [show _ = [] from h]
    rfl
  | (C, f) :: r, _, h => by
    obtain ⟨a, ys, h1, h2, h3⟩ := h
    rw [h1, List.length_cons, List.length_cons, Errs.len h3]
theorem Errs.app {v : V} {H : Hp} : ∀ {l m : List (Addr × Str)} {xs ys : List V}, Errs v l xs H → Errs v m ys H → Errs v (l ++ m) (xs ++ ys) H
  | [], m, xs, ys, h, h' => by
    rw [show xs = [] from h]
    exact h'
  | (C, f) :: r, m, xs, ys, h, h' => by
    obtain ⟨a, zs, h1, h2, h3⟩ := h
    rw [h1]
    exact ⟨a, zs ++ ys, rfl, h2, Errs.app h3 h'⟩
theorem Errs.get {v : V} {H : Hp} : ∀ {l : List (Addr × Str)} {xs : List V} {i : Nat} {x : V}, Errs v l xs H → xs[i]? = some x →
    ∃ C f a, l[i]? = some (C, f) ∧ x = .ref a ∧ ErrV H a C f v
  | [], xs, i, x, h, hi => by
    rw [show xs = [] from h] at hi
    cases hi
  | (C, f) :: r, xs, 0, x, h, hi => by
    obtain ⟨a, ys, h1, h2, h3⟩ := h
    rw [h1] at hi
    have e : V.ref a = x := Option.some.inj hi
    exact ⟨C, f, a, rfl, e.symm, h2⟩
  | (C, f) :: r, xs, i + 1, x, h, hi => by
    obtain ⟨a, ys, h1, h2, h3⟩ := h
    rw [h1] at hi
    exact Errs.get (i := i) h3 hi
theorem given_rep (v : V) : ∀ n, Evl.given n (fun _ => true) (fun _ => v) = List.replicate n v := by
  intro n
  induction n with
  | zero => rfl
  | succ n ih =>
    rw [Evl.given_yes rfl, ih, ← List.replicate_succ']
/-- __init__(self, f): self.f = f -/
def spIni (C : Addr) (f : Str) : Sp := fun vs H Q _ => ∃ (a : Addr) (v : V), vs = [.ref a, v] ∧ H a = some (exo a C none) ∧
  ∀ dx, H dx = none → dx ≠ a → Q .non (upd (upd H dx (exd dx [(f, v)])) a (exo a C (some dx)))
section
variable {P : Program} {w : World} {K : PySem.W.Frag} {mg : Str → Option Value} {base : Heap}
theorem ok_ini1 {f qual : Str} {pa : Arguments} {bd : List Stmt} {sc : Scope} {fI C : Addr} {fd : FuncData} {p1 p2 p3 p4 : Pos}
    (F : FunD K "__init__" qual pa bd sc [] [] fI fd) (S : FnScope ["self", f] ["self", f] sc)
    (hb : bd = [.Assign [.Attribute (.Name "self" p1) f p2] (.Name f p3) p4]) (T : OexC K C)
    (no : PySem.W.findIn K (.ref C) f = some none) (hd : (f == ("__debug__" : Str)) = false)
    (hc : (f == ("__classdict__" : Str)) = false) : FnOk P w K mg base CX0 1 fI fd ["self", f] (spIni C f) := by
  refine F.ok (CX := CX0) S (fun vs H Q E h => ?_) (fun cdv A outer s H vs Q E hr h => ?_)
  · obtain ⟨a, v, rfl, _⟩ := h
    rfl
  · rw [hb]
    have v0 := vis_par S (x := "self") List.mem_cons_self
    have v1 := vis_par S (x := f) (List.mem_cons_of_mem _ List.mem_cons_self)
    refine ⟨_, (pss_one (ps_ost (pe_var (i := 0) rfl v0) (pe_var (i := 1) rfl v1 hd hc))), ?_⟩
    obtain ⟨a, v, rfl, ha, q⟩ := h
    exact ⟨v, rfl, .ref a, rfl, a, C, rfl, T, no, .inl ⟨ha, fun dx h1 h2 => q dx h1 h2⟩⟩
end
section
variable {X : Cx} {C fI : Addr} {k : Nat} {fd : FuncData} {e : Expr} {te : TE} {x f : Str} {p pos : Pos}
def tErr (C : Addr) (f : Str) (te : TE) : TE := fun st H Q => te st H fun v H1 =>
  ∀ a H2, H1 a = none → Same H1 H2 → ErrV H2 a C f v → Q (.ref a) H2
theorem pe_err (T : OexC X.K C)
    (iC : PySem.W.findIn X.K (.ref C) "__init__" = some (some (.ref fI)))
    (tI : PySem.W.typeIn X.K (.ref fI) = some (.type "function"))
    (F1 : FnOk X.prog X.w X.K X.mg X.base CX0 k fI fd ["self", f] (spIni C f))
    (hr : Room (k + 1) X.A) (hb : Binds X.K fd ["self", f] []) (hg : Gl X x)
    (hm : X.mg x = some (.ref C)) (ha : PE X e te)
    (hdb : (x == ("__debug__" : Str)) = false := by decide)
    (hs : starEach [e] X.env = (false, eval e X.env) :: starEach [] X.env := by rfl) :
    PE X (.Call (.Name x p) [e] [] pos) (tErr C f te) := by
  have ha2 : PE X e (tMono te) := pe_mono ha
  refine pe_weak (Vx.pe_mkV T iC tI F1 hr hb hg hm (pa_cons ha2 pa_nil hs) hdb hs (by rfl)) ?_
  intro st H Q h
  refine ⟨_, h, fun v H1 q => ⟨by show 1 ≤ 1000; omega, fun a na => ?_⟩⟩
  refine ⟨a, v, rfl, upd_same, fun dx n1 n2 => ⟨rfl, ?_⟩⟩
  have nd : H1 dx = none := by rw [upd_ne n2] at n1; exact n1
  refine q a _ na (fun b o hb => ?_) ⟨dx, upd_same, ?_⟩
  · rw [upd_ne (ne_of_none hb na), upd_ne (ne_of_none hb nd), upd_ne (ne_of_none hb na)]
    exact hb
  · rw [upd_ne n2, upd_same]
end
end Vl

set_option Elab.async false
set_option linter.all false
set_option maxRecDepth 100000
set_option maxHeartbeats 2000000
/-! The head: facts by one Bool of the written part, defs by data. -/
namespace Vh
open PySem PySem.Spec PyProof.Rows L2
abbrev Fg := PySem.W.Frag
def obsB (f : Fg → Bool) (fn : List He.DefD) (K : Fg) : He.AlD :=
  (f K && fn.all fun d => d.ok K, fn.map fun d => He.fnW K d.at_)
def SaysB (f : Fg → Bool) (fn : List He.DefD) (K : Fg) : Prop := obsB f fn K = He.valD fn
def obsBG (n : Nat) (f : Fg → Bool) (fn : List He.DefD) (g : Addr → Option Obj) : He.AlD :=
  obsB f fn (He.frG g (He.asD g n))
def hookB (n : Nat) (f : Fg → Bool) (fn : List He.DefD) : PySem.W.Hook where
  α := He.AlD
  obs := fun s => obsBG n f fn s.heap.get?
  val := fun _ => He.valD fn
  says := fun _ h => ∃ K : Fg, K.In h ∧ SaysB f fn K
  of := fun _ _ e => ⟨_, He.frG_in, e⟩
  keeps := fun _ _ _ ⟨K, hK, c⟩ k => ⟨K, PySem.W.Frag.In.keeps hK k, c⟩
theorem obsBG_eq {n : Nat} {f : Fg → Bool} {fn : List He.DefD} {g : Addr → Option Obj} {s : Shared}
    (h : ∀ a, g a = s.heap.get? a) : obsBG n f fn g = (hookB n f fn).obs s := by
  have e : g = s.heap.get? := funext h
  rw [e] <;> rfl
section
variable {f : Fg → Bool} {fn : List He.DefD} {K : Fg}
theorem SaysB.fact (c : SaysB f fn K) : f K = true :=
  (He.ba (show (f K && fn.all fun d => d.ok K) = true from congrArg (fun z : He.AlD => z.1) c)).1
theorem SaysB.def_ (c : SaysB f fn K) (i : Nat) {d : He.DefD} (h : fn[i]? = some d := by rfl) :
    ∃ fd, FunD K d.name d.qual d.params d.body d.scope (d.dvs K) (d.kws K) (He.fAd K d.at_) fd := by
  have c2 := (He.ba (show (f K && fn.all fun d => d.ok K) = true from congrArg (fun z : He.AlD => z.1) c)).2
  have e : fn.map (fun d => He.fnW K d.at_) = fn.map He.DefD.val := congrArg (fun z : He.AlD => z.2) c
  have e2 : (fn.map fun d => He.fnW K d.at_)[i]? = (fn.map He.DefD.val)[i]? := by rw [e]
  rw [List.getElem?_map, List.getElem?_map, h] at e2
  exact He.DefD.funD (Option.some.inj e2) (List.all_eq_true.mp c2 d (List.mem_of_getElem? h))
end
/-- a def of the top, a method of a class of the top -/
def gD (st : Stmt) (x : Str) : He.DefD := ⟨(x, none), x, x, defArgs st, defBody st, defScope st, [], []⟩
def mD (st : Stmt) (c m q : Str) : He.DefD := ⟨(c, some m), m, q, defArgs st, defBody st, defScope st, [], []⟩
/-! the errors' classes -/
def headB (K : Fg) (C : Addr) (bm : List Value) (sl : List (Option Value)) (cd : ClassData) : Bool :=
  match sl with
  | [_, _, _, _, some (.builtin n), _] =>
    n == "ValueError.__new__" && (!cd.hasDel && (cd.hasDict && PySem.HandSPX.refsVE bm))
  | _ => false
def oexB (K : Fg) (C : Addr) : Bool :=
  match K.lookup C with
  | some ⟨.type "type", _, .cls cd, sl⟩ => (match cd.mro with
    | .ref D :: bm => D == C && headB K C bm sl.toList cd
    | _ => false)
  | _ => false
theorem oexB_ok {K : Fg} {C : Addr} (h : oexB K C = true) :
    ∃ nm q N bs bm sn sub ab col dd k0 k1 k2 k3 k5,
      K.lookup C = some (excClassObj nm q C N bs bm true sn sub ab col dd k0 k1 k2 k3 k5 "ValueError.__new__") ∧
        PySem.HandSPX.refsVE bm = true := by
  unfold oexB at h
  split at h
  · rename_i dd cd sl ho
    split at h
    · rename_i D bm hm
      obtain ⟨h1, h2⟩ := He.ba h
      unfold headB at h2
      split at h2
      · rename_i k0 k1 k2 k3 n k5 hs
        simp only [Bool.and_eq_true, beq_iff_eq, Bool.not_eq_true'] at h1 h2
        obtain ⟨h3, h4, h5, h6⟩ := h2
        subst h1 h3
        obtain ⟨nm, bs, mro, ns, qn, hd, sn, sub, ab, col, del⟩ := cd
        dsimp only at hm h4 h5
        subst hm h4 h5
        obtain ⟨l⟩ := sl
        dsimp only at hs
        subst hs
        exact ⟨nm, qn, ns, bs, bm, sn, sub, ab, col, dd, k0, k1, k2, k3, k5, ho, h6⟩
      · cases h2
    · cases h
  · cases h
/-- all that is asked of a class of errors -/
def errB (K : Fg) (C : Addr) : Bool :=
  oexB K C && (He.eqO (PySem.W.findIn K (.ref C) "__setattr__") (some (some (.builtin "object.__setattr__"))) &&
   (decide (PySem.W.subIn K (.ref C) (.type "BaseException") = some true) &&
   (decide (PySem.W.typeIn K (.ref C) = some (.type "type")) && (PySem.W.keepIn K (.ref C) && (xfB K C &&
   (He.eqO (PySem.W.findIn K (.ref C) "__class__") (some (some (.builtin "object.__class__"))) &&
    decide (PySem.W.mroIn K C (.type "object") = some true)))))))
def takB (K : Fg) : Bool :=
  He.eqO (PySem.W.specialIn K (.builtin "object.__class__") "__get__") (some (some (.builtin "getset_descriptor.__get__"))) &&
    decide (PySem.W.takesIn K (.builtin "object.__class__") = some true)
theorem errB_ok {K : Fg} {C : Addr} (h : errB K C = true) (hk : takB K = true) : OexC K C ∧ XfC K C ∧ Vx.IsC K C := by
  obtain ⟨h1, h⟩ := He.ba h
  obtain ⟨h2, h⟩ := He.ba h
  obtain ⟨h3, h⟩ := He.ba h
  obtain ⟨h4, h⟩ := He.ba h
  obtain ⟨h5, h⟩ := He.ba h
  obtain ⟨h6, h⟩ := He.ba h
  obtain ⟨h7, h8⟩ := He.ba h
  obtain ⟨k1, k2⟩ := He.ba hk
  have X := xfB_ok h6
  have c := oexB_ok h1
  refine ⟨⟨c, He.eqO_ok h2, of_decide_eq_true h3, of_decide_eq_true h4, h5⟩, X, ?_⟩
  refine ⟨?_, X.ga, X.gg, X.exC, He.eqO_ok h7, He.eqO_ok k1, of_decide_eq_true k2, of_decide_eq_true h8⟩
  obtain ⟨nm, q, N, bs, bm, sn, sub, ab, col, dd, k0, k1, k2, k3, k5, hC, hbm⟩ := c
  unfold PySem.W.clsIn
  rw [hC]
  rfl
/-- its own __init__ at f1, no field named f in the class -/
def iniB (K : Fg) (C : Addr) (fs : List Str) : Bool :=
  He.eqO (PySem.W.findIn K (.ref C) "__init__") (some (some (.ref (He.ma K C "__init__")))) &&
  (decide (PySem.W.typeIn K (.ref (He.ma K C "__init__")) = some (.type "function")) &&
   fs.all fun f => He.eqO (PySem.W.findIn K (.ref C) f) (some none))
structure Ini (K : Fg) (C : Addr) (fs : List Str) : Prop where
  iC : PySem.W.findIn K (.ref C) "__init__" = some (some (.ref (He.ma K C "__init__")))
  tI : PySem.W.typeIn K (.ref (He.ma K C "__init__")) = some (.type "function")
  no : ∀ f ∈ fs, PySem.W.findIn K (.ref C) f = some none
theorem iniB_ok {K : Fg} {C : Addr} {fs : List Str} (h : iniB K C fs = true) : Ini K C fs := by
  obtain ⟨h1, h⟩ := He.ba h
  obtain ⟨h2, h3⟩ := He.ba h
  exact ⟨He.eqO_ok h1, of_decide_eq_true h2, fun f hf => He.eqO_ok (List.all_eq_true.mp h3 f hf)⟩
end Vh

set_option Elab.async false
set_option linter.all false
set_option maxRecDepth 100000
set_option maxHeartbeats 2000000
/-! The laws' own draws: a pool of three ints, names out of it. -/
namespace Vp
open PySem PySem.Spec PyProof.Rows L2 Vl Evl
/-- a text by its signs -/
def tx (l : List Nat) : Str := ⟨l.toArray⟩
theorem tx_list (l : List Nat) : (tx l).cps.toList = l := rfl
theorem tx_len (l : List Nat) : (tx l).length = l.length := rfl
theorem tx_app (a b : List Nat) : tx a ++ tx b = tx (a ++ b) := by
  show Str.mk (a.toArray ++ b.toArray) = Str.mk (a ++ b).toArray
  rw [List.append_toArray]
theorem tx_one (c : Nat) : (⟨#[c]⟩ : Str) = tx [c] := rfl
theorem tx_inj {a b : List Nat} (h : tx a = tx b) : a = b := by
  have := congrArg (fun z : Str => z.cps.toList) h
  exact this
theorem tx_of (z : Str) : z = tx z.cps.toList := by
  obtain ⟨a⟩ := z
  rfl
theorem tx_cut0 (l : List Nat) (k : Nat) : cutS (tx l) none (some (k : Int)) = tx (l.take k) := by
  show Str.mk _ = Str.mk _
  rw [HT.sIx_nat, HT.sIx_none, tx_len, tx_list, List.drop_zero, Nat.sub_zero, ← List.take_take, List.take_length]
theorem tx_cut1 (l : List Nat) (k : Nat) : cutS (tx l) (some (k : Int)) none = tx (l.drop k) := by
  show Str.mk _ = Str.mk _
  rw [HT.sIx_nat, HT.sIx_none, tx_len, tx_list]
  congr 2
  by_cases h : k ≤ l.length
  · rw [Nat.min_eq_left h, ← List.length_drop, List.take_length]
  · rw [List.drop_of_length_le (by omega), List.drop_of_length_le (by omega), List.take_nil]
def letters : List Nat := [97, 98, 99, 100, 101, 102, 103, 104, 105, 106, 107, 108, 109, 110, 111, 112, 113, 114, 115, 116, 117, 118, 119, 120, 121, 122]
def digits : List Nat := [48, 49, 50, 51, 52, 53, 54, 55, 56, 57]
def signs : List Nat := letters ++ digits
/-- the signs of a name: a small letter, then up to seven small letters and figures -/
def nam (l : List Nat) : Prop := ∃ c r, l = c :: r ∧ c ∈ letters ∧ (∀ x ∈ r, x ∈ signs) ∧ r.length ≤ 7
theorem nam_len {l : List Nat} (h : nam l) : 1 ≤ l.length ∧ l.length ≤ 8 := by
  obtain ⟨c, r, rfl, _, _, h4⟩ := h
  rw [List.length_cons]
  omega
theorem letters_signs {c : Nat} (h : c ∈ letters) : c ∈ signs := List.mem_append_left _ h
theorem nam_signs {l : List Nat} (h : nam l) : ∀ x ∈ l, x ∈ signs := by
  obtain ⟨c, r, rfl, h2, h3, _⟩ := h
  intro x hx
  rcases List.mem_cons.mp hx with rfl | hx
  · exact letters_signs h2
  · exact h3 x hx
theorem nam_take {l : List Nat} (h : nam l) (k : Nat) : nam (l.take (k + 1)) := by
  obtain ⟨c, r, rfl, h2, h3, h4⟩ := h
  refine ⟨c, r.take k, List.take_succ_cons, h2, fun x hx => h3 x (List.mem_of_mem_take hx), ?_⟩
  rw [List.length_take]
  omega
/-- a pool stands at p, its counter at most n -/
def PoolAt (H : Hp) (p : Addr) (n : Nat) : Prop := ∃ a b c : Int, H p = some (.lst [.int a, .int b, .int c]) ∧ 0 ≤ b ∧ b < 1000000007 ∧ 0 ≤ c ∧ c ≤ n
theorem PoolAt.mono {H : Hp} {p : Addr} {n m : Nat} (h : PoolAt H p n) (hm : n ≤ m) : PoolAt H p m := by
  obtain ⟨a, b, c, h1, h2, h3, h4, h5⟩ := h
  exact ⟨a, b, c, h1, h2, h3, h4, by omega⟩
/-- all but what stands at p -/
def Wo (H : Hp) (p : Addr) : Hp := fun b => if b = p then none else H b
theorem wo_self (H : Hp) (p : Addr) : Wo H p p = none := if_pos rfl
theorem wo_ne {H : Hp} {p b : Addr} (h : b ≠ p) : Wo H p b = H b := if_neg h
theorem wo_ex (H : Hp) (p : Addr) : Ex (Wo H p) H := fun b o e => by
  by_cases h : b = p
  · rw [h, wo_self] at e
    cases e
  · rw [wo_ne h] at e
    exact e
theorem wo_of {Hk H : Hp} {p : Addr} (h : Hk p = none) (e : Ex Hk H) : Ex Hk (Wo H p) := fun b o hb => by
  rw [wo_ne (ne_of_none hb h)]
  exact e b o hb
theorem wo_at {H : Hp} {p b : Addr} {o : HO} (h : H b = some o) (hb : b ≠ p) : Wo H p b = some o := by
  rw [wo_ne hb]
  exact h
/-- what is known is Hk, all but the pool at p; the pool stands there -/
structure Pl (Hk : Hp) (p : Addr) (n : Nat) (H : Hp) : Prop where
  no : Hk p = none
  ex : Ex Hk H
  at_ : PoolAt H p n
theorem Pl.re {Hk H : Hp} {p : Addr} {n : Nat} (h : Pl Hk p n H) : Pl (Wo H p) p n H := ⟨wo_self _ _, wo_ex _ _, h.at_⟩
theorem Pl.wo {Hk H : Hp} {p : Addr} {n : Nat} (h : Pl Hk p n H) : Ex Hk (Wo H p) := wo_of h.no h.ex
theorem Pl.grow {Hk H H' : Hp} {p : Addr} {n : Nat} (h : Pl Hk p n H) (e : Ex H H') : Pl Hk p n H' := by
  obtain ⟨a, b, c, h1, h2⟩ := h.at_
  exact ⟨h.no, h.ex.trans e, a, b, c, e _ _ h1, h2⟩
theorem Pl.cnt {Hk H : Hp} {p : Addr} {n m : Nat} (h : Pl Hk p n H) (hm : n ≤ m) : Pl Hk p m H := ⟨h.no, h.ex, h.at_.mono hm⟩
theorem Pl.sub {Hk Hj H : Hp} {p : Addr} {n : Nat} (h : Pl Hk p n H) (e : Ex Hj Hk) (hn : Hj p = none) : Pl Hj p n H := ⟨hn, e.trans h.ex, h.at_⟩
/-- a new object beside the pool -/
theorem Pl.new {Hk H : Hp} {p q : Addr} {n : Nat} {o : HO} (h : Pl Hk p n H) (hq : H q = none) : Pl Hk p n (upd H q o) := h.grow (Ex.new hq)
theorem Pl.ne {Hk H : Hp} {p q : Addr} {n : Nat} (h : Pl Hk p n H) (hq : H q = none) : q ≠ p := fun z => by
  obtain ⟨a, b, c, h1, _⟩ := h.at_
  rw [z, h1] at hq
  cases hq
/-! promises -/
def spPool : Sp := fun vs H Q _ => ∃ c : Int, vs = [.int c] ∧ ∀ p H', H p = none → Ex H H' → PoolAt H' p 0 → Q (.ref p) H'
def spTake : Sp := fun vs H Q _ => ∃ (p : Addr) (m : Int) (Hk : Hp) (n : Nat), vs = [.ref p, .int m] ∧ 1 ≤ m ∧ m ≤ 100000 ∧ Pl Hk p n H ∧ n ≤ 100000 ∧
  ∀ (r : Int) H', 0 ≤ r → r < m → Pl Hk p (n + 1) H' → Q (.int r) H'
/-- names, none of them twice -/
def Names (xs : List (List Nat)) : Prop := (∀ l ∈ xs, nam l) ∧ xs.Nodup
def vtx (xs : List (List Nat)) : List V := xs.map fun l => V.str (tx l)
theorem vtx_len (xs : List (List Nat)) : (vtx xs).length = xs.length := List.length_map _
theorem vtx_app (xs ys : List (List Nat)) : vtx (xs ++ ys) = vtx xs ++ vtx ys := List.map_append
theorem vtx_at {xs : List (List Nat)} {i : Nat} {l : List Nat} (h : xs[i]? = some l) : (vtx xs)[i]? = some (V.str (tx l)) := by
  unfold vtx
  rw [List.getElem?_map, h]
  rfl
def spNames : Sp := fun vs H Q _ => ∃ (p : Addr) (m : Nat) (Hk : Hp) (n : Nat), vs = [.ref p, .int (m : Int)] ∧ m ≤ 8 ∧ Pl Hk p n H ∧ n ≤ 90000 ∧
  ∀ q xs H', H q = none → Pl Hk p (n + 50) H' → H' q = some (.lst (vtx xs)) → xs.length = m → Names xs → Q (.ref q) H'
/-- words out of names -/
def spWord : Sp := fun vs H Q _ => ∃ (p q : Addr) (xs : List (List Nat)) (m : Nat) (Hk : Hp) (n : Nat), vs = [.ref p, .ref q, .int (m : Int)] ∧ 1 ≤ m ∧ m ≤ 30 ∧ Pl Hk p n H ∧ n ≤ 90000 ∧ Hk q = some (.lst (vtx xs)) ∧ 1 ≤ xs.length ∧ xs.length ≤ 1000 ∧
  ∀ d ys H', H d = none → Pl Hk p (n + 50) H' → H' d = some (.lst (vtx ys)) → 1 ≤ ys.length → ys.length ≤ max m 12 → (∀ y ∈ ys, y ∈ xs) → Q (.ref d) H'
theorem mod7 {s i j n : Nat} (hn : n = 26 ∨ n = 36) (hi : i < 26) (hj : j < 26) (h : (s + 7 * i) % n = (s + 7 * j) % n) : i = j := by
  rcases hn with rfl | rfl <;> omega
theorem mod3 {s i j : Nat} (hi : i < 8) (hj : j < 8) (h : (s + 3 * i) % 26 = (s + 3 * j) % 26) : i = j := by omega
theorem nodup_letters : letters.Nodup := by decide
theorem nodup_signs : signs.Nodup := by decide +kernel
theorem len_letters : letters.length = 26 := rfl
theorem len_signs : signs.length = 36 := rfl
theorem nodup_key {α : Type} {l : List α} (h : ∀ (i j : Nat) (y : α), l[i]? = some y → l[j]? = some y → i = j) : l.Nodup := by
  refine List.pairwise_iff_getElem.mpr fun i j hi hj hij e => ?_
  have := h i j l[i] (List.getElem?_eq_getElem hi) (by rw [e]; exact List.getElem?_eq_getElem hj)
  omega
theorem nodup_range {α : Type} {m : Nat} {f : Nat → α} (h : ∀ i j, i < m → j < m → f i = f j → i = j) : ((List.range m).map f).Nodup := by
  refine nodup_key fun i j y hi hj => ?_
  rw [List.getElem?_map] at hi hj
  by_cases a : i < m
  · by_cases b : j < m
    · rw [List.getElem?_range a] at hi
      rw [List.getElem?_range b] at hj
      exact h i j a b ((Option.some.inj hi).trans (Option.some.inj hj).symm)
    · rw [List.getElem?_eq_none (by rw [List.length_range]; omega)] at hj
      cases hj
  · rw [List.getElem?_eq_none (by rw [List.length_range]; omega)] at hi
    cases hi
theorem getD_at {l : List Nat} {i : Nat} (h : i < l.length) : l[i]? = some (l.getD i 0) := by
  rw [List.getElem?_eq_getElem h, List.getD_eq_getElem?_getD, List.getElem?_eq_getElem h]
  rfl
theorem getD_mem {l : List Nat} {i : Nat} (h : i < l.length) : l.getD i 0 ∈ l := List.mem_of_getElem? (getD_at h)
theorem getD_inj {l : List Nat} (hn : l.Nodup) {i j : Nat} (hi : i < l.length) (hj : j < l.length) (h : l.getD i 0 = l.getD j 0) : i = j :=
  nd_ix hn (getD_at hi) (by rw [h]; exact getD_at hj)
theorem nam_one {c : Nat} (h : c ∈ letters) : nam [c] := ⟨c, [], rfl, h, (fun _ z => nomatch z), by show 0 ≤ 7; omega⟩
theorem nam_snoc {l : List Nat} {c : Nat} (h : nam l) (hc : c ∈ signs) (hl : l.length ≤ 7) : nam (l ++ [c]) := by
  obtain ⟨a, r, rfl, h2, h3, h4⟩ := h
  refine ⟨a, r ++ [c], rfl, h2, fun x hx => ?_, ?_⟩
  · rcases List.mem_append.mp hx with hx | hx
    · exact h3 x hx
    · rw [List.mem_singleton.mp hx]
      exact hc
  · rw [List.length_append, List.length_singleton]
    rw [List.length_cons] at hl
    omega
theorem nam_cons {l : List Nat} {c : Nat} (hc : c ∈ letters) (hl : ∀ x ∈ l, x ∈ signs) (h7 : l.length ≤ 7) : nam (c :: l) := ⟨c, l, rfl, hc, hl, h7⟩
/-- a sign put into a stem -/
theorem nam_put {w : List Nat} {c t p : Nat} (hw : nam w) (ht : t ≤ 7) (hp : p ≤ (w.take t).length) (h : p = 0 → c ∈ letters) (h2 : c ∈ signs) :
    nam ((w.take t).take p ++ [c] ++ (w.take t).drop p) := by
  have hm : ∀ x ∈ w.take t, x ∈ signs := fun x hx => nam_signs hw x (List.mem_of_mem_take hx)
  have hl : (w.take t).length ≤ 7 := by rw [List.length_take]; omega
  cases p with
  | zero =>
    rw [List.take_zero, List.nil_append, List.drop_zero]
    exact nam_cons (h rfl) hm hl
  | succ p =>
    obtain ⟨a, r, hw1, ha, hr, h7⟩ := hw
    cases t with
    | zero =>
      rw [List.take_zero] at hp
      exact absurd hp (by show ¬ p + 1 ≤ 0; omega)
    | succ t =>
      rw [hw1, List.take_succ_cons] at hm hl hp ⊢
      rw [List.take_succ_cons, List.drop_succ_cons, List.append_assoc]
      rw [List.length_cons] at hl hp
      refine ⟨a, (r.take t).take p ++ ([c] ++ (r.take t).drop p), rfl, ha, fun x hx => ?_, ?_⟩
      · rcases List.mem_append.mp hx with hx | hx
        · exact hm x (List.mem_cons_of_mem _ (List.mem_of_mem_take hx))
        · rcases List.mem_append.mp hx with hx | hx
          · rw [List.mem_singleton.mp hx]
            exact h2
          · exact hm x (List.mem_cons_of_mem _ (List.mem_of_mem_drop hx))
      · rw [List.length_append, List.length_append, List.length_take, List.length_drop, List.length_singleton]
        omega
theorem put_at {w : List Nat} {c p : Nat} (hp : p ≤ w.length) : (w.take p ++ [c] ++ w.drop p)[p]? = some c := by
  rw [List.append_assoc, List.getElem?_append_right (by rw [List.length_take]; omega), List.length_take, Nat.min_eq_left hp, Nat.sub_self]
  rfl
theorem str_letters : Str.ofString "abcdefghijklmnopqrstuvwxyz" = tx letters := by decide +kernel
theorem str_digits : Str.ofString "0123456789" = tx digits := by decide +kernel
theorem rv_cats {a b : List Nat} {H : Hp} (h : a.length + b.length ≤ 100000) : RV rCatS (.str (tx a)) (.str (tx b)) H (.str (tx (a ++ b))) := by
  intro H1 _ Q q
  refine ⟨tx a, tx b, rfl, rfl, sz_of h, ?_⟩
  rw [tx_app]
  exact q H1 (Ex.refl H1)
theorem fresh_wo {H H' : Hp} {p d : Addr} {n m : Nat} {Hk : Hp} (h0 : Pl Hk p n H) (h : Pl (Wo H p) p m H') (hd : H' d = none) : H d = none := by
  cases e : H d with
  | none => rfl
  | some o =>
    have hp : d ≠ p := h.ne hd
    have := h.ex d o (wo_at e hp)
    rw [hd] at this
    cases this
theorem Pl.back {Hk H H' : Hp} {p : Addr} {n m : Nat} (h0 : Pl Hk p n H) (h : Pl (Wo H p) p m H') : Pl Hk p m H' := h.sub h0.wo h0.no
theorem cutV0 (xs : List V) (k : Nat) : cutV xs none (some (k : Int)) = xs.take k := by
  unfold cutV
  rw [HT.sIx_nat, HT.sIx_none, List.drop_zero, Nat.sub_zero, ← List.take_take, List.take_length]
theorem cutV1 (xs : List V) (k : Nat) : cutV xs (some (k : Int)) none = xs.drop k := by
  unfold cutV
  rw [HT.sIx_nat, HT.sIx_none]
  by_cases h : k ≤ xs.length
  · rw [Nat.min_eq_left h, ← List.length_drop, List.take_length]
  · rw [List.drop_of_length_le (by omega), List.drop_of_length_le (by omega), List.take_nil]
theorem vtx_take (xs : List (List Nat)) (k : Nat) : (vtx xs).take k = vtx (xs.take k) := List.map_take.symm
theorem vtx_drop (xs : List (List Nat)) (k : Nat) : (vtx xs).drop k = vtx (xs.drop k) := List.map_drop.symm
theorem vtx_rep (xs : List (List Nat)) : ∀ k, (List.replicate k (vtx xs)).flatten = vtx (List.replicate k xs).flatten
  | 0 => rfl
  | k + 1 => by
    rw [List.replicate_succ, List.flatten_cons, List.replicate_succ, List.flatten_cons, vtx_rep xs k, vtx_app]
theorem rep_len {α : Type} (xs : List α) : ∀ k, (List.replicate k xs).flatten.length = k * xs.length
  | 0 => by rw [Nat.zero_mul]; rfl
  | k + 1 => by
    rw [List.replicate_succ, List.flatten_cons, List.length_append, rep_len xs k, Nat.succ_mul]
    omega
theorem rep_mem {α : Type} {xs : List α} {y : α} {k : Nat} (h : y ∈ (List.replicate k xs).flatten) : y ∈ xs := by
  obtain ⟨l, hl, hy⟩ := List.mem_flatten.mp h
  rw [(List.mem_replicate.mp hl).2] at hy
  exact hy
end Vp

set_option Elab.async false
set_option linter.all false
set_option maxRecDepth 100000
set_option maxHeartbeats 2000000
/-! Operators that a class of the program defines: by its methods' promises. -/
namespace Vo
open PySem PySem.Spec PyProof.Rows L2
section
variable {X : Cx} {CX : CXT} {k : Nat} {f C : Addr} {fd : FuncData} {ps : List Str} {sp : Sp}
variable {pins : List (Addr × Obj)} {σ : L2.St} {H : Hp} {s : Shared} {Q : VK} {us : List Value} {vs : List V} {E : XK}
/-- a method called one level further in -/
theorem run_in1 (F : FnOk X.prog X.w X.K X.mg X.base CX k f fd ps sp) (hr : Room (k + 1) X.A) (hb : Binds X.K fd ps [])
    (hx : PassesAt CX X σ E) (I : Inv X pins σ H s) (r : Vals vs us) (h : sp vs H Q E) :
    wpAny (model X.prog X.w) X.A.in1 (call (.ref f) us) (EP X pins σ Q) X.xe s := by
  have hl : us.length = ps.length := by
    rw [← r.length]
    exact F.len _ _ _ _ h
  have b := hb s us I.kIn (by rw [List.append_nil]; exact hl)
  rw [List.append_nil] at b
  have run := F.run X.A.in1 X.stack s H ⟨us, []⟩ us vs Q E hr.in1 I.env0.in1 b r h
  refine wpAny_call (codeAny_mono run ?_)
  intro z s' hq
  cases z with
  | error e => exact hx pins H s e s' I hq
  | ok fl =>
    cases fl with
    | ret u => exact I.after hq
    | next => exact False.elim hq
    | brk => exact False.elim hq
    | cont => exact False.elim hq
/-- the same where it stands -/
theorem run_here (F : FnOk X.prog X.w X.K X.mg X.base CX k f fd ps sp) (hr : Room k X.A) (hb : Binds X.K fd ps [])
    (hx : PassesAt CX X σ E) (I : Inv X pins σ H s) (r : Vals vs us) (h : sp vs H Q E) :
    wpAny (model X.prog X.w) X.A (call (.ref f) us) (EP X pins σ Q) X.xe s :=
  run_fnS (E := fun _ => E) F hr hb hx I r h
end
section
variable {X : Cx} {CX : CXT} {k : Nat} {f C : Addr} {fd : FuncData} {ps : List Str} {sp : Sp} {E : L2.St → XK}
variable {a b : Expr} {ta tb : TE} {pos : Pos}
/-- one operand an instance of the class at C -/
def tOwn1 (C : Addr) (sp : Sp) (E : L2.St → XK) (ta : TE) : TE := fun st H Q => ta st H fun x H1 =>
  ∃ o dx fs, x = .ref o ∧ H1 o = some (.ins C dx fs) ∧ sp [x] H1 Q (E st)
/-- the left one of two -/
def tOwn2 (C : Addr) (R : V → Prop) (sp : Sp) (E : L2.St → XK) (ta tb : TE) : TE := fun st H Q => ta st H fun x H1 => tb st H1 fun y H2 =>
  ∃ o dx fs, x = .ref o ∧ H2 o = some (.ins C dx fs) ∧ R y ∧ sp [x, y] H2 Q (E st)
theorem inst_at {pins : List (Addr × Obj)} {σ : L2.St} {H : Hp} {s : Shared} {o dx : Addr} {fs : List (Str × V)} (I : Inv X pins σ H s) (ea : H o = some (.ins C dx fs)) :
    ∃ ob od, PySem.W.InstAt s.heap o ob C (some od) := by
  obtain ⟨mA, O, _, _, _, _⟩ := ins_get I.hok ea
  obtain ⟨od, J, _⟩ := O.look
  exact ⟨_, od, J⟩
/-- o[i] -/
theorem pe_ixO (M : Meth X.K C "__getitem__" f) (hf : PySem.W.fnIn X.K f = true) (F : FnOk X.prog X.w X.K X.mg X.base CX k f fd ps sp) (hr : Room (k + 1) X.A) (hb : Binds X.K fd ps [])
    (hx : ∀ st, PassesAt CX X st (E st)) (ha : PE X a ta) (hi : PE X b tb)
    (hs : ∀ o i, subscripted b true (.ref o) i = runValue (.builtin "lifetime.subscript" ⟨[.ref o, i], []⟩)) :
    PE X (.Subscript a b pos) (tOwn2 C (fun _ => True) sp E ta tb) := by
  refine ⟨fun pins s σ H Q I h => ?_⟩
  refine Subscript_ (binT ha hi I h fun v u s2 x y H2 I2 rx ry q => ?_)
  obtain ⟨o, dx, fs, rfl, eo, _, q⟩ := q
  obtain rfl : v = Value.ref o := rx
  obtain ⟨ob, od, J⟩ := inst_at I2 eo
  obtain ⟨m, fr⟩ := I2.fr
  exact PySem.W.sub_K fr I2.ok.mod.kin J M.at_ hf M.fn (run_in1 F hr hb (hx σ) I2 (Paired.cons (show RelV (V.ref o) (Value.ref o) from rfl) (.cons ry .nil)) q) (hs o u)
/-- -o -/
theorem pe_negO (M : Meth X.K C "__neg__" f) (F : FnOk X.prog X.w X.K X.mg X.base CX k f fd ps sp) (hr : Room k X.A) (hb : Binds X.K fd ps [])
    (hx : ∀ st, PassesAt CX X st (E st)) (ha : PE X a ta) : PE X (.UnaryOp .USub a pos) (tOwn1 C sp E ta) := by
  refine ⟨fun pins s σ H Q I h => ?_⟩
  refine UnaryOp_ (thn (ha.run pins s σ H _ I h) fun v s1 ⟨x, H1, I1, r1, q1⟩ => ?_)
  obtain ⟨o, dx, fs, rfl, eo, q⟩ := q1
  obtain rfl : v = Value.ref o := r1
  obtain ⟨ob, od, J⟩ := inst_at I1 eo
  obtain ⟨m, fr⟩ := I1.fr
  exact PySem.W.ksp_neg fr I1.ok.mod.kin J M.at_ M.fn (run_here F hr hb (hx σ) I1 (Paired.cons (show RelV (V.ref o) (Value.ref o) from rfl) .nil) q)
end
section
variable {X : Cx} {CX : CXT} {k : Nat} {f C : Addr} {fd : FuncData} {ps : List Str} {sp : Sp} {E : L2.St → XK}
variable {a b : Expr} {ta tb : TE} {pos : Pos}
/-- what comes back is no NotImplemented: any V's value -/
theorem cmp_back {pins : List (Addr × Obj)} {σ : L2.St} {Q : VK} {u : Value} {s' : Shared} (h : EP X pins σ Q u s') : PySem.W.CmpBack (EP X pins σ Q) u s' := by
  obtain ⟨v, H', I, r, q⟩ := h
  have hn : u ≠ .notImplemented := by
    intro z
    subst z
    cases v with
    | non => cases r
    | bl b => cases r
    | int i => obtain ⟨t, z⟩ := r; cases z
    | str x => obtain ⟨t, z⟩ := r; cases z
    | byt x => obtain ⟨t, z⟩ := r; cases z
    | flt x => obtain ⟨t, z⟩ := r; cases z
    | ref a => cases r
    | ty n => cases r
  have k : EP X pins σ Q u s' := ⟨v, H', I, r, q⟩
  unfold PySem.W.CmpBack
  cases u with
  | notImplemented => exact absurd rfl hn
  | _ => exact k
/-- the class's own operators: what the written part must say -/
structure OwnOp (K : PySem.W.Frag) (C : Addr) (nm : String) (f : Addr) : Prop where
  fst : PySem.W.selfFirst K C = true
  at_ : PySem.W.findIn K (.ref C) (PySem.dunder nm) = some (some (.ref f))
  fn : PySem.W.isFn K (.ref f) = true
  r : PySem.W.findIn K (.ref C) (dunderR nm) = some none
/-- the right operand is of the built-in type T, which knows nothing of C -/
structure Far (K : PySem.W.Frag) (C : Addr) (nm T : String) : Prop where
  h1 : ∃ fo, PySem.W.findIn K (.type T) (PySem.dunder nm) = some fo
  h2 : ∃ ro, PySem.W.findIn K (.type T) (dunderR nm) = some ro
  sub : PySem.W.subIn K (.type T) (.ref C) = some false
theorem own_bin {prog : Program} {w : World} {A : Around} {Er : Value → Shared → Prop} {s : Shared} {K : PySem.W.Frag} {x C L f : Addr} {h0 : Heap} {m : Str → Option Value} {ox : Obj} {od : Option Obj} {T : String}
    {op : Operator} {b : Value} {Q : Value → Shared → Prop} (F : Fr h0 L s.heap m) (X0 : K.In h0) (I : PySem.W.InstAt s.heap x ox C od)
    (hb : PySem.W.Looks (model prog w) s.heap (typeOf b) (.type T)) (W : OwnOp K C op.info.2 f) (Z : Far K C op.info.2 T)
    (h : wpAny (model prog w) A (call (.ref f) [.ref x, b]) (PySem.W.CmpBack Q) Er s) : wpAny (model prog w) A (binaryOp op (.ref x) b) Q Er s := by
  have X := X0.keeps F.keep
  obtain ⟨cd, rest, hcd, hm⟩ := PySem.W.ksp_first W.fst
  obtain ⟨fo, h1⟩ := Z.h1
  obtain ⟨ro, h2⟩ := Z.h2
  have one := PySem.W.ksp_try X I W.at_ W.fn h
  rcases hi : op.info with ⟨sym, nm⟩
  have wa := W.at_
  have wr := W.r
  rw [hi] at wa wr h1 h2
  rw [hi] at one
  dsimp only at wa wr h1 h2 one
  obtain ⟨hh, g, d, tt, os⟩ := s
  have a1 : PySem.W.Looks (model prog w) hh (typeOf (.ref x)) (.ref C) := I.type
  have a2 : PySem.W.Looks (model prog w) hh (typeOf b) (.type T) := hb
  have a3 := PySem.W.fills_K (M := model prog w) X hcd hm wa
  have a4 := PySem.W.ksp_fillsT (M := model prog w) X h1 h2
  have a5 := PySem.W.looks_subIn (M := model prog w) X Z.sub
  have a6 := PySem.W.ksp_inPy (M := model prog w) X wa wr (.inl rfl)
  have a7 : PySem.W.Looks (model prog w) hh (numberSlotInPython (.type T) nm) false := PySem.W.Looks.of_pure rfl
  have a8 := PySem.W.looks_findIn (M := model prog w) X h2
  revert a4
  generalize ((fo.isSome && !isSeqSlot fo) || (ro.isSome && !isSeqSlot ro)) = rt
  intro a4
  have ne : (Value.ref C == Value.type T) = false := by
    refine Bool.eq_false_iff.mpr fun q => ?_
    cases beq_iff_eq.mp q
  simp only [binaryOp, hi]
  refine wpAny_holding (wpAny_bind ?_)
  unfold binaryOp1
  refine wpAny_bind (a1.at (wpAny_bind (a2.at (wpAny_bind (a3.at ?_)))))
  simp only [ne, Bool.false_eq_true, if_false]
  cases rt
  all_goals
    ksp_lk
    refine wpAny_mono one (fun r s' hr => ?_) fun _ _ z => z
    obtain ⟨v, rfl, hq⟩ := hr
    ksp_lk
    exact hq
/-- o op y, y of a built-in type -/
theorem pe_binO {op : Operator} {T : V → Hp → String → Prop} (W : OwnOp X.K C op.info.2 f)
    (Z : ∀ y H t, T y H t → Far X.K C op.info.2 t)
    (hT : ∀ (pins : List (Addr × Obj)) (st : L2.St) (H : Hp) (s : Shared) (y : V) (u : Value) (t : String), Inv X pins st H s → RelV y u → T y H t → PySem.W.Looks (model X.prog X.w) s.heap (typeOf u) (.type t))
    (F : FnOk X.prog X.w X.K X.mg X.base CX k f fd ps sp) (hr : Room k X.A) (hb : Binds X.K fd ps [])
    (hx : ∀ st, PassesAt CX X st (E st)) (ha : PE X a ta) (hi : PE X b tb) :
    PE X (.BinOp a op b pos) (fun st H Q => ta st H fun x H1 => tb st H1 fun y H2 => ∃ o dx fs t, x = .ref o ∧ H2 o = some (.ins C dx fs) ∧ T y H2 t ∧ sp [x, y] H2 Q (E st)) := by
  refine ⟨fun pins s σ H Q I h => ?_⟩
  refine wpAny_BinOp (binT ha hi I h fun v u s2 x y H2 I2 rx ry q => ?_)
  obtain ⟨o, dx, fs, t, rfl, eo, ht, q⟩ := q
  obtain rfl : v = Value.ref o := rx
  obtain ⟨ob, od, J⟩ := inst_at I2 eo
  obtain ⟨m, fr⟩ := I2.fr
  refine own_bin fr I2.ok.mod.kin J (hT _ _ _ _ _ _ _ I2 ry ht) W (Z _ _ _ ht) ?_
  exact wpAny_mono (run_here F hr hb (hx σ) I2 (Paired.cons (show RelV (V.ref o) (Value.ref o) from rfl) (.cons ry .nil)) q) (fun u s' z => cmp_back z) fun _ _ z => z
/-- Passes, at some slots -/
theorem passes_at {E1 : XK} (h : Passes CX X E1) (st : L2.St) : PassesAt CX X st E1 := fun pins H s e s' I c => h pins st H s e s' I c
def rOwn (C : Addr) (T : V → Hp → Value → Prop) (sp : Sp) (E1 : XK) : R2 := fun x y H Q =>
  ∃ o dx fs t, x = .ref o ∧ H o = some (.ins C dx fs) ∧ T y H t ∧ sp [x, y] H Q E1
/-- o == y -/
theorem op_eqO {E1 : XK} {T : V → Hp → Value → Prop} (M : Meth X.K C "__eq__" f) (Z : ∀ y H t, T y H t → PySem.W.notFirst X.K C t = true)
    (hT : ∀ (pins : List (Addr × Obj)) (st : L2.St) (H : Hp) (s : Shared) (y : V) (u t : Value), Inv X pins st H s → RelV y u → T y H t → PySem.W.Looks (model X.prog X.w) s.heap (typeOf u) t)
    (F : FnOk X.prog X.w X.K X.mg X.base CX k f fd ps sp) (hr : Room k X.A) (hb : Binds X.K fd ps []) (hx : Passes CX X E1) :
    OpR X (compareOp .Eq) (rOwn C T sp E1) := by
  intro pins s σ H x y v u Q I rx ry q
  obtain ⟨o, dx, fs, t, rfl, eo, ht, q⟩ := q
  obtain rfl : v = Value.ref o := rx
  obtain ⟨ob, od, J⟩ := inst_at I eo
  obtain ⟨m, fr⟩ := I.fr
  unfold compareOp
  refine PySem.W.cmp_K (hu_lt hr) fr I.ok.mod.kin J (hT _ _ _ _ _ _ _ I ry ht) (Z _ _ _ ht) M.at_ M.fn ?_
  exact wpAny_mono (run_here F hr hb (passes_at hx σ) I (Paired.cons (show RelV (V.ref o) (Value.ref o) from rfl) (.cons ry .nil)) q) (fun u s' z => cmp_back z) fun _ _ z => z
where
  hu_lt {k : Nat} {A : Around} (hr : Room k A) : A.units < cLine := by have := hr.un; omega
/-- the class has an own __eq__ and no own __ne__, no base but object -/
def neB (K : PySem.W.Frag) (C f : Addr) : Bool :=
  match K.lookup C with
  | some ⟨.type "type", _, .cls cd, sl⟩ =>
    (match cd.mro with
      | [.ref D, .type "object"] => D == C
      | _ => false) && ((match sl.toList with
      | [_, _, _, _, some (.builtin _), _] => true
      | _ => false) && (!cd.hasDel && (PySem.W.nsOkIn K cd.ns && (decide (PySem.W.nsIn K cd.ns "__eq__" = some (some (.ref f))) &&
        (decide (PySem.W.nsIn K cd.ns "__ne__" = some none) && PySem.W.isFn K (.ref f))))))
  | _ => false
theorem ns_val {K : PySem.W.Frag} {h : Heap} {N : Addr} {mg : Str → Option Value} {n : Str} {v : Value} (X : K.In h) (G : h.Ns N mg) (e : PySem.W.nsIn K N n = some (some v)) : mg n = some v := by
  obtain ⟨o, es, ep, ho, hd, _, hf⟩ := G
  unfold PySem.W.nsIn at e
  split at e
  · rename_i c d es2 n2 sl q
    obtain rfl := Option.some.inj (ho.symm.trans (X _ _ q))
    cases hd
    split at e
    · next en he =>
        obtain rfl := Option.some.inj (Option.some.inj e)
        rw [← hf]
        unfold nsFind findBy
        rw [← Array.find?_toList, he]
        rfl
    · split at e <;> cases e
  · cases e
theorem ne_at {K : PySem.W.Frag} {C f x : Addr} {h : Heap} {ob : Obj} {od : Option Obj} (X : K.In h) (I : PySem.W.InstAt h x ob C od) (q : neB K C f = true) : h.OwnEqNoNe x C f "object" [.type "object"] := by
  unfold neB at q
  split at q
  · rename_i dd cd sl ho
    obtain ⟨q1, q⟩ := Bool.and_eq_true_iff.mp q
    obtain ⟨q2, q⟩ := Bool.and_eq_true_iff.mp q
    obtain ⟨q3, q⟩ := Bool.and_eq_true_iff.mp q
    obtain ⟨q4, q⟩ := Bool.and_eq_true_iff.mp q
    obtain ⟨q5, q⟩ := Bool.and_eq_true_iff.mp q
    obtain ⟨q6, q7⟩ := Bool.and_eq_true_iff.mp q
    split at q1
    · rename_i D hm
      split at q2
      · rename_i k0 k1 k2 k3 n k5 hs
        obtain rfl : D = C := beq_iff_eq.mp q1
        obtain ⟨nm, bs, mro, ns, qn, hd, sn, sub, ab, col, del⟩ := cd
        dsimp only at hm q3 q4 q5 q6
        have e3 : del = false := by
          cases del with
          | false => rfl
          | true => cases q3
        subst hm e3
        obtain ⟨l⟩ := sl
        dsimp only at hs
        subst hs
        have G : h.Ns ns (h.nsMap ns) := .of_isNs (PySem.W.isNs_of_in X q4)
        have g1 : h.nsMap ns "__eq__" = some (.ref f) := ns_val X G (of_decide_eq_true q5)
        have g2 : h.nsMap ns "__ne__" = none := PySem.W.ns_none_of X G (of_decide_eq_true q6)
        have tf : PySem.W.typeIn K (.ref f) = some (.type "function") := beq_iff_eq.mp q7
        obtain ⟨fo, hfo, hfc⟩ := Option.map_eq_some_iff.mp (show (K.lookup f).map (·.cls) = some (.type "function") from tf)
        refine ⟨ob, fo, nm, qn, ns, bs, hd, sn, sub, ab, col, dd, k0, k1, k2, k3, k5, n, h.nsMap ns, some (.builtin "object.__eq__"), I.at_, I.cls, X _ _ ho, G, g1, X _ _ hfo, hfc, (by kernel_rfl), ?_, g2⟩
        rw [typeLookup_type, builtinLookup_eq_fast]
        kernel_rfl
      · cases q2
    · cases q1
  · cases q
def rNe (C : Addr) (sp : Sp) (E1 : XK) : R2 := fun x y H Q =>
  ∃ o dx fs o2 dx2 fs2, x = .ref o ∧ y = .ref o2 ∧ H o = some (.ins C dx fs) ∧ H o2 = some (.ins C dx2 fs2) ∧ sp [x, y] H (fun v H1 => ∃ b, v = .bl b ∧ Q (.bl (!b)) H1) E1
/-- o != y, both of the class, which has __eq__ and no __ne__ -/
theorem op_neO {E1 : XK} (q : neB X.K C f = true) (F : FnOk X.prog X.w X.K X.mg X.base CX k f fd ps sp) (hr : Room (k + 1) X.A) (hb : Binds X.K fd ps []) (hx : Passes CX X E1) :
    OpR X (compareOp .NotEq) (rNe C sp E1) := by
  intro pins s σ H x y v u Q I rx ry q1
  obtain ⟨o, dx, fs, o2, dx2, fs2, rfl, rfl, eo, eo2, qs⟩ := q1
  obtain rfl : v = Value.ref o := rx
  obtain rfl : u = Value.ref o2 := ry
  obtain ⟨ob, od, J⟩ := inst_at I eo
  obtain ⟨ob2, od2, J2⟩ := inst_at I eo2
  obtain ⟨m, fr⟩ := I.fr
  have hu : X.A.units + 1 < cLine := by have := hr.un; omega
  have X0 := I.ok.mod.kin.keeps fr.keep
  have run := run_in1 F hr hb (passes_at hx σ) I (Paired.cons (show RelV (V.ref o) (Value.ref o) from rfl) (.cons (show RelV (V.ref o2) (Value.ref o2) from rfl) .nil)) qs
  obtain ⟨hh, g, d, t, os⟩ := s
  refine compareOp_ne_ownEq PySem.F.cmp_object (ne_at X0 J q) J2.at_ J2.cls hu (wpAny_mono run (fun z s' hz => ?_) fun _ _ z => z)
  obtain ⟨v1, H1, I1, r1, b, rfl, q2⟩ := hz
  exact ⟨b, r1, .bl (!b), H1, I1, rfl, q2⟩
/-- len(o) by the class's __len__ -/
theorem call_lenO {E1 : XK} (M : Meth X.K C "__len__" f) (hf : PySem.W.isFn X.K (.ref f) = true) (F : FnOk X.prog X.w X.K X.mg X.base CX k f fd ps sp) (hr : Room (k + 1) X.A) (hb : Binds X.K fd ps []) (hx : Passes CX X E1) :
    CallR X (.builtin "len") (fun xs H Q => ∃ o dx fs, xs = [.ref o] ∧ H o = some (.ins C dx fs) ∧ sp [.ref o] H (fun v H1 => ∃ n : Nat, v = .int n ∧ n < 2 ^ 62 ∧ Q (.int n) H1) E1) := by
  intro pins s σ H xs us Q I r h
  obtain ⟨o, dx, fs, rfl, eo, qs⟩ := h
  obtain ⟨u, rfl, rx⟩ := vals1 r
  obtain rfl : u = Value.ref o := rx
  obtain ⟨ob, od, J⟩ := inst_at I eo
  obtain ⟨m, fr⟩ := I.fr
  refine PySem.W.len_K fr I.ok.mod.kin J M.at_ hf (wpAny_mono (run_in1 F hr hb (passes_at hx σ) I (Paired.cons (show RelV (V.ref o) (Value.ref o) from rfl) .nil) qs) (fun z s' hz => ?_) fun _ _ z => z)
  obtain ⟨v1, H1, I1, r1, n, rfl, hn, q2⟩ := hz
  obtain ⟨t1, rfl⟩ := r1
  exact ⟨⟨by omega, by omega⟩, .int n, H1, I1.tok _, ⟨_, rfl⟩, q2⟩
/-- a < b, of data -/
def rLtD (K : PySem.W.Frag) : R2 := fun x y H Q => ∃ d e, Dp K H x d ∧ Dp K H y e ∧ PySem.W.alike d e = true ∧ d ≠ .none ∧ min d.depth e.depth ≤ 64 ∧ Q (.bl (PySem.W.dataLt d e)) H
theorem op_ltD (hu : X.A.units + 64 < cLine) : OpR X (compareOp .Lt) (rLtD X.K) := by
  intro pins s σ H x y v u Q I rx ry q
  obtain ⟨d, e, hd, he, ha, hn, hm, q⟩ := q
  obtain ⟨as, r1⟩ := Dp.reads I d x v hd rx
  obtain ⟨bs, r2⟩ := Dp.reads I e y u he ry
  exact PySem.W.lt_data r1 r2 ha hn (by omega) ⟨.bl _, H, I, rfl, q⟩
end
end Vo

set_option Elab.async false
set_option linter.all false
set_option maxRecDepth 100000
set_option maxHeartbeats 2000000
/-! Sequences that go round: the least of all turns tells them apart. -/
namespace Vr
open PySem PySem.Spec PyProof.Rows L2 Vl Vp
def dtx (a : List (List Nat)) : List PyData := a.map fun l => PyData.str (tx l)
def wd (a : List (List Nat)) : PyData := .tuple (dtx a)
def ltW (a b : List (List Nat)) : Bool := PySem.W.dataLt (wd a) (wd b)
theorem key_inj : ∀ {a b : List (List Nat)}, PySem.W.keyToksAll (dtx a) = PySem.W.keyToksAll (dtx b) → a = b
  | [], [], _ => rfl
  | [], x :: r, h => by
    unfold dtx at h
    simp only [List.map_nil, List.map_cons, PySem.W.keyToksAll] at h
    cases List.cons.inj h |>.1
  | x :: r, [], h => by
    unfold dtx at h
    simp only [List.map_nil, List.map_cons, PySem.W.keyToksAll] at h
    cases List.cons.inj h |>.1
  | x :: r, y :: t, h => by
    unfold dtx at h
    simp only [List.map_cons, PySem.W.keyToksAll, PySem.W.keyToks, List.cons_append, List.nil_append] at h
    obtain ⟨_, h⟩ := List.cons.inj h
    obtain ⟨h1, h2⟩ := List.cons.inj h
    have e1 : x = y := Sum.inr.inj h1
    have e2 : r = t := key_inj h2
    rw [e1, e2]
theorem lt_irr (a : List (List Nat)) : ltW a a = false := PyProof.Rows.lex_irrefl (O := itemOrd) _
theorem lt_trans {a b c : List (List Nat)} (h1 : ltW a b = true) (h2 : ltW b c = true) : ltW a c = true := PyProof.Rows.lex_trans (O := itemOrd) _ _ _ h1 h2
theorem lt_total {a b : List (List Nat)} (h1 : ltW a b = false) (h2 : ltW b a = false) : a = b := by
  have := PyProof.Rows.lex_total (O := itemOrd) _ _ h1 h2
  unfold wd at this
  rw [PySem.W.keyToks, PySem.W.keyToks] at this
  exact key_inj this
theorem le_trans {a b c : List (List Nat)} (h1 : ltW b a = false) (h2 : ltW c b = false) : ltW c a = false := by
  cases e : ltW c a with
  | false => rfl
  | true =>
    rcases PyProof.Rows.lex_negTrans (O := itemOrd) (PySem.W.keyToks (wd c)) (PySem.W.keyToks (wd b)) (PySem.W.keyToks (wd a)) e with h | h
    · exact absurd h2 (by rw [show ltW c b = true from h]; decide)
    · exact absurd h1 (by rw [show ltW b a = true from h]; decide)
/-- begun elsewhere -/
def rot {α : Type} (a : List α) (k : Nat) : List α := a.drop k ++ a.take k
theorem rot_zero {α : Type} (a : List α) : rot a 0 = a := by
  unfold rot
  rw [List.take_zero, List.append_nil, List.drop_zero]
theorem rot_len {α : Type} (a : List α) (k : Nat) : (rot a k).length = a.length := by
  unfold rot
  rw [List.length_append, List.length_drop, List.length_take]
  omega
theorem rot_at {α : Type} {a : List α} {k i : Nat} (hk : k ≤ a.length) (hi : i < a.length) : (rot a k)[i]? = a[(i + k) % a.length]? := by
  unfold rot
  by_cases h : i < a.length - k
  · rw [List.getElem?_append_left (by rw [List.length_drop]; exact h), List.getElem?_drop, Nat.mod_eq_of_lt (by omega), Nat.add_comm]
  · rw [List.getElem?_append_right (by rw [List.length_drop]; omega), List.length_drop, List.getElem?_take_of_lt (by omega), Nat.mod_eq_sub_mod (by omega), Nat.mod_eq_of_lt (by omega)]
    congr 1
    omega
theorem rot_rot {α : Type} {a : List α} {k j : Nat} (hk : k < a.length) (hj : j < a.length) : rot (rot a k) j = rot a ((k + j) % a.length) := by
  refine List.ext_getElem? fun i => ?_
  have hn : (k + j) % a.length < a.length := Nat.mod_lt _ (by omega)
  by_cases hi : i < a.length
  · rw [rot_at (by rw [rot_len]; omega) (by rw [rot_len]; exact hi), rot_len, rot_at (by omega) (Nat.mod_lt _ (by omega)), rot_at (by omega) hi, Nat.mod_add_mod, Nat.add_mod_mod]
    congr 2
    omega
  · rw [List.getElem?_eq_none (by rw [rot_len, rot_len]; omega), List.getElem?_eq_none (by rw [rot_len]; omega)]
theorem rot_back {α : Type} {a : List α} {k : Nat} (hk : k < a.length) : rot (rot a k) ((a.length - k) % a.length) = a := by
  rw [rot_rot hk (Nat.mod_lt _ (by omega)), Nat.add_mod_mod, show k + (a.length - k) = a.length by omega, Nat.mod_self, rot_zero]
/-- the least of the turns 0 .. k -/
def lt1 (a : List (List Nat)) : Nat → List (List Nat)
  | 0 => a
  | k + 1 => if ltW (rot a (k + 1)) (lt1 a k) = true then rot a (k + 1) else lt1 a k
theorem lt1_turn (a : List (List Nat)) : ∀ k, ∃ j, j ≤ k ∧ lt1 a k = rot a j
  | 0 => ⟨0, by omega, (rot_zero a).symm⟩
  | k + 1 => by
    obtain ⟨j, h1, h2⟩ := lt1_turn a k
    unfold lt1
    by_cases h : ltW (rot a (k + 1)) (lt1 a k) = true
    · rw [if_pos h]
      exact ⟨k + 1, by omega, rfl⟩
    · rw [if_neg h]
      exact ⟨j, by omega, h2⟩
theorem lt1_least (a : List (List Nat)) : ∀ k j, j ≤ k → ltW (rot a j) (lt1 a k) = false
  | 0, j, h => by
    obtain rfl : j = 0 := by omega
    rw [rot_zero]
    exact lt_irr a
  | k + 1, j, h => by
    unfold lt1
    by_cases g : ltW (rot a (k + 1)) (lt1 a k) = true
    · rw [if_pos g]
      by_cases e : j = k + 1
      · rw [e]
        exact lt_irr _
      · refine le_trans (b := lt1 a k) ?_ (lt1_least a k j (by omega))
        cases z : ltW (lt1 a k) (rot a (k + 1)) with
        | false => rfl
        | true =>
          have := lt_trans z g
          rw [lt_irr] at this
          cases this
    · rw [if_neg g]
      by_cases e : j = k + 1
      · rw [e]
        exact Bool.eq_false_iff.mpr g
      · exact lt1_least a k j (by omega)
def least (a : List (List Nat)) : List (List Nat) := lt1 a (a.length - 1)
theorem lt1_len (a : List (List Nat)) (k : Nat) : (lt1 a k).length = a.length := by
  obtain ⟨j, _, h⟩ := lt1_turn a k
  rw [h, rot_len]
theorem least_len (a : List (List Nat)) : (least a).length = a.length := lt1_len _ _
def Turn (a b : List (List Nat)) : Prop := ∃ k, k < a.length ∧ rot a k = b
theorem Turn.sub {a b : List (List Nat)} (h : Turn a b) : ltW (least b) (least a) = false := by
  obtain ⟨k, hk, rfl⟩ := h
  obtain ⟨j, hj, e⟩ := lt1_turn (rot a k) ((rot a k).length - 1)
  rw [rot_len] at hj
  have e2 : least (rot a k) = rot a ((k + j) % a.length) := e.trans (rot_rot hk (by omega))
  rw [e2]
  have := Nat.mod_lt (k + j) (show 0 < a.length by omega)
  exact lt1_least a _ _ (by omega)
theorem Turn.symm {a b : List (List Nat)} (h : Turn a b) : Turn b a := by
  obtain ⟨k, hk, rfl⟩ := h
  exact ⟨(a.length - k) % a.length, by rw [rot_len]; exact Nat.mod_lt _ (by omega), rot_back hk⟩
theorem least_iff {a b : List (List Nat)} (ha : 1 ≤ a.length) (hb : 1 ≤ b.length) : least a = least b ↔ Turn a b := by
  constructor
  · intro h
    obtain ⟨i, hi, e1⟩ := lt1_turn a (a.length - 1)
    obtain ⟨j, hj, e2⟩ := lt1_turn b (b.length - 1)
    have e : rot a i = rot b j := e1.symm.trans (h.trans e2)
    have hl : a.length = b.length := by
      have := congrArg List.length e
      rw [rot_len, rot_len] at this
      exact this
    have hb2 := rot_back (a := b) (k := j) (by omega)
    rw [← e, rot_rot (a := a) (by omega) (by rw [hl]; exact Nat.mod_lt _ (by omega))] at hb2
    exact ⟨_, Nat.mod_lt _ (by omega), hb2⟩
  · intro h
    exact lt_total h.symm.sub h.sub
/-- compared as data -/
theorem alike_dtx : ∀ a b : List (List Nat), PySem.W.alikeAll (dtx a) (dtx b) = true
  | [], _ => by
    unfold dtx
    rw [List.map_nil, PySem.W.alikeAll]
  | x :: r, [] => by
    unfold dtx
    rw [List.map_nil, List.map_cons, PySem.W.alikeAll]
  | x :: r, y :: t => by
    have := alike_dtx r t
    unfold dtx at *
    rw [List.map_cons, List.map_cons, PySem.W.alikeAll, this, PySem.W.alike]
    rfl
theorem alike_wd (a b : List (List Nat)) : PySem.W.alike (wd a) (wd b) = true := by
  unfold wd
  rw [PySem.W.alike]
  exact alike_dtx a b
theorem dep_dtx : ∀ a : List (List Nat), PyData.depthAll (dtx a) = 0
  | [] => rfl
  | x :: r => by
    show max 0 (PyData.depthAll (dtx r)) = 0
    rw [dep_dtx r]
    rfl
theorem dep_wd (a : List (List Nat)) : (wd a).depth ≤ 1 := by
  show PyData.depthAll (dtx a) + 1 ≤ 1
  rw [dep_dtx]
  omega
theorem dpa_vtx {K : PySem.W.Frag} {H : Hp} : ∀ a : List (List Nat), DpAll K H (vtx a) (dtx a)
  | [] => .nil
  | x :: r => .cons (.str _) (dpa_vtx r)
theorem dp_wd {K : PySem.W.Frag} {H : Hp} {p : Addr} {a : List (List Nat)} (h : SqT K H p (vtx a)) : Dp K H (.ref p) (wd a) := .tup h (dpa_vtx a)
theorem vtx_inj {a b : List (List Nat)} (h : vtx a = vtx b) : a = b := by
  have : ∀ x y : List Nat, V.str (tx x) = V.str (tx y) → x = y := fun x y e => tx_inj (V.str.inj e)
  exact List.map_inj_right this |>.mp h
theorem vtx_rot (a : List (List Nat)) (k : Nat) : vtx (rot a k) = (vtx a).drop k ++ (vtx a).take k := by
  unfold rot
  rw [vtx_app, vtx_drop, vtx_take]
theorem vtx_rev (a : List (List Nat)) : (vtx a).reverse = vtx a.reverse := List.map_reverse.symm
end Vr

set_option Elab.async false
set_option linter.all false
set_option maxRecDepth 100000
set_option maxHeartbeats 2000000
/-! Tuples that come out, new or old. -/
namespace Vt
open PySem PySem.Spec PyProof.Rows L2 Vl Evl Vp Vr
section
variable {K : PySem.W.Frag} {te ta tb : TE} {tl th : TO} {σ : L2.St} {H : Hp} {xs ys : List V} {p : Addr} {lo hi : Option Int}
def EvT (K : PySem.W.Frag) (te : TE) (σ : L2.St) (H : Hp) (xs : List V) : Prop := ∀ H1, Ex H H1 → ∀ Q : VK, (∀ p H2, Ex H1 H2 → SqT K H2 p xs → Q (.ref p) H2) → te σ H1 Q
theorem sqt_new {q : Addr} : SqT K (upd H q (.tup xs)) q xs := .inl (.inl upd_same)
theorem et_ref (h : Ev te σ H (.ref p)) (hx : SqT K H p xs) : EvT K te σ H xs := fun H1 e Q q => h H1 e Q fun H2 e2 => q p H2 e2 (ex_t (e.trans e2) hx)
theorem et_cut (h : EvT K te σ H xs) (h1 : EvO tl σ H lo) (h2 : EvO th σ H hi) : EvT K (tSl (rSlA K) te tl th) σ H (cutV xs lo hi) := by
  intro H1 e Q q
  refine h H1 e _ fun p H2 e2 hp => h1 H2 (e.trans e2) _ fun H3 e3 => h2 H3 ((e.trans e2).trans e3) _ fun H4 e4 => ?_
  refine ⟨p, xs, rfl, ex_t (e3.trans e4) hp, fun hw => ?_, fun _ p2 n2 => q p2 _ (((e2.trans e3).trans e4).trans (Ex.new n2)) sqt_new⟩
  have ec : cutV xs lo hi = xs := by
    unfold cutV
    rw [hw.1, hw.2, List.drop_zero, Nat.sub_zero, List.take_length]
  refine q p H4 ((e2.trans e3).trans e4) ?_
  rw [ec]
  exact ex_t (e3.trans e4) hp
theorem et_cat (h : EvT K ta σ H xs) (h2 : EvT K tb σ H ys) (hl : xs.length + ys.length ≤ 100000) : EvT K (tOp (rCatA K) ta tb) σ H (xs ++ ys) := by
  intro H1 e Q q
  refine h H1 e _ fun p H2 e2 hp => h2 H2 (e.trans e2) _ fun p2 H3 e3 hp2 => ?_
  refine ⟨p, p2, xs, ys, rfl, rfl, ex_t e3 hp, hp2, sz_of hl, fun hx => ?_, fun _ hy => ?_, fun _ _ p4 n4 => q p4 _ ((e2.trans e3).trans (Ex.new n4)) sqt_new⟩
  · refine q p2 H3 (e2.trans e3) ?_
    rw [hx]
    exact hp2
  · refine q p H3 (e2.trans e3) ?_
    rw [hy, List.append_nil]
    exact ex_t e3 hp
/-- a[k:] + a[:k] -/
theorem et_rot {a : List (List Nat)} {k : Nat} {t1 t2 : TE} {u1 u2 : TE} (h1 : EvT K t1 σ H (vtx a)) (h2 : EvT K t2 σ H (vtx a)) (g1 : Ev u1 σ H (.int (k : Int))) (g2 : Ev u2 σ H (.int (k : Int))) (hl : a.length ≤ 1000) :
    EvT K (tOp (rCatA K) (tSl (rSlA K) t1 (tPart u1) tNoPart) (tSl (rSlA K) t2 tNoPart (tPart u2))) σ H (vtx (rot a k)) := by
  have := et_cat (et_cut h1 (eo_some g1) eo_none) (et_cut h2 eo_none (eo_some g2)) (by
    have h3 := cutV_length (vtx a) (some (k : Int)) none
    have h4 := cutV_length (vtx a) none (some (k : Int))
    rw [vtx_len] at h3 h4
    omega)
  rw [cutV1, cutV0, ← vtx_rot] at this
  exact this
end
end Vt

set_option Elab.async false
set_option linter.all false
set_option maxRecDepth 100000
set_option maxHeartbeats 2000000
/-! t[::-1] of a tuple. -/
namespace Vt
open PySem PySem.Spec PyProof.Rows L2 HT PySem.SeqAt PySem.MeetsSeq PySem.MeetsSeq2 PySem.MeetsSeq3
theorem rev_adjust (n : Nat) : Builtin.Slice.sliceAdjust none none (-1) (n : Int) = ((n : Int) - 1, -1) := rfl
theorem rev_places (n : Nat) : Builtin.Slice.slicePlaces ((n : Int) - 1) (-1) (-1) = n := by
  unfold Builtin.Slice.slicePlaces
  rw [if_neg (by omega)]
  by_cases h : (n : Int) - 1 > -1
  · rw [if_pos h, show -(-1 : Int) = 1 by omega, Int.ediv_one]
    omega
  · rw [if_neg h]
    omega
theorem fm_map {α β : Type} {f : α → Option β} {g : α → β} : ∀ l : List α, (∀ m ∈ l, f m = some (g m)) → l.filterMap f = l.map g
  | [], _ => rfl
  | x :: r, h => by
    rw [List.filterMap_cons_some (h x List.mem_cons_self), fm_map r fun m hm => h m (List.mem_cons_of_mem _ hm), List.map_cons]
theorem rev_pick (xs : Array Value) : ((List.range xs.size).filterMap fun (m : Nat) => xs[(((xs.size : Int) - 1) + (m : Int) * (-1)).toNat]?).toArray = xs.toList.reverse.toArray := by
  congr 1
  have e : ((List.range xs.size).filterMap fun (m : Nat) => xs[(((xs.size : Int) - 1) + (m : Int) * (-1)).toNat]?).map some = (xs.toList.reverse).map some := by
    refine List.ext_getElem? fun i => ?_
    have hf : ((List.range xs.size).filterMap fun (m : Nat) => xs[(((xs.size : Int) - 1) + (m : Int) * (-1)).toNat]?) = (List.range xs.size).map fun m => xs.toList.reverse.getD m .none := by
      refine fm_map _ fun m hm => ?_
      have hm := List.mem_range.mp hm
      rw [show (((xs.size : Int) - 1) + (m : Int) * (-1)).toNat = xs.size - 1 - m by omega, ← Array.getElem?_toList]
      rw [List.getD_eq_getElem?_getD, List.getElem?_reverse (by rw [Array.length_toList]; exact hm), Array.length_toList, List.getElem?_eq_getElem (by rw [Array.length_toList]; omega)]
      rfl
    rw [hf]
    by_cases hi : i < xs.size
    · rw [List.getElem?_map, List.getElem?_map, List.getElem?_map, List.getElem?_range hi]
      have hl : i < xs.toList.reverse.length := by rw [List.length_reverse, Array.length_toList]; exact hi
      rw [List.getElem?_eq_getElem hl]
      show some (some (xs.toList.reverse.getD i .none)) = some (some _)
      rw [List.getD_eq_getElem?_getD, List.getElem?_eq_getElem hl]
      rfl
    · rw [List.getElem?_eq_none (by rw [List.length_map, List.length_map, List.length_range]; omega), List.getElem?_eq_none (by rw [List.length_map, List.length_reverse, Array.length_toList]; omega)]
  exact (List.map_inj_right (fun _ _ h => Option.some.inj h)).mp e
section
variable {prog : Program} {w : World} {A : Around} {E : Value → Shared → Prop} {s : Shared}
theorem getItem_tuple_rev {t sl : Addr} {items : Array Value} {vs : Value} {Q : Value → Shared → Prop} (ht : IsTup s.heap t items) (hs : s.heap.IsSliceOf sl .none .none vs) (ps : IsPart vs (some (-1)))
    (h : Q (.ref s.heap.objs.size) { s with heap := s.heap.push { cls := .type "tuple", data := .seq items.toList.reverse.toArray } })
    (hsz : items.size ≤ sizeLine) : wpAny (model prog w) A (getItem (.ref t) (.ref sl)) Q E s := by
  have htake : sizeOk (.seq items.toList.reverse.toArray) := by
    show (items.toList.reverse.toArray).size ≤ sizeLine
    rw [List.size_toArray, List.length_reverse, Array.length_toList]
    exact hsz
  obtain ⟨os, hos, hcs, hds⟩ := id hs
  have hTs : s.TypeIs (.ref sl) "slice" := ⟨os, hos, hcs⟩
  unfold getItem
  try with_reducible refine wpAny_holding ?_
  first | refine wpAny_bind (wpAny_pure ?_) | skip
  refine wpAny_bind (wpAny_sequenceKey ht.typeIs (by decide) ?_)
  refine wpAny_bind (wpAny_callSpecial?_slot (name := Str.ofString "__getitem__") ht.typeIs PyProof.Rows.slot_tuple_getitem
    (wpAny_call_entry PyProof.Rows.slot_tuple_getitem ht.typeIs entry_tuple_getitem ?_ (args_tuple_getitem _ _)))
  show wpAny _ _ (Builtin.Tuple.tupleItemsOf (.ref t) >>= _) _ _ s
  refine wpAny_bind (tupleItemsOf_ ht ?_)
  refine wpAny_bind (wpAny_typeOf hTs ?_)
  rw [if_pos (by decide)]
  refine wpAny_bind ?_
  unfold Builtin.Slice.sliceApplied Builtin.Slice.sliceFields
  refine wpAny_bind (wpAny_bind (wpAny_field hos hds (x := .none) rfl (wpAny_bind (wpAny_field hos hds (x := .none) rfl (wpAny_bind (wpAny_field hos hds (x := vs) rfl (wpAny_pure ?_)))))))
  refine wpAny_bind (slicePart_ ps ?_)
  show wpAny _ _ (if ((-1 : Int) == 0) = true then _ else _) _ _ s
  rw [if_neg (by decide)]
  refine wpAny_bind (slicePart_ .none (wpAny_bind (slicePart_ .none (wpAny_bind (wpAny_pure ?_)))))
  show wpAny _ _ (pure (((items.size : Int) - 1), (-1 : Int), Builtin.Slice.slicePlaces ((items.size : Int) - 1) (-1) (-1))) _ _ s
  rw [rev_places]
  refine wpAny_pure ?_
  have hno : ¬ ((((items.size : Int) - 1) == 0 && (-1 : Int) == 1 && items.size == items.size) = true) := by
    intro q
    rw [Bool.and_eq_true, Bool.and_eq_true] at q
    exact absurd q.1.2 (by decide)
  show wpAny _ _ (if (((items.size : Int) - 1) == 0 && (-1 : Int) == 1 && items.size == items.size) = true then _ else _) _ _ s
  rw [if_neg hno, rev_pick]
  first
    | exact wpAny_bind (m := Builtin.Tuple.tupleExact _) (wpAny_newObj_type (wpAny_pure ⟨_, rfl, wpAny_pure h⟩) htake)
    | exact wpAny_bind (m := Builtin.Tuple.tupleExact _) (wpAny_newObj_type (wpAny_bind (wpAny_pure (wpAny_pure ⟨_, rfl, wpAny_pure h⟩))) htake)
end
/-- t[::-1] -/
def tRevT (K : PySem.W.Frag) (te : TE) : TE := fun σ H Q => te σ H fun x H1 => ∃ a xs, x = .ref a ∧ SqT K H1 a xs ∧ ∀ p, H1 p = none → Q (.ref p) (upd H1 p (.tup xs.reverse))
theorem pe_revT {X : Cx} {e : Expr} {te : TE} {k : Nat} {p1 p2 p3 pos : Pos} (he : PE X e te) : PE X (.Subscript e (.Slice none none (some (.UnaryOp .USub (.Constant (.int 1) k p1) p2)) p3) pos) (tRevT X.K te) := by
  refine ⟨fun pins s σ H Q I h => ?_⟩
  refine Subscript_ (thn (he.run pins s σ H _ I h) fun v s1 ⟨x, H1, I1, r1, q1⟩ => ?_)
  obtain ⟨a, xs, ex, hx, q⟩ := q1
  subst ex
  cases r1
  have hst : PO X (some (.UnaryOp .USub (.Constant (.int 1) k p1) p2)) (tPart (tUn (rU fun i => .int (-i)) (tC (.int 1)))) := po_some (pe_un un_neg pe_int)
  refine wpAny_Slice (thn (po_none.run pins s1 σ H1 (fun o H2 => o = none ∧ H2 = H1) I1 ⟨rfl, rfl⟩) fun vl s2 ⟨l, H2, I2, pl, el, e2⟩ => ?_)
  subst el e2
  refine thn (po_none.run pins s2 σ H2 (fun o H3 => o = none ∧ H3 = H2) I2 ⟨rfl, rfl⟩) fun vu s3 ⟨u, H3, I3, pu, eu, e3⟩ => ?_
  subst eu e3
  refine thn (hst.run pins s3 σ H3 (fun o H4 => o = some (-1) ∧ H4 = H3) I3 ⟨1, rfl, -1, rfl, rfl, rfl⟩) fun vs s4 ⟨o, H4, I4, ps, eo, e4⟩ => ?_
  subst eo e4
  cases pl
  cases pu
  have I5 : Inv X pins σ H4 { s4 with heap := s4.heap.push { cls := .type "slice", data := .fields #[.none, .none, vs] } } := I4.kept (t' := s4.toks) fun b ob q => Heap.get?_push_of_some _ q
  obtain ⟨its, r, ht, hz⟩ := I5.tuple hx
  have hlen := r.length
  show wpAny (model X.prog X.w) X.A (subscriptTail e (.Slice none none (some (.UnaryOp .USub (.Constant (.int 1) k p1) p2)) p3) (.ref a) (.ref s4.heap.objs.size)) (EP X pins σ Q) X.xe { s4 with heap := s4.heap.push { cls := .type "slice", data := .fields #[.none, .none, vs] } }
  refine tail_any (ops := [.ref a, .ref s4.heap.objs.size]) (IsTup.typeIs ht) (PyProof.Rows.slot_tuple_getitem.lookup) ?_ (by with_unfolding_all rfl)
  refine getItem_tuple_rev ht (Heap.IsSliceOf.new _ .none .none vs) ps ?_ (by rw [List.size_toArray]; omega)
  refine ⟨.ref _, _, I5.laid (t' := s4.toks) (o := .tup xs.reverse) (fun b ob q => Heap.get?_push_of_some _ q) (Nat.le_refl _) ?_, rfl, q _ (I5.hok.fresh (Nat.le_refl _))⟩
  exact ⟨by rw [List.length_reverse]; exact hz, _, r.reverse, IsTup.new _ _⟩
end Vt

set_option maxRecDepth 100000
namespace K07
open PySem
def top (i : Nat) : Stmt := PySem.Challenge.pw_alsoshown_k07_rounds_turned.main.body.getD i (.Pass ⟨0, 0, 0, 0⟩)
end K07

set_option Elab.async false
set_option linter.all false
set_option maxRecDepth 100000
set_option maxHeartbeats 4000000
namespace K07
open PySem PySem.Spec PyProof.Rows L2 Vl Evl Vp
abbrev sCell : Stmt := top 18
abbrev sPool : Stmt := top 19
abbrev sTake : Stmt := top 20
abbrev FnP (K : PySem.W.Frag) (x : Str) (st : Stmt) (f : Addr) (fd : FuncData) : Prop := FunD K x x (defArgs st) (defBody st) (defScope st) [] [] f fd
section
variable {P : Program} {w : World} {K : PySem.W.Frag} {mg : Str → Option Value} {base : Heap}
theorem scC : FnScope ["_law_script", "_law_k"] ["_law_script", "_law_k"] (defScope sCell) := ⟨rfl, rfl, rfl, by decide +kernel, rfl, by decide +kernel, by decide +kernel⟩
theorem ok_cell {f : Addr} {fd : FuncData} (F : FnP K "_law_cell" sCell f fd) (mL : mg "len" = none) :
    FnOk P w K mg base CX0 1 f fd ["_law_script", "_law_k"] (spCell K) := by
  refine F.ok (CX := CX0) scC (fun vs H Q E h => ?_) (fun cdv A outer s H vs Q E hr h => ?_)
  · obtain ⟨l, ns, j, rfl, _⟩ := h
    rfl
  · refine ⟨_, pss_cons (ps_if (pt_cmpR op_lt (pv 1) (pe_callB call_len (by rfl) mL boot_len (pa_cons (pv 0) pa_nil)) (nomark _))
        (pss_one (ps_ret (pe_ix ix_seq (pv 0) (pv 1) fun _ _ => rfl))) pss_nil)
      (pss_one (ps_ret pe_int)), ?_⟩
    obtain ⟨l, ns, j, rfl, hs, q⟩ := h
    refine ⟨_, rfl, _, rfl, V.ref l, (ns.map V.int).length, rfl, .inl ⟨_, hs, rfl⟩, (j : Nat), ((ns.map V.int).length : Nat), rfl, rfl, _, rfl, ?_⟩
    by_cases hj : j < ns.length
    · rw [decide_eq_true (show ((j : Nat) : Int) < (((ns.map V.int).length : Nat) : Int) by rw [List.length_map]; omega)]
      refine iteT ?_
      exact ⟨_, rfl, _, rfl, .inl ⟨l, _, _, _, rfl, rfl, hs, atI_cell hj, q⟩⟩
    · rw [decide_eq_false (show ¬ ((j : Nat) : Int) < (((ns.map V.int).length : Nat) : Int) by rw [List.length_map]; omega)]
      refine iteF ?_
      rw [cell_out hj] at q
      exact q
theorem scP : FnScope ["_law_cell_here", "_law_folded"] ["_law_cell_here"] (defScope sPool) := ⟨rfl, rfl, rfl, by decide +kernel, rfl, by decide +kernel, by decide +kernel⟩
theorem ok_pool {f : Addr} {fd : FuncData} (F : FnP K "_law_pool" sPool f fd) (mI : mg "int" = none) :
    FnOk P w K mg base CX0 1 f fd ["_law_cell_here"] spPool := by
  refine F.ok (CX := CX0) scP (fun vs H Q E h => ?_) (fun cdv A outer s H vs Q E hr h => ?_)
  · obtain ⟨c, rfl, _⟩ := h
    rfl
  · refine ⟨_, pss_cons (ps_set (i := 1) scP.nd rfl (by first | exact Or.inl rfl | exact Or.inr rfl) (pe_op op_mul pe_int (pv 0)))
      (pss_cut (ps_if (pt_cmpR op_lt (pv 0) pe_int (nomark _)) (pss_one (ps_set (i := 1) scP.nd rfl (by first | exact Or.inl rfl | exact Or.inr rfl) (pe_op op_sub (pe_op op_sub pe_int (pe_op op_mul pe_int (pv 0))) pe_int))) pss_nil)
      (pss_cons (ps_if (pt_cmpR op_ge (pv 1) (pe_op op_pow pe_int pe_int) (nomark _)) (pss_one (ps_ret (pe_lst (pa_cons (pv 1) (pa_cons (pe_op op_mod (pe_callTy call_int1 (by rfl) mI (by decide +kernel) (pa_cons (pv 1) pa_nil)) pe_int) (pa_cons pe_int pa_nil)))))) pss_nil)
      (pss_one (ps_ret (pe_lst (pa_cons pe_int (pa_cons (pe_op op_mod (pe_callTy call_int1 (by rfl) mI (by decide +kernel) (pa_cons (pv 1) pa_nil)) pe_int) (pa_cons pe_int pa_nil)))))))), ?_⟩
    obtain ⟨c, rfl, q⟩ := h
    refine s_asg (v := .int (2 * c)) (ev_op ev_c (ev_var rfl) (rv_I (.inl ⟨by decide, by decide⟩))) fun H1 e1 => ?_
    refine ⟨fun st H2 => Ex H H2 ∧ ∃ g : Int, st = [some (.int c), some (.int g)], ?_, ?_⟩
    · refine s_if (b := decide (c < 0)) (et_test (ev_op (ev_var rfl) ev_c rv_I0)) (fun _ H2 e2 => ?_) (fun _ H2 e2 => ?_)
      · refine s_asg (v := .int (0 - 2 * c - 1)) (ev_op (ev_op ev_c (ev_op ev_c (ev_var rfl) (rv_I (.inl ⟨by decide, by decide⟩))) rv_I0) ev_c rv_I0) fun H3 e3 => ?_
        exact ⟨e1.trans (e2.trans e3), _, rfl⟩
      · exact ⟨e1.trans e2, _, rfl⟩
    rintro _ H2 ⟨e2, g, rfl⟩
    have fin : ∀ (a : Int) (H3 : Hp), Ex H H3 → ∀ p, H3 p = none → Q (.ref p) (upd H3 p (.lst [.int a, .int (g % 1000000007), .int 0])) := fun a H3 e3 p np =>
      q p _ (fresh_back e3 np) (e3.trans (Ex.new np)) ⟨a, _, 0, upd_same, Int.emod_nonneg _ (by decide), Int.emod_lt_of_pos _ (by decide), Int.le_refl 0, Int.le_refl 0⟩
    have ei : Ev (tOp (rI (fun _ j => 0 < j) fun i j => .int (i % j)) (tCB (fun xs H Q => (∃ i, xs = [.int i] ∧ Q (.int i) H) ∨ ∃ k, xs = [.bl k] ∧ Q (.int (if k then 1 else 0)) H) (tCons (tVar 1) tNil)) (tC (.int 1000000007)))
        [some (.int c), some (.int g)] H2 (.int (g % 1000000007)) :=
      ev_op (ev_cb (ea_cons (ev_var rfl) ea_nil) (fun H1 _ Q q => .inl ⟨_, rfl, q H1 (Ex.refl H1)⟩)) ev_c (rv_I (by show (0 : Int) < 1000000007; decide))
    refine s_seq ?_
    refine s_if (b := decide ((10 : Int) ^ (18 : Int).toNat ≤ g)) (et_test (ev_op (ev_var rfl) (ev_op ev_c ev_c (rv_I ⟨by decide, by decide, by decide⟩)) rv_I0)) (fun _ H3 e3 => ?_) (fun _ H3 e3 => ?_)
    · exact ⟨_, rfl, ei.mono e3 H3 (Ex.refl H3) _ fun H4 e4 => ⟨by show 3 ≤ sizeLine; decide, fun p np => fin g H4 (e2.trans (e3.trans e4)) p np⟩⟩
    · exact ei.mono e3 H3 (Ex.refl H3) _ fun H4 e4 => ⟨by show 3 ≤ sizeLine; decide, fun p np => fin 0 H4 (e2.trans (e3.trans e4)) p np⟩
theorem scT : FnScope ["_law_pool_here", "_law_many", "_law_draw", "_law_mixed"] ["_law_pool_here", "_law_many"] (defScope sTake) := ⟨rfl, rfl, rfl, by decide +kernel, rfl, by decide +kernel, by decide +kernel⟩
theorem ok_take {f : Addr} {fd : FuncData} (F : FnP K "_law_take" sTake f fd) (mI : mg "int" = none) :
    FnOk P w K mg base CX0 1 f fd ["_law_pool_here", "_law_many"] spTake := by
  refine F.ok (CX := CX0) scT (fun vs H Q E h => ?_) (fun cdv A outer s H vs Q E hr h => ?_)
  · obtain ⟨p, m, Hk, n, rfl, _⟩ := h
    rfl
  · refine ⟨_, pss_cons (ps_if (pt_cmpR op_gt (pe_ix ix_list (pv 0) pe_int fun _ _ => rfl) pe_int (nomark _))
        (pss_cons (ps_set (i := 2) scT.nd rfl (by first | exact Or.inl rfl | exact Or.inr rfl) (pe_op op_mod (pe_callTy call_int1 (by rfl) mI (by decide +kernel) (pa_cons (pe_ix ix_list (pv 0) pe_int fun _ _ => rfl) pa_nil)) (pv 1)))
        (pss_cons (ps_asg (pe_op op_fdivN (pe_ix ix_list (pv 0) pe_int fun _ _ => rfl) (pv 1)) (pg_sub (pv 0) pe_int set_list))
        (pss_one (ps_ret (pv 2))))) pss_nil)
      (pss_cons (ps_asg (pe_op op_add (pe_ix ix_list (pv 0) pe_int fun _ _ => rfl) pe_int) (pg_sub (pv 0) pe_int set_list))
      (pss_cons (ps_set (i := 3) scT.nd rfl (by first | exact Or.inl rfl | exact Or.inr rfl) (pe_op op_mod (pe_callTy call_int1 (by rfl) mI (by decide +kernel) (pa_cons (pe_op op_pow (pe_op op_add (pe_op op_add (pe_ix ix_list (pv 0) pe_int fun _ _ => rfl) (pe_op op_mul pe_int (pe_ix ix_list (pv 0) pe_int fun _ _ => rfl))) pe_int) pe_int) pa_nil)) pe_int))
      (pss_one (ps_ret (pe_op op_mod (pe_op op_mod (pe_callTy call_int1 (by rfl) mI (by decide +kernel) (pa_cons (pe_op op_mul (pe_op op_add (pv 3) (pe_ix ix_list (pv 0) pe_int fun _ _ => rfl)) pe_int) pa_nil)) pe_int) (pv 1)))))), ?_⟩
    obtain ⟨p, m, Hk, n, rfl, hm, hm2, hp, hn, q⟩ := h
    obtain ⟨a, b, c, ha, hb0, hb1, hc0, hc1⟩ := hp.at_
    have it : ∀ (j : Nat) (x : Int) (us : List V) (H1 : Hp), H1 p = some (.lst us) → us[j]? = some (.int x) → ∀ {t2 t3 : Option V}, Ev (tOp (rIxL K) (tVar 0) (tC (.int (j : Int)))) [some (.ref p), some (.int m), t2, t3] H1 (.int x) := fun j x us H1 h1 h2 t2 t3 =>
      ev_op (ev_var rfl) ev_c (rv_ixL (sq_of h1) (at_of rfl h2))
    have ti : ∀ {te : TE} {st : L2.St} {H1 : Hp} {i : Int}, Ev te st H1 (.int i) → Ev (tCB (fun xs H Q => (∃ i, xs = [.int i] ∧ Q (.int i) H) ∨ ∃ k, xs = [.bl k] ∧ Q (.int (if k then 1 else 0)) H) (tCons te tNil)) st H1 (.int i) :=
      fun h => ev_cb (ea_cons h ea_nil) (fun H1 _ Q q => .inl ⟨_, rfl, q H1 (Ex.refl H1)⟩)
    refine s_seq ?_
    refine s_if (b := decide (0 < a)) (et_test (ev_op (it 0 a _ H ha rfl) ev_c rv_I0)) (fun _ H1 e1 => ?_) (fun _ H1 e1 => ?_)
    · have h1 := e1 _ _ ha
      refine s_seq ?_
      refine s_asg (v := .int (a % m)) (ev_op (ti (it 0 a _ H1 h1 rfl)) (ev_var rfl) (rv_I (show 0 < m by omega))) fun H2 e2 => ?_
      dsimp only
      refine s_seq ?_
      refine s_setL (j := 0) (v := .int (a.fdiv m)) (e2 _ _ h1) (ev_op (it 0 a _ H2 (e2 _ _ h1) rfl) (ev_var rfl) (rv_I ⟨show m ≠ 0 by omega, show m.natAbs < 1073741824 by omega⟩)) (ev_var rfl) ev_c (by show 0 < 3; omega) fun H3 e3 => ?_
      dsimp only
      refine s_ret (v := .int (a % m)) (ev_var rfl) fun H4 e4 => ?_
      refine q _ _ (Int.emod_nonneg _ (by omega)) (Int.emod_lt_of_pos _ (by omega)) ?_
      refine ⟨hp.no, (Ex.mut (hp.ex.trans (e1.trans (e2.trans e3))) hp.no).trans e4, a.fdiv m, b, c, e4 _ _ upd_same, hb0, hb1, hc0, by omega⟩
    · have h1 := e1 _ _ ha
      dsimp only
      refine s_seq ?_
      refine s_setL (j := 2) (v := .int (c + 1)) h1 (ev_op (it 2 c _ H1 h1 rfl) ev_c rv_I0) (ev_var rfl) ev_c (by show 2 < 3; omega) fun H2 e2 => ?_
      have h2 : (upd H2 p (.lst [.int a, .int b, .int (c + 1)])) p = some (.lst [.int a, .int b, .int (c + 1)]) := upd_same
      have x2 : Ex Hk (upd H2 p (.lst [.int a, .int b, .int (c + 1)])) := Ex.mut (hp.ex.trans (e1.trans e2)) hp.no
      show tSeq _ _ _ _ (upd H2 p (.lst [.int a, .int b, .int (c + 1)]))
      generalize upd H2 p (.lst [.int a, .int b, .int (c + 1)]) = H3 at h2 x2
      refine s_seq ?_
      refine s_asg (v := .int ((b + 7919 * (c + 1) + 104729) ^ (5 : Int).toNat % 2147483647)) (ev_op (ti (ev_op (ev_op (ev_op (it 1 b _ H3 h2 rfl) (ev_op ev_c (it 2 (c + 1) _ H3 h2 rfl) (rv_I (.inl ⟨by decide, by decide⟩))) rv_I0) ev_c rv_I0) ev_c (rv_I ⟨by decide, by decide, by show (b + 7919 * (c + 1) + 104729).natAbs < 2 ^ 64; omega⟩))) ev_c (rv_I (by show (0 : Int) < 2147483647; decide))) fun H4 e4 => ?_
      dsimp only
      have hz0 : 0 ≤ (b + 7919 * (c + 1) + 104729) ^ (5 : Int).toNat % 2147483647 := Int.emod_nonneg _ (by decide)
      have hz1 : (b + 7919 * (c + 1) + 104729) ^ (5 : Int).toNat % 2147483647 < 2147483647 := Int.emod_lt_of_pos _ (by decide)
      generalize (b + 7919 * (c + 1) + 104729) ^ (5 : Int).toNat % 2147483647 = z at hz0 hz1
      have h4 := e4 _ _ h2
      refine s_ret (v := .int ((z + (c + 1)) * 40692 % 2147483629 % m)) (ev_op (ev_op (ti (ev_op (ev_op (ev_var rfl) (it 2 (c + 1) _ H4 h4 rfl) rv_I0) ev_c (rv_I (.inr ⟨by decide, by decide⟩)))) ev_c (rv_I (by show (0 : Int) < 2147483629; decide))) (ev_var rfl) (rv_I (show 0 < m by omega))) fun H5 e5 => ?_
      refine q _ _ (Int.emod_nonneg _ (by omega)) (Int.emod_lt_of_pos _ (by omega)) ?_
      exact ⟨hp.no, x2.trans (e4.trans e5), a, b, c + 1, e5 _ _ h4, hb0, hb1, by omega, by omega⟩
end
end K07

set_option Elab.async false
set_option linter.all false
set_option maxRecDepth 100000
set_option maxHeartbeats 4000000
namespace K07
open PySem PySem.Spec PyProof.Rows L2 Vl Evl Vp
abbrev sNames : Stmt := top 21
abbrev nN : List Str := ["_law_pool_here", "_law_many", "_law_letters", "_law_signs", "_law_word_here", "_law_k", "_law_kind", "_law_start", "_law_stem", "_law_place", "_law_told_here", "_law_names_here", "_law_sign"]
section
variable {P : Program} {w : World} {K : PySem.W.Frag} {mg : Str → Option Value} {base : Heap}
theorem scN : FnScope nN ["_law_pool_here", "_law_many"] (defScope sNames) := ⟨rfl, rfl, rfl, by decide +kernel, rfl, by decide +kernel, by decide +kernel⟩
theorem ok_names {f fT : Addr} {fd fdT : FuncData} (F : FnP K "_law_names" sNames f fd) (FT : FnP K "_law_take" sTake fT fdT) (gT : mg "_law_take" = some (.ref fT)) (mI : mg "int" = none) (mL : mg "len" = none) (mR : mg "range" = none) :
    FnOk P w K mg base CX0 2 f fd ["_law_pool_here", "_law_many"] spNames := by
  have GT : FnOk P w K mg base CX0 1 fT fdT ["_law_pool_here", "_law_many"] spTake := ok_take FT mI
  have bT : Binds K fdT ["_law_pool_here", "_law_many"] [] := FT.bindsN fun _ _ _ _ _ _ us hl => match us, hl with | [_, _], _ => rfl
  have kT := FT.kp
  refine F.ok (CX := CX0) scN (fun vs H Q E h => ?_) (fun cdv A outer s H vs Q E hr h => ?_)
  · obtain ⟨p, m, Hk, n, rfl, _⟩ := h
    rfl
  · have hr1 : Room 1 _ := hr
    refine ⟨_, (pss_cons (ps_set (i := 2) scN.nd rfl (by first | exact Or.inl rfl | exact Or.inr rfl) pe_str)
      (pss_cons (ps_set (i := 3) scN.nd rfl (by first | exact Or.inl rfl | exact Or.inr rfl) (pe_op op_add_str (pv 2) pe_str))
      (pss_cons (ps_set (i := 4) scN.nd rfl (by first | exact Or.inl rfl | exact Or.inr rfl) (pe_ix ix_str (pv 2) (pe_call GT hr1 (by rfl) gT kT bT .nil pass0 (pa_cons (pv 0) (pa_cons pe_int pa_nil))) fun _ _ => rfl))
      (pss_cons (ps_for (passes_of rfl) rfl (pi_range1 (by rfl) mR (pa_cons pe_int pa_nil)) (pg_name (i := 5) scN.nd rfl (by first | exact Or.inl rfl | exact Or.inr rfl)) (pss_one (ps_set (i := 4) scN.nd rfl (by first | exact Or.inl rfl | exact Or.inr rfl) (pe_op op_add_str (pv 4) (pe_ix ix_str (pv 3) (pe_call GT hr1 (by rfl) gT kT bT .nil pass0 (pa_cons (pv 0) (pa_cons pe_int pa_nil))) fun _ _ => rfl)))))
      (pss_cons (ps_set (i := 6) scN.nd rfl (by first | exact Or.inl rfl | exact Or.inr rfl) (pe_call GT hr1 (by rfl) gT kT bT .nil pass0 (pa_cons (pv 0) (pa_cons pe_int pa_nil))))
      (pss_cons (ps_set (i := 7) scN.nd rfl (by first | exact Or.inl rfl | exact Or.inr rfl) (pe_call GT hr1 (by rfl) gT kT bT .nil pass0 (pa_cons (pv 0) (pa_cons pe_int pa_nil))))
      (pss_cons (ps_if (pt_cmpR op_eq (pv 6) pe_int (nomark _)) (pss_one (ps_ret (pe_lc (own := [("_law_k", 5)]) (g := gName 5) (tt := tYes) (te := (tSl rSlS (tVar 4) tNoPart (tPart (tOp (rI0 fun i j => .int (i + j)) (tVar 5) (tC (.int 1)))))) rfl scN.nd (pi_range1 (by rfl) mR (pa_cons (pv 1) pa_nil)) (blkOk_by (own := [("_law_k", 5)]) (N := nN) (sc := defScope sNames) (by decide +kernel)) (fun _ _ _ _ _ => (pg_name (i := 5) scN.nd rfl (by first | exact Or.inl rfl | exact Or.inr rfl))) (fun _ _ _ _ _ => pts_nil) (fun _ _ _ _ _ => (pe_slice sl_str (pv 4) po_none (po_some (pe_op op_add (pv 5) pe_int))))))) pss_nil)
      (pss_cons (ps_if (pt_cmpR op_eq (pv 6) pe_int (nomark _)) (pss_one (ps_ret (pe_lc (own := [("_law_k", 5)]) (g := gName 5) (tt := tYes) (te := (tOp rCatS (tOp rIxS (tVar 2) (tOp (rI (fun _ j => 0 < j) fun i j => .int (i % j)) (tOp (rI0 fun i j => .int (i + j)) (tVar 7) (tOp (rI CMul fun i j => .int (i * j)) (tC (.int 3)) (tVar 5))) (tC (.int 26)))) (tSl rSlS (tVar 4) tNoPart (tPart (tCall spTake [] E0 (tCons (tVar 0) (tCons (tC (.int 8)) tNil))))))) rfl scN.nd (pi_range1 (by rfl) mR (pa_cons (pv 1) pa_nil)) (blkOk_by (own := [("_law_k", 5)]) (N := nN) (sc := defScope sNames) (by decide +kernel)) (fun _ _ _ _ _ => (pg_name (i := 5) scN.nd rfl (by first | exact Or.inl rfl | exact Or.inr rfl))) (fun _ _ _ _ _ => pts_nil) (fun _ _ _ _ _ => (pe_op op_add_str (pe_ix ix_str (pv 2) (pe_op op_mod (pe_op op_add (pv 7) (pe_op op_mul pe_int (pv 5))) pe_int) fun _ _ => rfl) (pe_slice sl_str (pv 4) po_none (po_some (pe_call GT hr1 (by rfl) gT kT bT .nil pass0 (pa_cons (pv 0) (pa_cons pe_int pa_nil)))))))))) pss_nil)
      (pss_cons (ps_set (i := 8) scN.nd rfl (by first | exact Or.inl rfl | exact Or.inr rfl) (pe_slice sl_str (pv 4) po_none (po_some (pe_call GT hr1 (by rfl) gT kT bT .nil pass0 (pa_cons (pv 0) (pa_cons pe_int pa_nil))))))
      (pss_cons (ps_set (i := 9) scN.nd rfl (by first | exact Or.inl rfl | exact Or.inr rfl) (pe_call GT hr1 (by rfl) gT kT bT .nil pass0 (pa_cons (pv 0) (pa_cons (pe_op op_add (pe_callB call_len_str (by rfl) mL boot_len (pa_cons (pv 8) pa_nil)) pe_int) pa_nil))))
      (pss_cons (ps_set (i := 10) scN.nd rfl (by first | exact Or.inl rfl | exact Or.inr rfl) (pe_ifExp (pt_cmpR op_eq (pv 9) pe_int (nomark _)) (pv 2) (pv 3)))
      (pss_cons (ps_set (i := 11) scN.nd rfl (by first | exact Or.inl rfl | exact Or.inr rfl) (pe_lst pa_nil))
      (pss_cons (ps_for (passes_of rfl) rfl (pi_range1 (by rfl) mR (pa_cons (pv 1) pa_nil)) (pg_name (i := 5) scN.nd rfl (by first | exact Or.inl rfl | exact Or.inr rfl)) (pss_cons (ps_set (i := 12) scN.nd rfl (by first | exact Or.inl rfl | exact Or.inr rfl) (pe_ix ix_str (pv 10) (pe_op op_mod (pe_op op_add (pv 7) (pe_op op_mul pe_int (pv 5))) (pe_callB call_len_str (by rfl) mL boot_len (pa_cons (pv 10) pa_nil))) fun _ _ => rfl)) (pss_one (ps_expr (pe_bm PySem.F.plainAttrs_list PySem.F.slot_list_append PySem.F.type_list_append mt_append (pv 11) (pa_cons (pe_op op_add_str (pe_op op_add_str (pe_slice sl_str (pv 8) po_none (po_some (pv 9))) (pv 12)) (pe_slice sl_str (pv 8) (po_some (pv 9)) po_none)) pa_nil))))))
      (pss_one (ps_ret (pv 11)))))))))))))))), ?_⟩
    obtain ⟨p, m, Hk, n, rfl, hm, hp0, hn, q⟩ := h
    have hp := hp0.re
    have wk : (Wo H p) p = none := wo_self _ _
    -- letters, signs
    refine s_asg (v := .str (tx letters)) (ev_is ev_c (by rw [str_letters])) fun H1 e1 => ?_
    refine s_asg (v := .str (tx signs)) (ev_is (ev_op (y := .str (tx digits)) (ev_var rfl) (ev_is ev_c (by rw [str_digits])) (rv_cats (by decide))) rfl) fun H2 e2 => ?_
    have hp2 := hp.grow (e1.trans e2)
    -- word
    refine ⟨_, rfl, _, rfl, p, 26, Wo H p, n, rfl, by omega, by omega, hp2, by omega, ?_⟩
    intro r H3 r0 r1 hp3
    obtain ⟨j, rfl⟩ := Int.eq_ofNat_of_zero_le r0
    have hj : j < letters.length := by show j < 26; omega
    refine ⟨tx letters, _, _, rfl, rfl, (by show 26 ≤ sizeLine; decide), text_at (zs := letters) hj, ?_⟩
    dsimp only
    refine s_seq ?_
    refine s_forR1 (n := 7) (ea_cons ev_c ea_nil) (by omega) (fun i st H' => ∃ l t5, st = [some (.ref p), some (.int (m : Int)), some (.str (tx letters)), some (.str (tx signs)), some (.str (tx l)), t5, none, none, none, none, none, none, none] ∧ nam l ∧ l.length = i + 1 ∧ Pl (Wo H p) p (n + 1 + i) H') ?_ ?_ ?_
    · exact fun H4 e4 => ⟨[letters.getD j 0], none, rfl, nam_one (getD_mem hj), rfl, hp3.grow e4⟩
    · rintro i _ H4 hi ⟨l, t5, rfl, hl, hlen, hpl⟩
      refine ⟨_, rfl, _, rfl, _, rfl, p, 36, Wo H p, _, rfl, by omega, by omega, hpl, by omega, ?_⟩
      intro r H5 r0 r1 hp5
      obtain ⟨k, rfl⟩ := Int.eq_ofNat_of_zero_le r0
      have hk : k < signs.length := by show k < 36; omega
      refine ⟨tx signs, _, _, rfl, rfl, (by show 36 ≤ sizeLine; decide), text_at (zs := signs) hk, ?_⟩
      refine ⟨tx l, tx [signs.getD k 0], rfl, rfl, sz_of (by rw [tx_len, tx_len, List.length_singleton]; omega), ?_⟩
      refine ⟨l ++ [signs.getD k 0], some (.int (i : Int)), ?_, nam_snoc hl (getD_mem hk) (by omega), by rw [List.length_append, List.length_singleton, hlen], by rw [show n + 1 + (i + 1) = n + 1 + i + 1 by omega]; exact hp5⟩
      rw [tx_app]
      rfl
    rintro _ H4 ⟨l, t5, rfl, hl, hlen, hp4⟩
    have hlen8 : l.length = 8 := hlen
    -- kind, start
    refine ⟨_, rfl, p, 4, Wo H p, _, rfl, by omega, by omega, hp4, by show n + 1 + 7 ≤ 100000; omega, ?_⟩
    intro kd H5 kd0 kd1 hp5
    refine ⟨_, rfl, p, 36, Wo H p, _, rfl, by omega, by omega, hp5, by show n + 1 + 7 + 1 ≤ 100000; omega, ?_⟩
    intro sr H6 sr0 sr1 hp6
    obtain ⟨s0, rfl⟩ := Int.eq_ofNat_of_zero_le sr0
    dsimp only
    refine s_seq ?_
    refine s_if (b := decide (V.int kd = V.int 0)) (et_test (ev_op (ev_var rfl) ev_c (rv_eq rfl))) (fun _ H7 e7 => ?_) (fun _ H7 e7 => ?_)
    · -- kind 0
      have hp7 := hp6.grow e7
      refine s_retL (xs := vtx ((List.range m).map fun k => l.take (k + 1))) ?_ fun d H8 nd e8 h8 => ?_
      · have key := el_lcR1 (σ := [some (.ref p), some (.int (m : Int)), some (.str (tx letters)), some (.str (tx signs)), some (.str (tx l)), t5, some (.int kd), some (.int (s0 : Int)), none, none, none, none, none]) (H := H7) (t := tYes)
          (te := (tSl rSlS (tVar 4) tNoPart (tPart (tOp (rI0 fun i j => .int (i + j)) (tVar 5) (tC (.int 1)))))) (ta := tCons (tVar 1) tNil) (j := 5) (vs := [5]) (n := (m : Int)) (fun _ => true) (fun k => .str (tx (l.take (k + 1)))) (ea_cons (ev_var rfl) ea_nil) (by omega) (fun _ => rfl)
          (fun j H2 e hj H3 e3 Q q => q H3 (Ex.refl H3)) (fun j H2 e hj _ => ?_)
        · rw [show ((m : Int)).toNat = m from rfl] at key
          have e0 : given m (fun _ => true) (fun k => V.str (tx (l.take (k + 1)))) = vtx ((List.range m).map fun k => l.take (k + 1)) := by
            unfold given vtx
            rw [List.filter_eq_self.mpr (fun _ _ => rfl), List.map_map]
            rfl
          rw [e0] at key
          exact key
        · intro H3 e3 Q q
          refine ⟨_, rfl, _, rfl, _, _, rfl, rfl, _, rfl, tx l, rfl, sz_of (by rw [tx_len]; omega), ?_⟩
          rw [show ((j : Int) + 1) = ((j + 1 : Nat) : Int) by omega, tx_cut0]
          exact q H3 (Ex.refl H3)
      · refine q d _ H8 (fresh_wo hp0 hp7 nd) (hp0.back ((hp7.grow e8).cnt (by omega))) h8 (by rw [List.length_map, List.length_range]) ⟨fun y hy => ?_, nodup_range fun i j hi hj e => ?_⟩
        · obtain ⟨k, _, rfl⟩ := List.mem_map.mp hy
          exact nam_take hl k
        · have := congrArg List.length e
          rw [List.length_take, List.length_take] at this
          omega
    dsimp only
    refine s_seq ?_
    refine s_if (b := decide (V.int kd = V.int 1)) (et_test (ev_op (ev_var rfl) ev_c (rv_eq rfl))) (fun _ H8 e8 => ?_) (fun _ H8 e8 => ?_)
    · -- kind 1
      have hp8 := hp6.grow (e7.trans e8)
      refine ⟨_, rfl, (m : Int), rfl, by omega, by omega, fun Dl hD => lc_range (lo := 0) (n := m) (fun i H' => ∃ ys, H' Dl = some (.lst (vtx ys)) ∧ ys.length = i ∧ (∀ (j : Nat) (y : List Nat), ys[j]? = some y → nam y ∧ y.head? = some (letters.getD ((s0 + 3 * j) % 26) 0)) ∧ Pl (Wo H p) p (n + 10 + i) H')
        ⟨[], upd_same, rfl, (fun j y h => by simp at h), (hp8.new hD).cnt (by show n + 1 + 7 + 1 + 1 ≤ n + 10 + 0; omega)⟩ ?_ ?_⟩
      · rintro i H9 hi ⟨ys, h1, h2, h3, h4⟩
        refine ⟨rfl, ?_⟩
        unfold tYes
        dsimp only
        rw [if_pos rfl]
        have em : Ev (tOp (rI (fun _ j => 0 < j) fun i j => .int (i % j)) (tOp (rI0 fun i j => .int (i + j)) (tVar 7) (tOp (rI CMul fun i j => .int (i * j)) (tC (.int 3)) (tVar 5))) (tC (.int 26))) [some (.ref p), some (.int (m : Int)), some (.str (tx letters)), some (.str (tx signs)), some (.str (tx l)), some (.int (0 + (i : Int))), some (.int kd), some (.int (s0 : Int)), none, none, none, none, none] H9 (.int (((s0 + 3 * i) % 26 : Nat) : Int)) :=
          ev_is (ev_op (ev_op (ev_var rfl) (ev_op ev_c (ev_var rfl) (rv_I (.inl ⟨by decide, by decide⟩))) rv_I0) ev_c (rv_I (by show (0 : Int) < 26; decide))) (congrArg V.int (show ((s0 : Int) + 3 * (0 + (i : Int))) % 26 = (((s0 + 3 * i) % 26 : Nat) : Int) by omega))
        have hx : (s0 + 3 * i) % 26 < letters.length := Nat.mod_lt _ (by decide)
        refine ⟨_, rfl, em H9 (Ex.refl H9) _ fun H10 e10 => ?_⟩
        refine ⟨tx letters, _, _, rfl, rfl, (by show 26 ≤ sizeLine; decide), text_at (zs := letters) hx, ?_⟩
        have h10 := h4.grow e10
        have hDp : Dl ≠ p := hp8.ne hD
        refine ⟨_, rfl, _, rfl, p, 8, Wo H10 p, _, rfl, by omega, by omega, h10.re, by omega, ?_⟩
        intro r H11 r0 r1 hp11
        obtain ⟨t, rfl⟩ := Int.eq_ofNat_of_zero_le r0
        refine ⟨_, rfl, tx l, rfl, sz_of (by rw [tx_len]; omega), ?_⟩
        rw [tx_cut0]
        refine ⟨tx [letters.getD ((s0 + 3 * i) % 26) 0], tx (l.take t), rfl, rfl, sz_of (by rw [tx_len, tx_len, List.length_singleton, List.length_take]; omega), ?_⟩
        rw [tx_app]
        have hDl : H11 Dl = some (.lst (vtx ys)) := hp11.ex _ _ (wo_at (e10 _ _ h1) hDp)
        refine ⟨vtx ys, hDl, sz_lt (by rw [vtx_len]; omega), ys ++ [letters.getD ((s0 + 3 * i) % 26) 0 :: l.take t], ?_, by rw [List.length_append, List.length_singleton, h2], ?_, ?_⟩
        · rw [upd_same, vtx_app]
          rfl
        · intro j y hy
          by_cases hj : j < ys.length
          · rw [List.getElem?_append_left hj] at hy
            exact h3 j y hy
          · have hj2 := (List.getElem?_eq_some_iff.mp hy).1
            rw [List.length_append, List.length_singleton] at hj2
            obtain rfl : j = ys.length := by omega
            rw [List.getElem?_append_right (Nat.le_refl _), Nat.sub_self] at hy
            obtain rfl := Option.some.inj hy
            rw [h2]
            exact ⟨nam_cons (getD_mem hx) (fun x hx => nam_signs hl x (List.mem_of_mem_take hx)) (by rw [List.length_take]; omega), rfl⟩
        · have hb : Pl (Wo H p) p (n + 10 + (i + 1)) H11 := (hp11.sub h10.wo h10.no).cnt (by omega)
          refine ⟨hb.no, Ex.mut hb.ex ?_, ?_⟩
          · cases e : (Wo H p) Dl with
            | none => rfl
            | some o =>
              have := hp8.ex _ _ e
              rw [hD] at this
              cases this
          · obtain ⟨a, b, c, k1, k2⟩ := hb.at_
            exact ⟨a, b, c, by rw [upd_ne hDp.symm]; exact k1, k2⟩
      · rintro H9 ⟨ys, h1, h2, h3, h4⟩
        refine q Dl ys H9 (fresh_wo hp0 hp8 hD) (hp0.back (h4.cnt (by omega))) h1 h2 ⟨fun y hy => ?_, nodup_key fun i j y hi hj => ?_⟩
        · obtain ⟨j, hj⟩ := List.getElem?_of_mem hy
          exact (h3 j y hj).1
        · have a1 := (h3 i y hi).2
          have a2 := (h3 j y hj).2
          have li := (List.getElem?_eq_some_iff.mp hi).1
          have lj := (List.getElem?_eq_some_iff.mp hj).1
          rw [a1] at a2
          exact mod3 (by omega) (by omega) (getD_inj nodup_letters (Nat.mod_lt _ (by decide)) (Nat.mod_lt _ (by decide)) (Option.some.inj a2))
    -- kind 2, 3
    have hp8 := hp6.grow (e7.trans e8)
    refine ⟨_, rfl, _, rfl, p, 8, Wo H p, _, rfl, by omega, by omega, hp8, by show n + 1 + 7 + 1 + 1 ≤ 100000; omega, ?_⟩
    intro r H9 r0 r1 hp9
    obtain ⟨t, rfl⟩ := Int.eq_ofNat_of_zero_le r0
    refine ⟨_, rfl, tx l, rfl, sz_of (by rw [tx_len]; omega), ?_⟩
    rw [tx_cut0]
    have hst : (l.take t).length ≤ 7 := by rw [List.length_take]; omega
    -- place
    refine ⟨_, rfl, _, rfl, tx (l.take t), rfl, sz_of (by rw [tx_len]; omega), ((l.take t).length : Int), 1, rfl, rfl, ?_⟩
    refine ⟨p, ((l.take t).length : Int) + 1, Wo H p, _, rfl, by omega, by omega, hp9, by show n + 1 + 7 + 1 + 1 + 1 ≤ 100000; omega, ?_⟩
    intro r H10 r0 r1 hp10
    obtain ⟨g, rfl⟩ := Int.eq_ofNat_of_zero_le r0
    have hg : g ≤ (l.take t).length := by omega
    -- told
    obtain ⟨told, htold, hn2, hts, htl, hlen2⟩ : ∃ told : List Nat, told = (if V.int (g : Int) = V.int 0 then letters else Vp.signs) ∧ told.Nodup ∧ (∀ c ∈ told, c ∈ Vp.signs) ∧ (g = 0 → ∀ c ∈ told, c ∈ letters) ∧ (told.length = 26 ∨ told.length = 36) := by
      by_cases h0 : g = 0
      · refine ⟨letters, by rw [if_pos (by rw [h0]; rfl)], nodup_letters, fun c hc => letters_signs hc, fun _ c hc => hc, .inl rfl⟩
      · refine ⟨Vp.signs, by rw [if_neg (fun z => h0 (by have := V.int.inj z; omega))], nodup_signs, fun c hc => hc, fun z => absurd z h0, .inr rfl⟩
    refine s_asg (v := .str (tx told)) (ev_if (b := decide (V.int (g : Int) = V.int 0)) (et_test (ev_op (ev_var rfl) ev_c (rv_eq rfl))) (fun h => ev_is (ev_var rfl) (by rw [htold, if_pos (of_decide_eq_true h)])) (fun h => ev_is (ev_var rfl) (by rw [htold, if_neg (of_decide_eq_false h)]))) fun H11 e11 => ?_
    -- names = []
    refine ⟨by show 0 ≤ sizeLine; omega, fun d nd => ?_⟩
    have hp11 := hp10.grow e11
    have hdp : d ≠ p := hp11.ne nd
    have wd : (Wo H p) d = none := by
      cases e : (Wo H p) d with
      | none => rfl
      | some o =>
        have := hp11.ex _ _ e
        rw [nd] at this
        cases this
    let f : Nat → List Nat := fun k => (l.take t).take g ++ [told.getD ((s0 + 7 * k) % told.length) 0] ++ (l.take t).drop g
    have hmod : ∀ k, (s0 + 7 * k) % told.length < told.length := fun k => Nat.mod_lt _ (by omega)
    dsimp only
    refine s_seq ?_
    refine s_forR1 (n := (m : Int)) (ea_cons (ev_var rfl) ea_nil) (by omega) (fun i st H' => ∃ t5 t12, st = [some (.ref p), some (.int (m : Int)), some (.str (tx letters)), some (.str (tx signs)), some (.str (tx l)), t5, some (.int kd), some (.int (s0 : Int)), some (.str (tx (l.take t))), some (.int (g : Int)), some (.str (tx told)), some (.ref d), t12] ∧ H' d = some (.lst (vtx ((List.range i).map f))) ∧ Pl (Wo H p) p (n + 20) H') ?_ ?_ ?_
    · exact fun H12 e12 => ⟨t5, none, rfl, e12 _ _ upd_same, ((hp11.new nd).grow e12).cnt (by omega)⟩
    · rintro i _ H12 hi ⟨t5', t12, rfl, hd12, hp12⟩
      refine s_seq ?_
      refine s_asg (v := .str (tx [told.getD ((s0 + 7 * i) % told.length) 0])) (ev_op (ev_var rfl) (y := .int (((s0 + 7 * i) % told.length : Nat) : Int)) (ev_is (ev_op (ev_op (ev_var rfl) (ev_op ev_c (ev_var rfl) (rv_I (.inl ⟨by decide, by decide⟩))) rv_I0) (ev_cb (z := .int (told.length : Int)) (ea_cons (ev_var rfl) ea_nil) (fun H1 _ Q q => ⟨tx told, rfl, sz_of (by rw [tx_len]; omega), q H1 (Ex.refl H1)⟩)) (rv_I (show (0 : Int) < (told.length : Int) by omega))) ?_) ?_) fun H13 e13 => ?_
      · refine congrArg V.int ?_
        rw [Int.natCast_emod, Int.natCast_add, Int.natCast_mul]
        rfl
      · intro H1 _ Q q
        exact ⟨tx told, _, _, rfl, rfl, sz_of (by rw [tx_len]; omega), text_at (zs := told) (hmod i), q H1 (Ex.refl H1)⟩
      dsimp only
      refine s_app (xs := vtx ((List.range i).map f)) (v := .str (tx (f i))) (e13 _ _ hd12) (ev_var rfl) ?_ (by rw [vtx_len, List.length_map, List.length_range]; omega) fun H14 e14 => ?_
      · intro H1 _ Q q
        have c0 := tx_cut0 (l.take t) g
        have c1 := tx_cut1 (l.take t) g
        refine ⟨_, rfl, _, rfl, _, rfl, tx (l.take t), rfl, sz_of (by rw [tx_len]; omega), ?_⟩
        rw [c0]
        refine ⟨_, rfl, tx ((l.take t).take g), tx [told.getD ((s0 + 7 * i) % told.length) 0], rfl, rfl, sz_of (by rw [tx_len, tx_len, List.length_take, List.length_singleton]; omega), ?_⟩
        rw [tx_app]
        refine ⟨_, rfl, _, rfl, _, rfl, tx (l.take t), rfl, sz_of (by rw [tx_len]; omega), ?_⟩
        rw [c1]
        refine ⟨tx ((l.take t).take g ++ [told.getD ((s0 + 7 * i) % told.length) 0]), tx ((l.take t).drop g), rfl, rfl, sz_of (by rw [tx_len, tx_len, List.length_append, List.length_take, List.length_singleton, List.length_drop]; omega), ?_⟩
        rw [tx_app]
        exact q H1 (Ex.refl H1)
      · refine ⟨some (.int (i : Int)), _, rfl, ?_, ?_⟩
        · rw [upd_same, List.range_succ, List.map_append, vtx_app]
          rfl
        · have hb := hp12.grow (e13.trans e14)
          refine ⟨hb.no, Ex.mut hb.ex wd, ?_⟩
          obtain ⟨a, b, c, k1, k2⟩ := hb.at_
          exact ⟨a, b, c, by rw [upd_ne hdp.symm]; exact k1, k2⟩
    rintro _ H12 ⟨t5', t12, rfl, hd12, hp12⟩
    refine ⟨_, rfl, ?_⟩
    refine q d _ H12 (fresh_wo hp0 hp11 nd) (hp0.back (hp12.cnt (by omega))) hd12 (by rw [List.length_map, List.length_range]; rfl) ⟨fun y hy => ?_, nodup_range fun i j hi hj e => ?_⟩
    · obtain ⟨k, _, rfl⟩ := List.mem_map.mp hy
      exact nam_put hl (by omega) hg (fun h0 => htl h0 _ (getD_mem (hmod k))) (hts _ (getD_mem (hmod k)))
    · have a1 := put_at (c := told.getD ((s0 + 7 * i) % told.length) 0) hg
      have a2 := put_at (c := told.getD ((s0 + 7 * j) % told.length) 0) hg
      have e2 : (l.take t).take g ++ [told.getD ((s0 + 7 * i) % told.length) 0] ++ (l.take t).drop g = (l.take t).take g ++ [told.getD ((s0 + 7 * j) % told.length) 0] ++ (l.take t).drop g := e
      rw [e2, a2] at a1
      have hi' : i < m := hi
      have hj' : j < m := hj
      exact mod7 hlen2 (by omega) (by omega) (getD_inj hn2 (hmod i) (hmod j) (Option.some.inj a1).symm)
end
end K07

set_option Elab.async false
set_option linter.all false
set_option maxRecDepth 100000
set_option maxHeartbeats 4000000
namespace K07
open PySem PySem.Spec PyProof.Rows L2 Vl Evl Vp
abbrev sWord : Stmt := top 22
abbrev nW : List Str := ["_law_pool_here", "_law_names_here", "_law_most", "_law_word_here", "_law_k"]
section
variable {P : Program} {w : World} {K : PySem.W.Frag} {mg : Str → Option Value} {base : Heap}
theorem scW : FnScope nW ["_law_pool_here", "_law_names_here", "_law_most"] (defScope sWord) := ⟨rfl, rfl, rfl, by decide +kernel, rfl, by decide +kernel, by decide +kernel⟩
theorem ok_word {f fT : Addr} {fd fdT : FuncData} (F : FnP K "_law_word" sWord f fd) (FT : FnP K "_law_take" sTake fT fdT) (gT : mg "_law_take" = some (.ref fT)) (mI : mg "int" = none) (mL : mg "len" = none) (mR : mg "range" = none) :
    FnOk P w K mg base CX0 2 f fd ["_law_pool_here", "_law_names_here", "_law_most"] spWord := by
  have GT : FnOk P w K mg base CX0 1 fT fdT ["_law_pool_here", "_law_many"] spTake := ok_take FT mI
  have bT : Binds K fdT ["_law_pool_here", "_law_many"] [] := FT.bindsN fun _ _ _ _ _ _ us hl => match us, hl with | [_, _], _ => rfl
  have kT := FT.kp
  refine F.ok (CX := CX0) scW (fun vs H Q E h => ?_) (fun cdv A outer s H vs Q E hr h => ?_)
  · obtain ⟨p, q, xs, m, Hk, n, rfl, _⟩ := h
    rfl
  · have hr1 : Room 1 _ := hr
    refine ⟨_, (pss_cons (ps_setLc (i := 3) (own := [("_law_k", 4)]) (g := gName 4) (tt := tYes) (te := (tOp (rIxL K) (tVar 1) (tCall spTake [] E0 (tCons (tVar 0) (tCons (tCB (fun xs H Q => ∃ x n, xs = [x] ∧ LenV K x H n ∧ Q (.int n) H) (tCons (tVar 1) tNil)) tNil))))) rfl scW.nd rfl rfl (sw_true rfl rfl rfl (by decide +kernel)) (pi_range1 (by rfl) mR (pa_cons (pe_op op_add pe_int (pe_call GT hr1 (by rfl) gT kT bT .nil pass0 (pa_cons (pv 0) (pa_cons (pv 2) pa_nil)))) pa_nil)) (blkOk_by (own := [("_law_k", 4)]) (N := nW) (sc := defScope sWord) (by decide +kernel)) (fun _ _ _ _ _ => pg_name (i := 4) scW.nd rfl (by first | exact Or.inl rfl | exact Or.inr rfl)) (fun _ _ _ _ _ => pts_nil) (fun _ _ _ _ _ => pe_ix ix_list (pv 1) (pe_call GT hr1 (by rfl) gT kT bT .nil pass0 (pa_cons (pv 0) (pa_cons (pe_callB call_len (by rfl) mL boot_len (pa_cons (pv 1) pa_nil)) pa_nil))) fun _ _ => rfl))
      (pss_cons (ps_if (pt_cmpR op_eq (pe_call GT hr1 (by rfl) gT kT bT .nil pass0 (pa_cons (pv 0) (pa_cons pe_int pa_nil))) pe_int (nomark _)) (pss_one (ps_set (i := 3) scW.nd rfl (by first | exact Or.inl rfl | exact Or.inr rfl) (pe_op op_rep (pe_slice sl_list (pv 3) po_none (po_some pe_int)) (pe_op op_add pe_int (pe_call GT hr1 (by rfl) gT kT bT .nil pass0 (pa_cons (pv 0) (pa_cons pe_int pa_nil))))))) pss_nil)
      (pss_one (ps_ret (pv 3))))), ?_⟩
    obtain ⟨p, a, xs, m, Hk, n, rfl, hm1, hm2, hp0, hn, ha, hx1, hx2, q⟩ := h
    have ap : a ≠ p := fun z => by rw [z, hp0.no] at ha; cases ha
    have hp := hp0.re
    have hak : (Wo H p) a = some (.lst (vtx xs)) := wo_at (hp0.ex _ _ ha) ap
    -- the range
    refine ⟨_, rfl, _, rfl, p, (m : Int), Wo H p, n, rfl, by omega, by omega, hp, by omega, ?_⟩
    intro r H1 r0 r1 hp1
    obtain ⟨z, rfl⟩ := Int.eq_ofNat_of_zero_le r0
    have hz : z < m := by omega
    refine ⟨1, _, rfl, rfl, _, rfl, by show -(2 ^ 62 : Int) ≤ 1 + (z : Int); omega, by show 1 + (z : Int) < 2 ^ 62; omega, fun Dl hD => ?_⟩
    have hDp : Dl ≠ p := hp1.ne hD
    have wd : (Wo H p) Dl = none := by
      cases e : (Wo H p) Dl with
      | none => rfl
      | some o =>
        have := hp1.ex _ _ e
        rw [hD] at this
        cases this
    have ez : (1 + (z : Int)).toNat = 1 + z := by omega
    rw [ez]
    refine lc_range (lo := 0) (n := 1 + z) (fun i H' => ∃ ys, H' Dl = some (.lst (vtx ys)) ∧ ys.length = i ∧ (∀ y ∈ ys, y ∈ xs) ∧ Pl (Wo H p) p (n + 1 + i) H') ⟨[], upd_same, rfl, (fun y h => nomatch h), (hp1.new hD).cnt (by omega)⟩ ?_ ?_
    · rintro i H2 hi ⟨ys, h1, h2, h3, h4⟩
      refine ⟨rfl, ?_⟩
      unfold tYes
      dsimp only
      rw [if_pos rfl]
      refine ⟨_, rfl, _, rfl, _, rfl, _, xs.length, rfl, .inl ⟨vtx xs, sq_of (h4.ex _ _ hak), (vtx_len xs).symm⟩, ?_⟩
      refine ⟨p, (xs.length : Int), Wo H2 p, _, rfl, by omega, by omega, h4.re, by omega, ?_⟩
      intro r H3 r0 r1 hp3
      obtain ⟨k, rfl⟩ := Int.eq_ofNat_of_zero_le r0
      have hk : k < xs.length := by omega
      have h34 := hp3.sub h4.wo h4.no
      refine ⟨a, vtx xs, _, _, rfl, rfl, sq_of (h34.ex _ _ hak), at_of rfl (vtx_at (List.getElem?_eq_getElem hk)), ?_⟩
      refine ⟨vtx ys, hp3.ex _ _ (wo_at h1 hDp), sz_lt (by rw [vtx_len]; omega), ys ++ [xs[k]], ?_, by rw [List.length_append, List.length_singleton, h2], ?_, ?_⟩
      · rw [upd_same, vtx_app]
        rfl
      · intro y hy
        rcases List.mem_append.mp hy with hy | hy
        · exact h3 y hy
        · rw [List.mem_singleton.mp hy]
          exact List.getElem_mem hk
      · have hb := h34.cnt (show n + 1 + i + 1 ≤ n + 1 + (i + 1) by omega)
        refine ⟨hb.no, Ex.mut hb.ex wd, ?_⟩
        obtain ⟨a', b, c, k1, k2⟩ := hb.at_
        exact ⟨a', b, c, by rw [upd_ne hDp.symm]; exact k1, k2⟩
    rintro H2 ⟨ys, h1, h2, h3, h4⟩
    -- if take(3) == 0
    have done : ∀ (d : Addr) (ys : List (List Nat)) (H' : Hp), H d = none → Pl (Wo H p) p (n + 50) H' → H' d = some (.lst (vtx ys)) → 1 ≤ ys.length → ys.length ≤ max m 12 → (∀ y ∈ ys, y ∈ xs) → Q (.ref d) H' :=
      fun d ys H' a1 a2 a3 a4 a5 a6 => q d ys H' a1 (hp0.back a2) a3 a4 a5 a6
    have fd : H Dl = none := fresh_wo hp0 hp1 hD
    refine ⟨_, rfl, p, 3, Wo H2 p, _, rfl, by omega, by omega, h4.re, by omega, ?_⟩
    intro r H3 r0 r1 hp3
    have h34 := hp3.sub h4.wo h4.no
    have hd3 : H3 Dl = some (.lst (vtx ys)) := hp3.ex _ _ (wo_at h1 hDp)
    refine ⟨rfl, _, rfl, ?_⟩
    refine ite2 (fun _ => ?_) (fun _ => ?_)
    · -- word[:4] * (1 + take(3))
      refine ⟨_, rfl, 4, rfl, Dl, vtx ys, rfl, sq_of hd3, fun p4 np4 => ?_⟩
      have h4p : Pl (Wo H3 p) p (n + 1 + (1 + z) + 1) (upd H3 p4 (.lst (cutV (vtx ys) none (some 4)))) := (hp3.re).new np4
      have n4 : p4 ≠ p := hp3.ne np4
      refine ⟨_, rfl, p, 3, Wo (upd H3 p4 (.lst (cutV (vtx ys) none (some 4)))) p, _, rfl, by omega, by omega, h4p.re, by omega, ?_⟩
      intro r H5 r0 r1 hp5
      obtain ⟨t, rfl⟩ := Int.eq_ofNat_of_zero_le r0
      refine ⟨1, _, rfl, rfl, ?_⟩
      have h5 : H5 p4 = some (.lst (cutV (vtx ys) none (some 4))) := hp5.ex _ _ (wo_at upd_same n4)
      have e4 : cutV (vtx ys) none (some 4) = vtx (ys.take 4) := by
        rw [← vtx_take]
        exact cutV0 (vtx ys) 4
      rw [e4] at h5
      have l4 : (ys.take 4).length ≤ 4 := by rw [List.length_take]; omega
      have et : (1 + (t : Int)).toNat = 1 + t := by omega
      refine ⟨p4, 1 + (t : Int), vtx (ys.take 4), rfl, rfl, h5, by omega, by omega, ?_, fun p6 np6 => ?_⟩
      · rw [et, vtx_len]
        refine sz_of ?_
        have : (ys.take 4).length * (1 + t) ≤ 4 * (1 + t) := Nat.mul_le_mul_right _ l4
        omega
      · rw [et, vtx_rep]
        have hf : Pl (Wo H p) p (n + 50) H5 := by
          have s1 : Pl (Wo H3 p) p (n + 1 + (1 + z) + 1 + 1) H5 := hp5.sub h4p.wo h4p.no
          have s2 : Pl (Wo H2 p) p (n + 1 + (1 + z) + 1 + 1) H5 := s1.sub hp3.wo hp3.no
          exact (s2.sub h4.wo h4.no).cnt (by omega)
        refine ⟨_, rfl, done p6 _ _ (fresh_wo hp0 hf np6) (hf.new np6) upd_same ?_ ?_ ?_⟩
        · rw [rep_len]
          have : 1 ≤ (ys.take 4).length := by rw [List.length_take]; omega
          have := Nat.mul_le_mul (show 1 ≤ 1 + t by omega) this
          omega
        · rw [rep_len]
          have := Nat.mul_le_mul (show 1 + t ≤ 3 by omega) l4
          omega
        · exact fun y hy => h3 y (List.mem_of_mem_take (rep_mem hy))
    · exact ⟨_, rfl, done Dl ys H3 fd (h34.cnt (by omega)) hd3 (by omega) (by omega) h3⟩
end
end K07

set_option Elab.async false
set_option linter.all false
set_option maxRecDepth 100000
set_option maxHeartbeats 4000000
namespace K07
open PySem PySem.Spec PyProof.Rows L2 Vl Evl Vp Vr
abbrev sIsName : Stmt := top 10
abbrev sIsInt : Stmt := top 11
abbrev sChkN : Stmt := top 12
abbrev sChkS : Stmt := top 13
/-- is_name, of a name -/
def spIsName : Sp := fun vs H Q _ => ∃ l, vs = [.str (tx l)] ∧ nam l ∧ ∀ H', Ex H H' → Q (.bl true) H'
theorem ifT {c A B : Prop} [Decidable c] (h : c) (a : A) : if c then A else B := by
  rw [if_pos h]
  exact a
theorem ifF {c A B : Prop} [Decidable c] (h : ¬ c) (b : B) : if c then A else B := by
  rw [if_neg h]
  exact b
section
variable {P : Program} {w : World} {K : PySem.W.Frag} {mg : Str → Option Value} {base : Heap}
abbrev nIN : List Str := ["value", "sign"]
theorem scIN : FnScope nIN ["value"] (defScope sIsName) := ⟨rfl, rfl, rfl, by decide +kernel, rfl, by decide +kernel, by decide +kernel⟩
theorem ok_isname {f : Addr} {fd : FuncData} (F : FnP K "is_name" sIsName f fd) (mI : mg "isinstance" = none) (mS : mg "str" = none) (mL : mg "len" = none) (mA : mg "all" = none)
    (gL : ∃ t, mg "LETTERS" = some (.str (tx letters) t)) (gD : ∃ t, mg "DIGITS" = some (.str (tx digits) t)) (gO : ∃ t, mg "LONGEST" = some (.int 8 t)) :
    FnOk P w K mg base CX0 1 f fd ["value"] spIsName := by
  obtain ⟨tL, gL⟩ := gL
  obtain ⟨tD, gD⟩ := gD
  obtain ⟨tO, gO⟩ := gO
  refine F.ok (CX := CX0) scIN (fun vs H Q E h => ?_) (fun cdv A outer s H vs Q E hr h => ?_)
  · obtain ⟨l, rfl, _⟩ := h
    rfl
  · refine ⟨_, (pss_cons (ps_if (PW.pt (pw_or (pt_not (pt_val (pe_callB call_isi (by rfl) mI boot_isinstance (pa_cons (pv 0) (pa_cons (pe_bltn (v := V.ty "str") (by rfl) mS boot_str rfl) pa_nil)))))
        (pw_or1 (pt_not (pt_chain op_le op_le pe_int (pe_callB call_len (by rfl) mL boot_len (pa_cons (pv 0) pa_nil)) (pe_glob (v := V.int 8) (by rfl) gO ⟨tO, rfl⟩)))))) (pss_one (ps_ret pe_bl)) pss_nil)
      (pss_one (ps_ret (pe_and (pe_cmpR op_inS (pe_ix ix_str (pv 0) pe_int fun _ _ => rfl) (pe_glob (v := V.str (tx letters)) (by rfl) gL ⟨tL, rfl⟩) rfl)
        (pe_one (pe_callB (cr_all rfl) (by rfl) mA boot_all (pa_cons (pe_lc (own := [("sign", 1)]) (g := gName 1) (tt := tYes) (te := tOp rInS (tVar 1) (tOp rCatS (tC (.str (tx letters))) (tC (.str (tx digits))))) rfl scIN.nd (pi_str (pv 0)) (blkOk_by (own := [("sign", 1)]) (N := nIN) (sc := defScope sIsName) (by decide +kernel)) (fun _ _ _ _ _ => (pg_name (i := 1) scIN.nd rfl (by first | exact Or.inl rfl | exact Or.inr rfl))) (fun _ _ _ _ _ => pts_nil)
          (fun _ _ _ _ _ => pe_cmpR op_inS (pv 1) (pe_op op_add_str (pe_glob (v := V.str (tx letters)) (by rfl) gL ⟨tL, rfl⟩) (pe_glob (v := V.str (tx digits)) (by rfl) gD ⟨tD, rfl⟩)) rfl)) pa_nil))))))), ?_⟩
    obtain ⟨l, rfl, hl, q⟩ := h
    have hll := nam_len hl
    have hs : (tx l).length = l.length := tx_len l
    refine s_seq ?_
    refine ⟨_, rfl, V.str (tx l), V.ty "str", .type "str", .type "str", true, rfl, .ty _, .base (.str _), kit_ty (by decide +kernel), true, rfl, ?_⟩
    refine ite_ff ?_
    refine ⟨_, rfl, _, (tx l).length, rfl, ⟨sz_of (by omega), rfl⟩, 1, _, rfl, rfl, _, rfl, ?_⟩
    refine ifT (decide_eq_true (by omega)) ?_
    refine ⟨_, _, rfl, rfl, _, rfl, ?_⟩
    refine ifF (by rw [decide_eq_true (show ((tx l).length : Int) ≤ 8 by omega)]; decide) ?_
    obtain ⟨c0, r0, rfl, hc, hr0, h7⟩ := id hl
    refine ⟨_, rfl, tx (c0 :: r0), 0, c0, rfl, rfl, sz_of (by omega), text_at (zs := c0 :: r0) (j := 0) (Nat.succ_pos _), _, _, rfl, rfl, _, rfl, ?_⟩
    refine ifT (decide_eq_true (by exact hc)) ?_
    refine ⟨_, rfl, tx (c0 :: r0), rfl, fun Dl hD => ?_⟩
    refine lc_it walk_str (fun i H' => H' = upd H Dl (.lst ((List.replicate i true).map V.bl))) rfl (fun _ _ _ _ => trivial) ?_ ?_
    · rintro i x H2 H3 hi rfl ⟨rfl, c, hcc, rfl⟩
      have hcm : c ∈ c0 :: r0 := by
        rw [← Array.getElem?_toList] at hcc
        exact List.mem_of_getElem? hcc
      refine ⟨rfl, ?_⟩
      unfold tYes
      dsimp only
      rw [if_pos rfl]
      refine ⟨_, rfl, tx letters, tx digits, rfl, rfl, by decide +kernel, c, _, rfl, rfl, (List.replicate i true).map V.bl, upd_same, ?_, ?_⟩
      · refine sz_lt ?_
        rw [List.length_map, List.length_replicate]
        have : (tx (c0 :: r0)).cps.size = (c0 :: r0).length := rfl
        omega
      · rw [tx_app, tx_list, decide_eq_true (show c ∈ letters ++ digits from nam_signs hl c hcm), upd_upd, List.replicate_succ', List.map_append]
        rfl
    · rintro H2 rfl
      refine ⟨Dl, List.replicate _ true, rfl, sq_of upd_same, ?_⟩
      rw [show (List.replicate ((tx (c0 :: r0)).cps.size) true).all id = true from List.all_eq_true.mpr fun b hb => (List.mem_replicate.mp hb).2]
      exact q _ (Ex.new hD)
end
end K07

set_option Elab.async false
set_option linter.all false
set_option maxRecDepth 100000
set_option maxHeartbeats 4000000
namespace K07
open PySem PySem.Spec PyProof.Rows L2 Vl Evl Vp Vr
theorem pi_either {X : Cx} {tg e : Expr} {t u : TI} (h : PI X tg e t) (h2 : PI X tg e u) : PI X tg e (fun σ H R => t σ H R ∨ u σ H R) :=
  ⟨fun pins s σ H R I q => q.elim (h.run pins s σ H R I) (h2.run pins s σ H R I)⟩
/-- a list or a tuple -/
def SqE (K : PySem.W.Frag) (H : Hp) (p : Addr) (xs : List V) : Prop := SqL K H p xs ∨ SqT K H p xs
theorem sqe_mono {K : PySem.W.Frag} {H H' : Hp} {p : Addr} {xs : List V} (e : Ex H H') (h : SqE K H p xs) : SqE K H' p xs := h.imp (ex_l e) (ex_t e)
def spIsInt (K : PySem.W.Frag) : Sp := fun vs H Q _ => ∃ (x : V) (t : String) (b1 b2 : Bool), vs = [x] ∧ TyX K H x (.type t) ∧ kitB t "int" = some b1 ∧ kitB t "bool" = some b2 ∧ Q (.bl (b1 && !b2)) H
def spChkN : Sp := fun vs H Q _ => ∃ l, vs = [.str (tx l)] ∧ nam l ∧ ∀ H', Ex H H' → Q .non H'
def spChkS (K : PySem.W.Frag) : Sp := fun vs H Q _ => ∃ p xs, vs = [.ref p] ∧ SqE K H p (vtx xs) ∧ (∀ l ∈ xs, nam l) ∧ 1 ≤ xs.length ∧ ∀ H', Ex H H' → Q .non H'
section
variable {P : Program} {w : World} {K : PySem.W.Frag} {mg : Str → Option Value} {base : Heap}
theorem scII : FnScope ["value"] ["value"] (defScope sIsInt) := ⟨rfl, rfl, rfl, by decide +kernel, rfl, by decide +kernel, by decide +kernel⟩
theorem ok_isint {f : Addr} {fd : FuncData} (F : FnP K "is_integer" sIsInt f fd) (mI : mg "isinstance" = none) (mN : mg "int" = none) (mB : mg "bool" = none) :
    FnOk P w K mg base CX0 1 f fd ["value"] (spIsInt K) := by
  refine F.ok (CX := CX0) scII (fun vs H Q E h => ?_) (fun cdv A outer s H vs Q E hr h => ?_)
  · obtain ⟨x, t, b1, b2, rfl, _⟩ := h
    rfl
  · refine ⟨_, (pss_one (ps_ret (pe_and (pe_callB call_isi (by rfl) mI boot_isinstance (pa_cons (pv 0) (pa_cons (pe_bltn (v := V.ty "int") (by rfl) mN boot_int rfl) pa_nil)))
      (pe_one (pe_not (pe_callB call_isi (by rfl) mI boot_isinstance (pa_cons (pv 0) (pa_cons (pe_bltn (v := V.ty "bool") (by rfl) mB boot_bool rfl) pa_nil)))))))), ?_⟩
    obtain ⟨x, t, b1, b2, rfl, ht, h1, h2, q⟩ := h
    refine ⟨_, rfl, x, V.ty "int", .type t, .type "int", b1, rfl, .ty _, ht, kit_ty h1, b1, rfl, ?_⟩
    cases b1 with
    | false => exact ifF Bool.false_ne_true q
    | true => exact ifT rfl ⟨_, rfl, x, V.ty "bool", .type t, .type "bool", b2, rfl, .ty _, ht, kit_ty h2, b2, rfl, q⟩
theorem scCN : FnScope ["value"] ["value"] (defScope sChkN) := ⟨rfl, rfl, rfl, by decide +kernel, rfl, by decide +kernel, by decide +kernel⟩
theorem ok_chkn {f fN : Addr} {fd fdN : FuncData} (F : FnP K "check_name" sChkN f fd) (FN : FnP K "is_name" sIsName fN fdN) (gN : mg "is_name" = some (.ref fN))
    (GN : FnOk P w K mg base CX0 1 fN fdN ["value"] spIsName) :
    FnOk P w K mg base CX0 2 f fd ["value"] spChkN := by
  have bN : Binds K fdN ["value"] [] := FN.bindsN fun _ _ _ _ _ _ us hl => match us, hl with | [_], _ => rfl
  have kN := FN.kp
  refine F.ok (CX := CX0) scCN (fun vs H Q E h => ?_) (fun cdv A outer s H vs Q E hr h => ?_)
  · obtain ⟨l, rfl, _⟩ := h
    rfl
  · have hr1 : Room 1 _ := hr
    refine ⟨_, (pss_one (ps_if (pt_not (pt_val (pe_call GN hr1 (by rfl) gN kN bN .nil pass0 (pa_cons (pv 0) pa_nil)))) (pss_one ps_never) pss_nil)), ?_⟩
    obtain ⟨l, rfl, hl, q⟩ := h
    exact ⟨_, rfl, l, rfl, hl, fun H' e => ⟨true, rfl, ifF Bool.false_ne_true (q H' e)⟩⟩
theorem scCS : FnScope ["names", "name"] ["names"] (defScope sChkS) := ⟨rfl, rfl, rfl, by decide +kernel, rfl, by decide +kernel, by decide +kernel⟩
theorem ok_chks {f fN : Addr} {fd fdN : FuncData} (F : FnP K "check_sequence" sChkS f fd) (FN : FnP K "check_name" sChkN fN fdN) (gN : mg "check_name" = some (.ref fN)) (mL : mg "len" = none)
    (GN : FnOk P w K mg base CX0 2 fN fdN ["value"] spChkN) :
    FnOk P w K mg base CX0 3 f fd ["names"] (spChkS K) := by
  have bN : Binds K fdN ["value"] [] := FN.bindsN fun _ _ _ _ _ _ us hl => match us, hl with | [_], _ => rfl
  have kN := FN.kp
  refine F.ok (CX := CX0) scCS (fun vs H Q E h => ?_) (fun cdv A outer s H vs Q E hr h => ?_)
  · obtain ⟨p, xs, rfl, _⟩ := h
    rfl
  · have hr1 : Room 2 _ := hr
    refine ⟨_, (pss_cons (ps_if (pt_cmpR op_eq (pe_callB call_len (by rfl) mL boot_len (pa_cons (pv 0) pa_nil)) pe_int (nomark _)) (pss_one ps_never) pss_nil)
      (pss_one (ps_for (passes_of rfl) rfl (pi_either (pi_list (pv 0)) (pi_tup (pv 0))) (pg_name (i := 1) scCS.nd rfl (by first | exact Or.inl rfl | exact Or.inr rfl))
        (pss_one (ps_expr (pe_call GN hr1 (by rfl) gN kN bN .nil pass0 (pa_cons (pv 1) pa_nil))))))), ?_⟩
    obtain ⟨p, xs, rfl, hp, hn, h1, q⟩ := h
    refine s_seq ?_
    refine ⟨_, rfl, _, xs.length, rfl, hp.imp (fun z => ⟨_, z, (vtx_len xs).symm⟩) (fun z => ⟨_, z, (vtx_len xs).symm⟩), rfl, _, rfl, ?_⟩
    refine ifF (fun z => absurd (V.int.inj (of_decide_eq_true z)) (by omega)) ?_
    have turn : ∀ (i : Nat) (x : V) (σ' : L2.St) (H' : Hp), (vtx xs)[i]? = some x → (∃ t, σ' = [some (.ref p), t] ∧ Ex H H') → ∃ t, σ'.set 1 (some x) = [some (.ref p), t] ∧ ∃ l, x = .str (tx l) ∧ t = some (.str (tx l)) ∧ nam l := by
      rintro i x _ H' hx ⟨t, rfl, e⟩
      unfold vtx at hx
      rw [List.getElem?_map] at hx
      obtain ⟨l, hl, rfl⟩ := Option.map_eq_some_iff.mp hx
      exact ⟨_, rfl, l, rfl, rfl, hn l (List.mem_of_getElem? hl)⟩
    rcases hp with hp | hp
    · refine .inl (s_forL (a := p) (ev_var rfl) hp (fun i st H' => ∃ t, st = [some (.ref p), t] ∧ Ex H H') (fun H1 e => ⟨none, rfl, e⟩) (fun i st H' _ ⟨_, _, e⟩ => ex_l e hp) ?_ (fun st H' ⟨_, _, e⟩ => q H' e))
      rintro i x σ' H' hx ⟨t, rfl, e⟩
      obtain ⟨t2, e2, l, rfl, rfl, hl⟩ := turn i x _ H' hx ⟨t, rfl, e⟩
      exact ⟨_, rfl, l, rfl, hl, fun H2 e3 => ⟨_, rfl, e.trans e3⟩⟩
    · refine .inr (s_forT (a := p) (ev_var rfl) hp (fun i st H' => ∃ t, st = [some (.ref p), t] ∧ Ex H H') (fun H1 e => ⟨none, rfl, e⟩) (fun i st H' _ ⟨_, _, e⟩ => ex_t e hp) ?_ (fun st H' ⟨_, _, e⟩ => q H' e))
      rintro i x σ' H' hx ⟨t, rfl, e⟩
      obtain ⟨t2, e2, l, rfl, rfl, hl⟩ := turn i x _ H' hx ⟨t, rfl, e⟩
      exact ⟨_, rfl, l, rfl, hl, fun H2 e3 => ⟨_, rfl, e.trans e3⟩⟩
end
end K07

set_option Elab.async false
set_option linter.all false
set_option maxRecDepth 100000
set_option maxHeartbeats 4000000
namespace K07
open PySem PySem.Spec PyProof.Rows L2 Vl Evl Vp Vr Vt
abbrev sLeast : Stmt := top 16
def spLeast (K : PySem.W.Frag) : Sp := fun vs H Q _ => ∃ p a, vs = [.ref p] ∧ SqT K H p (vtx a) ∧ 1 ≤ a.length ∧ a.length ≤ 1000 ∧
  ∀ q H', Ex H H' → SqT K H' q (vtx (least a)) → Q (.ref q) H'
section
variable {P : Program} {w : World} {K : PySem.W.Frag} {mg : Str → Option Value} {base : Heap}
abbrev nLT : List Str := ["lanes", "least", "place", "turned"]
theorem scLT : FnScope nLT ["lanes"] (defScope sLeast) := ⟨rfl, rfl, rfl, by decide +kernel, rfl, by decide +kernel, by decide +kernel⟩
theorem ok_least {f : Addr} {fd : FuncData} (F : FnP K "least_turn" sLeast f fd) (mL : mg "len" = none) (mR : mg "range" = none) :
    FnOk P w K mg base CX0 1 f fd ["lanes"] (spLeast K) := by
  refine F.ok (CX := CX0) scLT (fun vs H Q E h => ?_) (fun cdv A outer s H vs Q E hr h => ?_)
  · obtain ⟨p, a, rfl, _⟩ := h
    rfl
  · refine ⟨_, (pss_cons (ps_set (i := 1) scLT.nd rfl (by first | exact Or.inl rfl | exact Or.inr rfl) (pv 0))
      (pss_cons (ps_for (passes_of rfl) rfl (pi_range2 (by rfl) mR (pa_cons pe_int (pa_cons (pe_callB call_len (by rfl) mL boot_len (pa_cons (pv 0) pa_nil)) pa_nil))) (pg_name (i := 2) scLT.nd rfl (by first | exact Or.inl rfl | exact Or.inr rfl))
        (pss_cons (ps_set (i := 3) scLT.nd rfl (by first | exact Or.inl rfl | exact Or.inr rfl) (pe_op op_catA (pe_slice sl_tupA (pv 0) (po_some (pv 2)) po_none) (pe_slice sl_tupA (pv 0) po_none (po_some (pv 2)))))
        (pss_one (ps_if (pt_cmpR (Vo.op_ltD hr.units) (pv 3) (pv 1) (nomark _)) (pss_one (ps_set (i := 1) scLT.nd rfl (by first | exact Or.inl rfl | exact Or.inr rfl) (pv 3))) pss_nil))))
      (pss_one (ps_ret (pv 1))))), ?_⟩
    obtain ⟨p, a, rfl, hp, h1, h2, q⟩ := h
    refine s_seq ?_
    refine s_asg (v := .ref p) (ev_var rfl) fun H1 e1 => ?_
    dsimp only
    refine s_seq ?_
    refine s_forR2 (lo := 1) (n := (a.length : Int)) (ea_cons ev_c (ea_cons (ev_cb (ea_cons (ev_var rfl) ea_nil) (fun H2 e2 Q q => ⟨_, a.length, rfl, .inr ⟨vtx a, ex_t (e1.trans e2) hp, (vtx_len a).symm⟩, q H2 (Ex.refl H2)⟩)) ea_nil)) (by omega)
      (fun i st H' => ∃ q t2 t3, st = [some (.ref p), some (.ref q), t2, t3] ∧ Ex H H' ∧ SqT K H' q (vtx (lt1 a i))) (fun H2 e2 => ⟨p, none, none, rfl, e1.trans e2, ex_t (e1.trans e2) hp⟩) ?_ ?_
    · rintro i _ H2 hi ⟨q0, t2, t3, rfl, e2, hq⟩
      dsimp only
      refine s_seq ?_
      have hk : (1 : Int) + (i : Int) = ((i + 1 : Nat) : Int) := by omega
      rw [hk]
      refine et_rot (a := a) (k := i + 1) (et_ref (ev_var rfl) (ex_t e2 hp)) (et_ref (ev_var rfl) (ex_t e2 hp)) (ev_var rfl) (ev_var rfl) h2 H2 (Ex.refl H2) _ fun q2 H3 e3 hq2 => ?_
      refine ⟨_, rfl, _, rfl, wd (rot a (i + 1)), wd (lt1 a i), dp_wd hq2, dp_wd (ex_t e3 hq), alike_wd _ _, (fun z => nomatch z), ?_, _, rfl, ?_⟩
      · have := dep_wd (rot a (i + 1))
        omega
      · refine ite2 (fun hlt => ?_) (fun hlt => ?_)
        · refine ⟨_, rfl, q2, _, _, rfl, e2.trans e3, ?_⟩
          unfold lt1
          rw [if_pos (show ltW (rot a (i + 1)) (lt1 a i) = true from hlt)]
          exact hq2
        · refine ⟨q0, _, _, rfl, e2.trans e3, ?_⟩
          unfold lt1
          rw [if_neg (show ¬ ltW (rot a (i + 1)) (lt1 a i) = true from hlt)]
          exact ex_t e3 hq
    · rintro _ H2 ⟨q0, t2, t3, rfl, e2, hq⟩
      refine ⟨_, rfl, q q0 H2 e2 ?_⟩
      rw [show ((a.length : Int) - 1).toNat = a.length - 1 by omega] at hq
      exact hq
end
end K07

set_option Elab.async false
set_option linter.all false
set_option maxRecDepth 100000
set_option maxHeartbeats 4000000
namespace K07
open PySem PySem.Spec PyProof.Rows L2 Vl Evl Vp Vr Vt
/-- the i-th member of the class's body -/
def clB : Stmt → List Stmt
  | .ClassDef (body := b) .. => b
  | _ => []
def mem (i : Nat) : Stmt := (clB (top 15)).getD i (.Pass ⟨0, 0, 0, 0⟩)
abbrev FnM (K : PySem.W.Frag) (m q : Str) (st : Stmt) (f : Addr) (fd : FuncData) : Prop := FunD K m q (defArgs st) (defBody st) (defScope st) [] [] f fd
abbrev sIni : Stmt := mem 0
abbrev sLanes : Stmt := mem 1
abbrev sGet : Stmt := mem 6
abbrev sLen : Stmt := mem 7
abbrev sEq : Stmt := mem 10
abbrev sShl : Stmt := mem 12
abbrev sNeg : Stmt := mem 13
/-- a round of the lanes a stands at o -/
def Rnd (K : PySem.W.Frag) (C : Addr) (H : Hp) (o : Addr) (a : List (List Nat)) : Prop := ∃ dx q, H o = some (.ins C dx [("_lanes", .ref q)]) ∧ SqT K H q (vtx a)
theorem Rnd.mono {K : PySem.W.Frag} {C : Addr} {H H' : Hp} {o : Addr} {a : List (List Nat)} (e : Ex H H') (h : Rnd K C H o a) : Rnd K C H' o a := by
  obtain ⟨dx, q, h1, h2⟩ := h
  exact ⟨dx, q, e _ _ h1, ex_t e h2⟩
theorem sqt_upd {K : PySem.W.Frag} {H : Hp} {p x C dx : Addr} {xs : List V} {fs : List (Str × V)} {o : HO} (h : SqT K H p xs) (hx : H x = some (.ins C dx fs)) : SqT K (upd H x o) p xs := by
  rcases h with (h | ⟨ob, h⟩) | h
  · refine .inl (.inl ?_)
    rw [upd_ne (fun z => by rw [z, hx] at h; cases h)]
    exact h
  · refine .inl (.inr ⟨ob, ?_⟩)
    rw [upd_ne (fun z => by rw [z, hx] at h; cases h)]
    exact h
  · exact .inr h
/-- lanes: names, few -/
def Lns (a : List (List Nat)) : Prop := (∀ l ∈ a, nam l) ∧ 1 ≤ a.length ∧ a.length ≤ 1000
def spIniR (K : PySem.W.Frag) (C : Addr) : Sp := fun vs H Q _ => ∃ (x dx p : Addr) (H0 : Hp) (a : List (List Nat)), vs = [.ref x, .ref p] ∧ H = upd (upd H0 dx (.own x)) x (.ins C dx []) ∧ H0 x = none ∧ H0 dx = none ∧ dx ≠ x ∧
  SqE K H0 p (vtx a) ∧ Lns a ∧ ∀ H', Ex H0 H' → Rnd K C H' x a → Q .non H'
/-- Round(p), as an expression's value -/
def spMk (K : PySem.W.Frag) (C : Addr) : Sp := fun vs H Q _ => ∃ p a, vs = [.ref p] ∧ SqE K H p (vtx a) ∧ Lns a ∧ ∀ o H', Ex H H' → H o = none → Rnd K C H' o a → Q (.ref o) H'
section
variable {X : Cx} {C fI : Addr} {k : Nat} {fd : FuncData} {e : Expr} {te : TE} {p pos : Pos}
/-- Round(e) -/
def tMk (K : PySem.W.Frag) (C : Addr) (te : TE) : TE := fun st H Q => te st H fun v H1 => spMk K C [v] H1 Q E0
theorem pe_mkR (M : Mk X.K C fI) (F : FnOk X.prog X.w X.K X.mg X.base CX0 k fI fd ["self", "lanes"] (spIniR X.K C)) (hr : Room (k + 1) X.A) (hg : Gl X "Round") (hm : X.mg "Round" = some (.ref C)) (hb : Binds X.K fd ["self", "lanes"] []) (ha : PE X e te)
    (hs : starEach [e] X.env = (false, eval e X.env) :: starEach [] X.env := by rfl) (hpl : (backTo pos (starEach [] X.env)).any (·.1) = false := by rfl) : PE X (.Call (.Name "Round" p) [e] [] pos) (tMk X.K C te) := by
  refine pe_weak (pe_make (E := E0) M F hr hg hm hb .nil pass0 (pa_cons (pe_mono ha) pa_nil hs) (by decide) hs hpl) ?_
  intro st H Q h
  refine ⟨_, h, fun v H1 q => fun x dx hx hdx hne => ?_⟩
  obtain ⟨p0, a, ev, hp, hl, q⟩ := q
  have ev : v = .ref p0 := (List.cons.inj ev).1
  subst ev
  exact ⟨x, dx, p0, H1, a, rfl, rfl, hx, hdx, hne, hp, hl, fun H' e2 r => ⟨rfl, q x H' e2 hx r⟩⟩
end
section
variable {P : Program} {w : World} {K : PySem.W.Frag} {mg : Str → Option Value} {base : Heap} {C : Addr}
theorem scI : FnScope ["self", "lanes"] ["self", "lanes"] (defScope sIni) := ⟨rfl, rfl, rfl, by decide +kernel, rfl, by decide +kernel, by decide +kernel⟩
theorem ok_ini {f fS : Addr} {fd fdS : FuncData} (F : FnM K "__init__" "Round.__init__" sIni f fd) (c : Cls K C) (n : NoAttr K C "_lanes") (FS : FnP K "check_sequence" sChkS fS fdS) (gS : mg "check_sequence" = some (.ref fS)) (mT : mg "tuple" = none)
    (GS : FnOk P w K mg base CX0 3 fS fdS ["names"] (spChkS K)) :
    FnOk P w K mg base CX0 4 f fd ["self", "lanes"] (spIniR K C) := by
  have bS : Binds K fdS ["names"] [] := FS.bindsN fun _ _ _ _ _ _ us hl => match us, hl with | [_], _ => rfl
  have kS := FS.kp
  refine F.ok (CX := CX0) scI (fun vs H Q E h => ?_) (fun cdv A outer s H vs Q E hr h => ?_)
  · obtain ⟨x, dx, p, H0, a, rfl, _⟩ := h
    rfl
  · have hr1 : Room 3 _ := hr
    refine ⟨_, (pss_cons (ps_expr (pe_call GS hr1 (by rfl) gS kS bS .nil pass0 (pa_cons (pv 1) pa_nil)))
      (pss_one (ps_fld (pv 0) (pe_callTy call_tuple_of (by rfl) mT boot_tuple (pa_cons (pv 1) pa_nil)) (by rfl)))), ?_⟩
    obtain ⟨x, dx, p, H0, a, rfl, rfl, hx, hdx, hne, hp, ⟨ha, h1, h2⟩, q⟩ := h
    have e0 : Ex H0 (upd (upd H0 dx (.own x)) x (.ins C dx [])) := (Ex.new hdx).trans (Ex.new (by rw [upd_ne hne.symm]; exact hx))
    refine s_seq ?_
    refine ⟨_, rfl, p, a, rfl, sqe_mono e0 hp, ha, h1, fun H1 e1 => ?_⟩
    have hx1 : H1 x = some (.ins C dx []) := e1 _ _ upd_same
    have fin : ∀ (l : Addr) (H2 : Hp), Ex H1 H2 → SqT K H2 l (vtx a) → ∃ a C_1 dx fs, V.ref x = V.ref a ∧ H2 a = some (.ins C_1 dx fs) ∧ Cls K C_1 ∧ NoAttr K C_1 "_lanes" ∧ fs.length < 1000 ∧ Q .non (upd H2 a (.ins C_1 dx (putF "_lanes" (.ref l) fs))) := by
      intro l H2 e2 hl
      have hx2 := e2 _ _ hx1
      exact ⟨x, C, dx, [], rfl, hx2, c, n, by show 0 < 1000; omega, q _ (Ex.mut ((e0.trans e1).trans e2) hx) ⟨dx, l, upd_same, sqt_upd hl hx2⟩⟩
    rcases sqe_mono (e0.trans e1) hp with hp1 | hp1
    · exact ⟨_, rfl, p, vtx a, rfl, .inl ⟨hp1, fun l hl => ⟨_, rfl, fin l _ (Ex.new hl) sqt_new⟩⟩⟩
    · exact ⟨_, rfl, p, vtx a, rfl, .inr ⟨hp1, ⟨_, rfl, fin p _ (Ex.refl _) hp1⟩⟩⟩
end
end K07

set_option Elab.async false
set_option linter.all false
set_option maxRecDepth 100000
set_option maxHeartbeats 4000000
namespace K07
open PySem PySem.Spec PyProof.Rows L2 Vl Evl Vp Vr Vt
/-- equal as data: equal -/
theorem eqv_wd (a b : List (List Nat)) : PyData.eqv (wd a) (wd b) = decide (a = b) := by
  by_cases h : a = b
  · rw [decide_eq_true h, h]
    exact PySem.W.eqv_refl_alike _ (alike_wd b b)
  · rw [decide_eq_false h]
    cases e : PyData.eqv (wd a) (wd b) with
    | false => rfl
    | true =>
      have k := (PySem.W.toks_eqv (wd a) (wd b) (alike_wd a b)).1 e
      unfold wd at k
      rw [PySem.W.keyToks, PySem.W.keyToks] at k
      exact absurd (key_inj k) h
theorem lay_dtx : ∀ a : List (List Nat), (∀ l ∈ a, nam l) → PyData.canLayAll0 (dtx a) = true
  | [], _ => rfl
  | x :: r, h => by
    have hr := lay_dtx r fun l hl => h l (List.mem_cons_of_mem _ hl)
    have hx : PyData.canLay0 (PyData.str (tx x)) = true := by
      show PyData.strOk (tx x) = true
      unfold PyData.strOk
      rw [← Array.all_toList, tx_list, List.all_eq_true]
      intro c hc
      have hs : c ∈ Vp.signs := nam_signs (h x List.mem_cons_self) c hc
      have all : ∀ c ∈ Vp.signs, c < 128 := by decide +kernel
      have := all c hs
      refine decide_eq_true ?_
      omega
    show (PyData.canLay0 (PyData.str (tx x)) && PyData.canLayAll0 (dtx r)) = true
    rw [hx, hr]
    rfl
theorem sh_wd {a : List (List Nat)} (h : ∀ l ∈ a, nam l) : SeqAt.shaped (wd a) = true := shaped_of (lay_dtx a h) (by have := dep_wd a; omega)
theorem rot_nam {a : List (List Nat)} {k : Nat} (h : ∀ l ∈ a, nam l) : ∀ l ∈ rot a k, nam l := fun l hl => by
  rcases List.mem_append.mp hl with hl | hl
  · exact h l (List.mem_of_mem_drop hl)
  · exact h l (List.mem_of_mem_take hl)
theorem least_nam {a : List (List Nat)} (h : ∀ l ∈ a, nam l) : ∀ l ∈ least a, nam l := by
  obtain ⟨j, _, e⟩ := lt1_turn a (a.length - 1)
  rw [show least a = rot a j from e]
  exact rot_nam h
def spLen (K : PySem.W.Frag) (C : Addr) : Sp := fun vs H Q _ => ∃ o a, vs = [.ref o] ∧ Rnd K C H o a ∧ Lns a ∧ Q (.int (a.length : Nat)) H
def spEq (K : PySem.W.Frag) (C : Addr) : Sp := fun vs H Q _ => ∃ (o : Addr) (y : V) (a : List (List Nat)), vs = [.ref o, y] ∧ Rnd K C H o a ∧ Lns a ∧
  ((∃ o2 b, y = .ref o2 ∧ Rnd K C H o2 b ∧ Lns b ∧ ∀ H', Ex H H' → Q (.bl (decide (least a = least b))) H') ∨
   (∃ t : String, TyX K H y (.type t) ∧ PySem.W.kitOne K (.type t) (.ref C) = some false ∧ Q (.bl false) H))
def spNeg (K : PySem.W.Frag) (C : Addr) : Sp := fun vs H Q _ => ∃ o a, vs = [.ref o] ∧ Rnd K C H o a ∧ Lns a ∧ ∀ o2 H', Ex H H' → H o2 = none → Rnd K C H' o2 a.reverse → Q (.ref o2) H'
section
variable {P : Program} {w : World} {K : PySem.W.Frag} {mg : Str → Option Value} {base : Heap} {C : Addr}
theorem scG1 : FnScope ["self"] ["self"] (defScope sLanes) := ⟨rfl, rfl, rfl, by decide +kernel, rfl, by decide +kernel, by decide +kernel⟩
theorem ok_lanes {f : Addr} {fd : FuncData} (F : FnM K "lanes" "Round.lanes" sLanes f fd) (c : Cls K C) (n : NoAttr K C "_lanes") :
    FnOk P w K mg base CX0 1 f fd ["self"] (getSp C "_lanes") := by
  refine F.ok (CX := CX0) scG1 (fun vs H Q E h => ?_) (fun cdv A outer s H vs Q E hr h => ?_)
  · obtain ⟨a, dx, fs, v, rfl, _⟩ := h
    rfl
  · refine ⟨_, pss_one (ps_ret (pe_fld (pv 0) rfl)), ?_⟩
    obtain ⟨a, dx, fs, v, rfl, ea, l, q⟩ := h
    exact ⟨.ref a, rfl, a, C, dx, fs, v, rfl, ea, c, n, l, q⟩
theorem scLn : FnScope ["self"] ["self"] (defScope sLen) := ⟨rfl, rfl, rfl, by decide +kernel, rfl, by decide +kernel, by decide +kernel⟩
theorem ok_len {f : Addr} {fd : FuncData} (F : FnM K "__len__" "Round.__len__" sLen f fd) (c : Cls K C) (n : NoAttr K C "_lanes") (mL : mg "len" = none) :
    FnOk P w K mg base CX0 1 f fd ["self"] (spLen K C) := by
  refine F.ok (CX := CX0) scLn (fun vs H Q E h => ?_) (fun cdv A outer s H vs Q E hr h => ?_)
  · obtain ⟨o, a, rfl, _⟩ := h
    rfl
  · refine ⟨_, pss_one (ps_ret (pe_callB call_len (by rfl) mL boot_len (pa_cons (pe_fld (pv 0) rfl) pa_nil))), ?_⟩
    obtain ⟨o, a, rfl, ⟨dx, q0, h1, h2⟩, _, q⟩ := h
    exact ⟨_, rfl, o, C, dx, _, .ref q0, rfl, h1, c, n, rfl, .ref q0, a.length, rfl, .inr ⟨vtx a, h2, (vtx_len a).symm⟩, q⟩
theorem scE : FnScope ["self", "other"] ["self", "other"] (defScope sEq) := ⟨rfl, rfl, rfl, by decide +kernel, rfl, by decide +kernel, by decide +kernel⟩
theorem ok_eq {f fT : Addr} {fd fdT : FuncData} (F : FnM K "__eq__" "Round.__eq__" sEq f fd) (c : C8.InsC K C) (n : NoAttr K C "_lanes") (mI : mg "isinstance" = none) (gR : mg "Round" = some (.ref C))
    (FT : FnP K "least_turn" sLeast fT fdT) (gT : mg "least_turn" = some (.ref fT)) (GT : FnOk P w K mg base CX0 1 fT fdT ["lanes"] (spLeast K)) :
    FnOk P w K mg base CX0 2 f fd ["self", "other"] (spEq K C) := by
  have bT : Binds K fdT ["lanes"] [] := FT.bindsN fun _ _ _ _ _ _ us hl => match us, hl with | [_], _ => rfl
  have kT := FT.kp
  refine F.ok (CX := CX0) scE (fun vs H Q E h => ?_) (fun cdv A outer s H vs Q E hr h => ?_)
  · obtain ⟨o, y, a, rfl, _⟩ := h
    rfl
  · have hr1 : Room 1 _ := hr
    refine ⟨_, pss_one (ps_ret (pe_and (pe_callB call_isi (by rfl) mI boot_isinstance (pa_cons (pv 1) (pa_cons (pe_glob (v := V.ref C) (by rfl) gR rfl) pa_nil)))
      (pe_one (pe_cmpR (op_eqD hr.units) (pe_call GT hr1 (by rfl) gT kT bT .nil pass0 (pa_cons (pe_fld (pv 0) rfl) pa_nil)) (pe_call GT hr1 (by rfl) gT kT bT .nil pass0 (pa_cons (pe_fld (pv 1) rfl) pa_nil)) (nomark _))))), ?_⟩
    obtain ⟨o, y, a, rfl, ⟨dx, q0, h1, h2⟩, ⟨la, l1, l2⟩, h⟩ := h
    rcases h with ⟨o2, b, rfl, ⟨dx2, q2, g1, g2⟩, ⟨lb, m1, m2⟩, q⟩ | ⟨t, ht, hk, q⟩
    · refine ⟨_, rfl, V.ref o2, V.ref C, .ref C, .ref C, true, rfl, .own C, .base (.ins g1 c.cl c.ha c.hn c.htk c.hm), c.me, true, rfl, ?_⟩
      refine ifT rfl ?_
      refine ⟨_, rfl, o, C, dx, _, .ref q0, rfl, h1, c.cl, n, rfl, q0, a, rfl, h2, l1, l2, fun r1 H1 e1 k1 => ?_⟩
      refine ⟨_, rfl, o2, C, dx2, _, .ref q2, rfl, e1 _ _ g1, c.cl, n, rfl, q2, b, rfl, ex_t e1 g2, m1, m2, fun r2 H2 e2 k2 => ?_⟩
      refine ⟨wd (least a), wd (least b), dp_wd (ex_t e2 k1), dp_wd k2, sh_wd (least_nam la), sh_wd (least_nam lb), ?_⟩
      rw [eqv_wd]
      exact q H2 (e1.trans e2)
    · refine ⟨_, rfl, y, V.ref C, .type t, .ref C, false, rfl, .own C, ht, hk, false, rfl, ?_⟩
      exact ifF Bool.false_ne_true q
theorem scNg : FnScope ["self"] ["self"] (defScope sNeg) := ⟨rfl, rfl, rfl, by decide +kernel, rfl, by decide +kernel, by decide +kernel⟩
theorem ok_neg {f fI : Addr} {fd fdI : FuncData} (F : FnM K "__neg__" "Round.__neg__" sNeg f fd) (c : Cls K C) (n : NoAttr K C "_lanes") (gR : mg "Round" = some (.ref C)) (M : Mk K C fI) (bI : Binds K fdI ["self", "lanes"] [])
    (GI : FnOk P w K mg base CX0 4 fI fdI ["self", "lanes"] (spIniR K C)) :
    FnOk P w K mg base CX0 6 f fd ["self"] (spNeg K C) := by
  refine F.ok (CX := CX0) scNg (fun vs H Q E h => ?_) (fun cdv A outer s H vs Q E hr h => ?_)
  · obtain ⟨o, a, rfl, _⟩ := h
    rfl
  · have hr1 : Room 5 _ := hr
    refine ⟨_, pss_one (ps_ret (pe_mkR M GI hr1 (by rfl) gR bI (pe_revT (pe_fld (pv 0) rfl)))), ?_⟩
    obtain ⟨o, a, rfl, ⟨dx, q0, h1, h2⟩, ⟨la, l1, l2⟩, q⟩ := h
    refine ⟨_, rfl, o, C, dx, _, .ref q0, rfl, h1, c, n, rfl, q0, vtx a, rfl, h2, fun p hp => ?_⟩
    refine ⟨p, a.reverse, rfl, .inr ?_, ⟨fun l hl => la l (List.mem_reverse.mp hl), by rw [List.length_reverse]; exact l1, by rw [List.length_reverse]; exact l2⟩, fun o2 H' e ho r => q o2 H' ((Ex.new hp).trans e) ?_ r⟩
    · rw [vtx_rev]
      exact sqt_new
    · cases z : H o2 with
      | none => rfl
      | some u =>
        rw [upd_ne (ne_of_none z hp), z] at ho
        cases ho
end
end K07

set_option Elab.async false
set_option linter.all false
set_option maxRecDepth 100000
set_option maxHeartbeats 4000000
namespace K07
open PySem PySem.Spec PyProof.Rows L2 Vl Evl Vp Vr Vt
/-- no integer, to this program -/
def NoInt (K : PySem.W.Frag) (H : Hp) (y : V) : Prop := ∃ (t : String) (b1 b2 : Bool), TyX K H y (.type t) ∧ kitB t "int" = some b1 ∧ kitB t "bool" = some b2 ∧ (b1 && !b2) = false
/-- the error about y -/
def Raised (CN : Addr) (H : Hp) (y : V) (E : XK) : Prop := ∀ d H', Ex H H' → H' d = some (.xd [("value", y)]) → E (.ref CN) (some d) H'
def spGet (K : PySem.W.Frag) (C CN : Addr) : Sp := fun vs H Q E => ∃ (o : Addr) (y : V) (a : List (List Nat)), vs = [.ref o, y] ∧ Rnd K C H o a ∧ Lns a ∧
  ((∃ (i : Int) (l : List Nat), y = .int i ∧ a[(i % (a.length : Int)).toNat]? = some l ∧ Q (.str (tx l)) H) ∨ (NoInt K H y ∧ Raised CN H y E))
def spShl (K : PySem.W.Frag) (C CN : Addr) : Sp := fun vs H Q E => ∃ (o : Addr) (y : V) (a : List (List Nat)), vs = [.ref o, y] ∧ Rnd K C H o a ∧ Lns a ∧
  ((∃ i : Int, y = .int i ∧ ∀ o2 H', Ex H H' → H o2 = none → Rnd K C H' o2 (rot a (i % (a.length : Int)).toNat) → Q (.ref o2) H') ∨ (NoInt K H y ∧ Raised CN H y E))
section
variable {X : Cx} {CN fI : Addr} {fd : FuncData} {te : TE}
theorem raised_of {st : L2.St} {H : Hp} {y : V} {W : WX} (h : te = tVar 1) (hy : st[1]? = some (some y)) (q : Raised CN H y fun cls d H' => W cls d st H') :
    tMkO CN (spIni CN "value") [] (tCons te tNil) st H (fun cls d H' => W cls d st H') := by
  subst h
  refine ⟨y, hy, ?_⟩
  refine ⟨by show 1 ≤ 1000; omega, fun a na => ?_⟩
  refine ⟨a, y, rfl, upd_same, fun dx n1 n2 => ?_⟩
  have nd : H dx = none := by rw [upd_ne n2] at n1; exact n1
  refine ⟨rfl, dx, [("value", y)], upd_same, ?_, ?_, ?_⟩
  · rw [upd_ne n2, upd_same]
  · exact nd
  · refine q dx _ (fun b o hb => ?_) upd_same
    rw [upd_ne (ne_of_none hb nd), del_ne (ne_of_none hb na), upd_ne (ne_of_none hb na), upd_ne (ne_of_none hb nd), upd_ne (ne_of_none hb na)]
    exact hb
end
theorem mod_nat {i : Int} {n : Nat} (h : 1 ≤ n) : i % (n : Int) = (((i % (n : Int)).toNat : Nat) : Int) ∧ (i % (n : Int)).toNat < n := by
  have h1 := Int.emod_nonneg i (show (n : Int) ≠ 0 by omega)
  have h2 := Int.emod_lt_of_pos i (show (0 : Int) < n by omega)
  omega
section
variable {P : Program} {w : World} {K : PySem.W.Frag} {mg : Str → Option Value} {base : Heap} {C CN : Addr}
theorem scGt : FnScope ["self", "at"] ["self", "at"] (defScope sGet) := ⟨rfl, rfl, rfl, by decide +kernel, rfl, by decide +kernel, by decide +kernel⟩
theorem ok_get {f fI fE : Addr} {fd fdI fdE : FuncData} (F : FnM K "__getitem__" "Round.__getitem__" sGet f fd) (c : Cls K C) (n : NoAttr K C "_lanes") (mL : mg "len" = none)
    (FI : FnP K "is_integer" sIsInt fI fdI) (gI : mg "is_integer" = some (.ref fI)) (GI : FnOk P w K mg base CX0 1 fI fdI ["value"] (spIsInt K))
    (T : OexC K CN) (iC : PySem.W.findIn K (.ref CN) "__init__" = some (some (.ref fE))) (tI : PySem.W.typeIn K (.ref fE) = some (.type "function")) (gN : mg "BadNumber" = some (.ref CN)) (bE : Binds K fdE ["self", "value"] [])
    (GE : FnOk P w K mg base CX0 1 fE fdE ["self", "value"] (spIni CN "value")) :
    FnOk P w K mg base (L2.CX P w) 3 f fd ["self", "at"] (spGet K C CN) := by
  have bI : Binds K fdI ["value"] [] := FI.bindsN fun _ _ _ _ _ _ us hl => match us, hl with | [_], _ => rfl
  have kI := FI.kp
  refine F.ok (CX := L2.CX P w) scGt (fun vs H Q E h => ?_) (fun cdv A outer s H vs Q E hr h => ?_)
  · obtain ⟨o, y, a, rfl, _⟩ := h
    rfl
  · have hr1 : Room 1 _ := hr.mono (by omega)
    have hr2 : Room 2 _ := hr
    refine ⟨_, (pss_cons (ps_if (pt_not (pt_val (pe_call GI hr1 (by rfl) gI kI bI .nil pass0 (pa_cons (pv 1) pa_nil)))) (pss_one (ps_raise rfl (takes_of rfl rfl rfl rfl) (pmk_oex T iC tI GE hr2 bE .nil pass0 (by rfl) gN (pa_cons (pv 1) pa_nil)))) pss_nil)
      (pss_one (ps_ret (pe_ix ix_tup (pe_fld (pv 0) rfl) (pe_op op_mod (pv 1) (pe_callB call_len (by rfl) mL boot_len (pa_cons (pe_fld (pv 0) rfl) pa_nil))) fun _ _ => rfl)))), ?_⟩
    obtain ⟨o, y, a, rfl, ⟨dx, q0, h1, h2⟩, ⟨la, l1, l2⟩, h⟩ := h
    refine s_seq ?_
    rcases h with ⟨i, l, rfl, hl, q⟩ | ⟨⟨t, b1, b2, ht, k1, k2, k3⟩, q⟩
    · refine ⟨_, rfl, _, "int", true, false, rfl, .base (.int i), by decide +kernel, by decide +kernel, true, rfl, ?_⟩
      refine ifF Bool.false_ne_true ?_
      refine ⟨_, rfl, o, C, dx, _, .ref q0, rfl, h1, c, n, rfl, ?_⟩
      refine ⟨_, rfl, _, rfl, o, C, dx, _, .ref q0, rfl, h1, c, n, rfl, .ref q0, a.length, rfl, .inr ⟨vtx a, h2, (vtx_len a).symm⟩, ?_⟩
      obtain ⟨m1, m2⟩ := mod_nat (i := i) l1
      refine ⟨i, (a.length : Int), rfl, rfl, by omega, ?_⟩
      exact ⟨q0, vtx a, _, _, rfl, rfl, h2, by rw [m1]; exact at_of (j := (i % (a.length : Int)).toNat) rfl (vtx_at hl), q⟩
    · refine ⟨_, rfl, y, t, b1, b2, rfl, ht, k1, k2, b1 && !b2, rfl, ?_⟩
      rw [k3]
      refine ifT rfl ?_
      exact raised_of (W := fun cls d _ H' => E cls d H') rfl rfl q
theorem scSl : FnScope ["self", "other", "place"] ["self", "other"] (defScope sShl) := ⟨rfl, rfl, rfl, by decide +kernel, rfl, by decide +kernel, by decide +kernel⟩
theorem ok_shl {f fI fE fR : Addr} {fd fdI fdE fdR : FuncData} (F : FnM K "__lshift__" "Round.__lshift__" sShl f fd) (c : Cls K C) (n : NoAttr K C "_lanes") (mL : mg "len" = none)
    (FI : FnP K "is_integer" sIsInt fI fdI) (gI : mg "is_integer" = some (.ref fI)) (GI : FnOk P w K mg base CX0 1 fI fdI ["value"] (spIsInt K))
    (T : OexC K CN) (iC : PySem.W.findIn K (.ref CN) "__init__" = some (some (.ref fE))) (tI : PySem.W.typeIn K (.ref fE) = some (.type "function")) (gN : mg "BadNumber" = some (.ref CN)) (bE : Binds K fdE ["self", "value"] [])
    (GE : FnOk P w K mg base CX0 1 fE fdE ["self", "value"] (spIni CN "value"))
    (gR : mg "Round" = some (.ref C)) (M : Mk K C fR) (bR : Binds K fdR ["self", "lanes"] []) (GR : FnOk P w K mg base CX0 4 fR fdR ["self", "lanes"] (spIniR K C)) :
    FnOk P w K mg base (L2.CX P w) 6 f fd ["self", "other"] (spShl K C CN) := by
  have bI : Binds K fdI ["value"] [] := FI.bindsN fun _ _ _ _ _ _ us hl => match us, hl with | [_], _ => rfl
  have kI := FI.kp
  refine F.ok (CX := L2.CX P w) scSl (fun vs H Q E h => ?_) (fun cdv A outer s H vs Q E hr h => ?_)
  · obtain ⟨o, y, a, rfl, _⟩ := h
    rfl
  · have hr1 : Room 1 _ := hr.mono (by omega)
    have hr2 : Room 2 _ := hr.mono (by omega)
    have hr5 : Room 5 _ := hr
    refine ⟨_, (pss_cons (ps_if (pt_not (pt_val (pe_call GI hr1 (by rfl) gI kI bI .nil pass0 (pa_cons (pv 1) pa_nil)))) (pss_one (ps_raise rfl (takes_of rfl rfl rfl rfl) (pmk_oex T iC tI GE hr2 bE .nil pass0 (by rfl) gN (pa_cons (pv 1) pa_nil)))) pss_nil)
      (pss_cons (ps_set (i := 2) scSl.nd rfl (by first | exact Or.inl rfl | exact Or.inr rfl) (pe_op op_mod (pv 1) (pe_callB call_len (by rfl) mL boot_len (pa_cons (pe_fld (pv 0) rfl) pa_nil))))
      (pss_one (ps_ret (pe_mkR M GR hr5 (by rfl) gR bR (pe_op op_catA (pe_slice sl_tupA (pe_fld (pv 0) rfl) (po_some (pv 2)) po_none) (pe_slice sl_tupA (pe_fld (pv 0) rfl) po_none (po_some (pv 2))))))))), ?_⟩
    obtain ⟨o, y, a, rfl, ⟨dx, q0, h1, h2⟩, ⟨la, l1, l2⟩, h⟩ := h
    refine s_seq ?_
    rcases h with ⟨i, rfl, q⟩ | ⟨⟨t, b1, b2, ht, k1, k2, k3⟩, q⟩
    · refine ⟨_, rfl, _, "int", true, false, rfl, .base (.int i), by decide +kernel, by decide +kernel, true, rfl, ?_⟩
      refine ifF Bool.false_ne_true ?_
      dsimp only
      refine s_seq ?_
      refine ⟨_, rfl, _, rfl, o, C, dx, _, .ref q0, rfl, h1, c, n, rfl, .ref q0, a.length, rfl, .inr ⟨vtx a, h2, (vtx_len a).symm⟩, ?_⟩
      obtain ⟨m1, m2⟩ := mod_nat (i := i) l1
      refine ⟨i, (a.length : Int), rfl, rfl, by omega, ?_⟩
      generalize hk : (i % (a.length : Int)).toNat = k at m1 m2 q
      show gName 2 (V.int (i % (a.length : Int))) _ _ _
      rw [m1]
      have fl : ∀ {t2 : Option V}, Ev (tFld K (tVar 0) "_lanes") [some (.ref o), t2, some (.int (k : Int))] H (.ref q0) := fun H1 e Q q1 =>
        ⟨_, rfl, o, C, dx, _, .ref q0, rfl, e _ _ h1, c, n, rfl, q1 H1 (Ex.refl H1)⟩
      refine et_rot (a := a) (k := k) (et_ref fl h2) (et_ref fl h2) (ev_var rfl) (ev_var rfl) l2 H (Ex.refl H) _ fun p H2 e2 hp => ?_
      refine ⟨p, rot a k, rfl, .inr hp, ⟨rot_nam la, by rw [rot_len]; exact l1, by rw [rot_len]; exact l2⟩, fun o2 H' e ho r => q o2 H' (e2.trans e) ?_ r⟩
      cases z : H o2 with
      | none => rfl
      | some u =>
        rw [e2 _ _ z] at ho
        cases ho
    · refine ⟨_, rfl, y, t, b1, b2, rfl, ht, k1, k2, b1 && !b2, rfl, ?_⟩
      rw [k3]
      refine ifT rfl ?_
      exact raised_of (W := fun cls d _ H' => E cls d H') rfl rfl q
end
end K07

set_option Elab.async false
set_option linter.all false
set_option maxRecDepth 100000
set_option maxHeartbeats 4000000
namespace K07
open PySem PySem.Spec PyProof.Rows L2 Vl Evl Vp Vr Vt Vo
/-- values of built-in types, with the type's name -/
def Wr (y : V) (H : Hp) (t : String) : Prop := (∃ b, y = .bl b ∧ t = "bool") ∨ (∃ i, y = .int i ∧ t = "int") ∨ (∃ z, y = .str z ∧ t = "str") ∨ (y = .non ∧ t = "NoneType") ∨
  (∃ a xs, y = .ref a ∧ H a = some (.tup xs) ∧ t = "tuple") ∨ (∃ a xs, y = .ref a ∧ H a = some (.lst xs) ∧ t = "list")
theorem Wr.tyx {K : PySem.W.Frag} {y : V} {H : Hp} {t : String} (h : Wr y H t) : TyX K H y (.type t) := by
  rcases h with ⟨b, rfl, rfl⟩ | ⟨b, rfl, rfl⟩ | ⟨b, rfl, rfl⟩ | ⟨rfl, rfl⟩ | ⟨a, xs, rfl, ha, rfl⟩ | ⟨a, xs, rfl, ha, rfl⟩
  · exact .base (.bl b)
  · exact .base (.int b)
  · exact .base (.str b)
  · exact .base .non
  · exact .base (.tup ha)
  · exact .base (.lst ha)
theorem Wr.mem {y : V} {H : Hp} {t : String} (h : Wr y H t) : t ∈ ["bool", "int", "str", "NoneType", "tuple", "list"] := by
  rcases h with ⟨b, rfl, rfl⟩ | ⟨b, rfl, rfl⟩ | ⟨b, rfl, rfl⟩ | ⟨rfl, rfl⟩ | ⟨a, xs, rfl, ha, rfl⟩ | ⟨a, xs, rfl, ha, rfl⟩ <;> decide
theorem looks_ty {M : Model} {s : Shared} {v : Value} {t : String} (h : s.TypeIs v t) : PySem.W.Looks M s.heap (typeOf v) (.type t) := fun A Q E s' k q => by
  refine wpAny_typeOf ?_ q
  cases v with
  | ref a =>
    obtain ⟨o, h1, h2⟩ := (show ∃ o, s.heap.get? a = some o ∧ o.cls = .type t from h)
    exact ⟨o, k _ _ h1, h2⟩
  | _ => exact h
theorem Wr.looks {X : Cx} {pins : List (Addr × Obj)} {st : L2.St} {H : Hp} {s : Shared} {y : V} {u : Value} {t : String} (I : Inv X pins st H s) (r : RelV y u) (h : Wr y H t) : PySem.W.Looks (model X.prog X.w) s.heap (typeOf u) (.type t) := by
  rcases h with ⟨b, rfl, rfl⟩ | ⟨b, rfl, rfl⟩ | ⟨b, rfl, rfl⟩ | ⟨rfl, rfl⟩ | ⟨a, xs, rfl, ha, rfl⟩ | ⟨a, xs, rfl, ha, rfl⟩
  · cases r
    exact .of_pure rfl
  · obtain ⟨t, rfl⟩ := r
    exact .of_pure rfl
  · obtain ⟨t, rfl⟩ := r
    exact .of_pure rfl
  · cases r
    exact .of_pure rfl
  · cases r
    obtain ⟨its, r', ht, hz⟩ := I.tuple (xs := xs) (.inl (.inl ha))
    exact looks_ty (IsTup.typeIs ht)
  · cases r
    obtain ⟨its, r', ht, hz⟩ := I.list (xs := xs) (sq_of ha)
    exact looks_ty ht.isList.typeIs
/-- no integers among them -/
theorem Wr.noInt {K : PySem.W.Frag} {y : V} {H : Hp} {t : String} (h : Wr y H t) (hi : t ≠ "int") : NoInt K H y := by
  have m := h.mem
  have k : ∀ t ∈ (["bool", "int", "str", "NoneType", "tuple", "list"] : List String), t = "int" ∨ (match kitB t "int", kitB t "bool" with
    | some a, some b => (a && !b) == false
    | _, _ => false) = true := by decide +kernel
  have k1 := (k t m).resolve_left hi
  split at k1
  · next a b e1 e2 => exact ⟨t, a, b, h.tyx, e1, e2, beq_iff_eq.mp k1⟩
  · cases k1
abbrev sTold : Stmt := top 23
/-- the error told as a list -/
def spTold (K : PySem.W.Frag) (C : Addr) : Sp := fun vs H Q _ => ∃ (o : Addr) (y : V) (k : Int) (a : List (List Nat)) (t : String), vs = [.ref o, y, .int k] ∧ Rnd K C H o a ∧ Lns a ∧ Wr y H t ∧ t ≠ "int" ∧
  ∀ l H', Ex H H' → H l = none → H' l = some (.lst [.str (Str.ofString "number"), y]) → Q (.ref l) H'
section
variable {P : Program} {w : World} {K : PySem.W.Frag} {mg : Str → Option Value} {base : Heap} {C CN pL fL : Addr}
theorem takes0 {X : Cx} : Takes X fun _ _ _ _ => False := fun u s' ⟨a, B, sI, pins, σ, H, cls, d, e, I, nb, up, sky, na, os, ag, h⟩ => h.elim
theorem scTd : FnScope ["_law_ring", "_law_value", "_law_kind", "e"] ["_law_ring", "_law_value", "_law_kind"] (defScope sTold) := ⟨rfl, rfl, rfl, by decide +kernel, rfl, by decide +kernel, by decide +kernel⟩
theorem ok_told {f fG fS : Addr} {fd fdG fdS fdL : FuncData} (F : FnP K "_law_told" sTold f fd) (c : Cls K C)
    (MG : Meth K C "__getitem__" fG) (hG : PySem.W.fnIn K fG = true) (bG : Binds K fdG ["self", "at"] []) (GG : FnOk P w K mg base (L2.CX P w) 3 fG fdG ["self", "at"] (spGet K C CN))
    (WS : OwnOp K C "lshift" fS) (ZS : ∀ t ∈ (["bool", "int", "str", "NoneType", "tuple", "list"] : List String), Far K C "lshift" t) (bS : Binds K fdS ["self", "other"] []) (GS : FnOk P w K mg base (L2.CX P w) 6 fS fdS ["self", "other"] (spShl K C CN))
    (hp : PropOf K C "lanes" pL fL) (bL : Binds K fdL ["self"] []) (GL : FnOk P w K mg base CX0 1 fL fdL ["self"] (getSp C "_lanes"))
    (gN : mg "BadNumber" = some (.ref CN)) (T : XfC K CN) (hv : PySem.W.findIn K (.ref CN) "value" = some none) (hE : PySem.W.exmOne K (.ref CN) (.ref CN) = some true) :
    FnOk P w K mg base CX0 8 f fd ["_law_ring", "_law_value", "_law_kind"] (spTold K C) := by
  refine F.ok (CX := CX0) scTd (fun vs H Q E h => ?_) (fun cdv A outer s H vs Q E hr h => ?_)
  · obtain ⟨o, y, k, a, t, rfl, _⟩ := h
    rfl
  · have hr6 : Room 6 _ := hr.mono (by omega)
    have hr4 : Room 4 _ := hr.mono (by omega)
    have hr2 : Room 2 _ := hr.mono (by omega)
    refine ⟨_, pss_one (ps_try_as (i := 3) (c := .ref CN) rfl rfl scTd.nd rfl rfl ⟨by rfl, by decide, .inl gN⟩ takes0
      (tb := fun W => tSeq (tIfS (tTest (tOp rEq (tVar 2) (tC (.int 0)))) (tSeq (tRet (tLst (tCons (tOwn2 C (fun _ => True) (spGet K C CN) (WE W) (tVar 0) (tVar 1)) tNil))) tNext) tNext) (tSeq (tRet (tLst (tCons (tProp C (getSp C "_lanes") [] E0 (fun st H Q => tVar 0 st H fun x H1 => tVar 1 st H1 fun y H2 => ∃ o dx fs t, x = .ref o ∧ H2 o = some (.ins C dx fs) ∧ Wr y H2 t ∧ spShl K C CN [x, y] H2 Q (WE W st))) tNil))) tNext))
      (fun W pn xe tk _ => pss_cons (ps_if (pt_cmpR op_eq (pv 2) pe_int (nomark _)) (pss_one (ps_ret (pe_lst (pa_cons (pe_ixO MG hG GG hr4 bG (fun st => passAt tk st) (pv 0) (pv 1) fun _ _ => rfl) pa_nil)))) pss_nil)
        (pss_one (ps_ret (pe_lst (pa_cons (pe_prop (pe_binO (op := .LShift) WS (fun y H t h => ZS t h.mem) (fun pins st H s y u t I r h => Wr.looks I r h) GS hr6 bS (fun st => passAt tk st) (pv 0) (pv 1)) c hp GL hr2 bL .nil pass0 (by rfl)) pa_nil)))))
      (fun a oe cls d pn hz hf => pss_one (ps_ret (pe_lst (pa_cons pe_str (pa_cons (pe_xf T hv hz hf (pv 3)) pa_nil)))))), ?_⟩
    obtain ⟨o, y, k, a, t, rfl, hR, hL, hy, hi, q⟩ := h
    have suite : ∀ (k : Int), Raised CN H y (WE (wAs K (.ref CN) 3 (fun a cls d => tSeq (tRet (tLst (tCons (tC (.str (Str.ofString "number"))) (tCons (tXf a cls d CN "value" (tVar 3)) tNil)))) tNext) (fun _ _ _ _ => False) { nx := fun x H' => Q V.non H', rt := Q }) (L2.start ["_law_ring", "_law_value", "_law_kind", "e"] [.ref o, y, .int k])) := by
      intro k d H' e hd
      refine ⟨true, hE, fun _ a2 na => ?_, fun z => nomatch z⟩
      refine ⟨_, rfl, rfl, rfl, d, [("value", y)], y, rfl, hd, rfl, by show 2 ≤ sizeLine; decide, fun p np => ?_⟩
      refine q p _ (e.trans (Ex.new np)) ?_ upd_same
      cases z : H p with
      | none => rfl
      | some u =>
        rw [e _ _ z] at np
        cases np
    obtain ⟨dx, q0, h1, h2⟩ := id hR
    refine s_seq ?_
    refine ⟨_, rfl, rfl, _, rfl, ?_⟩
    refine ite2 (fun _ => ?_) (fun _ => ?_)
    · exact ⟨_, rfl, _, rfl, o, dx, _, rfl, h1, trivial, o, y, a, rfl, hR, hL, .inr ⟨hy.noInt hi, suite k⟩⟩
    · exact ⟨_, rfl, _, rfl, o, dx, _, t, rfl, h1, hy, o, y, a, rfl, hR, hL, .inr ⟨hy.noInt hi, suite k⟩⟩
end
end K07

set_option Elab.async false
set_option linter.all false
set_option maxRecDepth 100000
set_option maxHeartbeats 4000000
namespace K07
open PySem PySem.Spec PyProof.Rows L2 Vl Evl Vp Vr Vt Vo
theorem el_cat {ta tb : TE} {σ : L2.St} {H : Hp} {xs ys : List V} (h : EvL ta σ H xs) (h2 : EvL tb σ H ys) (hl : xs.length + ys.length ≤ 100000) : EvL (tOp rCat ta tb) σ H (xs ++ ys) := fun H1 e Q q =>
  h H1 e _ fun p H2 np e2 hp => h2 H2 (e.trans e2) _ fun p2 H3 np2 e3 hp2 => ⟨p, p2, xs, ys, rfl, rfl, e3 _ _ hp, hp2, sz_of hl, fun p4 n4 => q p4 _ (fresh_back (e2.trans e3) n4) ((e2.trans e3).trans (Ex.new n4)) upd_same⟩
/-- a[k:] + a[:k], a list -/
theorem el_rot {K : PySem.W.Frag} {p1 p2 : Addr} {t1 t2 u1 u2 : TE} {σ : L2.St} {H : Hp} {a : List (List Nat)} {k : Nat} (h1 : Ev t1 σ H (.ref p1)) (g1 : SqL K H p1 (vtx a)) (h2 : Ev t2 σ H (.ref p2)) (g2 : SqL K H p2 (vtx a)) (k1 : Ev u1 σ H (.int (k : Int))) (k2 : Ev u2 σ H (.int (k : Int))) (hl : a.length ≤ 1000) :
    EvL (tOp rCat (tSl (rSlL K) t1 (tPart u1) tNoPart) (tSl (rSlL K) t2 tNoPart (tPart u2))) σ H (vtx (rot a k)) := by
  have := el_cat (el_sl h1 (eo_some k1) eo_none g1) (el_sl h2 eo_none (eo_some k2) g2) (by
    have h3 := cutV_length (vtx a) (some (k : Int)) none
    have h4 := cutV_length (vtx a) none (some (k : Int))
    rw [vtx_len] at h3 h4
    omega)
  rw [cutV1, cutV0, ← vtx_rot] at this
  exact this
def wl (a : List (List Nat)) : PyData := .list (dtx a)
theorem eqv_wl (a b : List (List Nat)) : PyData.eqv (wl a) (wl b) = decide (a = b) := by
  rw [← eqv_wd]
  unfold wl wd
  rw [PyData.eqv, PyData.eqv]
theorem sh_wl {a : List (List Nat)} (h : ∀ l ∈ a, nam l) : SeqAt.shaped (wl a) = true := shaped_of (lay_dtx a h) (by
  show PyData.depthAll (dtx a) + 1 ≤ 64
  rw [dep_dtx]
  omega)
theorem dp_wl {K : PySem.W.Frag} {H : Hp} {p : Addr} {a : List (List Nat)} (h : SqL K H p (vtx a)) : Dp K H (.ref p) (wl a) := .lst h (dpa_vtx a)
theorem dpa_ints {K : PySem.W.Frag} {H : Hp} {v : Nat → Int} : ∀ ns : List Nat, DpAll K H (ns.map fun k => V.int (v k)) (ns.map fun k => PyData.int (v k))
  | [] => .nil
  | x :: r => .cons (.int _) (dpa_ints r)
theorem lay_ints {v : Nat → Int} : ∀ ns : List Nat, PyData.canLayAll0 (ns.map fun k => PyData.int (v k)) = true ∧ PyData.depthAll (ns.map fun k => PyData.int (v k)) = 0
  | [] => ⟨rfl, rfl⟩
  | x :: r => by
    obtain ⟨h1, h2⟩ := lay_ints (v := v) r
    refine ⟨?_, ?_⟩
    · show (true && PyData.canLayAll0 (r.map fun k => PyData.int (v k))) = true
      rw [h1]
      rfl
    · show max 0 (PyData.depthAll (r.map fun k => PyData.int (v k))) = 0
      rw [h2]
      rfl
abbrev sAlike : Stmt := top 24
/-- turned alike -/
def spAlike : Sp := fun vs H Q _ => ∃ (p q : Addr) (a b : List (List Nat)), vs = [.ref p, .ref q] ∧ H p = some (.lst (vtx a)) ∧ H q = some (.lst (vtx b)) ∧ Lns a ∧ Lns b ∧ ∀ H', Ex H H' → Q (.bl (decide (least a = least b))) H'
section
variable {P : Program} {w : World} {K : PySem.W.Frag} {mg : Str → Option Value} {base : Heap}
abbrev nAl : List Str := ["_law_one", "_law_two", "_law_k"]
theorem scAl : FnScope nAl ["_law_one", "_law_two"] (defScope sAlike) := ⟨rfl, rfl, rfl, by decide +kernel, rfl, by decide +kernel, by decide +kernel⟩
theorem ok_alike {f : Addr} {fd : FuncData} (F : FnP K "_law_turned_alike" sAlike f fd) (mL : mg "len" = none) (mR : mg "range" = none) :
    FnOk P w K mg base CX0 1 f fd ["_law_one", "_law_two"] spAlike := by
  refine F.ok (CX := CX0) scAl (fun vs H Q E h => ?_) (fun cdv A outer s H vs Q E hr h => ?_)
  · obtain ⟨p, q, a, b, rfl, _⟩ := h
    rfl
  · refine ⟨_, pss_one (ps_ret (pe_and (pe_cmpR op_eq (pe_callB call_len (by rfl) mL boot_len (pa_cons (pv 0) pa_nil)) (pe_callB call_len (by rfl) mL boot_len (pa_cons (pv 1) pa_nil)) (nomark _))
      (pe_one (pe_cmpR (op_neD hr.units) (pe_lc (own := [("_law_k", 2)]) (g := gName 2) (tt := tTest (tOp (rEqD K) (tOp rCat (tSl (rSlL K) (tVar 0) (tPart (tVar 2)) tNoPart) (tSl (rSlL K) (tVar 0) tNoPart (tPart (tVar 2)))) (tVar 1))) (te := tVar 2) rfl scAl.nd (pi_range1 (by rfl) mR (pa_cons (pe_callB call_len (by rfl) mL boot_len (pa_cons (pv 0) pa_nil)) pa_nil)) (blkOk_by (own := [("_law_k", 2)]) (N := nAl) (sc := defScope sAlike) (by decide +kernel)) (fun _ _ _ _ _ => (pg_name (i := 2) scAl.nd rfl (by first | exact Or.inl rfl | exact Or.inr rfl)))
        (fun _ _ _ _ _ => pts_one (pt_cmpR (op_eqD hr.units) (pe_op op_cat (pe_slice sl_list (pv 0) (po_some (pv 2)) po_none) (pe_slice sl_list (pv 0) po_none (po_some (pv 2)))) (pv 1) (nomark _))) (fun _ _ _ _ _ => pv 2))
        (pe_lst pa_nil) (nomark _))))), ?_⟩
    obtain ⟨p, q0, a, b, rfl, hp, hq, ⟨la, a1, a2⟩, ⟨lb, b1, b2⟩, q⟩ := h
    refine ⟨_, rfl, .ref p, a.length, rfl, .inl ⟨vtx a, sq_of hp, (vtx_len a).symm⟩, _, rfl, .ref q0, b.length, rfl, .inl ⟨vtx b, sq_of hq, (vtx_len b).symm⟩, rfl, _, rfl, ?_⟩
    by_cases e : a.length = b.length
    · refine ifT (decide_eq_true (by rw [e])) ?_
      refine el_lcR1 (n := (a.length : Int)) (fun i => decide (rot a i = b)) (fun i => V.int (i : Nat)) (ea_cons (ev_cb (ea_cons (ev_var rfl) ea_nil) (fun H1 e1 Q q => ⟨_, a.length, rfl, .inl ⟨vtx a, sq_of (e1 _ _ hp), (vtx_len a).symm⟩, q H1 (Ex.refl H1)⟩)) ea_nil) (by omega) (fun x => rfl) ?_ ?_ H (Ex.refl H) _ fun D H1 nD e1 hD => ?_
      · intro i H1 e1 hi H2 e2 Q q
        refine el_rot (a := a) (k := i) (ev_var rfl) (sq_of (e1 _ _ hp)) (ev_var rfl) (sq_of (e1 _ _ hp)) (ev_var rfl) (ev_var rfl) a2 H2 e2 _ fun r H3 nr e3 hr3 => ?_
        refine ⟨_, rfl, wl (rot a i), wl b, dp_wl (sq_of hr3), dp_wl (sq_of (e3 _ _ (e2 _ _ (e1 _ _ hq)))), sh_wl (rot_nam la), sh_wl lb, _, rfl, ?_⟩
        rw [eqv_wl]
        exact q H3 e3
      · intro i H1 e1 hi hf
        exact ev_var rfl
      · refine ⟨by show 0 ≤ sizeLine; decide, fun p2 np2 => ?_⟩
        have ne : p2 ≠ D := fun z => by rw [z, hD] at np2; cases np2
        have hD2 : (upd H1 p2 (.lst [])) D = some (.lst (given (a.length : Int).toNat (fun i => decide (rot a i = b)) fun i => V.int (i : Nat))) := by
          rw [upd_ne ne.symm]
          exact hD
        obtain ⟨k1, k2⟩ := lay_ints (v := fun k => (k : Int)) ((List.range (a.length : Int).toNat).filter fun i => decide (rot a i = b))
        refine ⟨.list (((List.range (a.length : Int).toNat).filter fun i => decide (rot a i = b)).map fun k => PyData.int ((k : Nat) : Int)), .list [], .lst (sq_of hD2) (dpa_ints (v := fun k => (k : Int)) _), .lst (sq_of upd_same) .nil, shaped_of k1 (by
          show PyData.depthAll _ + 1 ≤ 64
          rw [k2]
          omega), by decide +kernel, ?_⟩
        have key : (!PyData.eqv (.list (((List.range (a.length : Int).toNat).filter fun i => decide (rot a i = b)).map fun k => PyData.int ((k : Nat) : Int))) (.list [])) = decide (least a = least b) := by
          have hn : (a.length : Int).toNat = a.length := by omega
          rw [hn]
          by_cases t : least a = least b
          · rw [decide_eq_true t]
            obtain ⟨k, hk, hkb⟩ := (least_iff a1 b1).mp t
            have hm : k ∈ (List.range a.length).filter fun i => decide (rot a i = b) := List.mem_filter.mpr ⟨List.mem_range.mpr hk, decide_eq_true hkb⟩
            cases hz : (List.range a.length).filter fun i => decide (rot a i = b) with
            | nil => rw [hz] at hm; cases hm
            | cons x r => rfl
          · rw [decide_eq_false t]
            have hz : ((List.range a.length).filter fun i => decide (rot a i = b)) = [] := by
              refine List.filter_eq_nil_iff.mpr fun k hk hkb => t ((least_iff a1 b1).mpr ⟨k, List.mem_range.mp hk, of_decide_eq_true hkb⟩)
            rw [hz]
            rfl
        rw [key]
        exact q _ (e1.trans (Ex.new np2))
    · refine ifF (fun z => e (by have := V.int.inj (of_decide_eq_true z); omega)) ?_
      have : decide (least a = least b) = false := decide_eq_false fun z => e (by rw [← least_len a, z, least_len])
      rw [this] at q
      exact q H (Ex.refl H)
end
end K07

set_option Elab.async false
set_option linter.all false
set_option maxRecDepth 100000
set_option maxHeartbeats 4000000
namespace K07
open PySem PySem.Spec PyProof.Rows L2 Vl Evl Vp Vr Vt Vo
abbrev tyNames : List String := ["bool", "int", "str", "NoneType", "tuple", "list"]
/-- the class Round: its methods' promises and what the written part says of it -/
structure RD (P : Program) (w : World) (K : PySem.W.Frag) (mg : Str → Option Value) (base : Heap) (C CN : Addr) : Prop where
  cls : Cls K C
  get : ∃ f fd, Meth K C "__getitem__" f ∧ PySem.W.fnIn K f = true ∧ Binds K fd ["self", "at"] [] ∧ FnOk P w K mg base (L2.CX P w) 3 f fd ["self", "at"] (spGet K C CN)
  shl : ∃ f fd, OwnOp K C "lshift" f ∧ Binds K fd ["self", "other"] [] ∧ FnOk P w K mg base (L2.CX P w) 6 f fd ["self", "other"] (spShl K C CN)
  far : ∀ t ∈ tyNames, Far K C "lshift" t
  lan : ∃ p f fd, PropOf K C "lanes" p f ∧ Binds K fd ["self"] [] ∧ FnOk P w K mg base CX0 1 f fd ["self"] (getSp C "_lanes")
  eq : ∃ f fd, Meth K C "__eq__" f ∧ neB K C f = true ∧ Binds K fd ["self", "other"] [] ∧ FnOk P w K mg base CX0 2 f fd ["self", "other"] (spEq K C)
  nf : PySem.W.notFirst K C (.ref C) = true ∧ ∀ t ∈ tyNames, PySem.W.notFirst K C (.type t) = true
  kt : ∀ t ∈ tyNames, PySem.W.kitOne K (.type t) (.ref C) = some false
  len : ∃ f fd, Meth K C "__len__" f ∧ Binds K fd ["self"] [] ∧ FnOk P w K mg base CX0 1 f fd ["self"] (spLen K C)
  neg : ∃ f fd, Meth K C "__neg__" f ∧ Binds K fd ["self"] [] ∧ FnOk P w K mg base CX0 6 f fd ["self"] (spNeg K C)
  new : ∃ f fd, Mk K C f ∧ Binds K fd ["self", "lanes"] [] ∧ FnOk P w K mg base CX0 4 f fd ["self", "lanes"] (spIniR K C)
  gR : mg "Round" = some (.ref C)
/-- the right operand's type: the class, or a built-in one -/
def TyR (C : Addr) (y : V) (H : Hp) (t : Value) : Prop := (∃ o dx fs, y = .ref o ∧ H o = some (.ins C dx fs) ∧ t = .ref C) ∨ ∃ s, Wr y H s ∧ t = .type s
theorem TyR.looks {X : Cx} {C : Addr} {pins : List (Addr × Obj)} {st : L2.St} {H : Hp} {s : Shared} {y : V} {u t : Value} (I : Inv X pins st H s) (r : RelV y u) (h : TyR C y H t) : PySem.W.Looks (model X.prog X.w) s.heap (typeOf u) t := by
  rcases h with ⟨o, dx, fs, rfl, ho, rfl⟩ | ⟨t, ht, rfl⟩
  · obtain rfl : u = Value.ref o := r
    obtain ⟨ob, od, J⟩ := inst_at I ho
    exact J.type
  · exact ht.looks I r
theorem RD.nfT {P : Program} {w : World} {K : PySem.W.Frag} {mg : Str → Option Value} {base : Heap} {C CN : Addr} (D : RD P w K mg base C CN) {y : V} {H : Hp} {t : Value} (h : TyR C y H t) : PySem.W.notFirst K C t = true := by
  rcases h with ⟨o, dx, fs, rfl, ho, rfl⟩ | ⟨t, ht, rfl⟩
  · exact D.nf.1
  · exact D.nf.2 t ht.mem
theorem passN {X : Cx} {st : L2.St} : PassesAt (L2.CX X.prog X.w) X st E0 := fun _ _ _ _ _ _ ⟨_, _, _, _, _, _, _, _, _, _, _, _, h⟩ => h.elim
theorem passZ {X : Cx} {st : L2.St} {E : XK} : PassesAt CX0 X st E := fun _ _ _ _ _ _ h => h.elim
theorem least_rot {a : List (List Nat)} {k : Nat} (hk : k < a.length) : least (rot a k) = least a :=
  (least_iff (by rw [rot_len]; omega) (by omega)).mpr (Turn.symm ⟨k, hk, rfl⟩)
abbrev sPlaces : Stmt := top 25
def spPlaces (K : PySem.W.Frag) (C : Addr) : Sp := fun vs H Q _ => ∃ (o p : Addr) (i : Int) (a : List (List Nat)), vs = [.ref o, .ref p, .int i] ∧ Rnd K C H o a ∧ H p = some (.lst (vtx a)) ∧ Lns a ∧ ∀ H', Ex H H' → Q (.bl true) H'
section
variable {P : Program} {w : World} {K : PySem.W.Frag} {mg : Str → Option Value} {base : Heap} {C CN : Addr}
abbrev nPl : List Str := ["_law_ring", "_law_word_here", "_law_number", "_law_size", "_law_place", "_law_found"]
theorem scPl : FnScope nPl ["_law_ring", "_law_word_here", "_law_number"] (defScope sPlaces) := ⟨rfl, rfl, rfl, by decide +kernel, rfl, by decide +kernel, by decide +kernel⟩
theorem ok_places {f : Addr} {fd : FuncData} (F : FnP K "_law_places" sPlaces f fd) (D : RD P w K mg base C CN) (mL : mg "len" = none) (mT : mg "tuple" = none) :
    FnOk P w K mg base CX0 8 f fd ["_law_ring", "_law_word_here", "_law_number"] (spPlaces K C) := by
  obtain ⟨fG, fdG, MG, hG, bG, GG⟩ := D.get
  obtain ⟨fS, fdS, WS, bS, GS⟩ := D.shl
  obtain ⟨pL, fL, fdL, hp, bL, GL⟩ := D.lan
  obtain ⟨fE, fdE, ME, nE, bE, GE⟩ := D.eq
  obtain ⟨fN, fdN, MN, bN, GN⟩ := D.len
  refine F.ok (CX := CX0) scPl (fun vs H Q E h => ?_) (fun cdv A outer s H vs Q E hr h => ?_)
  · obtain ⟨o, p, i, a, rfl, _⟩ := h
    rfl
  · have hr6 : Room 6 _ := hr.mono (by omega)
    have hr4 : Room 4 _ := hr.mono (by omega)
    have hr2 : Room 2 _ := hr.mono (by omega)
    refine ⟨_, pss_cons (ps_set (i := 3) scPl.nd rfl (by first | exact Or.inl rfl | exact Or.inr rfl) (pe_callB call_len (by rfl) mL boot_len (pa_cons (pv 1) pa_nil)))
      (pss_cons (ps_if (PW.pt (pw_or (pt_cmpR op_ne (pe_ixO (E := fun _ => E0) MG hG GG hr4 bG (fun st => passN) (pv 0) (pv 2) fun _ _ => rfl) (pe_ix ix_list (pv 1) (pe_op op_mod (pv 2) (pv 3)) fun _ _ => rfl) (nomark _))
          (pw_or1 (pt_cmpR op_ne (pe_ixO (E := fun _ => E0) MG hG GG hr4 bG (fun st => passN) (pv 0) (pe_op op_add (pv 2) (pv 3)) fun _ _ => rfl) (pe_ixO (E := fun _ => E0) MG hG GG hr4 bG (fun st => passN) (pv 0) (pv 2) fun _ _ => rfl) (nomark _))))) (pss_one (ps_ret pe_bl)) pss_nil)
      (pss_cons (ps_set (i := 4) scPl.nd rfl (by first | exact Or.inl rfl | exact Or.inr rfl) (pe_op op_mod (pv 2) (pv 3)))
      (pss_cons (ps_set (i := 5) scPl.nd rfl (by first | exact Or.inl rfl | exact Or.inr rfl) (pe_binO (op := .LShift) (E := fun _ => E0) WS (fun y H t h => D.far t (Wr.mem h)) (fun pins st H s y u t I r h => Wr.looks I r h) GS hr6 bS (fun st => passN) (pv 0) (pv 2)))
      (pss_one (ps_ret (pe_and (pe_cmpR (op_eqD hr.units) (pe_prop (pv 5) D.cls hp GL hr2 bL .nil pass0 (by rfl)) (pe_callTy call_tuple_of (by rfl) mT boot_tuple (pa_cons (pe_op op_cat (pe_slice sl_list (pv 1) (po_some (pv 4)) po_none) (pe_slice sl_list (pv 1) po_none (po_some (pv 4)))) pa_nil)) (nomark _))
        (pe_and (pe_cmpR (op_eqO (E1 := E0) (T := TyR C) ME (fun y H t h => D.nfT h) (fun pins st H s y u t I r h => TyR.looks I r h) GE hr2 bE pass0) (pv 5) (pv 0) (nomark _))
          (pe_one (pe_cmpR op_eq (pe_callB (call_lenO (E1 := E0) MN MN.fn GN hr2 bN pass0) (by rfl) mL boot_len (pa_cons (pv 5) pa_nil)) (pv 3) (nomark _)))))))))), ?_⟩
    obtain ⟨o, p, i, a, rfl, hR, hpl, ⟨la, l1, l2⟩, q⟩ := h
    obtain ⟨dx, q0, h1, h2⟩ := id hR
    obtain ⟨m1, m2⟩ := mod_nat (i := i) l1
    have lv : ∀ j : Int, ∃ l, a[(j % (a.length : Int)).toNat]? = some l := fun j => ⟨_, List.getElem?_eq_getElem (mod_nat (i := j) l1).2⟩
    obtain ⟨l, hl⟩ := lv i
    have hl2 : a[((i + (a.length : Int)) % (a.length : Int)).toNat]? = some l := by
      rw [Int.add_emod_right]
      exact hl
    refine s_seq ?_
    refine s_asg (v := .int (a.length : Nat)) (ev_cb (ea_cons (ev_var rfl) ea_nil) (fun H1 e1 Q q => ⟨_, a.length, rfl, .inl ⟨vtx a, sq_of (e1 _ _ hpl), (vtx_len a).symm⟩, q H1 (Ex.refl H1)⟩)) fun H1 e1 => ?_
    dsimp only
    refine s_seq ?_
    refine ⟨_, rfl, _, rfl, o, dx, _, rfl, e1 _ _ h1, trivial, o, .int i, a, rfl, hR.mono e1, ⟨la, l1, l2⟩, .inl ⟨i, l, rfl, hl, ?_⟩⟩
    refine ⟨_, rfl, _, rfl, _, rfl, i, (a.length : Int), rfl, rfl, by omega, p, vtx a, _, .str (tx l), rfl, rfl, sq_of (e1 _ _ hpl), by rw [m1]; exact at_of (j := (i % (a.length : Int)).toNat) rfl (vtx_at hl), rfl, _, rfl, ?_⟩
    refine ifF (by rw [decide_eq_true rfl]; decide) ?_
    refine ⟨_, rfl, _, rfl, _, rfl, i, (a.length : Int), rfl, rfl, o, dx, _, rfl, e1 _ _ h1, trivial, o, _, a, rfl, hR.mono e1, ⟨la, l1, l2⟩, .inl ⟨_, l, rfl, hl2, ?_⟩⟩
    refine ⟨_, rfl, _, rfl, o, dx, _, rfl, e1 _ _ h1, trivial, o, .int i, a, rfl, hR.mono e1, ⟨la, l1, l2⟩, .inl ⟨i, l, rfl, hl, rfl, _, rfl, ?_⟩⟩
    refine ifF (by rw [decide_eq_true rfl]; decide) ?_
    dsimp only
    refine s_seq ?_
    refine ⟨_, rfl, _, rfl, i, (a.length : Int), rfl, rfl, by omega, ?_⟩
    show gName 4 (V.int (i % (a.length : Int))) _ _ _
    generalize hk : (i % (a.length : Int)).toNat = k at m1 m2
    rw [m1]
    dsimp only
    show tSeq _ _ _ _ _
    refine s_seq ?_
    refine ⟨_, rfl, _, rfl, o, dx, _, "int", rfl, e1 _ _ h1, .inr (.inl ⟨i, rfl, rfl⟩), o, .int i, a, rfl, hR.mono e1, ⟨la, l1, l2⟩, .inl ⟨i, rfl, fun o2 H2 e2 ho2 r2 => ?_⟩⟩
    rw [hk] at r2
    obtain ⟨dx2, q2, g1, g2⟩ := id r2
    have lr : Lns (rot a k) := ⟨rot_nam la, by rw [rot_len]; exact l1, by rw [rot_len]; exact l2⟩
    dsimp only
    refine ⟨_, rfl, o2, dx2, _, rfl, g1, o2, dx2, _, .ref q2, rfl, g1, rfl, ?_⟩
    refine el_rot (a := a) (k := k) (ev_var rfl) (sq_of (e2 _ _ (e1 _ _ hpl))) (ev_var rfl) (sq_of (e2 _ _ (e1 _ _ hpl))) (ev_var rfl) (ev_var rfl) l2 H2 (Ex.refl H2) _ fun r H3 nr e3 hr3 => ?_
    refine ⟨r, vtx (rot a k), rfl, .inl ⟨sq_of hr3, fun t nt => ?_⟩⟩
    have e4 := e3.trans (Ex.new (o := .tup (vtx (rot a k))) nt)
    refine ⟨wd (rot a k), wd (rot a k), dp_wd (ex_t e4 g2), dp_wd sqt_new, sh_wd (rot_nam la), sh_wd (rot_nam la), _, rfl, ?_⟩
    refine ifT (by rw [eqv_wd]; exact decide_eq_true rfl) ?_
    refine ⟨_, rfl, _, rfl, o2, dx2, _, .ref C, rfl, e4 _ _ g1, .inl ⟨o, dx, _, rfl, e4 _ _ (e2 _ _ (e1 _ _ h1)), rfl⟩, o2, .ref o, rot a k, rfl, r2.mono e4, lr, .inl ⟨o, a, rfl, ((hR.mono e1).mono e2).mono e4, ⟨la, l1, l2⟩, fun H5 e5 => ⟨_, rfl, ifT (decide_eq_true (least_rot m2)) ?_⟩⟩⟩
    refine ⟨_, rfl, o2, dx2, _, rfl, e5 _ _ (e4 _ _ g1), o2, rot a k, rfl, (r2.mono e4).mono e5, lr, (rot a k).length, rfl, by have := lr.2.2; omega, _, rfl, rfl, ?_⟩
    rw [rot_len, decide_eq_true rfl]
    exact q H5 ((((e1.trans e2).trans e4)).trans e5)
end
end K07

set_option Elab.async false
set_option linter.all false
set_option maxRecDepth 100000
set_option maxHeartbeats 4000000
namespace K07
open PySem PySem.Spec PyProof.Rows L2 Vl Evl Vp Vr Vt Vo
abbrev sLaw7 : Stmt := top 26
abbrev nW7 : List Str := ["_law_script", "_law_pool_here", "_law_names_here", "_law_word_here", "_law_given", "_law_ring", "_law_number", "_law_k", "_law_at", "_law_other", "_law_due", "_law_wrong", "_law_kind", "_law_told_here"]
/-- the law: True -/
def spLaw7 (K : PySem.W.Frag) : Sp := fun vs H Q _ => ∃ (l : Addr) (ns : List Int), vs = [.ref l] ∧ SqL K H l (ns.map V.int) ∧ ∀ H', Q (.bl true) H'
theorem sqt_wo {K : PySem.W.Frag} {H : Hp} {p g : Addr} {xs ys : List V} (h : SqT K H p xs) (hg : H g = some (.lst ys)) : SqT K (Wo H g) p xs := by
  rcases h with (h | ⟨ob, h⟩) | h
  · exact .inl (.inl (wo_at h (fun z => by rw [z, hg] at h; cases h)))
  · exact .inl (.inr ⟨ob, wo_at h (fun z => by rw [z, hg] at h; cases h)⟩)
  · exact .inr h
theorem rnd_wo {K : PySem.W.Frag} {C : Addr} {H : Hp} {o g : Addr} {a : List (List Nat)} {ys : List V} (h : Rnd K C H o a) (hg : H g = some (.lst ys)) (ne : o ≠ g) : Rnd K C (Wo H g) o a := by
  obtain ⟨dx, q, h1, h2⟩ := h
  exact ⟨dx, q, wo_at h1 ne, sqt_wo h2 hg⟩
theorem Wr.mono {y : V} {H H' : Hp} {t : String} (e : Ex H H') (h : Wr y H t) : Wr y H' t := by
  rcases h with h | h | h | h | ⟨a, xs, h1, h2, h3⟩ | ⟨a, xs, h1, h2, h3⟩
  · exact .inl h
  · exact .inr (.inl h)
  · exact .inr (.inr (.inl h))
  · exact .inr (.inr (.inr (.inl h)))
  · exact .inr (.inr (.inr (.inr (.inl ⟨a, xs, h1, e _ _ h2, h3⟩))))
  · exact .inr (.inr (.inr (.inr (.inr ⟨a, xs, h1, e _ _ h2, h3⟩))))
theorem rg_int {a b : Int} {x : V} (h : x ∈ rgV a b) : ∃ i, x = V.int i := by
  unfold rgV at h
  obtain ⟨i, _, rfl⟩ := List.mem_map.mp h
  exact ⟨_, rfl⟩
section
variable {P : Program} {w : World} {K : PySem.W.Frag} {mg : Str → Option Value} {base : Heap} {C CN : Addr}
theorem scW7 : FnScope nW7 ["_law_script"] (defScope sLaw7) := ⟨rfl, rfl, rfl, by decide +kernel, rfl, by decide +kernel, by decide +kernel⟩
theorem ok_law7 {f fC fP fT fNm fW fA fPl fD : Addr} {fd fdC fdP fdT fdNm fdW fdA fdPl fdD : FuncData} (F : FnP K "law" sLaw7 f fd) (FC : FnP K "_law_cell" sCell fC fdC) (FP : FnP K "_law_pool" sPool fP fdP) (FT : FnP K "_law_take" sTake fT fdT)
    (FNm : FnP K "_law_names" sNames fNm fdNm) (FW : FnP K "_law_word" sWord fW fdW) (FA : FnP K "_law_turned_alike" sAlike fA fdA) (FPl : FnP K "_law_places" sPlaces fPl fdPl) (FD : FnP K "_law_told" sTold fD fdD)
    (D : RD P w K mg base C CN)
    (GPl : FnOk P w K mg base CX0 8 fPl fdPl ["_law_ring", "_law_word_here", "_law_number"] (spPlaces K C)) (GD : FnOk P w K mg base CX0 8 fD fdD ["_law_ring", "_law_value", "_law_kind"] (spTold K C))
    (gC : mg "_law_cell" = some (.ref fC)) (gP : mg "_law_pool" = some (.ref fP)) (gT : mg "_law_take" = some (.ref fT)) (gNm : mg "_law_names" = some (.ref fNm)) (gW : mg "_law_word" = some (.ref fW)) (gA : mg "_law_turned_alike" = some (.ref fA)) (gPl : mg "_law_places" = some (.ref fPl)) (gD : mg "_law_told" = some (.ref fD))
    (mL : mg "len" = none) (mI : mg "int" = none) (mIs : mg "isinstance" = none) (mR : mg "range" = none) (mT : mg "tuple" = none) (mLi : mg "list" = none) (mB : mg "bool" = none) :
    FnOk P w K mg base CX0 9 f fd ["_law_script"] (spLaw7 K) := by
  obtain ⟨pL, fL, fdL, hp, bL, GL⟩ := D.lan
  obtain ⟨fE, fdE, ME, nE, bE, GE⟩ := D.eq
  obtain ⟨fLn, fdLn, MLn, bLn, GLn⟩ := D.len
  obtain ⟨fN, fdN, MN, bN, GN⟩ := D.neg
  obtain ⟨fR, fdR, MR, bR, GR⟩ := D.new
  have GC : FnOk P w K mg base CX0 1 fC fdC ["_law_script", "_law_k"] (spCell K) := ok_cell FC mL
  have GP : FnOk P w K mg base CX0 1 fP fdP ["_law_cell_here"] spPool := ok_pool FP mI
  have GT : FnOk P w K mg base CX0 1 fT fdT ["_law_pool_here", "_law_many"] spTake := ok_take FT mI
  have GNm : FnOk P w K mg base CX0 2 fNm fdNm ["_law_pool_here", "_law_many"] spNames := ok_names FNm FT gT mI mL mR
  have GW : FnOk P w K mg base CX0 2 fW fdW ["_law_pool_here", "_law_names_here", "_law_most"] spWord := ok_word FW FT gT mI mL mR
  have GA : FnOk P w K mg base CX0 1 fA fdA ["_law_one", "_law_two"] spAlike := ok_alike FA mL mR
  have bC : Binds K fdC ["_law_script", "_law_k"] [] := FC.bindsN fun _ _ _ _ _ _ us hl => match us, hl with | [_, _], _ => rfl
  have bP : Binds K fdP ["_law_cell_here"] [] := FP.bindsN fun _ _ _ _ _ _ us hl => match us, hl with | [_], _ => rfl
  have bT : Binds K fdT ["_law_pool_here", "_law_many"] [] := FT.bindsN fun _ _ _ _ _ _ us hl => match us, hl with | [_, _], _ => rfl
  have bNm : Binds K fdNm ["_law_pool_here", "_law_many"] [] := FNm.bindsN fun _ _ _ _ _ _ us hl => match us, hl with | [_, _], _ => rfl
  have bW : Binds K fdW ["_law_pool_here", "_law_names_here", "_law_most"] [] := FW.bindsN fun _ _ _ _ _ _ us hl => match us, hl with | [_, _, _], _ => rfl
  have bA : Binds K fdA ["_law_one", "_law_two"] [] := FA.bindsN fun _ _ _ _ _ _ us hl => match us, hl with | [_, _], _ => rfl
  have bPl : Binds K fdPl ["_law_ring", "_law_word_here", "_law_number"] [] := FPl.bindsN fun _ _ _ _ _ _ us hl => match us, hl with | [_, _, _], _ => rfl
  have bD : Binds K fdD ["_law_ring", "_law_value", "_law_kind"] [] := FD.bindsN fun _ _ _ _ _ _ us hl => match us, hl with | [_, _, _], _ => rfl
  have kC := FC.kp
  have kP := FP.kp
  have kT := FT.kp
  have kNm := FNm.kp
  have kW := FW.kp
  have kA := FA.kp
  have kPl := FPl.kp
  have kD := FD.kp
  refine F.ok (CX := CX0) scW7 (fun vs H Q E h => ?_) (fun cdv A outer s H vs Q E hr h => ?_)
  · obtain ⟨l, ns, rfl, _⟩ := h
    rfl
  · have hr8 : Room 8 _ := hr
    have hr6 : Room 6 _ := hr.mono (by omega)
    have hr5 : Room 5 _ := hr.mono (by omega)
    have hr3 : Room 3 _ := hr.mono (by omega)
    have hr2 : Room 2 _ := hr.mono (by omega)
    have hr1 : Room 1 _ := hr.mono (by omega)
    refine ⟨_, (pss_cons (ps_set (i := 1) scW7.nd rfl (by first | exact Or.inl rfl | exact Or.inr rfl) (pe_call GP hr1 (by rfl) gP kP bP .nil pass0 (pa_cons (pe_call GC hr1 (by rfl) gC kC bC .nil pass0 (pa_cons (pv 0) (pa_cons pe_int pa_nil))) pa_nil)))
      (pss_cons (ps_set (i := 2) scW7.nd rfl (by first | exact Or.inl rfl | exact Or.inr rfl) (pe_call GNm hr2 (by rfl) gNm kNm bNm .nil pass0 (pa_cons (pv 1) (pa_cons pe_int pa_nil))))
      (pss_cons (ps_set (i := 3) scW7.nd rfl (by first | exact Or.inl rfl | exact Or.inr rfl) (pe_call GW hr2 (by rfl) gW kW bW .nil pass0 (pa_cons (pv 1) (pa_cons (pv 2) (pa_cons pe_int pa_nil)))))
      (pss_cons (ps_set (i := 4) scW7.nd rfl (by first | exact Or.inl rfl | exact Or.inr rfl) (pe_callTy call_list_of (by rfl) mLi boot_list (pa_cons (pv 3) pa_nil)))
      (pss_cons (ps_set (i := 5) scW7.nd rfl (by first | exact Or.inl rfl | exact Or.inr rfl) (pe_mkR MR GR hr5 (by rfl) D.gR bR (pv 4)))
      (pss_cut (ps_expr (pe_bm PySem.F.plainAttrs_list PySem.F.slot_list_append PySem.F.type_list_append mt_append (pv 4) (pa_cons pe_str pa_nil)))
      (pss_cons (ps_if (PW.pt (pw_or (pt_cmpR (op_neD hr.units) (pe_prop (pv 5) D.cls hp GL hr2 bL .nil pass0 (by rfl)) (pe_callTy call_tuple_of (by rfl) mT boot_tuple (pa_cons (pv 3) pa_nil)) (nomark _)) (pw_or (pt_cmpR op_ne (pe_callB (call_lenO (E1 := E0) MLn MLn.fn GLn hr2 bLn pass0) (by rfl) mL boot_len (pa_cons (pv 5) pa_nil)) (pe_callB call_len (by rfl) mL boot_len (pa_cons (pv 3) pa_nil)) (nomark _)) (pw_or1 (pt_cmpR (op_neO (E1 := E0) nE GE hr3 bE pass0) (pe_mkR MR GR hr5 (by rfl) D.gR bR (pe_callTy call_tuple_of (by rfl) mT boot_tuple (pa_cons (pv 3) pa_nil))) (pv 5) (nomark _)))))) (pss_one (ps_ret pe_bl)) pss_nil)
      (pss_cut (ps_for (passes_of rfl) rfl (pi_list (pe_op op_cat (pe_listRg rfl (by rfl) mLi (prg_2 (by rfl) mR (pe_op op_sub pe_int pe_int) pe_int)) (pe_lst (pa_cons (pe_op op_mod (pe_call GC hr1 (by rfl) gC kC bC .nil pass0 (pa_cons (pv 0) (pa_cons pe_int pa_nil))) (pe_op op_pow pe_int pe_int)) (pa_cons (pe_op op_sub pe_int (pe_op op_pow pe_int pe_int)) pa_nil))))) (pg_name (i := 6) scW7.nd rfl (by first | exact Or.inl rfl | exact Or.inr rfl)) (pss_one (ps_if (pt_not (pt_val (pe_call GPl hr8 (by rfl) gPl kPl bPl .nil pass0 (pa_cons (pv 5) (pa_cons (pv 3) (pa_cons (pv 6) pa_nil)))))) (pss_one (ps_ret pe_bl)) pss_nil)))
      (pss_cut (ps_for (passes_of rfl) rfl (pi_range1 (by rfl) mR (pa_cons pe_int pa_nil)) (pg_name (i := 7) scW7.nd rfl (by first | exact Or.inl rfl | exact Or.inr rfl)) (pss_cons (ps_set (i := 1) scW7.nd rfl (by first | exact Or.inl rfl | exact Or.inr rfl) (pe_call GP hr1 (by rfl) gP kP bP .nil pass0 (pa_cons (pe_op op_add (pe_call GC hr1 (by rfl) gC kC bC .nil pass0 (pa_cons (pv 0) (pa_cons (pe_op op_add pe_int (pv 7)) pa_nil))) (pv 7)) pa_nil)))
      (pss_cons (ps_set (i := 8) scW7.nd rfl (by first | exact Or.inl rfl | exact Or.inr rfl) (pe_call GT hr1 (by rfl) gT kT bT .nil pass0 (pa_cons (pv 1) (pa_cons (pe_callB call_len (by rfl) mL boot_len (pa_cons (pv 3) pa_nil)) pa_nil))))
      (pss_cons (ps_set (i := 9) scW7.nd rfl (by first | exact Or.inl rfl | exact Or.inr rfl) (pe_op op_cat (pe_slice sl_list (pv 3) (po_some (pv 8)) po_none) (pe_slice sl_list (pv 3) po_none (po_some (pv 8)))))
      (pss_cut (ps_if (pt_cmpR op_eq (pe_call GT hr1 (by rfl) gT kT bT .nil pass0 (pa_cons (pv 1) (pa_cons pe_int pa_nil))) pe_int (nomark _)) (pss_one (ps_asg (pe_ix ix_list (pv 2) (pe_call GT hr1 (by rfl) gT kT bT .nil pass0 (pa_cons (pv 1) (pa_cons pe_int pa_nil))) fun _ _ => rfl) (pg_sub (pv 9) (pe_call GT hr1 (by rfl) gT kT bT .nil pass0 (pa_cons (pv 1) (pa_cons (pe_callB call_len (by rfl) mL boot_len (pa_cons (pv 3) pa_nil)) pa_nil))) set_list))) pss_nil)
      (pss_cut (ps_if (pt_cmpR op_eq (pe_call GT hr1 (by rfl) gT kT bT .nil pass0 (pa_cons (pv 1) (pa_cons pe_int pa_nil))) pe_int (nomark _)) (pss_one (ps_set (i := 9) scW7.nd rfl (by first | exact Or.inl rfl | exact Or.inr rfl) (pe_call GW hr2 (by rfl) gW kW bW .nil pass0 (pa_cons (pv 1) (pa_cons (pv 2) (pa_cons pe_int pa_nil)))))) pss_nil)
      (pss_cons (ps_set (i := 10) scW7.nd rfl (by first | exact Or.inl rfl | exact Or.inr rfl) (pe_call GA hr1 (by rfl) gA kA bA .nil pass0 (pa_cons (pv 3) (pa_cons (pv 9) pa_nil))))
      (pss_cons (ps_if (PW.pt (pw_or (pt_cmpR op_ne (pe_cmpR (op_eqO (E1 := E0) (T := TyR C) ME (fun y H t h => D.nfT h) (fun pins st H s y u t I r h => TyR.looks I r h) GE hr2 bE pass0) (pv 5) (pe_mkR MR GR hr5 (by rfl) D.gR bR (pv 9)) (nomark _)) (pv 10) (nomark _)) (pw_or1 (pt_cmpR op_ne (pe_cmpR (op_eqO (E1 := E0) (T := TyR C) ME (fun y H t h => D.nfT h) (fun pins st H s y u t I r h => TyR.looks I r h) GE hr2 bE pass0) (pe_mkR MR GR hr5 (by rfl) D.gR bR (pv 9)) (pv 5) (nomark _)) (pv 10) (nomark _))))) (pss_one (ps_ret pe_bl)) pss_nil)
      (pss_cut (ps_set (i := 11) scW7.nd rfl (by first | exact Or.inl rfl | exact Or.inr rfl) (pe_ix ix_list (pe_lst (pa_cons pe_bl (pa_cons pe_str (pa_cons pe_non (pa_cons (pe_tup (pa_cons pe_int pa_nil)) (pa_cons pe_bl pa_nil)))))) (pe_call GT hr1 (by rfl) gT kT bT .nil pass0 (pa_cons (pv 1) (pa_cons pe_int pa_nil))) fun _ _ => rfl))
      (pss_one (ps_for (passes_of rfl) rfl (pi_range1 (by rfl) mR (pa_cons pe_int pa_nil)) (pg_name (i := 12) scW7.nd rfl (by first | exact Or.inl rfl | exact Or.inr rfl)) (pss_cons (ps_set (i := 13) scW7.nd rfl (by first | exact Or.inl rfl | exact Or.inr rfl) (pe_call GD hr8 (by rfl) gD kD bD .nil pass0 (pa_cons (pv 5) (pa_cons (pv 11) (pa_cons (pv 12) pa_nil)))))
      (pss_one (ps_if (PW.pt (pw_or (pt_cmpR op_ne (pe_ix ix_list (pv 13) pe_int fun _ _ => rfl) pe_str (nomark _)) (pw_or (pt_cmpR (op_neD hr.units) (pe_ix ix_list (pv 13) pe_int fun _ _ => rfl) (pv 11) (nomark _)) (pw_or1 (pt_cmpR op_ne (pe_callB call_isi (by rfl) mIs boot_isinstance (pa_cons (pe_ix ix_list (pv 13) pe_int fun _ _ => rfl) (pa_cons (pe_bltn (v := V.ty "bool") (by rfl) mB boot_bool rfl) pa_nil))) (pe_callB call_isi (by rfl) mIs boot_isinstance (pa_cons (pv 11) (pa_cons (pe_bltn (v := V.ty "bool") (by rfl) mB boot_bool rfl) pa_nil))) (nomark _)))))) (pss_one (ps_ret pe_bl)) pss_nil))))))))))))))
      (pss_cons (ps_if (PW.pt (pw_or (pt_cmpR (op_eqO (E1 := E0) (T := TyR C) ME (fun y H t h => D.nfT h) (fun pins st H s y u t I r h => TyR.looks I r h) GE hr2 bE pass0) (pv 5) (pe_callTy call_tuple_of (by rfl) mT boot_tuple (pa_cons (pv 3) pa_nil)) (nomark _)) (pw_or (pt_cmpR (op_eqO (E1 := E0) (T := TyR C) ME (fun y H t h => D.nfT h) (fun pins st H s y u t I r h => TyR.looks I r h) GE hr2 bE pass0) (pv 5) (pv 3) (nomark _)) (pw_or1 (pt_cmpR (op_eqO (E1 := E0) (T := TyR C) ME (fun y H t h => D.nfT h) (fun pins st H s y u t I r h => TyR.looks I r h) GE hr2 bE pass0) (pv 5) pe_non (nomark _)))))) (pss_one (ps_ret pe_bl)) pss_nil)
      (pss_one (ps_ret (pe_and (pe_cmpR (op_eqD hr.units) (pe_prop (pe_negO (E := fun _ => E0) MN GN hr6 bN (fun st => passZ) (pv 5)) D.cls hp GL hr2 bL .nil pass0 (by rfl)) (pe_callTy call_tuple_of (by rfl) mT boot_tuple (pa_cons (pe_revL (pv 3)) pa_nil)) (nomark _)) (pe_and (pe_cmpR (op_eqO (E1 := E0) (T := TyR C) ME (fun y H t h => D.nfT h) (fun pins st H s y u t I r h => TyR.looks I r h) GE hr2 bE pass0) (pe_negO (E := fun _ => E0) MN GN hr6 bN (fun st => passZ) (pe_negO (E := fun _ => E0) MN GN hr6 bN (fun st => passZ) (pv 5))) (pv 5) (nomark _)) (pe_one (pe_cmpR (op_eqD hr.units) (pe_prop (pv 5) D.cls hp GL hr2 bL .nil pass0 (by rfl)) (pe_callTy call_tuple_of (by rfl) mT boot_tuple (pa_cons (pv 3) pa_nil)) (nomark _))))))))))))))))), ?_⟩
    obtain ⟨l, ns, rfl, hS, q⟩ := h
    refine s_seq ?_
    refine ⟨_, rfl, l, ns, 0, rfl, hS, cellOf ns 0, rfl, fun p H1 np e1 hp1 => ?_⟩
    have P1 : Pl H p 0 H1 := ⟨np, e1, hp1⟩
    dsimp only
    refine s_seq ?_
    refine ⟨_, rfl, p, 4, Wo H1 p, 0, rfl, by omega, P1.re, by omega, fun nq xs H2 nn hP2 hq2 hx2 hN => ?_⟩
    have nqp : nq ≠ p := P1.ne nn
    dsimp only
    refine s_seq ?_
    refine ⟨_, rfl, _, rfl, p, nq, xs, 9, Wo H2 p, _, rfl, by omega, by omega, hP2.re, by omega, wo_at hq2 nqp, by omega, by omega, fun d a H3 nd hP3 hd3 a1 a2 a3 => ?_⟩
    have La : Lns a := ⟨fun y hy => hN.1 y (a3 y hy), a1, Nat.le_trans a2 (by decide)⟩
    have a12 : a.length ≤ 12 := Nat.le_trans a2 (by decide)
    have eH3 : Ex H H3 := P1.wo.trans (hP2.wo.trans hP3.ex)
    have hq3 : H3 nq = some (.lst (vtx xs)) := hP3.ex _ _ (wo_at hq2 nqp)
    dsimp only
    refine s_seq ?_
    refine ⟨_, rfl, d, vtx a, rfl, .inl (sq_of hd3), fun g ng => ?_⟩
    dsimp only
    refine s_seq ?_
    refine ⟨_, rfl, g, a, rfl, .inl (sq_of upd_same), La, fun o H5 e5 no hR5 => ?_⟩
    dsimp only
    have hg5 : H5 g = some (.lst (vtx a)) := e5 _ _ upd_same
    have og : o ≠ g := fun z => by rw [z, upd_same] at no; cases no
    have e35 : Ex H3 H5 := (Ex.new ng).trans e5
    have e0b : Ex H (Wo H5 g) := wo_of (fresh_back eH3 ng) (eH3.trans e35)
    have e3b : Ex H3 (Wo H5 g) := wo_of ng e35
    have rb : Rnd K C (Wo H5 g) o a := rnd_wo hR5 hg5 og
    have db : (Wo H5 g) d = some (.lst (vtx a)) := e3b _ _ hd3
    have nb : (Wo H5 g) nq = some (.lst (vtx xs)) := e3b _ _ hq3
    have sb : SqL K (Wo H5 g) l (ns.map V.int) := ex_l e0b hS
    have gb : (Wo H5 g) g = none := wo_self _ _
    have xb : Ex (Wo H5 g) H5 := wo_ex _ _
    generalize Wo H5 g = Hb at rb db nb sb gb xb
    refine ⟨fun st' H' => st' = [some (.ref l), some (.ref p), some (.ref nq), some (.ref d), some (.ref g), some (.ref o), none, none, none, none, none, none, none, none] ∧ Ex Hb H', ?_, ?_⟩
    · exact s_app (xs := vtx a) (v := .str (Str.ofString "zz")) hg5 (ev_var rfl) ev_c (by rw [vtx_len]; omega) fun H6 e6 => ⟨rfl, Ex.mut (xb.trans e6) gb⟩
    rintro _ H6 ⟨rfl, e6⟩
    obtain ⟨dx, q0, h1, h2⟩ := id rb
    refine s_seq ?_
    refine ⟨_, rfl, o, dx, _, rfl, e6 _ _ h1, o, dx, _, .ref q0, rfl, e6 _ _ h1, rfl, _, rfl, d, vtx a, rfl, .inl ⟨sq_of (e6 _ _ db), fun t nt => ?_⟩⟩
    have e7 := e6.trans (Ex.new (o := .tup (vtx a)) nt)
    refine ⟨wd a, wd a, dp_wd (ex_t e7 h2), dp_wd sqt_new, sh_wd La.1, sh_wd La.1, _, rfl, ?_⟩
    refine ifF (by rw [eqv_wd, decide_eq_true rfl]; decide) ?_
    refine ⟨_, rfl, o, dx, _, rfl, e7 _ _ h1, o, a, rfl, rb.mono e7, La, a.length, rfl, by omega, _, rfl, .ref d, a.length, rfl, .inl ⟨vtx a, sq_of (e7 _ _ db), (vtx_len a).symm⟩, rfl, _, rfl, ?_⟩
    refine ifF (by rw [decide_eq_true rfl]; decide) ?_
    refine ⟨_, rfl, d, vtx a, rfl, .inl ⟨sq_of (e7 _ _ db), fun t2 nt2 => ?_⟩⟩
    have e8 := e7.trans (Ex.new (o := .tup (vtx a)) nt2)
    refine ⟨t2, a, rfl, .inr sqt_new, La, fun o3 H9 e9 no3 r3 => ?_⟩
    have e9b := e8.trans e9
    obtain ⟨dx3, q3, k1, k2⟩ := id r3
    refine ⟨_, rfl, o3, dx3, _, o, dx, _, rfl, rfl, k1, e9b _ _ h1, o3, .ref o, a, rfl, r3, La, .inl ⟨o, a, rfl, rb.mono e9b, La, fun H10 e10 => ⟨_, rfl, _, rfl, ?_⟩⟩⟩
    refine ifF (by rw [decide_eq_true rfl]; decide) ?_
    dsimp only
    have eA : Ex Hb H10 := e9b.trans e10
    clear e6 e7 e8 e9b r3 k1 k2 e9 e10
    refine ⟨fun st' H' => ∃ t6, st' = [some (.ref l), some (.ref p), some (.ref nq), some (.ref d), some (.ref g), some (.ref o), t6, none, none, none, none, none, none, none] ∧ Ex Hb H', ?_, ?_⟩
    · refine ⟨0, 12, rfl, rfl, _, 25, rfl, rfl, ⟨by decide, by decide, by decide, by decide, by decide⟩, fun r1 n1 => ?_⟩
      refine ⟨_, rfl, l, ns, 1, rfl, ex_l (eA.trans (Ex.new n1)) sb, 10, 59, rfl, rfl, ⟨by decide, by decide, by decide⟩, _, _, rfl, rfl, ?_, 10, 40, rfl, rfl, ⟨by decide, by decide, by decide⟩, 0, _, rfl, rfl, by show 2 ≤ sizeLine; decide, fun r2 n2 => ?_⟩
      · exact Int.pow_pos (by decide)
      have ne : r1 ≠ r2 := fun z => by rw [← z, upd_same] at n2; cases n2
      refine ⟨r1, r2, _, _, rfl, rfl, (upd_ne ne).trans upd_same, upd_same, ?_, fun r3 n3 => ?_⟩
      · rw [rgV_length]
        show 37 + 2 ≤ sizeLine
        decide
      refine ⟨r3, rfl, ⟨_, sq_of upd_same⟩, for_list (fun i st' H' => ∃ t6, st' = [some (.ref l), some (.ref p), some (.ref nq), some (.ref d), some (.ref g), some (.ref o), t6, none, none, none, none, none, none, none] ∧ Ex Hb H' ∧ H' r3 = some (.lst (rgV (0 - 12) 25 ++ [V.int (L2.cellOf ns 1 % 10 ^ Int.toNat 59), V.int (0 - 10 ^ Int.toNat 40)]))) ⟨none, rfl, ((eA.trans (Ex.new n1)).trans (Ex.new n2)).trans (Ex.new n3), upd_same⟩ (fun i st' H' _ ⟨_, _, _, z⟩ => sq_of z) ?_ (fun st' H' ⟨t6, z1, z2, _⟩ => ⟨t6, z1, z2⟩)⟩
      rintro i x _ H' hx ⟨t6, rfl, eC, hr3⟩
      have hi : ∃ i, x = V.int i := by
        rcases List.mem_append.mp (List.mem_of_getElem? hx) with h | h
        · exact rg_int h
        · rcases List.mem_cons.mp h with h | h
          · exact ⟨_, h⟩
          · rcases List.mem_cons.mp h with h | h
            · exact ⟨_, h⟩
            · cases h
      obtain ⟨j, rfl⟩ := hi
      exact ⟨_, rfl, _, rfl, _, rfl, o, d, j, a, rfl, rb.mono eC, eC _ _ db, La, fun H'' eD => ⟨true, rfl, ifF Bool.false_ne_true ⟨_, rfl, eC.trans eD, eD _ _ hr3⟩⟩⟩
    rintro _ HB ⟨t6, rfl, eB⟩
    clear eA
    refine ⟨fun st' H' => ∃ t1 t6 t7 t8 t9 t10 t11 t12 t13, st' = [some (.ref l), t1, some (.ref nq), some (.ref d), some (.ref g), some (.ref o), t6, t7, t8, t9, t10, t11, t12, t13] ∧ Ex Hb H', ?_, ?_⟩
    · refine s_forR1 (n := 6) (ea_cons ev_c ea_nil) (by omega) (fun i st' H' => ∃ t1 t6 t7 t8 t9 t10 t11 t12 t13, st' = [some (.ref l), t1, some (.ref nq), some (.ref d), some (.ref g), some (.ref o), t6, t7, t8, t9, t10, t11, t12, t13] ∧ Ex Hb H')
        (fun H1 e => ⟨_, _, _, _, _, _, _, _, _, rfl, eB.trans e⟩) ?_ (fun _ H' h => h)
      rintro k _ HC hk ⟨t1, t6, t7, t8, t9, t10, t11, t12, t13, rfl, eC⟩
      dsimp only
      refine s_seq ?_
      refine ⟨_, rfl, _, rfl, 2, (k : Int), rfl, rfl, l, ns, 2 + k, by rw [Int.natCast_add]; rfl, ex_l eC sb, _, rfl, _, (k : Int), rfl, rfl, _, rfl, fun pp HD npp eD hpp => ?_⟩
      have Q0 : Pl Hb pp 0 HD := ⟨fresh_back eC npp, eC.trans eD, hpp⟩
      dsimp only
      refine s_seq ?_
      refine ⟨_, rfl, _, rfl, _, a.length, rfl, .inl ⟨vtx a, sq_of (Q0.ex _ _ db), (vtx_len a).symm⟩, pp, (a.length : Int), Hb, 0, rfl, by omega, by omega, Q0, by omega, fun r HE r0 r1 Q1 => ?_⟩
      obtain ⟨k2, rfl⟩ := Int.eq_ofNat_of_zero_le r0
      dsimp only
      refine s_seq ?_
      refine el_rot (a := a) (k := k2) (ev_var rfl) (sq_of (Q1.ex _ _ db)) (ev_var rfl) (sq_of (Q1.ex _ _ db)) (ev_var rfl) (ev_var rfl) La.2.2 HE (Ex.refl HE) _ fun x HF nx eF hxF => ?_
      have Q2 : Pl Hb pp 1 HF := Q1.grow eF
      have xp : x ≠ pp := Q1.ne nx
      have xH : Hb x = none := fresh_back Q1.ex nx
      have Lr : Lns (rot a k2) := ⟨rot_nam La.1, by rw [rot_len]; exact La.2.1, by rw [rot_len]; exact La.2.2⟩
      dsimp only
      refine ⟨fun st' H' => st' = [some (.ref l), some (.ref pp), some (.ref nq), some (.ref d), some (.ref g), some (.ref o), t6, some (.int (k : Int)), some (.int (k2 : Int)), some (.ref x), t10, t11, t12, t13] ∧ ∃ b, H' x = some (.lst (vtx b)) ∧ Lns b ∧ Pl Hb pp 10 H', ?_, ?_⟩
      · refine ⟨_, rfl, pp, 2, Wo HF pp, _, rfl, by omega, by omega, Q2.re, by omega, fun r HG r0 r1 Q3 => ?_⟩
        have Q3b : Pl Hb pp 2 HG := Q2.back Q3
        have hxG : HG x = some (.lst (vtx (rot a k2))) := Q3.ex _ _ (wo_at hxF xp)
        refine ⟨rfl, _, rfl, ?_⟩
        refine ite2 (fun _ => ?_) (fun _ => ?_)
        · refine ⟨_, rfl, _, rfl, pp, 4, Wo HG pp, _, rfl, by omega, by omega, Q3b.re, by omega, fun r4 HI r40 r41 Q4 => ?_⟩
          obtain ⟨k4, rfl⟩ := Int.eq_ofNat_of_zero_le r40
          have Q4b : Pl Hb pp 3 HI := Q3b.back Q4
          have hxI : HI x = some (.lst (vtx (rot a k2))) := Q4.ex _ _ (wo_at hxG xp)
          have h4 : k4 < xs.length := by omega
          refine ⟨nq, vtx xs, _, _, rfl, rfl, sq_of (Q4b.ex _ _ nb), at_of rfl (vtx_at (List.getElem?_eq_getElem h4)), ?_⟩
          refine ⟨_, rfl, _, rfl, _, rfl, _, a.length, rfl, .inl ⟨vtx a, sq_of (Q4b.ex _ _ db), (vtx_len a).symm⟩, pp, (a.length : Int), Wo HI pp, _, rfl, by omega, by omega, Q4b.re, by omega, fun r5 HJ r50 r51 Q5 => ?_⟩
          obtain ⟨k5, rfl⟩ := Int.eq_ofNat_of_zero_le r50
          have Q5b : Pl Hb pp 4 HJ := Q4b.back Q5
          have hxJ : HJ x = some (.lst (vtx (rot a k2))) := Q5.ex _ _ (wo_at hxI xp)
          have h5 : k5 < (vtx (rot a k2)).length := by rw [vtx_len, rot_len]; omega
          refine ⟨x, vtx (rot a k2), (k5 : Int), k5, rfl, rfl, hxJ, ixN_nat h5, rfl, (rot a k2).set k5 xs[k4], ?_, ⟨?_, ?_, ?_⟩, ?_⟩
          · rw [upd_same]
            unfold vtx
            rw [List.map_set]
          · intro y hy
            rcases List.mem_or_eq_of_mem_set hy with hy | hy
            · exact Lr.1 y hy
            · rw [hy]
              exact hN.1 _ (List.getElem_mem h4)
          · rw [List.length_set]
            exact Lr.2.1
          · rw [List.length_set]
            exact Lr.2.2
          · have hb := Q5b.cnt (show 4 ≤ 10 by omega)
            refine ⟨hb.no, Ex.mut hb.ex xH, ?_⟩
            obtain ⟨a', b', c', w1, w2⟩ := hb.at_
            exact ⟨a', b', c', by rw [upd_ne xp.symm]; exact w1, w2⟩
        · exact ⟨rfl, _, hxG, Lr, Q3b.cnt (by omega)⟩
      rintro _ HG ⟨rfl, b, hxG, Lb, Q3⟩
      refine ⟨fun st' H' => ∃ y b, st' = [some (.ref l), some (.ref pp), some (.ref nq), some (.ref d), some (.ref g), some (.ref o), t6, some (.int (k : Int)), some (.int (k2 : Int)), some (.ref y), t10, t11, t12, t13] ∧ H' y = some (.lst (vtx b)) ∧ Lns b ∧ Pl Hb pp 100 H', ?_, ?_⟩
      · refine ⟨_, rfl, pp, 4, Wo HG pp, _, rfl, by omega, by omega, Q3.re, by omega, fun r HH r0 r1 Q4 => ?_⟩
        have Q4b : Pl Hb pp 11 HH := Q3.back Q4
        refine ⟨rfl, _, rfl, ?_⟩
        refine ite2 (fun _ => ?_) (fun _ => ?_)
        · refine ⟨_, rfl, _, rfl, pp, nq, xs, 9, Hb, _, rfl, by omega, by omega, Q4b, by omega, nb, by omega, by omega, fun y b2 HI ny Q5 hy b1 b2l b3 => ?_⟩
          exact ⟨y, b2, rfl, hy, ⟨fun z hz => hN.1 z (b3 z hz), b1, Nat.le_trans b2l (by decide)⟩, Q5.cnt (by omega)⟩
        · exact ⟨x, b, rfl, Q4.ex _ _ (wo_at hxG xp), Lb, Q4b.cnt (by omega)⟩
      rintro _ HK ⟨y, b2, rfl, hy, Lb2, QK⟩
      clear Q3 hxG Lb
      refine s_seq ?_
      refine ⟨_, rfl, _, rfl, d, y, a, b2, rfl, QK.ex _ _ db, hy, La, Lb2, fun HM eM => ?_⟩
      have QM : Pl Hb pp 100 HM := QK.grow eM
      have hyM := eM _ _ hy
      dsimp only
      refine s_seq ?_
      refine ⟨_, rfl, _, rfl, y, b2, rfl, .inl (sq_of hyM), Lb2, fun o3 HN eN no3 r3 => ?_⟩
      have xN : Ex Hb HN := QM.ex.trans eN
      obtain ⟨dx3, q3, k1, k2'⟩ := id r3
      refine ⟨o, dx, _, .ref C, rfl, xN _ _ h1, .inl ⟨o3, dx3, _, rfl, k1, rfl⟩, o, .ref o3, a, rfl, rb.mono xN, La, .inl ⟨o3, b2, rfl, r3, Lb2, fun HO eO => ?_⟩⟩
      refine ⟨_, rfl, rfl, _, rfl, ?_⟩
      refine ifF (by rw [decide_eq_true rfl]; decide) ?_
      refine ⟨_, rfl, y, b2, rfl, .inl (sq_of (eO _ _ (eN _ _ hyM))), Lb2, fun o4 HP eP no4 r4 => ?_⟩
      have xP : Ex Hb HP := (xN.trans eO).trans eP
      obtain ⟨dx4, q4, m1, m2⟩ := id r4
      refine ⟨_, rfl, o4, dx4, _, .ref C, rfl, m1, .inl ⟨o, dx, _, rfl, xP _ _ h1, rfl⟩, o4, .ref o, b2, rfl, r4, Lb2, .inl ⟨o, a, rfl, rb.mono xP, La, fun HQ eQ => ?_⟩⟩
      refine ⟨_, rfl, rfl, _, rfl, ?_⟩
      refine ifF (by rw [decide_eq_true (congrArg V.bl (decide_eq_decide.mpr (eq_comm (a := least b2) (b := least a))))]; decide) ?_
      dsimp only
      have QQ : Pl Hb pp 100 HQ := QM.grow (((eN.trans eO).trans eP).trans eQ)
      refine ⟨fun st' H' => ∃ t8 t9 t10 wv ty dd, st' = [some (.ref l), some (.ref pp), some (.ref nq), some (.ref d), some (.ref g), some (.ref o), t6, some (.int (k : Int)), t8, t9, t10, some wv, t12, t13] ∧ Ex Hb H' ∧ Wr wv H' ty ∧ ty ≠ "int" ∧ Dp K H' wv dd ∧ Low dd, ?_, ?_⟩
      · refine ⟨by show 1 ≤ sizeLine; decide, fun tt ntt => ?_⟩
        refine ⟨by show 5 ≤ sizeLine; decide, fun rr nrr => ?_⟩
        have htt : (upd HQ tt (.tup [.int 1])) tt = some (.tup [.int 1]) := upd_same
        have trr : tt ≠ rr := fun z => by rw [← z, htt] at nrr; cases nrr
        have QR : Pl Hb pp 100 (upd (upd HQ tt (.tup [.int 1])) rr (.lst [.bl true, .str (Str.ofString "1"), .non, .ref tt, .bl false])) := (QQ.new ntt).new nrr
        have ttp : tt ≠ pp := QQ.ne ntt
        have rrp : rr ≠ pp := (QQ.new ntt).ne nrr
        refine ⟨_, rfl, pp, 5, Wo _ pp, 100, rfl, by omega, by omega, QR.re, by omega, fun r6 HS r60 r61 Q6 => ?_⟩
        obtain ⟨k6, rfl⟩ := Int.eq_ofNat_of_zero_le r60
        have hS1 : HS tt = some (.tup [.int 1]) := Q6.ex _ _ (wo_at ((upd_ne trr).trans htt) ttp)
        have hS2 : HS rr = some (.lst [.bl true, .str (Str.ofString "1"), .non, .ref tt, .bl false]) := Q6.ex _ _ (wo_at upd_same rrp)
        have xS : Ex Hb HS := (QR.back Q6).ex
        have pick : ∀ k6 : Nat, k6 < 5 → ∃ wv, [V.bl true, .str (Str.ofString "1"), .non, .ref tt, .bl false][k6]? = some wv ∧ ∃ ty dd, Wr wv HS ty ∧ ty ≠ "int" ∧ Dp K HS wv dd ∧ Low dd := by
          intro k6 h6
          match k6, h6 with
          | 0, _ => exact ⟨_, rfl, "bool", .bool true, .inl ⟨_, rfl, rfl⟩, by decide, .bl _, rfl, by decide⟩
          | 1, _ => exact ⟨_, rfl, "str", .str (Str.ofString "1"), .inr (.inr (.inl ⟨_, rfl, rfl⟩)), by decide, .str _, by decide +kernel, by decide⟩
          | 2, _ => exact ⟨_, rfl, "NoneType", .none, .inr (.inr (.inr (.inl ⟨rfl, rfl⟩))), by decide, .non, rfl, by decide⟩
          | 3, _ => exact ⟨_, rfl, "tuple", .tuple [.int 1], .inr (.inr (.inr (.inr (.inl ⟨tt, _, rfl, hS1, rfl⟩)))), by decide, .tup (.inl (.inl hS1)) (.cons (.int 1) .nil), rfl, by decide⟩
          | 4, _ => exact ⟨_, rfl, "bool", .bool false, .inl ⟨_, rfl, rfl⟩, by decide, .bl _, rfl, by decide⟩
        obtain ⟨wv, w1, ty, dd, w2, w3, w4, w5⟩ := pick k6 (by omega)
        exact ⟨rr, _, (k6 : Int), wv, rfl, rfl, sq_of hS2, at_of rfl w1, _, _, _, wv, ty, dd, rfl, xS, w2, w3, w4, w5⟩
      rintro _ HS ⟨t8', t9', t10', wv, ty, dd, rfl, xS, w2, w3, w4, w5⟩
      refine s_forR1 (n := 2) (ea_cons ev_c ea_nil) (by omega) (fun i st' H' => ∃ t12 t13, st' = [some (.ref l), some (.ref pp), some (.ref nq), some (.ref d), some (.ref g), some (.ref o), t6, some (.int (k : Int)), t8', t9', t10', some wv, t12, t13] ∧ Ex HS H')
        (fun H1 e => ⟨_, _, rfl, e⟩) ?_ (fun _ H' ⟨t12, t13, z1, z2⟩ => ⟨_, _, _, _, _, _, _, _, _, z1, xS.trans z2⟩)
      rintro j _ HT hj ⟨t12', t13', rfl, eT⟩
      dsimp only
      refine s_seq ?_
      refine ⟨_, rfl, _, rfl, _, rfl, o, wv, (j : Int), a, ty, rfl, rb.mono (xS.trans eT), La, w2.mono eT, w3, fun lt HU eU nlt hlt => ?_⟩
      have wU := w2.mono (eT.trans eU)
      have dU : Dp K HU wv dd := dp_same (eT.trans eU) w4
      obtain ⟨tn, b1, b2', ny1, ny2, ny3, ny4⟩ := wU.noInt (K := K) w3
      refine ⟨_, rfl, lt, _, 0, _, rfl, rfl, sq_of hlt, at_of (j := 0) rfl rfl, rfl, _, rfl, ?_⟩
      refine ifF (by rw [decide_eq_true rfl]; decide) ?_
      refine ⟨_, rfl, lt, _, 1, _, rfl, rfl, sq_of hlt, at_of (j := 1) rfl rfl, _, rfl, dd, dd, dU, dU, shaped_of w5.1 (by have := w5.2; omega), shaped_of w5.1 (by have := w5.2; omega), _, rfl, ?_⟩
      refine ifF (by rw [eqv_same w5.1]; decide) ?_
      refine ⟨_, rfl, lt, _, 1, _, rfl, rfl, sq_of hlt, at_of (j := 1) rfl rfl, wv, V.ty "bool", .type tn, .type "bool", b2', rfl, .ty _, ny1, kit_ty ny3, _, rfl, wv, V.ty "bool", .type tn, .type "bool", b2', rfl, .ty _, ny1, kit_ty ny3, rfl, _, rfl, ?_⟩
      refine ifF (by rw [decide_eq_true rfl]; decide) ?_
      exact ⟨_, _, rfl, eT.trans eU⟩
    rintro _ HB ⟨t1, t6, t7, t8, t9, t10, t11, t12, t13, rfl, eB⟩
    refine s_seq ?_
    refine ⟨_, rfl, _, rfl, d, vtx a, rfl, .inl ⟨sq_of (eB _ _ db), fun t nt => ?_⟩⟩
    have e1' := eB.trans (Ex.new (o := .tup (vtx a)) nt)
    refine ⟨o, dx, _, .type "tuple", rfl, e1' _ _ h1, .inr ⟨"tuple", .inr (.inr (.inr (.inr (.inl ⟨t, _, rfl, upd_same, rfl⟩)))), rfl⟩, o, .ref t, a, rfl, rb.mono e1', La, .inr ⟨"tuple", .base (.tup upd_same), D.kt _ (by decide), _, rfl, ?_⟩⟩
    refine ifF Bool.false_ne_true ?_
    refine ⟨_, rfl, _, rfl, o, dx, _, .type "list", rfl, e1' _ _ h1, .inr ⟨"list", .inr (.inr (.inr (.inr (.inr ⟨d, _, rfl, e1' _ _ db, rfl⟩)))), rfl⟩, o, .ref d, a, rfl, rb.mono e1', La, .inr ⟨"list", .base (.lst (e1' _ _ db)), D.kt _ (by decide), _, rfl, ?_⟩⟩
    refine ifF Bool.false_ne_true ?_
    refine ⟨_, rfl, o, dx, _, .type "NoneType", rfl, e1' _ _ h1, .inr ⟨"NoneType", .inr (.inr (.inr (.inl ⟨rfl, rfl⟩))), rfl⟩, o, .non, a, rfl, rb.mono e1', La, .inr ⟨"NoneType", .base .non, D.kt _ (by decide), _, rfl, ?_⟩⟩
    refine ifF Bool.false_ne_true ?_
    have Lv : Lns a.reverse := ⟨fun y hy => La.1 y (List.mem_reverse.mp hy), by rw [List.length_reverse]; exact La.2.1, by rw [List.length_reverse]; exact La.2.2⟩
    refine ⟨_, rfl, o, dx, _, rfl, e1' _ _ h1, o, a, rfl, rb.mono e1', La, fun o2 H2 e2 no2 r2 => ?_⟩
    obtain ⟨dx2, q2, g1, g2⟩ := id r2
    have e2' := e1'.trans e2
    refine ⟨o2, dx2, _, rfl, g1, o2, dx2, _, .ref q2, rfl, g1, rfl, ?_⟩
    refine ⟨_, rfl, d, vtx a, rfl, sq_of (e2' _ _ db), fun r nr => ⟨r, _, rfl, .inl ⟨sq_of upd_same, fun t2 nt2 => ?_⟩⟩⟩
    have e3' := e2'.trans ((Ex.new (o := .lst (vtx a).reverse) nr).trans (Ex.new (o := .tup (vtx a).reverse) nt2))
    have sv : SqT K (upd (upd H2 r (.lst (vtx a).reverse)) t2 (.tup (vtx a).reverse)) t2 (vtx a.reverse) := by
      rw [← vtx_rev]
      exact sqt_new
    refine ⟨wd a.reverse, wd a.reverse, dp_wd (ex_t ((Ex.new nr).trans (Ex.new nt2)) g2), dp_wd sv, sh_wd Lv.1, sh_wd Lv.1, _, rfl, ?_⟩
    refine ifT (by rw [eqv_wd]; exact decide_eq_true rfl) ?_
    refine ⟨_, rfl, o, dx, _, rfl, e3' _ _ h1, o, a, rfl, rb.mono e3', La, fun o3 H4 e4 no3 r3 => ?_⟩
    obtain ⟨dx3, q3, k1, k2⟩ := id r3
    have e4' := e3'.trans e4
    refine ⟨o3, dx3, _, rfl, k1, o3, a.reverse, rfl, r3, Lv, fun o4 H5 e5 no4 r4 => ?_⟩
    rw [List.reverse_reverse] at r4
    obtain ⟨dx4, q4, m1, m2⟩ := id r4
    have e5' := e4'.trans e5
    refine ⟨_, rfl, o4, dx4, _, .ref C, rfl, m1, .inl ⟨o, dx, _, rfl, e5' _ _ h1, rfl⟩, o4, .ref o, a, rfl, r4, La, .inl ⟨o, a, rfl, rb.mono e5', La, fun H6 e6 => ⟨_, rfl, ?_⟩⟩⟩
    refine ifT (decide_eq_true rfl) ?_
    have e6' := e5'.trans e6
    refine ⟨_, rfl, o, dx, _, rfl, e6' _ _ h1, o, dx, _, .ref q0, rfl, e6' _ _ h1, rfl, _, rfl, d, vtx a, rfl, .inl ⟨sq_of (e6' _ _ db), fun t5 nt5 => ?_⟩⟩
    refine ⟨wd a, wd a, dp_wd (ex_t (e6'.trans (Ex.new nt5)) h2), dp_wd sqt_new, sh_wd La.1, sh_wd La.1, ?_⟩
    rw [eqv_wd, decide_eq_true rfl]
    exact q _
end
end K07

set_option Elab.async false
set_option linter.all false
set_option maxRecDepth 100000
set_option maxHeartbeats 2000000
/-! The head, with the getters of properties. -/
namespace Vh
open PySem PySem.Spec PyProof.Rows L2
/-- the getter of the property f of the class named c -/
def pgA (K : Fg) (c f : Str) : Addr := match PySem.W.recIn K (He.ma K (He.ga K c) f) "property" with
  | some (.ref g :: _) => g
  | _ => 0
def fnX (K : Fg) (a : Addr) : He.FnW := match K.lookup a with
  | some ⟨_, _, .func x, _⟩ => some (x.name, x.qualname, x.params, x.body, x.scope, x.globals, x.closure, x.builtins)
  | _ => none
def okX (K : Fg) (a : Addr) (q : Str) : Bool := PySem.W.keepIn K (.ref a) && (match K.lookup a with
  | some ⟨_, _, .func x, _⟩ => PySem.W.codeIn K x.code q && (He.dflB K x.defaults [] && He.kwdB K x.kwdefaults [])
  | _ => false)
theorem funX {K : Fg} {a : Addr} {d : He.DefD} (e : fnX K a = d.val) (c : okX K a d.qual = true) : ∃ fd, FunD K d.name d.qual d.params d.body d.scope [] [] a fd := by
  obtain ⟨kp, c2⟩ := He.ba c
  unfold fnX at e
  cases q : K.lookup a with
  | none =>
    rw [q] at c2
    cases c2
  | some o =>
    obtain ⟨w1, w2, w3, w4⟩ := o
    rw [q] at c2 e
    cases w3 with
    | func x =>
      obtain ⟨n1, n2, n3, n4, n5, n6, n7, n8, n9, n10, n11, n12, n13, n14, n15⟩ := x
      have e3 : (some (n1, n2, n3, n4, n5, n6, n7, n15) : He.FnW) = some (d.name, d.qual, d.params, .stmts d.body, d.scope, mainGlobals, [], builtinsNs) := e
      injection e3 with e3
      injection e3 with h1 e3
      injection e3 with h2 e3
      injection e3 with h3 e3
      injection e3 with h4 e3
      injection e3 with h5 e3
      injection e3 with h6 e3
      injection e3 with h7 h8
      subst h1 h2 h3 h4 h5 h6 h7 h8
      have c4 : (PySem.W.codeIn K n13 d.qual && (He.dflB K n8 [] && He.kwdB K n9 [])) = true := c2
      obtain ⟨g1, g2⟩ := He.ba c4
      obtain ⟨g3, g4⟩ := He.ba g2
      exact ⟨_, ⟨w1, w2, n8, n9, n10, n11, n12, n13, n14, w4, rfl, q, g1, He.dflB_ok g3, He.kwdB_ok g4⟩, kp⟩
    | _ => cases c2
abbrev PrD : Type := (Str × Str) × He.DefD
def obsP (f : Fg → Bool) (fn : List He.DefD) (pr : List PrD) (K : Fg) : He.AlD :=
  (f K && (fn.all (fun d => d.ok K) && pr.all fun q => okX K (pgA K q.1.1 q.1.2) q.2.qual), fn.map (fun d => He.fnW K d.at_) ++ pr.map fun q => fnX K (pgA K q.1.1 q.1.2))
def valP (fn : List He.DefD) (pr : List PrD) : He.AlD := (true, fn.map He.DefD.val ++ pr.map fun q => q.2.val)
def SaysP (f : Fg → Bool) (fn : List He.DefD) (pr : List PrD) (K : Fg) : Prop := obsP f fn pr K = valP fn pr
def obsPG (n : Nat) (f : Fg → Bool) (fn : List He.DefD) (pr : List PrD) (g : Addr → Option Obj) : He.AlD :=
  obsP f fn pr (He.frG g (He.asD g n))
def hookP (n : Nat) (f : Fg → Bool) (fn : List He.DefD) (pr : List PrD) : PySem.W.Hook where
  α := He.AlD
  obs := fun t => obsPG n f fn pr t.heap.get?
  val := fun _ => valP fn pr
  says := fun _ h => ∃ K : Fg, K.In h ∧ SaysP f fn pr K
  of := fun _ _ e => ⟨_, He.frG_in, e⟩
  keeps := fun _ _ _ ⟨K, hK, c⟩ k => ⟨K, PySem.W.Frag.In.keeps hK k, c⟩
theorem obsPG_eq {n : Nat} {f : Fg → Bool} {fn : List He.DefD} {pr : List PrD} {g : Addr → Option Obj} {t : Shared}
    (h : ∀ a, g a = t.heap.get? a) : obsPG n f fn pr g = (hookP n f fn pr).obs t := by
  have e : g = t.heap.get? := funext h
  rw [e] <;> rfl
section
variable {f : Fg → Bool} {fn : List He.DefD} {pr : List PrD} {K : Fg}
theorem SaysP.one (c : SaysP f fn pr K) : f K = true ∧ (∀ d ∈ fn, d.ok K = true) ∧ ∀ q ∈ pr, okX K (pgA K q.1.1 q.1.2) q.2.qual = true := by
  obtain ⟨h1, h2⟩ := He.ba (show (f K && (fn.all (fun d => d.ok K) && pr.all fun q => okX K (pgA K q.1.1 q.1.2) q.2.qual)) = true from congrArg (fun z : He.AlD => z.1) c)
  obtain ⟨h3, h4⟩ := He.ba h2
  exact ⟨h1, List.all_eq_true.mp h3, List.all_eq_true.mp h4⟩
theorem SaysP.two (c : SaysP f fn pr K) : fn.map (fun d => He.fnW K d.at_) = fn.map He.DefD.val ∧ pr.map (fun q => fnX K (pgA K q.1.1 q.1.2)) = pr.map fun q => q.2.val := by
  have e : fn.map (fun d => He.fnW K d.at_) ++ pr.map (fun q => fnX K (pgA K q.1.1 q.1.2)) = fn.map He.DefD.val ++ pr.map fun q => q.2.val := congrArg (fun z : He.AlD => z.2) c
  exact List.append_inj e (by rw [List.length_map, List.length_map])
theorem SaysP.def_ (c : SaysP f fn pr K) (i : Nat) {d : He.DefD} (h : fn[i]? = some d := by rfl) :
    ∃ fd, FunD K d.name d.qual d.params d.body d.scope (d.dvs K) (d.kws K) (He.fAd K d.at_) fd := by
  have e2 : (fn.map fun d => He.fnW K d.at_)[i]? = (fn.map He.DefD.val)[i]? := by rw [c.two.1]
  rw [List.getElem?_map, List.getElem?_map, h] at e2
  exact He.DefD.funD (Option.some.inj e2) (c.one.2.1 d (List.mem_of_getElem? h))
theorem SaysP.prp (c : SaysP f fn pr K) (i : Nat) {q : PrD} (h : pr[i]? = some q := by rfl) :
    ∃ fd, FunD K q.2.name q.2.qual q.2.params q.2.body q.2.scope [] [] (pgA K q.1.1 q.1.2) fd := by
  have e2 : (pr.map fun q => fnX K (pgA K q.1.1 q.1.2))[i]? = (pr.map fun q => q.2.val)[i]? := by rw [c.two.2]
  rw [List.getElem?_map, List.getElem?_map, h] at e2
  exact funX (Option.some.inj e2) (c.one.2.2 q (List.mem_of_getElem? h))
end
end Vh

set_option Elab.async false
set_option linter.all false
set_option maxRecDepth 100000
set_option maxHeartbeats 0
namespace K07
open PySem PySem.Spec PyProof.Rows L2 Vh
abbrev R : Str := "Round"
abbrev N : Str := "BadNumber"
abbrev iniN : Stmt := (clB (top 5)).getD 0 (.Pass ⟨0, 0, 0, 0⟩)
def fn : List He.DefD := [gD (top 18) "_law_cell", gD (top 19) "_law_pool", gD (top 20) "_law_take", gD (top 21) "_law_names", gD (top 22) "_law_word", gD (top 23) "_law_told", gD (top 24) "_law_turned_alike", gD (top 25) "_law_places", gD (top 26) "law",
  gD (top 10) "is_name", gD (top 11) "is_integer", gD (top 12) "check_name", gD (top 13) "check_sequence", gD (top 16) "least_turn",
  mD (mem 0) "Round" "__init__" "Round.__init__", mD (mem 6) "Round" "__getitem__" "Round.__getitem__", mD (mem 7) "Round" "__len__" "Round.__len__", mD (mem 10) "Round" "__eq__" "Round.__eq__", mD (mem 12) "Round" "__lshift__" "Round.__lshift__", mD (mem 13) "Round" "__neg__" "Round.__neg__",
  mD iniN "BadNumber" "__init__" "BadNumber.__init__"]
def pr : List PrD := [(("Round", "lanes"), mD (mem 1) "Round" "lanes" "Round.lanes")]
def globals : List Str := ["Round", "BadNumber", "is_name", "is_integer", "check_name", "check_sequence", "least_turn", "_law_cell", "_law_pool", "_law_take", "_law_names", "_law_word", "_law_told", "_law_turned_alike", "_law_places", "law"]
def frees : List Str := ["len", "int", "str", "isinstance", "range", "tuple", "list", "bool", "all"]
def shlB (K : Fg) (C : Addr) : Bool := PySem.W.selfFirst K C && (He.eqO (PySem.W.findIn K (.ref C) (PySem.dunder "lshift")) (some (some (.ref (He.ma K C "__lshift__")))) && (PySem.W.isFn K (.ref (He.ma K C "__lshift__")) && He.eqO (PySem.W.findIn K (.ref C) (dunderR "lshift")) (some none)))
def farB (K : Fg) (C : Addr) (t : String) : Bool := (PySem.W.findIn K (.type t) (PySem.dunder "lshift")).isSome && ((PySem.W.findIn K (.type t) (dunderR "lshift")).isSome && decide (PySem.W.subIn K (.type t) (.ref C) = some false))
def prpB (K : Fg) (C p : Addr) : Bool := He.eqO (PySem.W.findIn K (.ref C) "lanes") (some (some (.ref p))) && (He.eqO (PySem.W.specialIn K (.ref p) "__get__") (some (some (.builtin "property.__get__"))) && (decide (PySem.W.takesIn K (.ref p) = some true) &&
  (match PySem.W.recIn K p "property" with
    | some (.ref _ :: _) => true
    | _ => false)))
def insB (K : Fg) (C : Addr) : Bool := He.eqO (PySem.W.findIn K (.ref C) "__class__") (some (some (.builtin "object.__class__"))) && (decide (PySem.W.mroIn K C (.type "object") = some true) && decide (PySem.W.kitOne K (.ref C) (.ref C) = some true))
def facts (K : Fg) : Bool :=
  (globals.all fun x => (He.Fa.glo x).ok K) && ((frees.all fun x => (He.Fa.free x).ok K) &&
  ((He.Fa.str "LETTERS" (Vp.tx Vp.letters)).ok K && ((He.Fa.str "DIGITS" (Vp.tx Vp.digits)).ok K && ((He.Fa.int "LONGEST" 8).ok K &&
  ((He.Fa.cls R).ok K && ((He.Fa.noat R "_lanes").ok K && ((He.Fa.mkr R).ok K &&
  ((["__getitem__", "__len__", "__eq__", "__neg__"] : List Str).all (fun m => (He.Fa.meth R m).ok K) && (PySem.W.fnIn K (He.ma K (He.ga K R) "__getitem__") && (shlB K (He.ga K R) &&
  (tyNames.all (fun t => farB K (He.ga K R) t && (PySem.W.notFirst K (He.ga K R) (.type t) && decide (PySem.W.kitOne K (.type t) (.ref (He.ga K R)) = some false))) &&
  (prpB K (He.ga K R) (He.ma K (He.ga K R) "lanes") && (Vo.neB K (He.ga K R) (He.ma K (He.ga K R) "__eq__") && (insB K (He.ga K R) && (takB K &&
  (errB K (He.ga K N) && (iniB K (He.ga K N) ["value"] && (He.Fa.exm N N true).ok K)))))))))))))))))
abbrev Rw : PySem.W.OpenRow := PySem.W.OpenLaw.row PySem.Challenge.rw_alsoshown_k07_rounds_turned
abbrev hk : PySem.W.Hook := hookP 5 facts fn pr
def ob (s : PySem.W.SharedT) : He.AlD := obsPG 5 facts fn pr (HandSHeadRun.getT s)
theorem ob_eq (s : PySem.W.SharedT) : ob s = hk.obs s.abs := obsPG_eq (HandSHeadRun.getT_eq s)
def loose : List Str := (["_wall", "__name__", "ShowError", "BadName", "EmptyWalk", "Round", "BadNumber", "is_name", "is_integer", "check_name", "check_sequence", "least_turn", "_law_cell", "_law_pool", "_law_take", "_law_names", "_law_word", "_law_told", "_law_turned_alike", "_law_places", "LETTERS", "DIGITS", "LONGEST"] : List Str)
theorem run (w : World) : HandSHeadRun.RunEq Rw (PySem.W.view Rw.prog [26]) hk ob 20000 loose w := by
  intro os
  kernel_rfl
end K07

set_option Elab.async false
set_option linter.all false
set_option maxRecDepth 100000
set_option maxHeartbeats 4000000
namespace K07
open PySem PySem.Spec PyProof.Rows L2 Vl Evl Vh
theorem far_ok {K : Fg} {C : Addr} {t : String} (h : farB K C t = true) : Vo.Far K C "lshift" t := by
  obtain ⟨h1, h⟩ := He.ba h
  obtain ⟨h2, h3⟩ := He.ba h
  exact ⟨Option.isSome_iff_exists.mp h1, Option.isSome_iff_exists.mp h2, of_decide_eq_true h3⟩
theorem shl_ok {K : Fg} {C : Addr} (h : shlB K C = true) : Vo.OwnOp K C "lshift" (He.ma K C "__lshift__") := by
  obtain ⟨h1, h⟩ := He.ba h
  obtain ⟨h2, h⟩ := He.ba h
  obtain ⟨h3, h4⟩ := He.ba h
  exact ⟨h1, He.eqO_ok h2, h3, He.eqO_ok h4⟩
theorem prp_ok {K : Fg} (h : prpB K (He.ga K R) (He.ma K (He.ga K R) "lanes") = true) : PropOf K (He.ga K R) "lanes" (He.ma K (He.ga K R) "lanes") (pgA K R "lanes") := by
  obtain ⟨h1, h⟩ := He.ba h
  obtain ⟨h2, h⟩ := He.ba h
  obtain ⟨h3, h4⟩ := He.ba h
  refine ⟨He.eqO_ok h1, He.eqO_ok h2, of_decide_eq_true h3, ?_⟩
  unfold pgA
  split at h4
  · next g rest e => exact ⟨rest, by rw [e]⟩
  · cases h4
theorem ins_ok {K : Fg} {C : Addr} (c : L2.Cls K C) (h : insB K C = true) (hk : takB K = true) : C8.InsC K C := by
  obtain ⟨h1, h⟩ := He.ba h
  obtain ⟨h2, h3⟩ := He.ba h
  obtain ⟨k1, k2⟩ := He.ba hk
  exact ⟨c, He.eqO_ok h1, He.eqO_ok k1, of_decide_eq_true k2, of_decide_eq_true h2, of_decide_eq_true h3⟩
theorem facts_ok {P : Program} {w : World} {K : PySem.W.Frag} {h : Heap} {mg : Str → Option Value} {f : Addr} (X : K.In h) (G : h.Ns mainGlobals mg) (hfa : mg ("law" : Str) = some (.ref f)) (c : SaysP facts fn pr K) :
    ∃ fd : FuncData, (∀ (s : Shared) (v : Value), BindsTo s fd ⟨[v], []⟩ [("_law_script", v)]) ∧ ∀ base : Heap, K.In base → base.Ns mainGlobals mg → FnOk P w K mg base CX0 9 f fd ["_law_script"] (spLaw7 K) := by
  obtain ⟨a1, c1⟩ := He.ba (show ((globals.all fun x => (He.Fa.glo x).ok K) && _) = true from c.one.1)
  obtain ⟨a2, c1⟩ := He.ba c1
  obtain ⟨a3, c1⟩ := He.ba c1
  obtain ⟨a4, c1⟩ := He.ba c1
  obtain ⟨a5, c1⟩ := He.ba c1
  obtain ⟨a6, c1⟩ := He.ba c1
  obtain ⟨a7, c1⟩ := He.ba c1
  obtain ⟨a8, c1⟩ := He.ba c1
  obtain ⟨a9, c1⟩ := He.ba c1
  obtain ⟨a10, c1⟩ := He.ba c1
  obtain ⟨a11, c1⟩ := He.ba c1
  obtain ⟨a12, c1⟩ := He.ba c1
  obtain ⟨a13, c1⟩ := He.ba c1
  obtain ⟨a14, c1⟩ := He.ba c1
  obtain ⟨a15, c1⟩ := He.ba c1
  obtain ⟨a16, c1⟩ := He.ba c1
  obtain ⟨a17, c1⟩ := He.ba c1
  obtain ⟨a18, a19⟩ := He.ba c1
  have gg : ∀ x ∈ globals, mg x = some (.ref (He.ga K x)) := fun x hx => He.glo_ok X G (List.all_eq_true.mp a1 x hx)
  have fr : ∀ x ∈ frees, mg x = none := fun x hx => He.free_ok X G (List.all_eq_true.mp a2 x hx)
  have gL := He.str_ok X G a3
  have gDg := He.str_ok X G a4
  have gO := He.int_ok X G a5
  have cls := He.cls_ok a6
  have no := He.noat_ok a7
  have M := He.mkr_ok a8
  have me : ∀ m ∈ (["__getitem__", "__len__", "__eq__", "__neg__"] : List Str), Meth K (He.ga K R) m (He.ma K (He.ga K R) m) := fun m hm => He.meth_ok (List.all_eq_true.mp a9 m hm)
  have t12 : ∀ t ∈ tyNames, Vo.Far K (He.ga K R) "lshift" t ∧ PySem.W.notFirst K (He.ga K R) (.type t) = true ∧ PySem.W.kitOne K (.type t) (.ref (He.ga K R)) = some false := fun t ht => by
    obtain ⟨x1, x2⟩ := He.ba (List.all_eq_true.mp a12 t ht)
    obtain ⟨x3, x4⟩ := He.ba x2
    exact ⟨far_ok x1, x3, of_decide_eq_true x4⟩
  have pp := prp_ok a13
  have ins := ins_ok cls a15 a16
  obtain ⟨O, XF, IS⟩ := errB_ok a17 a16
  have I := iniB_ok a18
  have hE : PySem.W.exmOne K (.ref (He.ga K N)) (.ref (He.ga K N)) = some true := of_decide_eq_true a19
  obtain ⟨fd0, D0⟩ := c.def_ 0 (d := gD (top 18) "_law_cell") rfl
  obtain ⟨fd1, D1⟩ := c.def_ 1 (d := gD (top 19) "_law_pool") rfl
  obtain ⟨fd2, D2⟩ := c.def_ 2 (d := gD (top 20) "_law_take") rfl
  obtain ⟨fd3, D3⟩ := c.def_ 3 (d := gD (top 21) "_law_names") rfl
  obtain ⟨fd4, D4⟩ := c.def_ 4 (d := gD (top 22) "_law_word") rfl
  obtain ⟨fd5, D5⟩ := c.def_ 5 (d := gD (top 23) "_law_told") rfl
  obtain ⟨fd6, D6⟩ := c.def_ 6 (d := gD (top 24) "_law_turned_alike") rfl
  obtain ⟨fd7, D7⟩ := c.def_ 7 (d := gD (top 25) "_law_places") rfl
  obtain ⟨fd, D8⟩ := c.def_ 8 (d := gD (top 26) "law") rfl
  obtain ⟨fd9, D9⟩ := c.def_ 9 (d := gD (top 10) "is_name") rfl
  obtain ⟨fd10, D10⟩ := c.def_ 10 (d := gD (top 11) "is_integer") rfl
  obtain ⟨fd11, D11⟩ := c.def_ 11 (d := gD (top 12) "check_name") rfl
  obtain ⟨fd12, D12⟩ := c.def_ 12 (d := gD (top 13) "check_sequence") rfl
  obtain ⟨fd13, D13⟩ := c.def_ 13 (d := gD (top 16) "least_turn") rfl
  obtain ⟨fd14, D14⟩ := c.def_ 14 (d := mD (mem 0) "Round" "__init__" "Round.__init__") rfl
  obtain ⟨fd15, D15⟩ := c.def_ 15 (d := mD (mem 6) "Round" "__getitem__" "Round.__getitem__") rfl
  obtain ⟨fd16, D16⟩ := c.def_ 16 (d := mD (mem 7) "Round" "__len__" "Round.__len__") rfl
  obtain ⟨fd17, D17⟩ := c.def_ 17 (d := mD (mem 10) "Round" "__eq__" "Round.__eq__") rfl
  obtain ⟨fd18, D18⟩ := c.def_ 18 (d := mD (mem 12) "Round" "__lshift__" "Round.__lshift__") rfl
  obtain ⟨fd19, D19⟩ := c.def_ 19 (d := mD (mem 13) "Round" "__neg__" "Round.__neg__") rfl
  obtain ⟨fd20, D20⟩ := c.def_ 20 (d := mD iniN "BadNumber" "__init__" "BadNumber.__init__") rfl
  obtain ⟨fdP, P0⟩ := c.prp 0 (q := (("Round", "lanes"), mD (mem 1) "Round" "lanes" "Round.lanes")) rfl
  have e := hfa.symm.trans (gg "law" (by decide))
  cases e
  have b := FunD.bindsA (ps := ["_law_script"]) D8 fun _ _ _ _ _ _ us hl => match us, hl with | [_], _ => rfl
  have bR : Binds K fd14 ["self", "lanes"] [] := FunD.bindsN D14 fun _ _ _ _ _ _ us hl => match us, hl with | [_, _], _ => rfl
  have bE : Binds K fd20 ["self", "value"] [] := FunD.bindsN D20 fun _ _ _ _ _ _ us hl => match us, hl with | [_, _], _ => rfl
  have bG : Binds K fd15 ["self", "at"] [] := FunD.bindsN D15 fun _ _ _ _ _ _ us hl => match us, hl with | [_, _], _ => rfl
  have bS : Binds K fd18 ["self", "other"] [] := FunD.bindsN D18 fun _ _ _ _ _ _ us hl => match us, hl with | [_, _], _ => rfl
  have bQ : Binds K fd17 ["self", "other"] [] := FunD.bindsN D17 fun _ _ _ _ _ _ us hl => match us, hl with | [_, _], _ => rfl
  have bN : Binds K fd16 ["self"] [] := FunD.bindsN D16 fun _ _ _ _ _ _ us hl => match us, hl with | [_], _ => rfl
  have bM : Binds K fd19 ["self"] [] := FunD.bindsN D19 fun _ _ _ _ _ _ us hl => match us, hl with | [_], _ => rfl
  have bL : Binds K fdP ["self"] [] := FunD.bindsN P0 fun _ _ _ _ _ _ us hl => match us, hl with | [_], _ => rfl
  refine ⟨fd, fun s v => b s [v] rfl, fun base _ _ => ?_⟩
  have GI : FnOk P w K mg base CX0 1 _ fd9 ["value"] spIsName := ok_isname D9 (fr "isinstance" (by decide)) (fr "str" (by decide)) (fr "len" (by decide)) (fr "all" (by decide)) gL gDg gO
  have GCn : FnOk P w K mg base CX0 2 _ fd11 ["value"] spChkN := ok_chkn D11 D9 (gg "is_name" (by decide)) GI
  have GCs : FnOk P w K mg base CX0 3 _ fd12 ["names"] (spChkS K) := ok_chks D12 D11 (gg "check_name" (by decide)) (fr "len" (by decide)) GCn
  have GIn : FnOk P w K mg base CX0 1 _ fd10 ["value"] (spIsInt K) := ok_isint D10 (fr "isinstance" (by decide)) (fr "int" (by decide)) (fr "bool" (by decide))
  have GLt : FnOk P w K mg base CX0 1 _ fd13 ["lanes"] (spLeast K) := ok_least D13 (fr "len" (by decide)) (fr "range" (by decide))
  have GR : FnOk P w K mg base CX0 4 _ fd14 ["self", "lanes"] (spIniR K (He.ga K R)) := ok_ini D14 cls no D12 (gg "check_sequence" (by decide)) (fr "tuple" (by decide)) GCs
  have GE : FnOk P w K mg base CX0 1 _ fd20 ["self", "value"] (spIni (He.ga K N) "value") := ok_ini1 (f := "value") D20 ⟨rfl, rfl, rfl, by decide +kernel, rfl, by decide +kernel, by decide +kernel⟩ rfl O (I.no "value" (by decide)) (by decide) (by decide)
  have GG : FnOk P w K mg base (L2.CX P w) 3 _ fd15 ["self", "at"] (spGet K (He.ga K R) (He.ga K N)) := ok_get D15 cls no (fr "len" (by decide)) D10 (gg "is_integer" (by decide)) GIn O I.iC I.tI (gg "BadNumber" (by decide)) bE GE
  have GLn : FnOk P w K mg base CX0 1 _ fd16 ["self"] (spLen K (He.ga K R)) := ok_len D16 cls no (fr "len" (by decide))
  have GEq : FnOk P w K mg base CX0 2 _ fd17 ["self", "other"] (spEq K (He.ga K R)) := ok_eq D17 ins no (fr "isinstance" (by decide)) (gg "Round" (by decide)) D13 (gg "least_turn" (by decide)) GLt
  have GS : FnOk P w K mg base (L2.CX P w) 6 _ fd18 ["self", "other"] (spShl K (He.ga K R) (He.ga K N)) := ok_shl D18 cls no (fr "len" (by decide)) D10 (gg "is_integer" (by decide)) GIn O I.iC I.tI (gg "BadNumber" (by decide)) bE GE (gg "Round" (by decide)) M bR GR
  have GN : FnOk P w K mg base CX0 6 _ fd19 ["self"] (spNeg K (He.ga K R)) := ok_neg D19 cls no (gg "Round" (by decide)) M bR GR
  have GLa : FnOk P w K mg base CX0 1 _ fdP ["self"] (getSp (He.ga K R) "_lanes") := ok_lanes P0 cls no
  have nfC : PySem.W.notFirst K (He.ga K R) (.ref (He.ga K R)) = true := by
    unfold PySem.W.notFirst
    rw [beq_self_eq_true, Bool.true_or]
  have D : RD P w K mg base (He.ga K R) (He.ga K N) :=
    { cls := cls, get := ⟨_, _, me "__getitem__" (by decide), a10, bG, GG⟩, shl := ⟨_, _, shl_ok a11, bS, GS⟩, far := fun t ht => (t12 t ht).1, lan := ⟨_, _, _, pp, bL, GLa⟩, eq := ⟨_, _, me "__eq__" (by decide), a14, bQ, GEq⟩,
      nf := ⟨nfC, fun t ht => (t12 t ht).2.1⟩, kt := fun t ht => (t12 t ht).2.2, len := ⟨_, _, me "__len__" (by decide), bN, GLn⟩, neg := ⟨_, _, me "__neg__" (by decide), bM, GN⟩, new := ⟨_, _, M, bR, GR⟩, gR := (gg "Round" (by decide)) }
  have GPl := ok_places D7 D (fr "len" (by decide)) (fr "tuple" (by decide))
  have GTd := ok_told (C := He.ga K R) (CN := He.ga K N) (base := base) D5 cls (me "__getitem__" (by decide)) a10 bG GG (shl_ok a11) (fun t ht => (t12 t ht).1) bS GS pp bL GLa (gg "BadNumber" (by decide)) XF (I.no "value" (by decide)) hE
  exact ok_law7 D8 D0 D1 D2 D3 D4 D6 D7 D5 D GPl GTd (gg "_law_cell" (by decide)) (gg "_law_pool" (by decide)) (gg "_law_take" (by decide)) (gg "_law_names" (by decide)) (gg "_law_word" (by decide)) (gg "_law_turned_alike" (by decide)) (gg "_law_places" (by decide)) (gg "_law_told" (by decide))
    (fr "len" (by decide)) (fr "int" (by decide)) (fr "isinstance" (by decide)) (fr "range" (by decide)) (fr "tuple" (by decide)) (fr "list" (by decide)) (fr "bool" (by decide))
end K07
open PySem PySem.W PySem.Calls PyProof.Rows
theorem PySem.Challenge.cw_alsoshown_k07_rounds_turned_holds : PySem.Challenge.rw_alsoshown_k07_rounds_turned.Holds := by
  w_on; o_law
  refine HandSHeadRun.head_any (r := OpenLaw.row PySem.Challenge.rw_alsoshown_k07_rounds_turned) (q := view (OpenLaw.row PySem.Challenge.rw_alsoshown_k07_rounds_turned).prog [26]) (H := K07.hk) (ob := K07.ob) (M := 20000) (loose := K07.loose)
    (d := HandSHeadRun.topDef (OpenLaw.row PySem.Challenge.rw_alsoshown_k07_rounds_turned).prog 26) (kwd := []) K07.ob_eq
    (by kernel_rfl) (fun s => by kernel_rfl) K07.run (by kernel_rfl) (by kernel_rfl) (by kernel_rfl) (by rfl) (by first | assumption | decide +kernel) (by decide +kernel) ⟨rfl, rfl, rfl, rfl, rfl, by decide +kernel⟩ ?hw ?hc
  case hw => w_witness2
  case hc =>
    refine L2.walk_ofE (l := PySem.Challenge.rw_alsoshown_k07_rounds_turned) (n := 63) (k := 9) (x := "_law_script") (CX := L2.CX0) rfl (by decide) (by kernel_rfl) ⟨rfl, by decide, by decide⟩ ?F (fun _ _ _ _ z => z)
    intro w mg fa h Y G hmg0
    obtain ⟨K, KX, c⟩ := Y
    have hmg : mg ("law" : PySem.Str) = some (.ref fa) := by
      have e : (HandSHeadRun.topDef (OpenLaw.row PySem.Challenge.rw_alsoshown_k07_rounds_turned).prog 26).name = ("law" : PySem.Str) := by kernel_rfl
      rw [← e]
      exact hmg0
    obtain ⟨fd, hb, hF⟩ := K07.facts_ok (P := (PySem.Challenge.rw_alsoshown_k07_rounds_turned).prog) (w := w) KX G hmg c
    exact ⟨K, fd, K07.spLaw7 K, KX, hb, fun H a ns hl _ hS => ⟨a, ns, rfl, hS, fun _ => rfl⟩, hF⟩
#print axioms PySem.Challenge.cw_alsoshown_k07_rounds_turned_holds
