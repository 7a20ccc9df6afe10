import PyProof.Rows.All
import Wide.All
import OpenK.AllK
import Wide.FinOn
import HandS.ForMost
import HandS.ForExc
import HandS.ExcInit
import HandS.IsInst
import HandS.ExcField
import HandS.HeadHook1
import KE.KExcIs
import HandS.Wide
import HandS.Evl
import PyProof.Rows.ReprOcc
import HandS.LawCells
import HandS.Defaults
import KE.KStateDown
import KE.KIsAll
import Lean
import HandS.Head0
import HandS.Head1
import HandS.Head2
import HandS.HeadEnd
import HandS.HeadHook2
import HandS.EndBits
import HandS.Walk
import HandS.NoneIn
import HandS.More
import PySem.Challenge.RW_alsoshown_k01_errors_made
set_option Elab.async false
set_option linter.all false
set_option maxRecDepth 100000
set_option maxHeartbeats 2000000
/-! Exceptions of the program as values: made by a call, kept, read, asked for their class. -/
namespace Vx
open PySem PySem.Spec PyProof.Rows L2
section
variable {X : Cx} {C fI : Addr} {k : Nat} {fd : FuncData} {ps : List Str}
variable {sp : Sp} {e : Expr} {es : List Expr} {ta : TA} {te : TE} {x f : Str}
variable {p pos : Pos}
/-- C(e, ..) for a value: the exception stays tracked -/
def tMkV (C : Addr) (sp : Sp) (ta : TA) : TE := fun st H Q =>
  ta st H fun vs H1 => vs.length ≤ 1000 ∧ ∀ a, H1 a = none →
    sp (.ref a :: vs) (upd H1 a (exo a C none))
      (fun v H2 => v = .non ∧ Q (.ref a) H2) (fun _ _ _ => False)
theorem pe_mkV (T : OexC X.K C)
    (iC : PySem.W.findIn X.K (.ref C) "__init__" = some (some (.ref fI)))
    (tI : PySem.W.typeIn X.K (.ref fI) = some (.type "function"))
    (F1 : FnOk X.prog X.w X.K X.mg X.base CX0 k fI fd ps sp)
    (hr : Room (k + 1) X.A) (hb : Binds X.K fd ps []) (hg : Gl X x)
    (hm : X.mg x = some (.ref C)) (ha : PA X (e :: es) ta)
    (hdb : (x == ("__debug__" : Str)) = false := by decide)
    (he : starEach (e :: es) X.env = (false, eval e X.env) :: starEach es X.env := by rfl)
    (hpl : (backTo pos (starEach es X.env)).any (·.1) = false := by rfl) :
    PE X (.Call (.Name x p) (e :: es) [] pos) (tMkV C sp ta) := by
  refine ⟨fun pins s σ H Q I h => ?_⟩
  obtain ⟨nm, q, N, bs, bm, sn, sub, ab, col, dd, k0, k1, k2, k3, k5, hC, hbm⟩ := T.cls
  refine wpAny_Call_Name_kw (ld_glob I hg hm ?_ hdb)
  refine PySem.W.callWith_K (h₀ := X.base) I.ok.mod.kin T.kC ?_ he hpl
  refine thn (ha.run pos pins s σ H _ I h) ?_
  rintro us s1 ⟨vs, H1, I1, r1, hz, q1⟩
  refine ⟨I1.kIn, ?_⟩
  show wpAny _ _ (call (.ref C) us) _ _ _
  obtain ⟨hp, g, dr, tk, os⟩ := s1
  let h2 : Heap := (hp.push (PySem.W.kdv_tup us)).push (PySem.HandSPX.excO C hp.objs.size)
  have hsz : hp.objs.size ≤ hp.objs.size + 1 := Nat.le_succ _
  have hn : H1 (hp.objs.size + 1) = none := I1.hok.fresh hsz
  have hq := q1 (hp.objs.size + 1) hn
  have kk : ∀ b o, hp.get? b = some o → h2.get? b = some o := by
    intro b o eb
    exact Heap.get?_push_of_some _ (Heap.get?_push_of_some _ eb)
  have hget : h2.get? (hp.objs.size + 1) = some (PySem.HandSPX.excO C hp.objs.size) := by
    show ((hp.push _).push _).get? _ = _
    heap_get
  have I2 : Inv X pins σ (upd H1 (hp.objs.size + 1) (exo (hp.objs.size + 1) C none)) ⟨h2, g, dr, tk, os⟩ :=
    Inv.laid (s := ⟨hp, g, dr, tk, os⟩) (t' := tk) I1 kk hsz (exo_ok hget)
  have r2 : Vals (V.ref (hp.objs.size + 1) :: vs) (Value.ref (hp.objs.size + 1) :: us) := .cons rfl r1
  have hl : (Value.ref (hp.objs.size + 1) :: us ++ []).length = ps.length := by
    have e1 := r2.length
    rw [F1.len _ _ _ _ hq] at e1
    rw [List.append_nil]
    exact e1.symm
  have hus : us.length ≤ sizeLine := by
    have e1 := Paired.length r1
    rw [sizeLine_eq]
    omega
  have hbb := hb ⟨h2, g, dr, tk, os⟩ (Value.ref (hp.objs.size + 1) :: us) I2.kIn hl
  rw [List.append_nil] at hbb
  have run := F1.run (X.A.under (.builtin "type.__call__" ⟨.ref C :: us, []⟩)) X.stack
    ⟨h2, g, dr, tk, os⟩ _ ⟨Value.ref (hp.objs.size + 1) :: us, []⟩
    (Value.ref (hp.objs.size + 1) :: us) _ _ (fun _ _ _ => False)
    (hr.make C us []) (I2.env0.make C us []) hbb r2 hq
  refine wpAny_call ?_
  refine PySem.HandSPX.call_own F.excBase_ValueError
    (fun Y => PySem.HandSPX.refsVE_contains Y bm hbm) (I1.kIn _ _ hC)
    (PySem.W.looks_findIn I1.kIn iC) (fun self => PySem.W.bind_fn I1.kIn self tI) hus ?_
  refine codeAny_mono run ?_
  intro r s' hq'
  cases r with
  | error er => exact (hq' : False).elim
  | ok fl =>
    cases fl with
    | ret u =>
      obtain ⟨v, H2, os2, bare2, un2, hok2, rv, ev, q2⟩ := hq'
      subst ev
      have J := I2.call' (ch := []) os2 un2 hok2 bare2 (fun b z => absurd z (by simp))
      exact ⟨rv, .ref (hp.objs.size + 1), H2, J, rfl, q2⟩
    | next => exact False.elim hq'
    | brk => exact False.elim hq'
    | cont => exact False.elim hq'
/-- C() for a value, C without an own __init__ -/
def tMkP (C : Addr) : TE := fun _ H Q => ∀ a, H a = none → Q (.ref a) (upd H a (exo a C none))
theorem pe_mkP (q : PySem.W.excIn X.K C He.veBase "ValueError.__new__" = true)
    (gC : X.mg x = some (.ref C)) (kC : PySem.W.keepIn X.K (.ref C) = true) (hg : Gl X x)
    (hdb : (x == ("__debug__" : Str)) = false := by decide) :
    PE X (.Call (.Name x p) [] [] pos) (tMkP C) := by
  refine ⟨fun pins s σ H Q I h => ?_⟩
  refine wpAny_Call_Name_kw (ld_glob I hg gC ?_ hdb)
  refine PySem.W.callWith_K0 I.kIn kC ?_
  obtain ⟨bm, N, nm, qn, bs, hdct, sn, sub, ab, col, dd, k0, k1, k2, k3, k5, mN, hC, hN, hni, T⟩ := exc_obj I.kIn q
  obtain ⟨hp, g, dr, tk, os⟩ := s
  refine wpAny_call_exc_subT PySem.F.excBase_ValueError T hC hN hni (fun h' a hm => ?_) (by show 0 ≤ sizeLine; omega)
  have hn : H a = none := I.hok.gone hm.new
  obtain ⟨t, ht, _, _⟩ := hm.there
  refine ⟨.ref a, upd H a (exo a C none), ?_, rfl, h a hn⟩
  have un : Un X.fs [] H (upd H a (exo a C none)) hp h' := {
    keep := fun b u y _ _ _ => hm.keeps b u y
    slot := fun b u y _ _ _ => ⟨u.slots, hm.keeps b u y⟩
    free := fun b u y n _ => by
      rw [upd_ne (fun z => by rw [z, hm.new] at y; cases y)]
      exact n
    there := fun b u y _ => ⟨u, hm.keeps b u y⟩
    tups := fun b xs y => by rw [upd_ne (ne_of_none y hn)]; exact y
    frzs := fun b u xs y => by rw [upd_ne (ne_of_none y hn)]; exact y
    tbls := fun b ps y => ⟨#[], by rw [upd_ne (ne_of_none y hn), y]; simp⟩ }
  refine I.un (t' := tk) un ?_
  intro b u e
  by_cases hb : b = a
  · subst hb
    rw [upd_same] at e
    cases e
    exact exo_ok ht
  · rw [upd_ne hb] at e
    refine (I.hok b u e).stay (fun c v _ y => hm.keeps c v y) (fun c y => ?_) (fun c xs y => ?_)
    · rw [upd_ne (ne_of_none y hn)]; exact y
    · rw [upd_ne (ne_of_none y hn)]; exact y
/-- e.f, e an exception that is kept -/
def tXv (K : PySem.W.Frag) (f : Str) (te : TE) : TE := fun st H Q => te st H fun x H1 =>
  ∃ (a C d : Addr) (fs : List (Str × V)) (v : V), x = .ref a ∧ XfC K C ∧
    PySem.W.findIn K (.ref C) f = some none ∧ H1 a = some (exo a C (some d)) ∧
    H1 d = some (exd d fs) ∧ fs.lookup f = some v ∧ Q v H1
theorem inst_of {P : Program} {w : World} {H : Hp} {h : Heap} {a C : Addr}
    (hok : HOk P w H h) (e : H a = some (exo a C none)) :
    ∃ ob, PySem.W.InstAt h a ob C none := by
  obtain ⟨t1, ho⟩ := exo_at hok e
  exact ⟨_, ho, rfl, rfl, trivial⟩
theorem inst_of2 {P : Program} {w : World} {H : Hp} {h : Heap} {a C d : Addr} {fs : List (Str × V)}
    (hok : HOk P w H h) (e : H a = some (exo a C (some d))) (ed : H d = some (exd d fs)) :
    ∃ ob od, PySem.W.InstAt h a ob C (some od) ∧ h.get? d = some od := by
  obtain ⟨t1, ho⟩ := exo_at hok e
  obtain ⟨mA, hns, rel⟩ := exd_at hok ed
  obtain ⟨od, es, ep, hd, hr⟩ := hns
  exact ⟨_, od, ⟨ho, rfl, rfl, hd⟩, hd⟩
theorem pe_xv (he : PE X e te)
    (hb : attributeBase e f X.env (eval e X.env) = eval e X.env := by rfl) :
    PE X (.Attribute e f pos) (tXv X.K f te) := by
  refine ⟨fun pins s σ H Q I h => ?_⟩
  refine attr_of hb (thn (he.run pins s σ H _ I h) fun u s1 hh => ?_)
  obtain ⟨y, H1, I1, rx, a, C, d, fs, v, ex, T, hno, ea, ed, l, q⟩ := hh
  subst ex
  obtain rfl : u = Value.ref a := rx
  obtain ⟨t1, ho⟩ := exo_at I1.hok ea
  obtain ⟨mA, hns, rel⟩ := exd_at I1.hok ed
  obtain ⟨od, hd, hl⟩ := lookIn_ns hns
  have e1 : RelO (some v) (mA f) := by
    rw [← l]
    exact rel f
  obtain ⟨u2, hu, ru⟩ := RelO.some_of e1
  have J : PySem.W.InstAt s1.heap a _ C (some od) := ⟨ho, rfl, rfl, hd⟩
  exact HandSPX.exc_get I1.kIn J T.ga T.gg T.exC (PySem.W.findObj_own T.hdC hno rfl (by rw [hl, hu])) (handed_of ru) ⟨v, H1, I1.tok _, ru, q⟩
/-- what a class of errors must say so that isinstance is answered -/
structure IsC (K : PySem.W.Frag) (C : Addr) : Prop where
  hc : (PySem.W.clsIn K C).isSome = true
  hg : PySem.W.findIn K (.ref C) "__getattribute__" = some (some (.builtin "BaseException.__getattribute__"))
  hk : PySem.W.findIn K (.ref C) "__getattr__" = some none
  hs : PySem.W.subIn K (.ref C) (.type "BaseException") = some true
  ha : PySem.W.findIn K (.ref C) "__class__" = some (some (.builtin "object.__class__"))
  hn : PySem.W.specialIn K (.builtin "object.__class__") "__get__" = some (some (.builtin "getset_descriptor.__get__"))
  ht : PySem.W.takesIn K (.builtin "object.__class__") = some true
  hm : PySem.W.mroIn K C (.type "object") = some true
/-- at a stands an exception of the class at C -/
def ExAt (H : Hp) (a C : Addr) : Prop :=
  H a = some (exo a C none) ∨ ∃ d fs, H a = some (exo a C (some d)) ∧ H d = some (exd d fs)
def rIsV (K : PySem.W.Frag) : List V → Hp → VK → Prop := fun xs H Q =>
  ∃ (a C : Addr) (c : V) (cv : Value) (b : Bool), xs = [.ref a, c] ∧ (∀ u, RelV c u → u = cv) ∧
    ExAt H a C ∧ IsC K C ∧ PySem.W.kitOne K (.ref C) cv = some b ∧ Q (.bl b) H
theorem call_isV : CallR X (.builtin "isinstance") (rIsV X.K) := by
  intro pins s σ H xs us Q I r h
  obtain ⟨a, C, c, cv, b, rfl, hcv, ex, T, e1, q⟩ := h
  obtain ⟨u1, u2, rfl, r1, r2⟩ := vals2 r
  obtain rfl := hcv _ r2
  obtain rfl : u1 = Value.ref a := r1
  have done : ∀ tk, EP X pins σ Q (.bool b) { s with toks := tk } := fun tk => ⟨.bl b, H, I.tok tk, rfl, q⟩
  rcases ex with ex | ⟨d, fs, ex, ed⟩
  · obtain ⟨ob, J⟩ := inst_of I.hok ex
    exact PySem.W.kia_one (PySem.W.kitx_exc T.hc T.hg T.hk T.hs T.ha T.hn T.ht T.hm) I.kIn J e1 (fun z => nomatch z) done
  · obtain ⟨ob, od, J, _⟩ := inst_of2 I.hok ex ed
    exact PySem.W.kia_one (PySem.W.kitx_exc T.hc T.hg T.hk T.hs T.ha T.hn T.ht T.hm) I.kIn J e1 (fun z => nomatch z) done
end
end Vx

set_option Elab.async false
set_option linter.all false
set_option maxRecDepth 100000
set_option maxHeartbeats 2000000
namespace Vl
open PySem PySem.Spec PyProof.Rows L2
theorem pe_weak {X : Cx} {e : Expr} {t t' : TE} (h : PE X e t) (w : ∀ s H Q, t' s H Q → t s H Q) : PE X e t' :=
  ⟨fun pins s σ H Q I q => h.run pins s σ H Q I (w σ H Q q)⟩
theorem pa_weak {X : Cx} {es : List Expr} {t t' : TA} (h : PA X es t) (w : ∀ s H Q, t' s H Q → t s H Q) : PA X es t' :=
  ⟨fun pos pins s σ H Q I q => h.run pos pins s σ H Q I (w σ H Q q)⟩
def tMono (te : TE) : TE := fun s H Q => ∃ R : VK, te s H R ∧ ∀ v H1, R v H1 → Q v H1
theorem pe_mono {X : Cx} {e : Expr} {t : TE} (h : PE X e t) : PE X e (tMono t) :=
  ⟨fun pins s σ H Q I ⟨R, q, w⟩ => thn (h.run pins s σ H R I q) fun _ _ ⟨v, H1, I1, r, k⟩ => ⟨v, H1, I1, r, w v H1 k⟩⟩
theorem same_upd {H : Hp} {p : Addr} {o : HO} (h : H p = none) : Same H (upd H p o) := by
  intro b x e
  rw [upd_ne (ne_of_none e h)]
  exact e
theorem same_sqt {K : PySem.W.Frag} {H H' : Hp} {a : Addr} {xs : List V} (e : Same H H') (h : SqT K H a xs) : SqT K H' a xs := by
  rcases h with (h | ⟨o, h⟩) | h
  · exact .inl (.inl (e _ _ h))
  · exact .inl (.inr ⟨o, e _ _ h⟩)
  · exact .inr h
mutual
theorem dp_same {K : PySem.W.Frag} {H H' : Hp} (e : Same H H') : ∀ {v : V} {d : PyData}, Dp K H v d → Dp K H' v d
  | _, _, .non => .non
  | _, _, .bl b => .bl b
  | _, _, .int i => .int i
  | _, _, .str x => .str x
  | _, _, .lst h hs => .lst (e.seq h) (dpa_same e hs)
  | _, _, .tup h hs => .tup (same_sqt e h) (dpa_same e hs)
theorem dpa_same {K : PySem.W.Frag} {H H' : Hp} (e : Same H H') : ∀ {v : List V} {d : List PyData}, DpAll K H v d → DpAll K H' v d
  | _, _, .nil => .nil
  | _, _, .cons h hs => .cons (dp_same e h) (dpa_same e hs)
end
theorem dpa_rep {K : PySem.W.Frag} {H : Hp} {v : V} {d : PyData} (h : Dp K H v d) : ∀ n, DpAll K H (List.replicate n v) (List.replicate n d)
  | 0 => .nil
  | n + 1 => .cons h (dpa_rep h n)
theorem dpa_bl {K : PySem.W.Frag} {H : Hp} : ∀ bs : List Bool, DpAll K H (bs.map V.bl) (bs.map PyData.bool)
  | [] => .nil
  | b :: r => .cons (.bl b) (dpa_bl r)
/-- data that may be compared -/
def Low (d : PyData) : Prop := d.canLay0 = true ∧ d.depth ≤ 10
theorem low_rep {d : PyData} (h : Low d) : ∀ n, PyData.canLayAll0 (List.replicate n d) = true ∧ PyData.depthAll (List.replicate n d) ≤ 10
  | 0 => ⟨rfl, by show 0 ≤ 10; omega⟩
  | n + 1 => by
    obtain ⟨h1, h2⟩ := low_rep h n
    rw [List.replicate_succ]
    refine ⟨?_, ?_⟩
    · show (d.canLay0 && PyData.canLayAll0 (List.replicate n d)) = true
      rw [h.1, h1]
      rfl
    · show max d.depth (PyData.depthAll (List.replicate n d)) ≤ 10
      exact Nat.max_le.mpr ⟨h.2, h2⟩
theorem shaped_of {d : PyData} (h1 : d.canLay0 = true) (h2 : d.depth ≤ 64) : SeqAt.shaped d = true := by
  unfold SeqAt.shaped
  rw [h1, decide_eq_true h2]
  rfl
theorem low_bl : ∀ bs : List Bool, PyData.canLayAll0 (bs.map PyData.bool) = true ∧ PyData.depthAll (bs.map PyData.bool) = 0
  | [] => ⟨rfl, rfl⟩
  | b :: r => by
    obtain ⟨h1, h2⟩ := low_bl r
    refine ⟨?_, ?_⟩
    · show (true && PyData.canLayAll0 (r.map PyData.bool)) = true
      rw [h1]
      rfl
    · show max 0 (PyData.depthAll (r.map PyData.bool)) = 0
      rw [h2]
      rfl
theorem eqv_same {d : PyData} (h : d.canLay0 = true) : PyData.eqv d d = true := SeqAt.eqv_refl d h
theorem strOk_of (s : String) : PyData.strOk (Str.ofString s) = true := by
  unfold PyData.strOk
  rw [← Array.all_toList, PyProof.Rows.signs_ofString, List.all_eq_true]
  intro c hc
  obtain ⟨x, _, rfl⟩ := List.mem_map.mp hc
  refine decide_eq_true ?_
  have h := x.valid
  have : x.toNat = x.val.toNat := rfl
  rcases h with h | ⟨_, h⟩
  · rw [this]; exact Nat.lt_trans h (by decide)
  · rw [this]; exact h
theorem strOk_app {a b : Str} (ha : PyData.strOk a = true) (hb : PyData.strOk b = true) : PyData.strOk (a ++ b) = true := by
  unfold PyData.strOk at *
  show ((a.cps ++ b.cps).all _) = true
  rw [Array.all_append, ha, hb]
  rfl
def EvP (te : TE) (st : L2.St) (H : Hp) (P : V → Hp → Prop) : Prop :=
  ∀ H1, Evl.Ex H H1 → ∀ Q : VK, (∀ x H2, Evl.Ex H1 H2 → P x H2 → Q x H2) → te st H1 Q
def EvAP (ta : TA) (st : L2.St) (H : Hp) (P : List V → Hp → Prop) : Prop :=
  ∀ H1, Evl.Ex H H1 → ∀ Q : List V → Hp → Prop, (∀ x H2, Evl.Ex H1 H2 → P x H2 → Q x H2) → ta st H1 Q
theorem eap_nil {st : L2.St} {H : Hp} : EvAP tNil st H (fun xs _ => xs = []) :=
  fun H1 _ Q q => q [] H1 (Evl.Ex.refl H1) rfl
theorem eap_cons {te : TE} {tr : TA} {st : L2.St} {H : Hp} {P : V → Hp → Prop} {R : List V → Hp → Prop}
    (h : EvP te st H P) (hr : EvAP tr st H R) (mono : ∀ x H1 H2, Evl.Ex H1 H2 → P x H1 → P x H2) :
    EvAP (tCons te tr) st H (fun vs H1 => ∃ x xs, vs = x :: xs ∧ P x H1 ∧ R xs H1) := by
  intro H1 e Q q
  refine h H1 e _ fun x H2 e2 p => ?_
  refine hr H2 (e.trans e2) _ fun xs H3 e3 r => ?_
  exact q _ H3 (e2.trans e3) ⟨x, xs, rfl, mono x H2 H3 e3 p, r⟩
/-- an error: its class at C, its only field f holding v -/
def ErrV (H : Hp) (a C : Addr) (f : Str) (v : V) : Prop :=
  ∃ d, H a = some (exo a C (some d)) ∧ H d = some (exd d [(f, v)])
theorem ErrV.mono {H H' : Hp} {a C : Addr} {f : Str} {v : V} (e : Evl.Ex H H') (h : ErrV H a C f v) : ErrV H' a C f v := by
  obtain ⟨d, h1, h2⟩ := h
  exact ⟨d, e _ _ h1, e _ _ h2⟩
theorem ErrV.at_ {H : Hp} {a C : Addr} {f : Str} {v : V} (h : ErrV H a C f v) : Vx.ExAt H a C := by
  obtain ⟨d, h1, h2⟩ := h
  exact .inr ⟨d, _, h1, h2⟩
theorem exAt_mono {H H' : Hp} {a C : Addr} (e : Evl.Ex H H') (h : Vx.ExAt H a C) : Vx.ExAt H' a C := by
  rcases h with h | ⟨d, fs, h1, h2⟩
  · exact .inl (e _ _ h)
  · exact .inr ⟨d, fs, e _ _ h1, e _ _ h2⟩
def Errs (v : V) : List (Addr × Str) → List V → Hp → Prop
  | [], xs, _ => xs = []
  | (C, f) :: r, xs, H => ∃ a ys, xs = .ref a :: ys ∧ ErrV H a C f v ∧ Errs v r ys H
theorem Errs.mono {v : V} {H H' : Hp} (e : Evl.Ex H H') : ∀ {l : List (Addr × Str)} {xs : List V}, Errs v l xs H → Errs v l xs H'
  | [], _, h => h
  | (C, f) :: r, _, h => by
    obtain ⟨a, ys, h1, h2, h3⟩ := h
    exact ⟨a, ys, h1, h2.mono e, Errs.mono e h3⟩
theorem Errs.len {v : V} {H : Hp} : ∀ {l : List (Addr × Str)} {xs : List V}, Errs v l xs H → xs.length = l.length
  | [], _, h => by
    rw [show _ = [] from h]
    rfl
  | (C, f) :: r, _, h => by
    obtain ⟨a, ys, h1, h2, h3⟩ := h
    rw [h1, List.length_cons, List.length_cons, Errs.len h3]
theorem Errs.app {v : V} {H : Hp} : ∀ {l m : List (Addr × Str)} {xs ys : List V}, Errs v l xs H → Errs v m ys H → Errs v (l ++ m) (xs ++ ys) H
  | [], m, xs, ys, h, h' => by
    rw [show xs = [] from h]
    exact h'
  | (C, f) :: r, m, xs, ys, h, h' => by
    obtain ⟨a, zs, h1, h2, h3⟩ := h
    rw [h1]
    exact ⟨a, zs ++ ys, rfl, h2, Errs.app h3 h'⟩
theorem Errs.get {v : V} {H : Hp} : ∀ {l : List (Addr × Str)} {xs : List V} {i : Nat} {x : V}, Errs v l xs H → xs[i]? = some x →
    ∃ C f a, l[i]? = some (C, f) ∧ x = .ref a ∧ ErrV H a C f v
  | [], xs, i, x, h, hi => by
    rw [show xs = [] from h] at hi
    cases hi
  | (C, f) :: r, xs, 0, x, h, hi => by
    obtain ⟨a, ys, h1, h2, h3⟩ := h
    rw [h1] at hi
    have e : V.ref a = x := Option.some.inj hi
    exact ⟨C, f, a, rfl, e.symm, h2⟩
  | (C, f) :: r, xs, i + 1, x, h, hi => by
    obtain ⟨a, ys, h1, h2, h3⟩ := h
    rw [h1] at hi
    exact Errs.get (i := i) h3 hi
theorem given_rep (v : V) : ∀ n, Evl.given n (fun _ => true) (fun _ => v) = List.replicate n v := by
  intro n
  induction n with
  | zero => rfl
  | succ n ih =>
    rw [Evl.given_yes rfl, ih, ← List.replicate_succ']
/-- __init__(self, f): self.f = f -/
def spIni (C : Addr) (f : Str) : Sp := fun vs H Q _ => ∃ (a : Addr) (v : V), vs = [.ref a, v] ∧ H a = some (exo a C none) ∧
  ∀ dx, H dx = none → dx ≠ a → Q .non (upd (upd H dx (exd dx [(f, v)])) a (exo a C (some dx)))
section
variable {P : Program} {w : World} {K : PySem.W.Frag} {mg : Str → Option Value} {base : Heap}
theorem ok_ini1 {f qual : Str} {pa : Arguments} {bd : List Stmt} {sc : Scope} {fI C : Addr} {fd : FuncData} {p1 p2 p3 p4 : Pos}
    (F : FunD K "__init__" qual pa bd sc [] [] fI fd) (S : FnScope ["self", f] ["self", f] sc)
    (hb : bd = [.Assign [.Attribute (.Name "self" p1) f p2] (.Name f p3) p4]) (T : OexC K C)
    (no : PySem.W.findIn K (.ref C) f = some none) (hd : (f == ("__debug__" : Str)) = false)
    (hc : (f == ("__classdict__" : Str)) = false) : FnOk P w K mg base CX0 1 fI fd ["self", f] (spIni C f) := by
  refine F.ok (CX := CX0) S (fun vs H Q E h => ?_) (fun cdv A outer s H vs Q E hr h => ?_)
  · obtain ⟨a, v, rfl, _⟩ := h
    rfl
  · rw [hb]
    have v0 := vis_par S (x := "self") List.mem_cons_self
    have v1 := vis_par S (x := f) (List.mem_cons_of_mem _ List.mem_cons_self)
    refine ⟨_, (pss_one (ps_ost (pe_var (i := 0) rfl v0) (pe_var (i := 1) rfl v1 hd hc))), ?_⟩
    obtain ⟨a, v, rfl, ha, q⟩ := h
    exact ⟨v, rfl, .ref a, rfl, a, C, rfl, T, no, .inl ⟨ha, fun dx h1 h2 => q dx h1 h2⟩⟩
end
section
variable {X : Cx} {C fI : Addr} {k : Nat} {fd : FuncData} {e : Expr} {te : TE} {x f : Str} {p pos : Pos}
def tErr (C : Addr) (f : Str) (te : TE) : TE := fun st H Q => te st H fun v H1 =>
  ∀ a H2, H1 a = none → Same H1 H2 → ErrV H2 a C f v → Q (.ref a) H2
theorem pe_err (T : OexC X.K C)
    (iC : PySem.W.findIn X.K (.ref C) "__init__" = some (some (.ref fI)))
    (tI : PySem.W.typeIn X.K (.ref fI) = some (.type "function"))
    (F1 : FnOk X.prog X.w X.K X.mg X.base CX0 k fI fd ["self", f] (spIni C f))
    (hr : Room (k + 1) X.A) (hb : Binds X.K fd ["self", f] []) (hg : Gl X x)
    (hm : X.mg x = some (.ref C)) (ha : PE X e te)
    (hdb : (x == ("__debug__" : Str)) = false := by decide)
    (hs : starEach [e] X.env = (false, eval e X.env) :: starEach [] X.env := by rfl) :
    PE X (.Call (.Name x p) [e] [] pos) (tErr C f te) := by
  have ha2 : PE X e (tMono te) := pe_mono ha
  refine pe_weak (Vx.pe_mkV T iC tI F1 hr hb hg hm (pa_cons ha2 pa_nil hs) hdb hs (by rfl)) ?_
  intro st H Q h
  refine ⟨_, h, fun v H1 q => ⟨by show 1 ≤ 1000; omega, fun a na => ?_⟩⟩
  refine ⟨a, v, rfl, upd_same, fun dx n1 n2 => ⟨rfl, ?_⟩⟩
  have nd : H1 dx = none := by rw [upd_ne n2] at n1; exact n1
  refine q a _ na (fun b o hb => ?_) ⟨dx, upd_same, ?_⟩
  · rw [upd_ne (ne_of_none hb na), upd_ne (ne_of_none hb nd), upd_ne (ne_of_none hb na)]
    exact hb
  · rw [upd_ne n2, upd_same]
end
end Vl

set_option Elab.async false
set_option linter.all false
set_option maxRecDepth 100000
set_option maxHeartbeats 2000000
/-! The head: facts by one Bool of the written part, defs by data. -/
namespace Vh
open PySem PySem.Spec PyProof.Rows L2
abbrev Fg := PySem.W.Frag
def obsB (f : Fg → Bool) (fn : List He.DefD) (K : Fg) : He.AlD :=
  (f K && fn.all fun d => d.ok K, fn.map fun d => He.fnW K d.at_)
def SaysB (f : Fg → Bool) (fn : List He.DefD) (K : Fg) : Prop := obsB f fn K = He.valD fn
def obsBG (n : Nat) (f : Fg → Bool) (fn : List He.DefD) (g : Addr → Option Obj) : He.AlD :=
  obsB f fn (He.frG g (He.asD g n))
def hookB (n : Nat) (f : Fg → Bool) (fn : List He.DefD) : PySem.W.Hook where
  α := He.AlD
  obs := fun s => obsBG n f fn s.heap.get?
  val := fun _ => He.valD fn
  says := fun _ h => ∃ K : Fg, K.In h ∧ SaysB f fn K
  of := fun _ _ e => ⟨_, He.frG_in, e⟩
  keeps := fun _ _ _ ⟨K, hK, c⟩ k => ⟨K, PySem.W.Frag.In.keeps hK k, c⟩
theorem obsBG_eq {n : Nat} {f : Fg → Bool} {fn : List He.DefD} {g : Addr → Option Obj} {s : Shared}
    (h : ∀ a, g a = s.heap.get? a) : obsBG n f fn g = (hookB n f fn).obs s := by
  have e : g = s.heap.get? := funext h
  rw [e] <;> rfl
section
variable {f : Fg → Bool} {fn : List He.DefD} {K : Fg}
theorem SaysB.fact (c : SaysB f fn K) : f K = true :=
  (He.ba (show (f K && fn.all fun d => d.ok K) = true from congrArg (fun z : He.AlD => z.1) c)).1
theorem SaysB.def_ (c : SaysB f fn K) (i : Nat) {d : He.DefD} (h : fn[i]? = some d := by rfl) :
    ∃ fd, FunD K d.name d.qual d.params d.body d.scope (d.dvs K) (d.kws K) (He.fAd K d.at_) fd := by
  have c2 := (He.ba (show (f K && fn.all fun d => d.ok K) = true from congrArg (fun z : He.AlD => z.1) c)).2
  have e : fn.map (fun d => He.fnW K d.at_) = fn.map He.DefD.val := congrArg (fun z : He.AlD => z.2) c
  have e2 : (fn.map fun d => He.fnW K d.at_)[i]? = (fn.map He.DefD.val)[i]? := by rw [e]
  rw [List.getElem?_map, List.getElem?_map, h] at e2
  exact He.DefD.funD (Option.some.inj e2) (List.all_eq_true.mp c2 d (List.mem_of_getElem? h))
end
/-- a def of the top, a method of a class of the top -/
def gD (st : Stmt) (x : Str) : He.DefD := ⟨(x, none), x, x, defArgs st, defBody st, defScope st, [], []⟩
def mD (st : Stmt) (c m q : Str) : He.DefD := ⟨(c, some m), m, q, defArgs st, defBody st, defScope st, [], []⟩
/-! the errors' classes -/
def headB (K : Fg) (C : Addr) (bm : List Value) (sl : List (Option Value)) (cd : ClassData) : Bool :=
  match sl with
  | [_, _, _, _, some (.builtin n), _] =>
    n == "ValueError.__new__" && (!cd.hasDel && (cd.hasDict && PySem.HandSPX.refsVE bm))
  | _ => false
def oexB (K : Fg) (C : Addr) : Bool :=
  match K.lookup C with
  | some ⟨.type "type", _, .cls cd, sl⟩ => (match cd.mro with
    | .ref D :: bm => D == C && headB K C bm sl.toList cd
    | _ => false)
  | _ => false
theorem oexB_ok {K : Fg} {C : Addr} (h : oexB K C = true) :
    ∃ nm q N bs bm sn sub ab col dd k0 k1 k2 k3 k5,
      K.lookup C = some (excClassObj nm q C N bs bm true sn sub ab col dd k0 k1 k2 k3 k5 "ValueError.__new__") ∧
        PySem.HandSPX.refsVE bm = true := by
  unfold oexB at h
  split at h
  · rename_i dd cd sl ho
    split at h
    · rename_i D bm hm
      obtain ⟨h1, h2⟩ := He.ba h
      unfold headB at h2
      split at h2
      · rename_i k0 k1 k2 k3 n k5 hs
        simp only [Bool.and_eq_true, beq_iff_eq, Bool.not_eq_true'] at h1 h2
        obtain ⟨h3, h4, h5, h6⟩ := h2
        subst h1 h3
        obtain ⟨nm, bs, mro, ns, qn, hd, sn, sub, ab, col, del⟩ := cd
        dsimp only at hm h4 h5
        subst hm h4 h5
        obtain ⟨l⟩ := sl
        dsimp only at hs
        subst hs
        exact ⟨nm, qn, ns, bs, bm, sn, sub, ab, col, dd, k0, k1, k2, k3, k5, ho, h6⟩
      · cases h2
    · cases h
  · cases h
/-- all that is asked of a class of errors -/
def errB (K : Fg) (C : Addr) : Bool :=
  oexB K C && (He.eqO (PySem.W.findIn K (.ref C) "__setattr__") (some (some (.builtin "object.__setattr__"))) &&
   (decide (PySem.W.subIn K (.ref C) (.type "BaseException") = some true) &&
   (decide (PySem.W.typeIn K (.ref C) = some (.type "type")) && (PySem.W.keepIn K (.ref C) && (xfB K C &&
   (He.eqO (PySem.W.findIn K (.ref C) "__class__") (some (some (.builtin "object.__class__"))) &&
    decide (PySem.W.mroIn K C (.type "object") = some true)))))))
def takB (K : Fg) : Bool :=
  He.eqO (PySem.W.specialIn K (.builtin "object.__class__") "__get__") (some (some (.builtin "getset_descriptor.__get__"))) &&
    decide (PySem.W.takesIn K (.builtin "object.__class__") = some true)
theorem errB_ok {K : Fg} {C : Addr} (h : errB K C = true) (hk : takB K = true) : OexC K C ∧ XfC K C ∧ Vx.IsC K C := by
  obtain ⟨h1, h⟩ := He.ba h
  obtain ⟨h2, h⟩ := He.ba h
  obtain ⟨h3, h⟩ := He.ba h
  obtain ⟨h4, h⟩ := He.ba h
  obtain ⟨h5, h⟩ := He.ba h
  obtain ⟨h6, h⟩ := He.ba h
  obtain ⟨h7, h8⟩ := He.ba h
  obtain ⟨k1, k2⟩ := He.ba hk
  have X := xfB_ok h6
  have c := oexB_ok h1
  refine ⟨⟨c, He.eqO_ok h2, of_decide_eq_true h3, of_decide_eq_true h4, h5⟩, X, ?_⟩
  refine ⟨?_, X.ga, X.gg, X.exC, He.eqO_ok h7, He.eqO_ok k1, of_decide_eq_true k2, of_decide_eq_true h8⟩
  obtain ⟨nm, q, N, bs, bm, sn, sub, ab, col, dd, k0, k1, k2, k3, k5, hC, hbm⟩ := c
  unfold PySem.W.clsIn
  rw [hC]
  rfl
/-- its own __init__ at f1, no field named f in the class -/
def iniB (K : Fg) (C : Addr) (fs : List Str) : Bool :=
  He.eqO (PySem.W.findIn K (.ref C) "__init__") (some (some (.ref (He.ma K C "__init__")))) &&
  (decide (PySem.W.typeIn K (.ref (He.ma K C "__init__")) = some (.type "function")) &&
   fs.all fun f => He.eqO (PySem.W.findIn K (.ref C) f) (some none))
structure Ini (K : Fg) (C : Addr) (fs : List Str) : Prop where
  iC : PySem.W.findIn K (.ref C) "__init__" = some (some (.ref (He.ma K C "__init__")))
  tI : PySem.W.typeIn K (.ref (He.ma K C "__init__")) = some (.type "function")
  no : ∀ f ∈ fs, PySem.W.findIn K (.ref C) f = some none
theorem iniB_ok {K : Fg} {C : Addr} {fs : List Str} (h : iniB K C fs = true) : Ini K C fs := by
  obtain ⟨h1, h⟩ := He.ba h
  obtain ⟨h2, h3⟩ := He.ba h
  exact ⟨He.eqO_ok h1, of_decide_eq_true h2, fun f hf => He.eqO_ok (List.all_eq_true.mp h3 f hf)⟩
end Vh

set_option Elab.async false
set_option linter.all false
set_option maxRecDepth 100000
set_option maxHeartbeats 0
namespace K01
open PySem PySem.Spec PyProof.Rows L2 Vh
def top (i : Nat) : Stmt := PySem.Challenge.pw_alsoshown_k01_errors_made.main.body.getD i (.Pass ⟨0, 0, 0, 0⟩)
abbrev ini (i : Nat) : Stmt := inClass (top i) 0
def errs : List (Nat × Str × Str × Str) := [(2, "BadName", "BadName.__init__", "name"), (3, "NameTaken", "NameTaken.__init__", "name"), (4, "NoPost", "NoPost.__init__", "name"), (5, "NoLane", "NoLane.__init__", "name"),
  (6, "Clash", "Clash.__init__", "name"), (7, "NoPattern", "NoPattern.__init__", "name"), (21, "NoRun", "NoRun.__init__", "name"), (22, "SameLane", "SameLane.__init__", "name"),
  (23, "Brought", "Brought.__init__", "name"), (24, "StillWanted", "StillWanted.__init__", "name"), (25, "NotWanted", "NotWanted.__init__", "name"),
  (14, "BadWalk", "BadWalk.__init__", "place"), (15, "BadText", "BadText.__init__", "place"), (16, "BadDeed", "BadDeed.__init__", "place"),
  (19, "OneRing", "OneRing.__init__", "ring"), (20, "NotSure", "NotSure.__init__", "ring"), (17, "BadNumber", "BadNumber.__init__", "value"), (26, "BadWord", "BadWord.__init__", "word"), (27, "BadLine", "BadLine.__init__", "line")]
def plain : List Str := ["EmptyWalk", "EmptyWord", "NotWalk", "NotOnePart", "NothingWanted", "NothingBack"]
/-- the classes in the law's order -/
def order : List Str := (errs.map (·.2.1)) ++ (["NoRound"] : List Str) ++ plain
def fn : List He.DefD := [gD (top 29) "_law_cell", gD (top 30) "_law_thing", gD (top 31) "_law_named", gD (top 32) "_law_classes", gD (top 33) "_law_alone", gD (top 34) "law", mD (ini 18) "NoRound" "__init__" "NoRound.__init__"]
  ++ errs.map fun e => mD (ini e.1) e.2.1 "__init__" e.2.2.1
def kitB (K : Fg) (as : List Addr) (s : Addr) : Bool :=
  ((List.range 26).all fun i => (List.range 26).all fun j =>
    decide (PySem.W.kitOne K (.ref (as.getD i 0)) (.ref (as.getD j 0)) = some (i == j))) &&
  as.all fun a => decide (PySem.W.kitOne K (.ref a) (.ref s) = some true) && decide (PySem.W.kitOne K (.ref a) (.type "ValueError") = some true)
def facts (K : Fg) : Bool :=
  (order.all fun x => (He.Fa.glo x).ok K && errB K (He.ga K x)) && (takB K && ((errs.all fun e => iniB K (He.ga K e.2.1) [e.2.2.2]) &&
  (iniB K (He.ga K "NoRound") ["first", "second", "side"] && ((plain.all fun x => (He.Fa.exc x).ok K) &&
  (([ "ShowError", "_law_cell", "_law_thing", "_law_named", "_law_classes", "_law_alone", "law"] : List Str).all (fun x => (He.Fa.glo x).ok K) &&
  (([ "len", "int", "str", "abs", "isinstance", "range", "enumerate", "ValueError"] : List Str).all (fun x => (He.Fa.free x).ok K) &&
  kitB K (order.map (He.ga K)) (He.ga K "ShowError")))))))
abbrev R : PySem.W.OpenRow := PySem.W.OpenLaw.row PySem.Challenge.rw_alsoshown_k01_errors_made
abbrev hk : PySem.W.Hook := hookB 5 facts fn
def ob (s : PySem.W.SharedT) : He.AlD := obsBG 5 facts fn (HandSHeadRun.getT s)
theorem ob_eq (s : PySem.W.SharedT) : ob s = hk.obs s.abs := obsBG_eq (HandSHeadRun.getT_eq s)
def loose : List Str := order ++ (["ShowError", "_law_cell", "_law_thing", "_law_named", "_law_classes", "_law_alone"] : List Str)
theorem run (w : World) : HandSHeadRun.RunEq R (PySem.W.view R.prog [34]) hk ob 20000 loose w := by
  intro os
  kernel_rfl
end K01

set_option Elab.async false
set_option linter.all false
set_option maxRecDepth 100000
set_option maxHeartbeats 4000000
namespace K01
open PySem PySem.Spec PyProof.Rows L2 Vl Evl
abbrev sCell : Stmt := top 29
abbrev sThing : Stmt := top 30
abbrev sNamed : Stmt := top 31
abbrev sClasses : Stmt := top 32
abbrev sAlone : Stmt := top 33
abbrev sLaw : Stmt := top 34
abbrev FnP (K : PySem.W.Frag) (x : Str) (st : Stmt) (f : Addr) (fd : FuncData) : Prop := FunD K x x (defArgs st) (defBody st) (defScope st) [] [] f fd
section
variable {P : Program} {w : World} {K : PySem.W.Frag} {mg : Str → Option Value} {base : Heap}
theorem scC : FnScope ["_law_script", "_law_k"] ["_law_script", "_law_k"] (defScope sCell) := ⟨rfl, rfl, rfl, by decide +kernel, rfl, by decide +kernel, by decide +kernel⟩
theorem ok_cell {f : Addr} {fd : FuncData} (F : FnP K "_law_cell" sCell f fd) (mL : mg "len" = none) :
    FnOk P w K mg base CX0 1 f fd ["_law_script", "_law_k"] (spCell K) := by
  refine F.ok (CX := CX0) scC (fun vs H Q E h => ?_) (fun cdv A outer s H vs Q E hr h => ?_)
  · obtain ⟨l, ns, j, rfl, _⟩ := h
    rfl
  · refine ⟨_, pss_cons (ps_if (pt_cmpR op_lt (pv 1) (pe_callB call_len (by rfl) mL boot_len (pa_cons (pv 0) pa_nil)) (nomark _))
        (pss_one (ps_ret (pe_ix ix_seq (pv 0) (pv 1) fun _ _ => rfl))) pss_nil)
      (pss_one (ps_ret pe_int)), ?_⟩
    obtain ⟨l, ns, j, rfl, hs, q⟩ := h
    refine ⟨_, rfl, _, rfl, V.ref l, (ns.map V.int).length, rfl, .inl ⟨_, hs, rfl⟩, (j : Nat), ((ns.map V.int).length : Nat), rfl, rfl, _, rfl, ?_⟩
    by_cases hj : j < ns.length
    · rw [decide_eq_true (show ((j : Nat) : Int) < (((ns.map V.int).length : Nat) : Int) by rw [List.length_map]; omega)]
      refine iteT ?_
      exact ⟨_, rfl, _, rfl, .inl ⟨l, _, _, _, rfl, rfl, hs, atI_cell hj, q⟩⟩
    · rw [decide_eq_false (show ¬ ((j : Nat) : Int) < (((ns.map V.int).length : Nat) : Int) by rw [List.length_map]; omega)]
      refine iteF ?_
      rw [cell_out hj] at q
      exact q
/-- _law_thing -/
def spThing (K : PySem.W.Frag) : Sp := fun vs H Q _ => ∃ (c : Int) (k : Nat), vs = [.int c, .int (k : Int)] ∧
  ∀ v d H', Ex H H' → Dp K H' v d → Low d → Q v H'
theorem scT : FnScope ["_law_cell_here", "_law_k", "_law_number", "_law_some"] ["_law_cell_here", "_law_k"] (defScope sThing) := ⟨rfl, rfl, rfl, by decide +kernel, rfl, by decide +kernel, by decide +kernel⟩
theorem ok_thing {f : Addr} {fd : FuncData} (F : FnP K "_law_thing" sThing f fd) (mI : mg "int" = none) (mS : mg "str" = none) (mA : mg "abs" = none) :
    FnOk P w K mg base CX0 1 f fd ["_law_cell_here", "_law_k"] (spThing K) := by
  refine F.ok (CX := CX0) scT (fun vs H Q E h => ?_) (fun cdv A outer s H vs Q E hr h => ?_)
  · obtain ⟨c, k, rfl, _⟩ := h
    rfl
  · refine ⟨_, pss_cons (ps_set (i := 2) scT.nd rfl (Or.inl rfl) (pe_op op_mod (pe_callTy call_int1 (by rfl) mI (by decide +kernel) (pa_cons (pe_op op_fdivN (pv 0) pe_int) pa_nil)) (pe_op op_pow pe_int pe_int)))
      (pss_cons (ps_set (i := 3) scT.nd rfl (Or.inl rfl) (pe_lst (pa_cons (pv 2) (pa_cons (pe_op op_add_str pe_str (pe_callTy call_str_int (by rfl) mS (by decide +kernel) (pa_cons (pe_op op_mod (pv 2) (pe_op op_pow pe_int pe_int)) pa_nil)))
        (pa_cons (pe_tup (pa_cons (pv 2) (pa_cons pe_non pa_nil))) (pa_cons pe_non (pa_cons (pe_lst (pa_cons (pv 1) pa_nil)) (pa_cons (pe_op op_sub pe_int (pv 2)) pa_nil))))))))
      (pss_one (ps_ret (pe_ix ix_list (pv 3) (pe_op op_mod (pe_op op_add (pe_callB call_abs (by rfl) mA (by decide +kernel) (pa_cons (pv 0) pa_nil)) (pv 1)) pe_int) fun _ _ => rfl)))), ?_⟩
    obtain ⟨c, k, rfl, q⟩ := h
    obtain ⟨n, hn⟩ : ∃ n : Int, n = c.fdiv 6 % (10 : Int) ^ (59 : Int).toNat := ⟨_, rfl⟩
    obtain ⟨m, hm⟩ : ∃ m : Int, m = n % (10 : Int) ^ (9 : Int).toNat := ⟨_, rfl⟩
    have hb0 : 0 ≤ m := by rw [hm]; exact Int.emod_nonneg n (by decide +kernel)
    have hb1 : m < 1000000000 := by rw [hm]; exact Int.emod_lt_of_pos n (by decide +kernel)
    have hlog : m.natAbs.log2 < 1920 := by
      have : m.natAbs < 2 ^ 30 := by omega
      exact Nat.lt_trans (PySem.Flt.log2_lt_of (by decide) this) (by decide)
    -- the number
    refine s_asg (v := .int n) (ev_is (ev_op (ev_cb (ea_cons (ev_op (ev_var rfl) ev_c (rv_I ⟨by decide, by decide⟩)) ea_nil) (z := .int (c.fdiv 6)) (fun H1 _ Q q => .inl ⟨_, rfl, q H1 (Ex.refl H1)⟩))
      (ev_op ev_c ev_c (rv_I ⟨by decide, by decide, by decide⟩)) (rv_I (by show (0 : Int) < 10 ^ (59 : Int).toNat; decide +kernel))) (by rw [hn])) fun H1 e1 => ?_
    -- the list
    have hE : ∀ H, Ev (tOp (fun x y H Q => ∃ i j, x = .str i ∧ y = .str j ∧ i.length + j.length ≤ sizeLine ∧ Q (.str (i ++ j)) H) (tC (.str (Str.ofString "x")))
        (tCB (fun xs H Q => ∃ i, xs = [.int i] ∧ i.natAbs.log2 < 1920 ∧ Q (.str (toString i)) H) (tCons (tOp (rI (fun _ j => 0 < j) fun i j => .int (i % j)) (tVar 2) (tOp (rI CPow fun i j => .int (i ^ j.toNat)) (tC (.int 10)) (tC (.int 9)))) tNil)))
        [some (.int c), some (.int (k : Int)), some (.int n), none] H (.str ((Str.ofString "x") ++ (toString m : String))) := by
      intro H
      refine ev_op ev_c (ev_cb (ea_cons (ev_is (w := .int m) (ev_op (ev_var rfl) (ev_op ev_c ev_c (rv_I ⟨by decide, by decide, by decide⟩)) (rv_I (by show (0 : Int) < 10 ^ (9 : Int).toNat; decide +kernel))) (by rw [hm])) ea_nil)
        (fun H1 _ Q q => ⟨m, rfl, hlog, q H1 (Ex.refl H1)⟩)) ?_
      intro H1 _ Q q
      refine ⟨_, _, rfl, rfl, ?_, q H1 (Ex.refl H1)⟩
      have h2 : (Str.ofString (toString m)).length ≤ 1921 := PyProof.Rows.int_text_len_1921 hlog
      refine Nat.le_trans (Nat.add_le_add (show (Str.ofString "x").length ≤ 1 by decide +kernel) h2) ?_
      decide
    refine ⟨_, rfl, hE H1 H1 (Ex.refl H1) _ fun H2 e2 => ?_⟩
    refine ⟨_, rfl, (by show 2 ≤ sizeLine; decide), fun pt nt => ?_⟩
    refine ⟨_, rfl, (by show 1 ≤ sizeLine; decide), fun pl nl => ?_⟩
    refine ⟨_, rfl, 0, n, rfl, rfl, (by show 6 ≤ sizeLine; decide), fun p np => ?_⟩
    have e3 : Ex H1 (upd (upd H2 pt (.tup [.int n, .non])) pl (.lst [.int (k : Int)])) := e2.trans ((Ex.new nt).trans (Ex.new nl))
    have e4 := e3.trans (Ex.new (o := .lst [.int n, .str ((Str.ofString "x") ++ (toString m : String)), .ref pt, .non, .ref pl, .int (0 - n)]) np)
    have hpt : (upd (upd H2 pt (.tup [.int n, .non])) pl (.lst [.int (k : Int)])) pt = some (.tup [.int n, .non]) := by
      rw [upd_ne (fun z => by rw [z] at nt; rw [← z, upd_same] at nl; cases nl), upd_same]
    have hpl : (upd (upd H2 pt (.tup [.int n, .non])) pl (.lst [.int (k : Int)])) pl = some (.lst [.int (k : Int)]) := upd_same
    generalize upd (upd H2 pt (.tup [.int n, .non])) pl (.lst [.int (k : Int)]) = H3 at *
    obtain ⟨r, hr2⟩ : ∃ r : Int, r = ((if c < 0 then -c else c) + (k : Int)) % 6 := ⟨_, rfl⟩
    obtain ⟨j, hj⟩ : ∃ j : Nat, r = (j : Int) := ⟨r.toNat, by rw [Int.toNat_of_nonneg]; rw [hr2]; exact Int.emod_nonneg _ (by decide)⟩
    have hj6 : j < 6 := by
      have := Int.emod_lt_of_pos ((if c < 0 then -c else c) + (k : Int)) (show (0 : Int) < 6 by decide)
      omega
    obtain ⟨x, hx⟩ : ∃ x, [V.int n, .str ((Str.ofString "x") ++ (toString m : String)), .ref pt, .non, .ref pl, .int (0 - n)][j]? = some x := ⟨_, List.getElem?_eq_getElem (by show j < 6; exact hj6)⟩
    refine s_ret (v := x) (ev_op (ev_var rfl) (ev_is (w := .int r) (ev_op (ev_op (ev_cb (ea_cons (ev_var rfl) ea_nil) (fun H1 _ Q q => ⟨c, rfl, q H1 (Ex.refl H1)⟩)) (ev_var rfl) rv_I0) ev_c (rv_I (by show (0 : Int) < 6; decide))) (by rw [hr2]))
      (rv_ixL (sq_of upd_same) (at_of hj hx))) fun H5 e5 => ?_
    have e6 : Ex H3 H5 := (Ex.new np).trans e5
    have dpt : Dp K H5 (.ref pt) (.tuple [.int n, .none]) := .tup (st_of (e6 _ _ hpt)) (.cons (.int n) (.cons .non .nil))
    have dpl : Dp K H5 (.ref pl) (.list [.int (k : Int)]) := .lst (sq_of (e6 _ _ hpl)) (.cons (.int _) .nil)
    have ef : Ex H H5 := e1.trans (e3.trans e6)
    have low0 : ∀ {d : PyData}, d.canLay0 = true → d.depth = 0 → Low d := fun a b => ⟨a, by rw [b]; omega⟩
    match j, hj6, hx with
    | 0, _, hx => cases hx; exact q _ _ _ ef (.int n) (low0 rfl rfl)
    | 1, _, hx => cases hx; exact q _ _ _ ef (.str _) (low0 (strOk_app (strOk_of _) (strOk_of _)) rfl)
    | 2, _, hx => cases hx; exact q _ _ _ ef dpt ⟨rfl, by show max 0 (max 0 0) + 1 ≤ 10; decide⟩
    | 3, _, hx => cases hx; exact q _ _ _ ef .non (low0 rfl rfl)
    | 4, _, hx => cases hx; exact q _ _ _ ef dpl ⟨rfl, by show max 0 0 + 1 ≤ 10; decide⟩
    | 5, _, hx => cases hx; exact q _ _ _ ef (.int _) (low0 rfl rfl)
end
end K01

set_option Elab.async false
set_option linter.all false
set_option maxRecDepth 100000
set_option maxHeartbeats 4000000
namespace K01
open PySem PySem.Spec PyProof.Rows L2 Vl Evl Vh
/-- all that is known of a class of errors with one field -/
structure EC (P : Program) (w : World) (K : PySem.W.Frag) (mg : Str → Option Value) (base : Heap) (x f : Str) : Prop where
  T : OexC K (He.ga K x)
  I : Ini K (He.ga K x) [f]
  F : ∃ fd, FnOk P w K mg base CX0 1 (He.ma K (He.ga K x) "__init__") fd ["self", f] (spIni (He.ga K x) f) ∧ Binds K fd ["self", f] []
  hm : mg x = some (.ref (He.ga K x))
  xf : XfC K (He.ga K x)
  is : Vx.IsC K (He.ga K x)
section
variable {X : Cx} {x f : Str} {e : Expr} {te : TE} {p pos : Pos}
theorem pe_ec (E : EC X.prog X.w X.K X.mg X.base x f) (hr : Room 2 X.A) (hg : Gl X x) (ha : PE X e te)
    (hdb : (x == ("__debug__" : Str)) = false := by decide)
    (hs : starEach [e] X.env = (false, eval e X.env) :: starEach [] X.env := by rfl) :
    PE X (.Call (.Name x p) [e] [] pos) (tErr (He.ga X.K x) f te) := by
  obtain ⟨fd, F, b⟩ := E.F
  exact pe_err E.T E.I.iC E.I.tI F hr b hg E.hm ha hdb hs
end
theorem ep_err {C : Addr} {f : Str} {st : L2.St} {H : Hp} {i : Nat} {v : V} (h : st[i]? = some (some v)) :
    EvP (tErr C f (tVar i)) st H (fun x H1 => ∃ a, x = .ref a ∧ ErrV H1 a C f v) :=
  fun H1 _ Q q => ⟨v, h, fun a H2 _ e er => q _ H2 e ⟨a, rfl, er⟩⟩
theorem eap_err {C : Addr} {f : Str} {st : L2.St} {H : Hp} {i : Nat} {v : V} {tr : TA} {r : List (Addr × Str)}
    (h : st[i]? = some (some v)) (hr : EvAP tr st H (Errs v r)) : EvAP (tCons (tErr C f (tVar i)) tr) st H (Errs v ((C, f) :: r)) := by
  intro H1 e Q q
  refine ep_err h H1 e _ fun x H2 e2 p => ?_
  refine hr H2 (e.trans e2) _ fun xs H3 e3 k => ?_
  obtain ⟨a, rfl, er⟩ := p
  exact q _ H3 (e2.trans e3) ⟨a, xs, rfl, er.mono e3, k⟩
section
variable {P : Program} {w : World} {K : PySem.W.Frag} {mg : Str → Option Value} {base : Heap}
def prs (K : PySem.W.Frag) (l : List (Str × Str)) : List (Addr × Str) := l.map fun q => (He.ga K q.1, q.2)
abbrev FnI (K : PySem.W.Frag) (x q : Str) (i : Nat) (fd : FuncData) : Prop :=
  FunD K "__init__" q (defArgs (ini i)) (defBody (ini i)) (defScope (ini i)) [] [] (He.ma K (He.ga K x) "__init__") fd
theorem ec_mk {x f q : Str} {i : Nat} {fd : FuncData} {p1 p2 p3 p4 : Pos} (F : FnI K x q i fd)
    (S : FnScope ["self", f] ["self", f] (defScope (ini i)))
    (hb : defBody (ini i) = [.Assign [.Attribute (.Name "self" p1) f p2] (.Name f p3) p4])
    (b : Binds K fd ["self", f] [])
    (T : OexC K (He.ga K x)) (I : Ini K (He.ga K x) [f]) (hm : mg x = some (.ref (He.ga K x)))
    (xf : XfC K (He.ga K x)) (is : Vx.IsC K (He.ga K x))
    (hd : (f == ("__debug__" : Str)) = false := by decide) (hc : (f == ("__classdict__" : Str)) = false := by decide) : EC P w K mg base x f :=
  ⟨T, I, ⟨fd, ok_ini1 F S hb T (I.no f List.mem_cons_self) hd hc, b⟩, hm, xf, is⟩
theorem ec_BadName {fd : FuncData} (F : FnI K "BadName" "BadName.__init__" 2 fd) (T : OexC K (He.ga K "BadName")) (I : Ini K (He.ga K "BadName") ["name"]) (hm : mg "BadName" = some (.ref (He.ga K "BadName")))
    (xf : XfC K (He.ga K "BadName")) (is : Vx.IsC K (He.ga K "BadName")) : EC P w K mg base "BadName" "name" :=
  ec_mk F ⟨rfl, rfl, rfl, by decide +kernel, rfl, by decide +kernel, by decide +kernel⟩ rfl (F.bindsN fun _ _ _ _ _ _ us hl => match us, hl with | [_, _], _ => rfl) T I hm xf is
theorem ec_NameTaken {fd : FuncData} (F : FnI K "NameTaken" "NameTaken.__init__" 3 fd) (T : OexC K (He.ga K "NameTaken")) (I : Ini K (He.ga K "NameTaken") ["name"]) (hm : mg "NameTaken" = some (.ref (He.ga K "NameTaken")))
    (xf : XfC K (He.ga K "NameTaken")) (is : Vx.IsC K (He.ga K "NameTaken")) : EC P w K mg base "NameTaken" "name" :=
  ec_mk F ⟨rfl, rfl, rfl, by decide +kernel, rfl, by decide +kernel, by decide +kernel⟩ rfl (F.bindsN fun _ _ _ _ _ _ us hl => match us, hl with | [_, _], _ => rfl) T I hm xf is
theorem ec_NoPost {fd : FuncData} (F : FnI K "NoPost" "NoPost.__init__" 4 fd) (T : OexC K (He.ga K "NoPost")) (I : Ini K (He.ga K "NoPost") ["name"]) (hm : mg "NoPost" = some (.ref (He.ga K "NoPost")))
    (xf : XfC K (He.ga K "NoPost")) (is : Vx.IsC K (He.ga K "NoPost")) : EC P w K mg base "NoPost" "name" :=
  ec_mk F ⟨rfl, rfl, rfl, by decide +kernel, rfl, by decide +kernel, by decide +kernel⟩ rfl (F.bindsN fun _ _ _ _ _ _ us hl => match us, hl with | [_, _], _ => rfl) T I hm xf is
theorem ec_NoLane {fd : FuncData} (F : FnI K "NoLane" "NoLane.__init__" 5 fd) (T : OexC K (He.ga K "NoLane")) (I : Ini K (He.ga K "NoLane") ["name"]) (hm : mg "NoLane" = some (.ref (He.ga K "NoLane")))
    (xf : XfC K (He.ga K "NoLane")) (is : Vx.IsC K (He.ga K "NoLane")) : EC P w K mg base "NoLane" "name" :=
  ec_mk F ⟨rfl, rfl, rfl, by decide +kernel, rfl, by decide +kernel, by decide +kernel⟩ rfl (F.bindsN fun _ _ _ _ _ _ us hl => match us, hl with | [_, _], _ => rfl) T I hm xf is
theorem ec_Clash {fd : FuncData} (F : FnI K "Clash" "Clash.__init__" 6 fd) (T : OexC K (He.ga K "Clash")) (I : Ini K (He.ga K "Clash") ["name"]) (hm : mg "Clash" = some (.ref (He.ga K "Clash")))
    (xf : XfC K (He.ga K "Clash")) (is : Vx.IsC K (He.ga K "Clash")) : EC P w K mg base "Clash" "name" :=
  ec_mk F ⟨rfl, rfl, rfl, by decide +kernel, rfl, by decide +kernel, by decide +kernel⟩ rfl (F.bindsN fun _ _ _ _ _ _ us hl => match us, hl with | [_, _], _ => rfl) T I hm xf is
theorem ec_NoPattern {fd : FuncData} (F : FnI K "NoPattern" "NoPattern.__init__" 7 fd) (T : OexC K (He.ga K "NoPattern")) (I : Ini K (He.ga K "NoPattern") ["name"]) (hm : mg "NoPattern" = some (.ref (He.ga K "NoPattern")))
    (xf : XfC K (He.ga K "NoPattern")) (is : Vx.IsC K (He.ga K "NoPattern")) : EC P w K mg base "NoPattern" "name" :=
  ec_mk F ⟨rfl, rfl, rfl, by decide +kernel, rfl, by decide +kernel, by decide +kernel⟩ rfl (F.bindsN fun _ _ _ _ _ _ us hl => match us, hl with | [_, _], _ => rfl) T I hm xf is
theorem ec_NoRun {fd : FuncData} (F : FnI K "NoRun" "NoRun.__init__" 21 fd) (T : OexC K (He.ga K "NoRun")) (I : Ini K (He.ga K "NoRun") ["name"]) (hm : mg "NoRun" = some (.ref (He.ga K "NoRun")))
    (xf : XfC K (He.ga K "NoRun")) (is : Vx.IsC K (He.ga K "NoRun")) : EC P w K mg base "NoRun" "name" :=
  ec_mk F ⟨rfl, rfl, rfl, by decide +kernel, rfl, by decide +kernel, by decide +kernel⟩ rfl (F.bindsN fun _ _ _ _ _ _ us hl => match us, hl with | [_, _], _ => rfl) T I hm xf is
theorem ec_SameLane {fd : FuncData} (F : FnI K "SameLane" "SameLane.__init__" 22 fd) (T : OexC K (He.ga K "SameLane")) (I : Ini K (He.ga K "SameLane") ["name"]) (hm : mg "SameLane" = some (.ref (He.ga K "SameLane")))
    (xf : XfC K (He.ga K "SameLane")) (is : Vx.IsC K (He.ga K "SameLane")) : EC P w K mg base "SameLane" "name" :=
  ec_mk F ⟨rfl, rfl, rfl, by decide +kernel, rfl, by decide +kernel, by decide +kernel⟩ rfl (F.bindsN fun _ _ _ _ _ _ us hl => match us, hl with | [_, _], _ => rfl) T I hm xf is
theorem ec_Brought {fd : FuncData} (F : FnI K "Brought" "Brought.__init__" 23 fd) (T : OexC K (He.ga K "Brought")) (I : Ini K (He.ga K "Brought") ["name"]) (hm : mg "Brought" = some (.ref (He.ga K "Brought")))
    (xf : XfC K (He.ga K "Brought")) (is : Vx.IsC K (He.ga K "Brought")) : EC P w K mg base "Brought" "name" :=
  ec_mk F ⟨rfl, rfl, rfl, by decide +kernel, rfl, by decide +kernel, by decide +kernel⟩ rfl (F.bindsN fun _ _ _ _ _ _ us hl => match us, hl with | [_, _], _ => rfl) T I hm xf is
theorem ec_StillWanted {fd : FuncData} (F : FnI K "StillWanted" "StillWanted.__init__" 24 fd) (T : OexC K (He.ga K "StillWanted")) (I : Ini K (He.ga K "StillWanted") ["name"]) (hm : mg "StillWanted" = some (.ref (He.ga K "StillWanted")))
    (xf : XfC K (He.ga K "StillWanted")) (is : Vx.IsC K (He.ga K "StillWanted")) : EC P w K mg base "StillWanted" "name" :=
  ec_mk F ⟨rfl, rfl, rfl, by decide +kernel, rfl, by decide +kernel, by decide +kernel⟩ rfl (F.bindsN fun _ _ _ _ _ _ us hl => match us, hl with | [_, _], _ => rfl) T I hm xf is
theorem ec_NotWanted {fd : FuncData} (F : FnI K "NotWanted" "NotWanted.__init__" 25 fd) (T : OexC K (He.ga K "NotWanted")) (I : Ini K (He.ga K "NotWanted") ["name"]) (hm : mg "NotWanted" = some (.ref (He.ga K "NotWanted")))
    (xf : XfC K (He.ga K "NotWanted")) (is : Vx.IsC K (He.ga K "NotWanted")) : EC P w K mg base "NotWanted" "name" :=
  ec_mk F ⟨rfl, rfl, rfl, by decide +kernel, rfl, by decide +kernel, by decide +kernel⟩ rfl (F.bindsN fun _ _ _ _ _ _ us hl => match us, hl with | [_, _], _ => rfl) T I hm xf is
theorem ec_BadWalk {fd : FuncData} (F : FnI K "BadWalk" "BadWalk.__init__" 14 fd) (T : OexC K (He.ga K "BadWalk")) (I : Ini K (He.ga K "BadWalk") ["place"]) (hm : mg "BadWalk" = some (.ref (He.ga K "BadWalk")))
    (xf : XfC K (He.ga K "BadWalk")) (is : Vx.IsC K (He.ga K "BadWalk")) : EC P w K mg base "BadWalk" "place" :=
  ec_mk F ⟨rfl, rfl, rfl, by decide +kernel, rfl, by decide +kernel, by decide +kernel⟩ rfl (F.bindsN fun _ _ _ _ _ _ us hl => match us, hl with | [_, _], _ => rfl) T I hm xf is
theorem ec_BadText {fd : FuncData} (F : FnI K "BadText" "BadText.__init__" 15 fd) (T : OexC K (He.ga K "BadText")) (I : Ini K (He.ga K "BadText") ["place"]) (hm : mg "BadText" = some (.ref (He.ga K "BadText")))
    (xf : XfC K (He.ga K "BadText")) (is : Vx.IsC K (He.ga K "BadText")) : EC P w K mg base "BadText" "place" :=
  ec_mk F ⟨rfl, rfl, rfl, by decide +kernel, rfl, by decide +kernel, by decide +kernel⟩ rfl (F.bindsN fun _ _ _ _ _ _ us hl => match us, hl with | [_, _], _ => rfl) T I hm xf is
theorem ec_BadDeed {fd : FuncData} (F : FnI K "BadDeed" "BadDeed.__init__" 16 fd) (T : OexC K (He.ga K "BadDeed")) (I : Ini K (He.ga K "BadDeed") ["place"]) (hm : mg "BadDeed" = some (.ref (He.ga K "BadDeed")))
    (xf : XfC K (He.ga K "BadDeed")) (is : Vx.IsC K (He.ga K "BadDeed")) : EC P w K mg base "BadDeed" "place" :=
  ec_mk F ⟨rfl, rfl, rfl, by decide +kernel, rfl, by decide +kernel, by decide +kernel⟩ rfl (F.bindsN fun _ _ _ _ _ _ us hl => match us, hl with | [_, _], _ => rfl) T I hm xf is
theorem ec_OneRing {fd : FuncData} (F : FnI K "OneRing" "OneRing.__init__" 19 fd) (T : OexC K (He.ga K "OneRing")) (I : Ini K (He.ga K "OneRing") ["ring"]) (hm : mg "OneRing" = some (.ref (He.ga K "OneRing")))
    (xf : XfC K (He.ga K "OneRing")) (is : Vx.IsC K (He.ga K "OneRing")) : EC P w K mg base "OneRing" "ring" :=
  ec_mk F ⟨rfl, rfl, rfl, by decide +kernel, rfl, by decide +kernel, by decide +kernel⟩ rfl (F.bindsN fun _ _ _ _ _ _ us hl => match us, hl with | [_, _], _ => rfl) T I hm xf is
theorem ec_NotSure {fd : FuncData} (F : FnI K "NotSure" "NotSure.__init__" 20 fd) (T : OexC K (He.ga K "NotSure")) (I : Ini K (He.ga K "NotSure") ["ring"]) (hm : mg "NotSure" = some (.ref (He.ga K "NotSure")))
    (xf : XfC K (He.ga K "NotSure")) (is : Vx.IsC K (He.ga K "NotSure")) : EC P w K mg base "NotSure" "ring" :=
  ec_mk F ⟨rfl, rfl, rfl, by decide +kernel, rfl, by decide +kernel, by decide +kernel⟩ rfl (F.bindsN fun _ _ _ _ _ _ us hl => match us, hl with | [_, _], _ => rfl) T I hm xf is
theorem ec_BadNumber {fd : FuncData} (F : FnI K "BadNumber" "BadNumber.__init__" 17 fd) (T : OexC K (He.ga K "BadNumber")) (I : Ini K (He.ga K "BadNumber") ["value"]) (hm : mg "BadNumber" = some (.ref (He.ga K "BadNumber")))
    (xf : XfC K (He.ga K "BadNumber")) (is : Vx.IsC K (He.ga K "BadNumber")) : EC P w K mg base "BadNumber" "value" :=
  ec_mk F ⟨rfl, rfl, rfl, by decide +kernel, rfl, by decide +kernel, by decide +kernel⟩ rfl (F.bindsN fun _ _ _ _ _ _ us hl => match us, hl with | [_, _], _ => rfl) T I hm xf is
theorem ec_BadWord {fd : FuncData} (F : FnI K "BadWord" "BadWord.__init__" 26 fd) (T : OexC K (He.ga K "BadWord")) (I : Ini K (He.ga K "BadWord") ["word"]) (hm : mg "BadWord" = some (.ref (He.ga K "BadWord")))
    (xf : XfC K (He.ga K "BadWord")) (is : Vx.IsC K (He.ga K "BadWord")) : EC P w K mg base "BadWord" "word" :=
  ec_mk F ⟨rfl, rfl, rfl, by decide +kernel, rfl, by decide +kernel, by decide +kernel⟩ rfl (F.bindsN fun _ _ _ _ _ _ us hl => match us, hl with | [_, _], _ => rfl) T I hm xf is
theorem ec_BadLine {fd : FuncData} (F : FnI K "BadLine" "BadLine.__init__" 27 fd) (T : OexC K (He.ga K "BadLine")) (I : Ini K (He.ga K "BadLine") ["line"]) (hm : mg "BadLine" = some (.ref (He.ga K "BadLine")))
    (xf : XfC K (He.ga K "BadLine")) (is : Vx.IsC K (He.ga K "BadLine")) : EC P w K mg base "BadLine" "line" :=
  ec_mk F ⟨rfl, rfl, rfl, by decide +kernel, rfl, by decide +kernel, by decide +kernel⟩ rfl (F.bindsN fun _ _ _ _ _ _ us hl => match us, hl with | [_, _], _ => rfl) T I hm xf is
/-- NoRound -/
def spIni3 (C : Addr) : Sp := fun vs H Q _ => ∃ (a : Addr) (v1 v2 v3 : V), vs = [.ref a, v1, v2, v3] ∧ H a = some (exo a C none) ∧
  ∀ dx H', H dx = none → dx ≠ a → (∀ b o, H b = some o → b ≠ a → H' b = some o) → H' a = some (exo a C (some dx)) → H' dx = some (exd dx [("side", v3), ("second", v2), ("first", v1)]) → Q .non H'
theorem sc3 : FnScope ["self", "first", "second", "side"] ["self", "first", "second", "side"] (defScope (ini 18)) := ⟨rfl, rfl, rfl, by decide +kernel, rfl, by decide +kernel, by decide +kernel⟩
theorem ok_ini3 {fI C : Addr} {fd : FuncData} (F : FunD K "__init__" "NoRound.__init__" (defArgs (ini 18)) (defBody (ini 18)) (defScope (ini 18)) [] [] fI fd) (T : OexC K C)
    (no : ∀ f ∈ (["first", "second", "side"] : List Str), PySem.W.findIn K (.ref C) f = some none) : FnOk P w K mg base CX0 1 fI fd ["self", "first", "second", "side"] (spIni3 C) := by
  refine F.ok (CX := CX0) sc3 (fun vs H Q E h => ?_) (fun cdv A outer s H vs Q E hr h => ?_)
  · obtain ⟨a, v1, v2, v3, rfl, _⟩ := h
    rfl
  · refine ⟨_, pss_cons (ps_ost (pv 0) (pv 1)) (pss_cons (ps_ost (pv 0) (pv 2)) (pss_one (ps_ost (pv 0) (pv 3)))), ?_⟩
    obtain ⟨a, v1, v2, v3, rfl, ha, q⟩ := h
    refine ⟨v1, rfl, .ref a, rfl, a, C, rfl, T, no _ (by decide), .inl ⟨ha, fun dx h1 h2 => ?_⟩⟩
    refine ⟨v2, rfl, .ref a, rfl, a, C, rfl, T, no _ (by decide), .inr ⟨dx, _, upd_same, by rw [upd_ne h2, upd_same], by show 1 ≤ 900; omega, ?_⟩⟩
    refine ⟨v3, rfl, .ref a, rfl, a, C, rfl, T, no _ (by decide), .inr ⟨dx, _, by rw [upd_ne (Ne.symm h2), upd_same], upd_same, by show 2 ≤ 900; omega, ?_⟩⟩
    refine q dx _ h1 h2 (fun b o e hb => ?_) (by rw [upd_ne (Ne.symm h2), upd_ne (Ne.symm h2), upd_same]) upd_same
    have hd : b ≠ dx := ne_of_none e h1
    rw [upd_ne hd, upd_ne hd, upd_ne hb, upd_ne hd]
    exact e
end
end K01

set_option Elab.async false
set_option linter.all false
set_option maxRecDepth 100000
set_option maxHeartbeats 4000000
namespace K01
open PySem PySem.Spec PyProof.Rows L2 Vl Evl Vh
def g8 : List (Str × Str) := [("BadName", "name"), ("NameTaken", "name"), ("NoPost", "name"), ("NoLane", "name"), ("Clash", "name"), ("NoPattern", "name"), ("NoRun", "name"), ("SameLane", "name")]
def g3 : List (Str × Str) := [("Brought", "name"), ("StillWanted", "name"), ("NotWanted", "name")]
def gp : List (Str × Str) := [("BadWalk", "place"), ("BadText", "place"), ("BadDeed", "place")]
def gr : List (Str × Str) := [("OneRing", "ring"), ("NotSure", "ring")]
def gl : List (Str × Str) := [("BadNumber", "value"), ("BadWord", "word"), ("BadLine", "line")]
def g19 : List (Str × Str) := (((g8 ++ g3) ++ gp) ++ gr) ++ gl
theorem prs_app (K : PySem.W.Frag) (a b : List (Str × Str)) : prs K (a ++ b) = prs K a ++ prs K b := List.map_append
theorem prs_fld {K : PySem.W.Frag} {l : List (Str × Str)} {i : Nat} {C : Addr} {f : Str} (h : (prs K l)[i]? = some (C, f)) : ∃ x, (x, f) ∈ l ∧ C = He.ga K x := by
  unfold prs at h
  rw [List.getElem?_map] at h
  cases e : l[i]? with
  | none =>
    rw [e] at h
    cases h
  | some q =>
    rw [e] at h
    have h2 : (He.ga K q.1, q.2) = (C, f) := Option.some.inj h
    obtain ⟨q1, q2⟩ := q
    have h3 : He.ga K q1 = C := congrArg Prod.fst h2
    have h4 : q2 = f := congrArg Prod.snd h2
    subst h4
    exact ⟨q1, List.mem_of_getElem? e, h3.symm⟩
section
variable {P : Program} {w : World} {K : PySem.W.Frag} {mg : Str → Option Value} {base : Heap}
theorem ev_xv {st : L2.St} {H : Hp} {j : Nat} {a C : Addr} {f : Str} {v : V} (h : st[j]? = some (some (.ref a))) (er : ErrV H a C f v)
    (xf : XfC K C) (no : PySem.W.findIn K (.ref C) f = some none) : Ev (Vx.tXv K f (tVar j)) st H v := by
  intro H1 e Q q
  obtain ⟨d, h1, h2⟩ := er
  exact ⟨.ref a, h, a, C, d, _, v, rfl, xf, no, e _ _ h1, e _ _ h2, by simp [List.lookup], q H1 (Ex.refl H1)⟩
theorem ev_xe {st : L2.St} {H : Hp} {j : Nat} {C : Addr} {f : Str} {v : V} (h : st[j]? = some (some v))
    (xf : XfC K C) (no : PySem.W.findIn K (.ref C) f = some none) : Ev (Vx.tXv K f (tErr C f (tVar j))) st H v := by
  intro H1 e Q q
  refine ⟨v, h, fun a H2 _ e2 er => ?_⟩
  obtain ⟨d, h1, h2⟩ := er
  exact ⟨a, C, d, _, v, rfl, xf, no, h1, h2, by simp [List.lookup], q H2 e2⟩
/-- [e.f for e in xs] -/
theorem el_kept {st : L2.St} {H : Hp} {tl : TE} {a : Addr} {xs : List V} {l : List (Str × Str)} {f : Str} {v : V}
    (h : Ev tl st H (.ref a)) (hx : H a = some (.lst xs)) (he : Errs v (prs K l) xs H) (hf : ∀ q ∈ l, q.2 = f) (hl : l.length ≤ 100)
    (ec : ∀ q ∈ l, XfC K (He.ga K q.1) ∧ PySem.W.findIn K (.ref (He.ga K q.1)) q.2 = some none)
    (hw : ∀ x, wipe ((wipe st [5]).set 5 (some x)) [5] = wipe st [5]) (h5 : ∀ x : V, ((wipe st [5]).set 5 (some x))[5]? = some (some x)) :
    EvL (tLc (iList K tl) (gName 5) tYes (Vx.tXv K f (tVar 5)) [5]) st H (List.replicate l.length v) := by
  have hn : xs.length = l.length := by
    rw [he.len]
    exact List.length_map _
  have key := el_lcL (K := K) (t := tYes) (te := Vx.tXv K f (tVar 5)) (j := 5) (vs := [5]) (fun _ => true) (fun _ => v) h (sq_of hx) (by omega) hw
    (fun i x H1 e hi H2 e2 Q q => q H2 (Ex.refl H2)) (fun i x H1 e hi _ => ?_)
  · rw [given_rep, hn] at key
    exact key
  · obtain ⟨C, f', b, hp, rfl, er⟩ := he.get hi
    obtain ⟨y, hy, rfl⟩ := prs_fld hp
    obtain rfl := hf _ hy
    obtain ⟨xf, no⟩ := ec _ hy
    exact ev_xv (h5 _) (er.mono e) xf no
def spNamed (K : PySem.W.Frag) : Sp := fun vs H Q _ => ∃ v : V, vs = [v] ∧ ∀ p q1 q2 xs H', Ex H H' → H' p = some (.lst [.ref q1, .ref q2]) → H' q1 = some (.lst xs) →
  Errs v (prs K g19) xs H' → H' q2 = some (.lst (List.replicate 19 v)) → Q (.ref p) H'
/-- what is known of all classes with one field -/
def ECs (P : Program) (w : World) (K : PySem.W.Frag) (mg : Str → Option Value) (base : Heap) : Prop := ∀ q ∈ g19, EC P w K mg base q.1 q.2
theorem ECs.xn (E : ECs P w K mg base) : ∀ q ∈ g19, XfC K (He.ga K q.1) ∧ PySem.W.findIn K (.ref (He.ga K q.1)) q.2 = some none :=
  fun q hq => ⟨(E q hq).xf, (E q hq).I.no _ List.mem_cons_self⟩
abbrev nN : List Str := ["_law_a", "_law_some", "_law_kept", "_law_places", "_law_rings", "_law_one"]
theorem scN : FnScope nN ["_law_a"] (defScope sNamed) := ⟨rfl, rfl, rfl, by decide +kernel, rfl, by decide +kernel, by decide +kernel⟩
theorem ep_lst {ta : TA} {st : L2.St} {H : Hp} {R : List V → Hp → Prop} (h : EvAP ta st H R) (hz : ∀ xs H1, R xs H1 → xs.length ≤ 1000) :
    EvP (tLst ta) st H (fun x H1 => ∃ p xs H0, x = .ref p ∧ H0 p = none ∧ Ex H H0 ∧ R xs H0 ∧ H1 = upd H0 p (.lst xs)) := by
  intro H1 e Q q
  refine h H1 e _ fun xs H2 e2 r => ⟨?_, fun p np => ?_⟩
  · have := hz xs H2 r
    exact Nat.le_trans this (by decide)
  · exact q _ _ (e2.trans (Ex.new np)) ⟨p, xs, H2, rfl, np, e.trans e2, r, rfl⟩
theorem lst_ext {xs : List V} {F : Heap → Prop} : HO.ext F ≠ HO.lst xs := fun z => nomatch z
theorem errs_mut {H : Hp} {p : Addr} {ys zs : List V} {v : V} (hp : H p = some (.lst ys)) : ∀ {l : List (Addr × Str)} {xs : List V}, Errs v l xs H → Errs v l xs (upd H p (.lst zs))
  | [], _, h => h
  | (C, f) :: r, _, h => by
    obtain ⟨a, us, h1, ⟨d, h2, h3⟩, h4⟩ := h
    refine ⟨a, us, h1, ⟨d, ?_, ?_⟩, errs_mut hp h4⟩
    · rw [upd_ne (fun z => by rw [z, hp] at h2; exact lst_ext (Option.some.inj h2).symm)]
      exact h2
    · rw [upd_ne (fun z => by rw [z, hp] at h3; exact lst_ext (Option.some.inj h3).symm)]
      exact h3
theorem errs_small {v : V} {l : List (Addr × Str)} (h : l.length ≤ 1000) : ∀ xs H1, Errs v l xs H1 → xs.length ≤ 1000 := fun xs H1 e => by
  rw [e.len]
  exact h
/-- a new list of errors -/
theorem el_errs {ta : TA} {st : L2.St} {H : Hp} {v : V} {l : List (Addr × Str)} (h : EvAP ta st H (Errs v l)) (hl : l.length ≤ 1000) {Q : VK}
    (k : ∀ p xs H1, Ex H H1 → H1 p = some (.lst xs) → Errs v l xs H1 → (H p = none) → Q (.ref p) H1) : tLst ta st H Q := by
  refine h H (Ex.refl H) _ fun xs H0 e0 r => ⟨?_, fun p np => ?_⟩
  · exact Nat.le_trans (errs_small hl xs H0 r) (by decide)
  · exact k p xs _ (e0.trans (Ex.new np)) upd_same (r.mono (Ex.new np)) (fresh_back e0 np)
theorem s_asgP {D : Ends} {te : TE} {st : L2.St} {H : Hp} {i : Nat} {R : V → Hp → Prop} (h : EvP te st H R) (k : ∀ x H1, Ex H H1 → R x H1 → D.nx (st.set i (some x)) H1) : tAsg te (gName i) D st H :=
  h H (Ex.refl H) _ fun x H1 e p => k x H1 e p
theorem ep_errs {ta : TA} {st : L2.St} {H : Hp} {v : V} {l : List (Addr × Str)} (h : EvAP ta st H (Errs v l)) (hl : l.length ≤ 1000) :
    EvP (tLst ta) st H (fun x H1 => ∃ p xs, x = .ref p ∧ H1 p = some (.lst xs) ∧ Errs v l xs H1 ∧ H p = none) := by
  intro H1 e Q q
  refine ep_lst h (errs_small hl) H1 e Q fun x H2 e2 ⟨p, xs, H0, h1, h2, h5, h3, h4⟩ => ?_
  subst h4
  exact q x _ e2 ⟨p, xs, h1, upd_same, h3.mono (Ex.new h2), fresh_back h5 h2⟩
/-- xs + ys: a new list -/
theorem ep_cat {ta tb : TE} {st : L2.St} {H : Hp} {xs ys : List V} (ha : EvL ta st H xs) (hb : EvL tb st H ys) (hz : xs.length + ys.length ≤ 100000) : EvL (tOp rCat ta tb) st H (xs ++ ys) := by
  intro H1 e Q q
  refine ha H1 e _ fun pa H2 na e2 h2 => ?_
  refine hb H2 (e.trans e2) _ fun pb H3 nb e3 h3 => ?_
  refine ⟨pa, pb, xs, ys, rfl, rfl, e3 _ _ h2, h3, sz_of hz, fun p np => ?_⟩
  exact q p _ (fresh_back (e2.trans e3) np) ((e2.trans e3).trans (Ex.new np)) upd_same
theorem ep_cat1 {ta tb : TE} {st : L2.St} {H : Hp} {a : Addr} {xs ys : List V} (ha : Ev ta st H (.ref a)) (hx : H a = some (.lst xs)) (hb : EvL tb st H ys) (hz : xs.length + ys.length ≤ 100000) : EvL (tOp rCat ta tb) st H (xs ++ ys) := by
  intro H1 e Q q
  refine ha H1 e _ fun H2 e2 => ?_
  refine hb H2 (e.trans e2) _ fun pb H3 nb e3 h3 => ?_
  refine ⟨a, pb, xs, ys, rfl, rfl, ((e.trans e2).trans e3) _ _ hx, h3, sz_of hz, fun p np => ?_⟩
  exact q p _ (fresh_back (e2.trans e3) np) ((e2.trans e3).trans (Ex.new np)) upd_same
theorem ep_cat2 {ta tb : TE} {st : L2.St} {H : Hp} {a : Addr} {xs ys : List V} (ha : EvL ta st H xs) (hb : Ev tb st H (.ref a)) (hx : H a = some (.lst ys)) (hz : xs.length + ys.length ≤ 100000) : EvL (tOp rCat ta tb) st H (xs ++ ys) := by
  intro H1 e Q q
  refine ha H1 e _ fun pa H2 na e2 h2 => ?_
  refine hb H2 (e.trans e2) _ fun H3 e3 => ?_
  refine ⟨pa, a, xs, ys, rfl, rfl, e3 _ _ h2, ((e.trans e2).trans e3) _ _ hx, sz_of hz, fun p np => ?_⟩
  exact q p _ (fresh_back (e2.trans e3) np) ((e2.trans e3).trans (Ex.new np)) upd_same
theorem ep_cat12 {ta tb : TE} {st : L2.St} {H : Hp} {a b : Addr} {xs ys : List V} (ha : Ev ta st H (.ref a)) (hx : H a = some (.lst xs)) (hb : Ev tb st H (.ref b)) (hy : H b = some (.lst ys)) (hz : xs.length + ys.length ≤ 100000) : EvL (tOp rCat ta tb) st H (xs ++ ys) := by
  intro H1 e Q q
  refine ha H1 e _ fun H2 e2 => ?_
  refine hb H2 (e.trans e2) _ fun H3 e3 => ?_
  refine ⟨a, b, xs, ys, rfl, rfl, ((e.trans e2).trans e3) _ _ hx, ((e.trans e2).trans e3) _ _ hy, sz_of hz, fun p np => ?_⟩
  exact q p _ (fresh_back (e2.trans e3) np) ((e2.trans e3).trans (Ex.new np)) upd_same
theorem fld_sub {l m : List (Str × Str)} (h : ∀ q ∈ l, q ∈ m) {A : Str × Str → Prop} (k : ∀ q ∈ m, A q) : ∀ q ∈ l, A q := fun q hq => k q (h q hq)
theorem ok_named {f : Addr} {fd : FuncData} (F : FnP K "_law_named" sNamed f fd) (EX : ∀ b, ECs P w K mg b) (hx0 : ∀ x, mg x = mg x) :
    FnOk P w K mg base CX0 3 f fd ["_law_a"] (spNamed K) := by
  have E := EX base
  have x8 : ∀ q ∈ g8, q ∈ g19 := by decide
  have x3 : ∀ q ∈ g3, q ∈ g19 := by decide
  have xp : ∀ q ∈ gp, q ∈ g19 := by decide
  have xr : ∀ q ∈ gr, q ∈ g19 := by decide
  have xl : ∀ q ∈ gl, q ∈ g19 := by decide
  have xn := E.xn
  refine F.ok (CX := CX0) scN (fun vs H Q E h => ?_) (fun cdv A outer s H vs Q E' hr h => ?_)
  · obtain ⟨v, rfl, _⟩ := h
    rfl
  · have hr2 : Room 2 _ := hr
    refine ⟨_, (pss_cons (ps_set (i := 1) scN.nd rfl (Or.inl rfl) (pe_lst (pa_cons (pe_lst (pa_cons (pe_ec (E _ (x8 ("BadName", "name") (by decide))) hr2 (by rfl) (pv 0)) (pa_cons (pe_ec (E _ (x8 ("NameTaken", "name") (by decide))) hr2 (by rfl) (pv 0)) (pa_cons (pe_ec (E _ (x8 ("NoPost", "name") (by decide))) hr2 (by rfl) (pv 0)) (pa_cons (pe_ec (E _ (x8 ("NoLane", "name") (by decide))) hr2 (by rfl) (pv 0)) (pa_cons (pe_ec (E _ (x8 ("Clash", "name") (by decide))) hr2 (by rfl) (pv 0)) (pa_cons (pe_ec (E _ (x8 ("NoPattern", "name") (by decide))) hr2 (by rfl) (pv 0)) (pa_cons (pe_ec (E _ (x8 ("NoRun", "name") (by decide))) hr2 (by rfl) (pv 0)) (pa_cons (pe_ec (E _ (x8 ("SameLane", "name") (by decide))) hr2 (by rfl) (pv 0)) pa_nil))))))))) pa_nil)))
      (pss_cons (ps_expr (pe_bm PySem.F.plainAttrs_list PySem.F.slot_list_append PySem.F.type_list_append mt_append (pv 1) (pa_cons (pe_lst (pa_cons (pe_ec (E _ (x3 ("Brought", "name") (by decide))) hr2 (by rfl) (pv 0)) (pa_cons (pe_ec (E _ (x3 ("StillWanted", "name") (by decide))) hr2 (by rfl) (pv 0)) (pa_cons (pe_ec (E _ (x3 ("NotWanted", "name") (by decide))) hr2 (by rfl) (pv 0)) pa_nil)))) pa_nil)))
      (pss_cons (ps_set (i := 2) scN.nd rfl (Or.inl rfl) (pe_op op_cat (pe_lc (own := [("_law_one", 5)]) (g := gName 5) (tt := tYes) (te := Vx.tXv K "name" (tVar 5)) rfl scN.nd (pi_list (pe_ix ix_list (pv 1) pe_int fun _ _ => rfl)) (blkOk_by (own := [("_law_one", 5)]) (N := nN) (sc := defScope sNamed) (by decide +kernel)) (fun _ _ _ _ _ => pg_name (i := 5) scN.nd rfl (Or.inl rfl)) (fun _ _ _ _ _ => pts_nil) (fun _ _ _ _ _ => Vx.pe_xv (pv 5))) (pe_lc (own := [("_law_one", 5)]) (g := gName 5) (tt := tYes) (te := Vx.tXv K "name" (tVar 5)) rfl scN.nd (pi_list (pe_ix ix_list (pv 1) pe_int fun _ _ => rfl)) (blkOk_by (own := [("_law_one", 5)]) (N := nN) (sc := defScope sNamed) (by decide +kernel)) (fun _ _ _ _ _ => pg_name (i := 5) scN.nd rfl (Or.inl rfl)) (fun _ _ _ _ _ => pts_nil) (fun _ _ _ _ _ => Vx.pe_xv (pv 5)))))
      (pss_cons (ps_set (i := 3) scN.nd rfl (Or.inl rfl) (pe_lst (pa_cons (pe_ec (E _ (xp ("BadWalk", "place") (by decide))) hr2 (by rfl) (pv 0)) (pa_cons (pe_ec (E _ (xp ("BadText", "place") (by decide))) hr2 (by rfl) (pv 0)) (pa_cons (pe_ec (E _ (xp ("BadDeed", "place") (by decide))) hr2 (by rfl) (pv 0)) pa_nil)))))
      (pss_cons (ps_set (i := 2) scN.nd rfl (Or.inl rfl) (pe_op op_cat (pv 2) (pe_lc (own := [("_law_one", 5)]) (g := gName 5) (tt := tYes) (te := Vx.tXv K "place" (tVar 5)) rfl scN.nd (pi_list (pv 3)) (blkOk_by (own := [("_law_one", 5)]) (N := nN) (sc := defScope sNamed) (by decide +kernel)) (fun _ _ _ _ _ => pg_name (i := 5) scN.nd rfl (Or.inl rfl)) (fun _ _ _ _ _ => pts_nil) (fun _ _ _ _ _ => Vx.pe_xv (pv 5)))))
      (pss_cons (ps_set (i := 4) scN.nd rfl (Or.inl rfl) (pe_lst (pa_cons (pe_ec (E _ (xr ("OneRing", "ring") (by decide))) hr2 (by rfl) (pv 0)) (pa_cons (pe_ec (E _ (xr ("NotSure", "ring") (by decide))) hr2 (by rfl) (pv 0)) pa_nil))))
      (pss_cons (ps_set (i := 2) scN.nd rfl (Or.inl rfl) (pe_op op_cat (pe_op op_cat (pv 2) (pe_lc (own := [("_law_one", 5)]) (g := gName 5) (tt := tYes) (te := Vx.tXv K "ring" (tVar 5)) rfl scN.nd (pi_list (pv 4)) (blkOk_by (own := [("_law_one", 5)]) (N := nN) (sc := defScope sNamed) (by decide +kernel)) (fun _ _ _ _ _ => pg_name (i := 5) scN.nd rfl (Or.inl rfl)) (fun _ _ _ _ _ => pts_nil) (fun _ _ _ _ _ => Vx.pe_xv (pv 5)))) (pe_lst (pa_cons (Vx.pe_xv (pe_ec (E _ (xl ("BadNumber", "value") (by decide))) hr2 (by rfl) (pv 0))) (pa_cons (Vx.pe_xv (pe_ec (E _ (xl ("BadWord", "word") (by decide))) hr2 (by rfl) (pv 0))) (pa_cons (Vx.pe_xv (pe_ec (E _ (xl ("BadLine", "line") (by decide))) hr2 (by rfl) (pv 0))) pa_nil))))))
      (pss_one (ps_ret (pe_lst (pa_cons (pe_op op_cat (pe_op op_cat (pe_op op_cat (pe_op op_cat (pe_ix ix_list (pv 1) pe_int fun _ _ => rfl) (pe_ix ix_list (pv 1) pe_int fun _ _ => rfl)) (pv 3)) (pv 4)) (pe_lst (pa_cons (pe_ec (E _ (xl ("BadNumber", "value") (by decide))) hr2 (by rfl) (pv 0)) (pa_cons (pe_ec (E _ (xl ("BadWord", "word") (by decide))) hr2 (by rfl) (pv 0)) (pa_cons (pe_ec (E _ (xl ("BadLine", "line") (by decide))) hr2 (by rfl) (pv 0)) pa_nil))))) (pa_cons (pv 2) pa_nil)))))))))))), ?_⟩
    obtain ⟨v, rfl, q⟩ := h
    -- some = [[..]]
    refine s_asgP (ep_lst (eap_cons (ep_errs (l := prs K g8) (v := v) (eap_err rfl (eap_err rfl (eap_err rfl (eap_err rfl (eap_err rfl (eap_err rfl (eap_err rfl (eap_err rfl eap_nil)))))))) (by show 8 ≤ 1000; omega)) eap_nil ?_) ?_) ?_
    · rintro x H1 H2 e ⟨p, xs, h1, h2, h3, h4⟩
      exact ⟨p, xs, h1, e _ _ h2, h3.mono e, h4⟩
    · rintro xs H1 ⟨x, ys, rfl, _, rfl⟩
      show 1 ≤ 1000
      omega
    rintro _ H1 e1 ⟨ps, _, H0, rfl, ns, e0, ⟨_, _, rfl, ⟨p8, x8s, rfl, hp8, er8, _⟩, rfl⟩, rfl⟩
    have n8 : p8 ≠ ps := ne_of_none hp8 ns
    have nH : H ps = none := fresh_back e0 ns
    have er8' := er8.mono (Ex.new (o := .lst [.ref p8]) ns)
    have hp8' : (upd H0 ps (.lst [.ref p8])) p8 = some (.lst x8s) := by rw [upd_ne n8]; exact hp8
    have hs1 : (upd H0 ps (.lst [.ref p8])) ps = some (.lst [.ref p8]) := upd_same
    generalize upd H0 ps (.lst [.ref p8]) = Ha at *
    -- some.append([..])
    refine ⟨_, rfl, .inl ⟨rfl, _, SqL.of hs1⟩, ep_errs (l := prs K g3) (v := v) (eap_err rfl (eap_err rfl (eap_err rfl eap_nil))) (by show 3 ≤ 1000; omega) Ha (Ex.refl Ha) _ fun x H2 e2 px => ?_⟩
    obtain ⟨p3, x3s, rfl, hp3, er3, np3⟩ := px
    refine ⟨ps, _, _, rfl, rfl, e2 _ _ hs1, (by show 1 < sizeLine; decide), ?_⟩
    have n3 : p3 ≠ ps := fun z => by rw [z, hs1] at np3; cases np3
    have eb : Ex H (upd H2 ps (.lst ([.ref p8] ++ [.ref p3]))) := Ex.mut (e1.trans e2) nH
    have b8 : (upd H2 ps (.lst ([.ref p8] ++ [.ref p3]))) p8 = some (.lst x8s) := by rw [upd_ne n8]; exact e2 _ _ hp8'
    have b3 : (upd H2 ps (.lst ([.ref p8] ++ [.ref p3]))) p3 = some (.lst x3s) := by rw [upd_ne n3]; exact hp3
    have bs : (upd H2 ps (.lst ([.ref p8] ++ [.ref p3]))) ps = some (.lst [.ref p8, .ref p3]) := upd_same
    have f8 := errs_mut (zs := [.ref p8] ++ [.ref p3]) (e2 _ _ hs1) (er8'.mono e2)
    have f3 := errs_mut (zs := [.ref p8] ++ [.ref p3]) (e2 _ _ hs1) er3
    generalize upd H2 ps (.lst ([.ref p8] ++ [.ref p3])) = Hb at *
    -- kept = [..] + [..]
    have i0 : ∀ {t2 t3 t4 t5 : Option V}, Ev (tOp (rIxL K) (tVar 1) (tC (.int 0))) [some v, some (.ref ps), t2, t3, t4, t5] Hb (.ref p8) := ev_op (ev_var rfl) ev_c (rv_ixL (sq_of bs) (at_of rfl rfl))
    have i1 : ∀ {t2 t3 t4 t5 : Option V}, Ev (tOp (rIxL K) (tVar 1) (tC (.int 1))) [some v, some (.ref ps), t2, t3, t4, t5] Hb (.ref p3) := ev_op (ev_var rfl) ev_c (rv_ixL (sq_of bs) (at_of rfl rfl))
    refine s_asgL (ep_cat (el_kept (l := g8) (v := v) i0 b8 f8 (by decide) (by decide) (fld_sub x8 xn) (fun _ => rfl) (fun _ => rfl)) (el_kept (l := g3) (v := v) i1 b3 f3 (by decide) (by decide) (fld_sub x3 xn) (fun _ => rfl) (fun _ => rfl)) (by rw [List.length_replicate, List.length_replicate]; decide)) fun pk H3 _ e3 hk => ?_
    -- places
    refine s_asgP (ep_errs (l := prs K gp) (v := v) (eap_err rfl (eap_err rfl (eap_err rfl eap_nil))) (by show 3 ≤ 1000; omega)) ?_
    rintro _ H4 e4 ⟨pp, xps, rfl, hpp, erp, _⟩
    -- kept = kept + [..]
    refine s_asgL (ep_cat1 (ev_var rfl) (e4 _ _ hk) (el_kept (l := gp) (v := v) (ev_var rfl) hpp erp (by decide) (by decide) (fld_sub xp xn) (fun _ => rfl) (fun _ => rfl)) (by rw [List.length_append, List.length_replicate, List.length_replicate, List.length_replicate]; decide)) fun pk2 H5 _ e5 hk2 => ?_
    -- rings
    refine s_asgP (ep_errs (l := prs K gr) (v := v) (eap_err rfl (eap_err rfl eap_nil)) (by show 2 ≤ 1000; omega)) ?_
    rintro _ H6 e6 ⟨pr, xrs, rfl, hpr, err, _⟩
    -- kept = kept + [..] + [..]
    refine s_asgL (ep_cat (ep_cat1 (ev_var rfl) (e6 _ _ hk2) (el_kept (l := gr) (v := v) (ev_var rfl) hpr err (by decide) (by decide) (fld_sub xr xn) (fun _ => rfl) (fun _ => rfl)) (by simp only [List.length_append, List.length_replicate]; decide))
      (el_lst (vs := [v, v, v]) (ea_cons (ev_xe rfl (xn _ (xl ("BadNumber", "value") (by decide))).1 (xn _ (xl ("BadNumber", "value") (by decide))).2) (ea_cons (ev_xe rfl (xn _ (xl ("BadWord", "word") (by decide))).1 (xn _ (xl ("BadWord", "word") (by decide))).2)
        (ea_cons (ev_xe rfl (xn _ (xl ("BadLine", "line") (by decide))).1 (xn _ (xl ("BadLine", "line") (by decide))).2) ea_nil))) (by show 3 ≤ 100000; omega)) (by simp only [List.length_append, List.length_replicate]; show 8 + 3 + 3 + 2 + 3 ≤ 100000; omega)) fun pk3 H7 _ e7 hk3 => ?_
    -- return
    have eb7 : Ex Hb H7 := e3.trans (e4.trans (e5.trans (e6.trans e7)))
    have A : EvL (tOp rCat (tOp rCat (tOp rCat (tOp (rIxL K) (tVar 1) (tC (.int 0))) (tOp (rIxL K) (tVar 1) (tC (.int 1)))) (tVar 3)) (tVar 4)) [some v, some (.ref ps), some (.ref pk3), some (.ref pp), some (.ref pr), none] H7 (((x8s ++ x3s) ++ xps) ++ xrs) := by
      have l8 := er8.len
      have l3 := er3.len
      have lp := erp.len
      have lr := err.len
      have m8 : x8s.length = 8 := l8
      have m3 : x3s.length = 3 := l3
      have mp : xps.length = 3 := lp
      have mr : xrs.length = 2 := lr
      refine ep_cat2 (ep_cat2 (ep_cat12 (i0.mono eb7) (eb7 _ _ b8) (i1.mono eb7) (eb7 _ _ b3) ?_) (ev_var rfl) ((e5.trans (e6.trans e7)) _ _ hpp) ?_) (ev_var rfl) (e7 _ _ hpr) ?_
      · omega
      · rw [List.length_append]; omega
      · rw [List.length_append, List.length_append]; omega
    refine A H7 (Ex.refl H7) _ fun pa H8 na e8 ha => ?_
    refine ep_errs (l := prs K gl) (v := v) (eap_err rfl (eap_err rfl (eap_err rfl eap_nil))) (by show 3 ≤ 1000; omega) H8 (Ex.refl H8) _ fun x H9 e9 px => ?_
    obtain ⟨pl, xls, rfl, hpl, erl, _⟩ := px
    have fE : Errs v (prs K g19) ((((x8s ++ x3s) ++ xps) ++ xrs) ++ xls) H9 := by
      have eb9 : Ex Hb H9 := eb7.trans (e8.trans e9)
      have ep9 : Ex H4 H9 := e5.trans (e6.trans (e7.trans (e8.trans e9)))
      have er9 : Ex H6 H9 := e7.trans (e8.trans e9)
      unfold g19
      rw [prs_app, prs_app, prs_app, prs_app]
      exact Errs.app (Errs.app (Errs.app (Errs.app (f8.mono eb9) (f3.mono eb9)) (erp.mono ep9)) (err.mono er9)) erl
    have f19 := fE.len
    refine ⟨pa, pl, _, _, rfl, rfl, e9 _ _ ha, hpl, ?_, fun p1 np1 => ?_⟩
    · rw [← List.length_append, f19]
      exact sz_of (by show 19 ≤ 100000; omega)
    refine ⟨_, rfl, (by show 2 ≤ sizeLine; decide), fun p2 np2 => ?_⟩
    have n1 : p1 ≠ p2 := fun z => by rw [z] at np1; rw [← z, upd_same] at np2; cases np2
    have e10 := (Ex.new (o := .lst ((((x8s ++ x3s) ++ xps) ++ xrs) ++ xls)) np1).trans (Ex.new (o := .lst [.ref p1, .ref pk3]) np2)
    refine q p2 p1 pk3 _ _ (eb.trans (eb7.trans (e8.trans (e9.trans e10)))) upd_same (by rw [upd_ne n1, upd_same]) (fE.mono e10) ?_
    exact (e8.trans (e9.trans e10)) _ _ hk3
end
end K01

set_option Elab.async false
set_option linter.all false
set_option maxRecDepth 100000
set_option maxHeartbeats 4000000
namespace K01
open PySem PySem.Spec PyProof.Rows L2 Vl Evl Vh
/-- the class number j -/
abbrev cl (K : PySem.W.Frag) (j : Nat) : Addr := He.ga K (order.getD j "")
section
variable {P : Program} {w : World} {K : PySem.W.Frag} {mg : Str → Option Value} {base : Heap}
structure Cls (K : PySem.W.Frag) : Prop where
  is : ∀ i, i < 26 → Vx.IsC K (cl K i)
  kit : ∀ i j, i < 26 → j < 26 → PySem.W.kitOne K (.ref (cl K i)) (.ref (cl K j)) = some (i == j)
  show_ : ∀ i, i < 26 → PySem.W.kitOne K (.ref (cl K i)) (.ref (He.ga K "ShowError")) = some true
  val : ∀ i, i < 26 → PySem.W.kitOne K (.ref (cl K i)) (.type "ValueError") = some true
theorem ev_is0 {st : L2.St} {H : Hp} {a C : Addr} {c : V} {u : Value} {b : Bool} (h : st[0]? = some (some (.ref a))) (hx : Vx.ExAt H a C) (ic : Vx.IsC K C)
    (hc : ∀ z, RelV c z → z = u) (hk : PySem.W.kitOne K (.ref C) u = some b) : Ev (tCB (Vx.rIsV K) (tCons (tVar 0) (tCons (tC c) tNil))) st H (.bl b) := by
  intro H1 e Q q
  exact ⟨_, h, a, C, c, u, b, rfl, hc, exAt_mono e hx, ic, hk, q H1 (Ex.refl H1)⟩
def spClasses (K : PySem.W.Frag) : Sp := fun vs H Q _ => ∃ (a : Addr) (i : Nat), vs = [.ref a] ∧ i < 26 ∧ Vx.ExAt H a (cl K i) ∧
  ∀ p H', H p = none → Ex H H' → H' p = some (.lst ((List.range 26).map fun j => .bl (i == j))) → Q (.ref p) H'
abbrev nK : List Str := ["_law_e", "_law_found"]
theorem scK : FnScope nK ["_law_e"] (defScope sClasses) := ⟨rfl, rfl, rfl, by decide +kernel, rfl, by decide +kernel, by decide +kernel⟩
theorem ok_classes {f : Addr} {fd : FuncData} (F : FnP K "_law_classes" sClasses f fd) (C : Cls K) (G : ∀ x ∈ order, mg x = some (.ref (He.ga K x))) (mI : mg "isinstance" = none) :
    FnOk P w K mg base CX0 1 f fd ["_law_e"] (spClasses K) := by
  refine F.ok (CX := CX0) scK (fun vs H Q E h => ?_) (fun cdv A outer s H vs Q E' hr h => ?_)
  · obtain ⟨a, i, rfl, _⟩ := h
    rfl
  · refine ⟨_, (pss_cons (ps_set (i := 1) scK.nd rfl (Or.inl rfl) (pe_lst (pa_cons (pe_callB Vx.call_isV (by rfl) mI (by decide +kernel) (pa_cons (pv 0) (pa_cons (pe_glob (v := V.ref (He.ga K "BadName")) (by rfl) (G _ (show ("BadName" : Str) ∈ order by decide)) rfl) pa_nil))) (pa_cons (pe_callB Vx.call_isV (by rfl) mI (by decide +kernel) (pa_cons (pv 0) (pa_cons (pe_glob (v := V.ref (He.ga K "NameTaken")) (by rfl) (G _ (show ("NameTaken" : Str) ∈ order by decide)) rfl) pa_nil))) (pa_cons (pe_callB Vx.call_isV (by rfl) mI (by decide +kernel) (pa_cons (pv 0) (pa_cons (pe_glob (v := V.ref (He.ga K "NoPost")) (by rfl) (G _ (show ("NoPost" : Str) ∈ order by decide)) rfl) pa_nil))) (pa_cons (pe_callB Vx.call_isV (by rfl) mI (by decide +kernel) (pa_cons (pv 0) (pa_cons (pe_glob (v := V.ref (He.ga K "NoLane")) (by rfl) (G _ (show ("NoLane" : Str) ∈ order by decide)) rfl) pa_nil))) pa_nil))))))
      (pss_cons (ps_set (i := 1) scK.nd rfl (Or.inl rfl) (pe_op op_cat (pv 1) (pe_lst (pa_cons (pe_callB Vx.call_isV (by rfl) mI (by decide +kernel) (pa_cons (pv 0) (pa_cons (pe_glob (v := V.ref (He.ga K "Clash")) (by rfl) (G _ (show ("Clash" : Str) ∈ order by decide)) rfl) pa_nil))) (pa_cons (pe_callB Vx.call_isV (by rfl) mI (by decide +kernel) (pa_cons (pv 0) (pa_cons (pe_glob (v := V.ref (He.ga K "NoPattern")) (by rfl) (G _ (show ("NoPattern" : Str) ∈ order by decide)) rfl) pa_nil))) (pa_cons (pe_callB Vx.call_isV (by rfl) mI (by decide +kernel) (pa_cons (pv 0) (pa_cons (pe_glob (v := V.ref (He.ga K "NoRun")) (by rfl) (G _ (show ("NoRun" : Str) ∈ order by decide)) rfl) pa_nil))) (pa_cons (pe_callB Vx.call_isV (by rfl) mI (by decide +kernel) (pa_cons (pv 0) (pa_cons (pe_glob (v := V.ref (He.ga K "SameLane")) (by rfl) (G _ (show ("SameLane" : Str) ∈ order by decide)) rfl) pa_nil))) pa_nil)))))))
      (pss_cons (ps_set (i := 1) scK.nd rfl (Or.inl rfl) (pe_op op_cat (pv 1) (pe_lst (pa_cons (pe_callB Vx.call_isV (by rfl) mI (by decide +kernel) (pa_cons (pv 0) (pa_cons (pe_glob (v := V.ref (He.ga K "Brought")) (by rfl) (G _ (show ("Brought" : Str) ∈ order by decide)) rfl) pa_nil))) (pa_cons (pe_callB Vx.call_isV (by rfl) mI (by decide +kernel) (pa_cons (pv 0) (pa_cons (pe_glob (v := V.ref (He.ga K "StillWanted")) (by rfl) (G _ (show ("StillWanted" : Str) ∈ order by decide)) rfl) pa_nil))) (pa_cons (pe_callB Vx.call_isV (by rfl) mI (by decide +kernel) (pa_cons (pv 0) (pa_cons (pe_glob (v := V.ref (He.ga K "NotWanted")) (by rfl) (G _ (show ("NotWanted" : Str) ∈ order by decide)) rfl) pa_nil))) pa_nil))))))
      (pss_cons (ps_set (i := 1) scK.nd rfl (Or.inl rfl) (pe_op op_cat (pv 1) (pe_lst (pa_cons (pe_callB Vx.call_isV (by rfl) mI (by decide +kernel) (pa_cons (pv 0) (pa_cons (pe_glob (v := V.ref (He.ga K "BadWalk")) (by rfl) (G _ (show ("BadWalk" : Str) ∈ order by decide)) rfl) pa_nil))) (pa_cons (pe_callB Vx.call_isV (by rfl) mI (by decide +kernel) (pa_cons (pv 0) (pa_cons (pe_glob (v := V.ref (He.ga K "BadText")) (by rfl) (G _ (show ("BadText" : Str) ∈ order by decide)) rfl) pa_nil))) (pa_cons (pe_callB Vx.call_isV (by rfl) mI (by decide +kernel) (pa_cons (pv 0) (pa_cons (pe_glob (v := V.ref (He.ga K "BadDeed")) (by rfl) (G _ (show ("BadDeed" : Str) ∈ order by decide)) rfl) pa_nil))) pa_nil))))))
      (pss_cons (ps_set (i := 1) scK.nd rfl (Or.inl rfl) (pe_op op_cat (pv 1) (pe_lst (pa_cons (pe_callB Vx.call_isV (by rfl) mI (by decide +kernel) (pa_cons (pv 0) (pa_cons (pe_glob (v := V.ref (He.ga K "OneRing")) (by rfl) (G _ (show ("OneRing" : Str) ∈ order by decide)) rfl) pa_nil))) (pa_cons (pe_callB Vx.call_isV (by rfl) mI (by decide +kernel) (pa_cons (pv 0) (pa_cons (pe_glob (v := V.ref (He.ga K "NotSure")) (by rfl) (G _ (show ("NotSure" : Str) ∈ order by decide)) rfl) pa_nil))) (pa_cons (pe_callB Vx.call_isV (by rfl) mI (by decide +kernel) (pa_cons (pv 0) (pa_cons (pe_glob (v := V.ref (He.ga K "BadNumber")) (by rfl) (G _ (show ("BadNumber" : Str) ∈ order by decide)) rfl) pa_nil))) pa_nil))))))
      (pss_cons (ps_set (i := 1) scK.nd rfl (Or.inl rfl) (pe_op op_cat (pv 1) (pe_lst (pa_cons (pe_callB Vx.call_isV (by rfl) mI (by decide +kernel) (pa_cons (pv 0) (pa_cons (pe_glob (v := V.ref (He.ga K "BadWord")) (by rfl) (G _ (show ("BadWord" : Str) ∈ order by decide)) rfl) pa_nil))) (pa_cons (pe_callB Vx.call_isV (by rfl) mI (by decide +kernel) (pa_cons (pv 0) (pa_cons (pe_glob (v := V.ref (He.ga K "BadLine")) (by rfl) (G _ (show ("BadLine" : Str) ∈ order by decide)) rfl) pa_nil))) (pa_cons (pe_callB Vx.call_isV (by rfl) mI (by decide +kernel) (pa_cons (pv 0) (pa_cons (pe_glob (v := V.ref (He.ga K "NoRound")) (by rfl) (G _ (show ("NoRound" : Str) ∈ order by decide)) rfl) pa_nil))) pa_nil))))))
      (pss_cons (ps_set (i := 1) scK.nd rfl (Or.inl rfl) (pe_op op_cat (pv 1) (pe_lst (pa_cons (pe_callB Vx.call_isV (by rfl) mI (by decide +kernel) (pa_cons (pv 0) (pa_cons (pe_glob (v := V.ref (He.ga K "EmptyWalk")) (by rfl) (G _ (show ("EmptyWalk" : Str) ∈ order by decide)) rfl) pa_nil))) (pa_cons (pe_callB Vx.call_isV (by rfl) mI (by decide +kernel) (pa_cons (pv 0) (pa_cons (pe_glob (v := V.ref (He.ga K "EmptyWord")) (by rfl) (G _ (show ("EmptyWord" : Str) ∈ order by decide)) rfl) pa_nil))) (pa_cons (pe_callB Vx.call_isV (by rfl) mI (by decide +kernel) (pa_cons (pv 0) (pa_cons (pe_glob (v := V.ref (He.ga K "NotWalk")) (by rfl) (G _ (show ("NotWalk" : Str) ∈ order by decide)) rfl) pa_nil))) pa_nil))))))
      (pss_one (ps_ret (pe_op op_cat (pv 1) (pe_lst (pa_cons (pe_callB Vx.call_isV (by rfl) mI (by decide +kernel) (pa_cons (pv 0) (pa_cons (pe_glob (v := V.ref (He.ga K "NotOnePart")) (by rfl) (G _ (show ("NotOnePart" : Str) ∈ order by decide)) rfl) pa_nil))) (pa_cons (pe_callB Vx.call_isV (by rfl) mI (by decide +kernel) (pa_cons (pv 0) (pa_cons (pe_glob (v := V.ref (He.ga K "NothingWanted")) (by rfl) (G _ (show ("NothingWanted" : Str) ∈ order by decide)) rfl) pa_nil))) (pa_cons (pe_callB Vx.call_isV (by rfl) mI (by decide +kernel) (pa_cons (pv 0) (pa_cons (pe_glob (v := V.ref (He.ga K "NothingBack")) (by rfl) (G _ (show ("NothingBack" : Str) ∈ order by decide)) rfl) pa_nil))) pa_nil)))))))))))))), ?_⟩
    obtain ⟨a, i, rfl, hi, hx, q⟩ := h
    let b : Nat → V := fun j => .bl (i == j)
    have I : ∀ (j : Nat) (hj : j < 26) {t1 : Option V}, Ev (tCB (Vx.rIsV K) (tCons (tVar 0) (tCons (tC (.ref (cl K j))) tNil))) [some (.ref a), t1] H (b j) :=
      fun j hj t1 => ev_is0 rfl hx (C.is i hi) (fun z hz => hz) (C.kit i j hi hj)
    have J : ∀ H1, Ex H H1 → ∀ (j : Nat) (hj : j < 26) {t1 : Option V}, Ev (tCB (Vx.rIsV K) (tCons (tVar 0) (tCons (tC (.ref (cl K j))) tNil))) [some (.ref a), t1] H1 (b j) :=
      fun H1 e j hj t1 => (I j hj).mono e
    refine s_asgL (el_lst (vs := [b 0, b 1, b 2, b 3]) (ea_cons (I 0 (by omega)) (ea_cons (I 1 (by omega)) (ea_cons (I 2 (by omega)) (ea_cons (I 3 (by omega)) ea_nil)))) (by show 4 ≤ 100000; omega)) fun p0 H0 n0 e0 h0 => ?_
    refine s_asgL (ep_cat1 (ev_var rfl) h0 (el_lst (vs := [b 4, b 5, b 6, b 7]) (ea_cons (J H0 e0 4 (by omega)) (ea_cons (J H0 e0 5 (by omega)) (ea_cons (J H0 e0 6 (by omega)) (ea_cons (J H0 e0 7 (by omega)) ea_nil)))) (by show 4 ≤ 100000; omega)) (by show 4 + 4 ≤ 100000; omega)) fun p1 H1 n1 f1 h1 => ?_
    have e1 := e0.trans f1
    refine s_asgL (ep_cat1 (ev_var rfl) h1 (el_lst (vs := [b 8, b 9, b 10]) (ea_cons (J H1 e1 8 (by omega)) (ea_cons (J H1 e1 9 (by omega)) (ea_cons (J H1 e1 10 (by omega)) ea_nil))) (by show 3 ≤ 100000; omega)) (by show 8 + 3 ≤ 100000; omega)) fun p2 H2 n2 f2 h2 => ?_
    have e2 := e1.trans f2
    refine s_asgL (ep_cat1 (ev_var rfl) h2 (el_lst (vs := [b 11, b 12, b 13]) (ea_cons (J H2 e2 11 (by omega)) (ea_cons (J H2 e2 12 (by omega)) (ea_cons (J H2 e2 13 (by omega)) ea_nil))) (by show 3 ≤ 100000; omega)) (by show 11 + 3 ≤ 100000; omega)) fun p3 H3 n3 f3 h3 => ?_
    have e3 := e2.trans f3
    refine s_asgL (ep_cat1 (ev_var rfl) h3 (el_lst (vs := [b 14, b 15, b 16]) (ea_cons (J H3 e3 14 (by omega)) (ea_cons (J H3 e3 15 (by omega)) (ea_cons (J H3 e3 16 (by omega)) ea_nil))) (by show 3 ≤ 100000; omega)) (by show 14 + 3 ≤ 100000; omega)) fun p4 H4 n4 f4 h4 => ?_
    have e4 := e3.trans f4
    refine s_asgL (ep_cat1 (ev_var rfl) h4 (el_lst (vs := [b 17, b 18, b 19]) (ea_cons (J H4 e4 17 (by omega)) (ea_cons (J H4 e4 18 (by omega)) (ea_cons (J H4 e4 19 (by omega)) ea_nil))) (by show 3 ≤ 100000; omega)) (by show 17 + 3 ≤ 100000; omega)) fun p5 H5 n5 f5 h5 => ?_
    have e5 := e4.trans f5
    refine s_asgL (ep_cat1 (ev_var rfl) h5 (el_lst (vs := [b 20, b 21, b 22]) (ea_cons (J H5 e5 20 (by omega)) (ea_cons (J H5 e5 21 (by omega)) (ea_cons (J H5 e5 22 (by omega)) ea_nil))) (by show 3 ≤ 100000; omega)) (by show 20 + 3 ≤ 100000; omega)) fun p6 H6 n6 f6 h6 => ?_
    have e6 := e5.trans f6
    refine s_retL (ep_cat1 (ev_var rfl) h6 (el_lst (vs := [b 23, b 24, b 25]) (ea_cons (J H6 e6 23 (by omega)) (ea_cons (J H6 e6 24 (by omega)) (ea_cons (J H6 e6 25 (by omega)) ea_nil))) (by show 3 ≤ 100000; omega)) (by show 23 + 3 ≤ 100000; omega)) fun p7 H7 n7 f7 h7 => ?_
    exact q p7 H7 (fresh_back e6 n7) (e6.trans f7) h7
end
end K01

set_option Elab.async false
set_option linter.all false
set_option maxRecDepth 100000
set_option maxHeartbeats 4000000
namespace K01
open PySem PySem.Spec PyProof.Rows L2 Vl Evl Vh
section
variable {P : Program} {w : World} {K : PySem.W.Frag} {mg : Str → Option Value} {base : Heap}
def spAlone (K : PySem.W.Frag) : Sp := fun vs H Q _ => ∃ (a : Addr) (i : Nat), vs = [.ref a, .int (i : Int)] ∧ i < 26 ∧ Vx.ExAt H a (cl K i) ∧
  ∀ H', Ex H H' → Q (.bl true) H'
abbrev nA : List Str := ["_law_e", "_law_place", "_law_due", "_law_k"]
theorem scA : FnScope nA ["_law_e", "_law_place"] (defScope sAlone) := ⟨rfl, rfl, rfl, by decide +kernel, rfl, by decide +kernel, by decide +kernel⟩
theorem given_all (n : Nat) (v : Nat → V) : given n (fun _ => true) v = (List.range n).map v := by
  unfold given
  rw [List.filter_eq_self.mpr (fun _ _ => rfl)]
theorem dec_eq (i j : Nat) : decide (V.int (j : Int) = V.int (i : Int)) = (i == j) := by
  rw [Bool.eq_iff_iff, decide_eq_true_iff, beq_iff_eq]
  constructor
  · intro h
    have := V.int.inj h
    omega
  · intro h
    rw [h]
theorem ok_alone {f fC : Addr} {fd fdC : FuncData} (F : FnP K "_law_alone" sAlone f fd) (C : Cls K) (FC : FnP K "_law_classes" sClasses fC fdC) (G : ∀ x ∈ order, mg x = some (.ref (He.ga K x)))
    (gC : mg "_law_classes" = some (.ref fC)) (gS : mg "ShowError" = some (.ref (He.ga K "ShowError"))) (mI : mg "isinstance" = none) (mR : mg "range" = none) (mV : mg "ValueError" = none) :
    FnOk P w K mg base CX0 2 f fd ["_law_e", "_law_place"] (spAlone K) := by
  have GC : FnOk P w K mg base CX0 1 fC fdC ["_law_e"] (spClasses K) := ok_classes FC C G mI
  have bC : Binds K fdC ["_law_e"] [] := FC.bindsN fun _ _ _ _ _ _ us hl => match us, hl with | [_], _ => rfl
  refine F.ok (CX := CX0) scA (fun vs H Q E h => ?_) (fun cdv A outer s H vs Q E' hr h => ?_)
  · obtain ⟨a, i, rfl, _⟩ := h
    rfl
  · refine ⟨_, pss_cons (ps_setLc (i := 2) (own := [("_law_k", 3)]) (g := gName 3) (tt := tYes) (te := tOp rEq (tVar 3) (tVar 1)) rfl scA.nd rfl rfl (sw_true rfl rfl rfl (by decide +kernel)) (pi_range1 (by rfl) mR (pa_cons pe_int pa_nil)) (blkOk_by (own := [("_law_k", 3)]) (N := nA) (sc := defScope sAlone) (by decide +kernel))
        (fun _ _ _ _ _ => pg_name (i := 3) scA.nd rfl (Or.inl rfl)) (fun _ _ _ _ _ => pts_nil) (fun _ _ _ _ _ => pe_cmpR op_eq (pv 3) (pv 1) (nomark _)))
      (pss_one (ps_ret (pe_and (pe_cmpR (op_eqD hr.units) (pe_call GC hr (by rfl) gC FC.kp bC .nil pass0 (pa_cons (pv 0) pa_nil)) (pv 2) (nomark _))
        (pe_and (pe_callB Vx.call_isV (by rfl) mI (by decide +kernel) (pa_cons (pv 0) (pa_cons (pe_glob (v := V.ref (He.ga K "ShowError")) (by rfl) gS rfl) pa_nil)))
          (pe_one (pe_callB Vx.call_isV (by rfl) mI (by decide +kernel) (pa_cons (pv 0) (pa_cons (pe_bltn (v := V.ty "ValueError") (by rfl) mV (by decide +kernel) rfl) pa_nil)))))))), ?_⟩
    obtain ⟨a, i, rfl, hi, hx, q⟩ := h
    refine s_asgL (xs := (List.range 26).map fun j => .bl (i == j)) ?_ fun p1 H1 n1 e1 h1 => ?_
    · have key := el_lcR1 (σ := [some (.ref a), some (.int (i : Int)), none, none]) (H := H) (t := tYes) (te := tOp rEq (tVar 3) (tVar 1)) (ta := tCons (tC (.int 26)) tNil) (j := 3) (vs := [3]) (n := 26) (fun _ => true) (fun j => .bl (decide (V.int (j : Int) = V.int (i : Int)))) (ea_cons ev_c ea_nil) (by omega) (fun _ => rfl)
        (fun j H2 e hj H3 e3 Q q => q H3 (Ex.refl H3)) (fun j H2 e hj _ => ev_op (ev_var rfl) (ev_var rfl) (rv_eq rfl))
      rw [given_all, show (26 : Int).toNat = 26 from rfl, show (fun j : Nat => V.bl (decide (V.int (j : Int) = V.int (i : Int)))) = (fun j => V.bl (i == j)) from funext fun j => by rw [dec_eq]] at key
      exact key
    dsimp only
    refine s_ret (v := .bl (true && (true && true))) ?_ ?_
    rotate_left
    · exact fun H2 e2 => q H2 (e1.trans e2)
    refine ev_andV (a := true) ?_ fun _ => ?_
    rotate_left
    · refine ev_andV (a := true) ?_ fun _ => ?_
      · exact ev_is0 rfl (exAt_mono e1 hx) (C.is i hi) (by intro z hz; exact hz) (C.show_ i hi)
      · exact ev_is0 rfl (exAt_mono e1 hx) (C.is i hi) (by intro z hz; exact hz) (C.val i hi)
    intro H2 e2 Q q2
    refine ⟨_, rfl, a, i, rfl, hi, exAt_mono (e1.trans e2) hx, fun p3 H3 n3 e3 h3 => ⟨_, rfl, ?_⟩⟩
    have dd : DpAll K H3 ((List.range 26).map fun j => V.bl (i == j)) (((List.range 26).map fun j => (i == j)).map PyData.bool) := by
      have := dpa_bl (K := K) (H := H3) ((List.range 26).map fun j => (i == j))
      rw [List.map_map] at this
      exact this
    have lb := low_bl ((List.range 26).map fun j => (i == j))
    have c1 : (PyData.list (((List.range 26).map fun j => (i == j)).map PyData.bool)).canLay0 = true := lb.1
    have c2 : (PyData.list (((List.range 26).map fun j => (i == j)).map PyData.bool)).depth ≤ 64 := by
      show PyData.depthAll _ + 1 ≤ 64
      rw [lb.2]
      omega
    refine ⟨_, _, .lst (sq_of h3) dd, .lst (sq_of ((e2.trans e3) _ _ h1)) dd, shaped_of c1 c2, shaped_of c1 c2, ?_⟩
    rw [eqv_same c1]
    exact q2 H3 e3
end
end K01

set_option Elab.async false
set_option linter.all false
set_option maxRecDepth 100000
set_option maxHeartbeats 4000000
namespace K01
open PySem PySem.Spec PyProof.Rows L2 Vl Evl Vh
section
variable {P : Program} {w : World} {K : PySem.W.Frag} {mg : Str → Option Value} {base : Heap}
def spLaw (K : PySem.W.Frag) : Sp := fun vs H Q _ => ∃ (a : Addr) (ns : List Int), vs = [.ref a] ∧ SqL K H a (ns.map V.int) ∧ ∀ H', Q (.bl true) H'
abbrev nL : List Str := ["_law_script", "_law_a", "_law_b", "_law_c", "_law_errors", "_law_kept", "_law_k", "_law_one", "_law_three", "_law_plain"]
theorem scL : FnScope nL ["_law_script"] (defScope sLaw) := ⟨rfl, rfl, rfl, by decide +kernel, rfl, by decide +kernel, by decide +kernel⟩
theorem s_seq {t u : TS} {D : Ends} {st : L2.St} {H : Hp} (h : t { D with nx := u D } st H) : tSeq t u D st H := h
theorem cl_at {i : Nat} {C : Addr} {f : Str} (h : (prs K g19)[i]? = some (C, f)) (hi : i < 19) : C = cl K i := by
  have h1 : ∀ i, i < 19 → (g19[i]?).map (·.1) = some (order.getD i "") := by decide
  have h2 := h1 i hi
  unfold prs at h
  rw [List.getElem?_map] at h
  cases e : g19[i]? with
  | none =>
    rw [e] at h
    cases h
  | some q =>
    rw [e] at h h2
    have h3 : He.ga K q.1 = C := congrArg Prod.fst (Option.some.inj h)
    have h4 : q.1 = order.getD i "" := Option.some.inj h2
    rw [← h3, h4]
def Pls (K : PySem.W.Frag) : List Str → List V → Hp → Prop
  | [], xs, _ => xs = []
  | x :: r, xs, H => ∃ a ys, xs = .ref a :: ys ∧ Vx.ExAt H a (He.ga K x) ∧ Pls K r ys H
theorem Pls.mono {H H' : Hp} (e : Ex H H') : ∀ {l : List Str} {xs : List V}, Pls K l xs H → Pls K l xs H'
  | [], _, h => h
  | x :: r, _, h => by
    obtain ⟨a, ys, h1, h2, h3⟩ := h
    exact ⟨a, ys, h1, exAt_mono e h2, Pls.mono e h3⟩
theorem Pls.len {H : Hp} : ∀ {l : List Str} {xs : List V}, Pls K l xs H → xs.length = l.length
  | [], _, h => by
    rw [show _ = [] from h]
    rfl
  | x :: r, _, h => by
    obtain ⟨a, ys, h1, h2, h3⟩ := h
    rw [h1, List.length_cons, List.length_cons, Pls.len h3]
theorem Pls.get {H : Hp} : ∀ {l : List Str} {xs : List V} {i : Nat} {v : V}, Pls K l xs H → xs[i]? = some v → ∃ a, v = .ref a ∧ Vx.ExAt H a (He.ga K (l.getD i ""))
  | [], _, _, _, h, hi => by
    rw [show _ = [] from h] at hi
    cases hi
  | x :: r, _, 0, v, h, hi => by
    obtain ⟨a, ys, h1, h2, h3⟩ := h
    rw [h1] at hi
    exact ⟨a, (Option.some.inj hi).symm, h2⟩
  | x :: r, _, i + 1, v, h, hi => by
    obtain ⟨a, ys, h1, h2, h3⟩ := h
    rw [h1] at hi
    exact Pls.get (i := i) h3 hi
theorem eap_pl {x : Str} {st : L2.St} {H : Hp} {tr : TA} {r : List Str} (hr : EvAP tr st H (Pls K r)) : EvAP (tCons (Vx.tMkP (He.ga K x)) tr) st H (Pls K (x :: r)) := by
  intro H1 e Q q a na
  refine hr _ (e.trans (Ex.new na)) _ fun xs H3 e3 k => ?_
  exact q _ H3 ((Ex.new na).trans e3) ⟨a, xs, rfl, exAt_mono e3 (.inl upd_same), k⟩
theorem ok_law {f fC fT fN fA fI f3 : Addr} {fd fdC fdT fdN fdA fdI fd3 : FuncData} (F : FnP K "law" sLaw f fd) (FC : FnP K "_law_cell" sCell fC fdC) (FT : FnP K "_law_thing" sThing fT fdT) (FN : FnP K "_law_named" sNamed fN fdN) (FA : FnP K "_law_alone" sAlone fA fdA) (FI : FnP K "_law_classes" sClasses fI fdI)
    (C : Cls K) (EX : ∀ b, ECs P w K mg b) (G : ∀ x ∈ order, mg x = some (.ref (He.ga K x))) (PX : ∀ x ∈ plain, PySem.W.excIn K (He.ga K x) He.veBase "ValueError.__new__" = true ∧ PySem.W.keepIn K (.ref (He.ga K x)) = true)
    (F3 : FunD K "__init__" "NoRound.__init__" (defArgs (ini 18)) (defBody (ini 18)) (defScope (ini 18)) [] [] (He.ma K (He.ga K "NoRound") "__init__") fd3) (O3 : OexC K (He.ga K "NoRound")) (I3 : Ini K (He.ga K "NoRound") ["first", "second", "side"]) (X3 : XfC K (He.ga K "NoRound"))
    (gC : mg "_law_cell" = some (.ref fC)) (gT : mg "_law_thing" = some (.ref fT)) (gN : mg "_law_named" = some (.ref fN)) (gA : mg "_law_alone" = some (.ref fA)) (gI : mg "_law_classes" = some (.ref fI)) (gS : mg "ShowError" = some (.ref (He.ga K "ShowError")))
    (mL : mg "len" = none) (mInt : mg "int" = none) (mStr : mg "str" = none) (mAbs : mg "abs" = none) (mIs : mg "isinstance" = none) (mR : mg "range" = none) (mE : mg "enumerate" = none) (mV : mg "ValueError" = none) :
    FnOk P w K mg base CX0 4 f fd ["_law_script"] (spLaw K) := by
  have GC : FnOk P w K mg base CX0 1 fC fdC ["_law_script", "_law_k"] (spCell K) := ok_cell FC mL
  have GT : FnOk P w K mg base CX0 1 fT fdT ["_law_cell_here", "_law_k"] (spThing K) := ok_thing FT mInt mStr mAbs
  have GN : FnOk P w K mg base CX0 3 fN fdN ["_law_a"] (spNamed K) := ok_named FN EX (fun _ => rfl)
  have GA : FnOk P w K mg base CX0 2 fA fdA ["_law_e", "_law_place"] (spAlone K) := ok_alone FA C FI G gI gS mIs mR mV
  have G3 : FnOk P w K mg base CX0 1 _ fd3 ["self", "first", "second", "side"] (spIni3 (He.ga K "NoRound")) := ok_ini3 F3 O3 I3.no
  have bC : Binds K fdC ["_law_script", "_law_k"] [] := FC.bindsN fun _ _ _ _ _ _ us hl => match us, hl with | [_, _], _ => rfl
  have bT : Binds K fdT ["_law_cell_here", "_law_k"] [] := FT.bindsN fun _ _ _ _ _ _ us hl => match us, hl with | [_, _], _ => rfl
  have bN : Binds K fdN ["_law_a"] [] := FN.bindsN fun _ _ _ _ _ _ us hl => match us, hl with | [_], _ => rfl
  have bA : Binds K fdA ["_law_e", "_law_place"] [] := FA.bindsN fun _ _ _ _ _ _ us hl => match us, hl with | [_, _], _ => rfl
  have b3 : Binds K fd3 ["self", "first", "second", "side"] [] := F3.bindsN fun _ _ _ _ _ _ us hl => match us, hl with | [_, _, _, _], _ => rfl
  refine F.ok (CX := CX0) scL (fun vs H Q E h => ?_) (fun cdv A outer s H vs Q E' hr h => ?_)
  · obtain ⟨a, ns, rfl, _⟩ := h
    rfl
  · have hr1 : Room 1 _ := hr.mono (by decide)
    have hr2 : Room 2 _ := hr.mono (by decide)
    have hr3 : Room 3 _ := hr
    refine ⟨_, (pss_cons (ps_set (i := 1) scL.nd rfl (Or.inr rfl) (pe_call GT hr1 (by rfl) gT FT.kp bT .nil pass0 (pa_cons (pe_call GC hr1 (by rfl) gC FC.kp bC .nil pass0 (pa_cons (pv 0) (pa_cons pe_int pa_nil))) (pa_cons pe_int pa_nil))))
      (pss_cons (ps_set (i := 2) scL.nd rfl (Or.inl rfl) (pe_call GT hr1 (by rfl) gT FT.kp bT .nil pass0 (pa_cons (pe_call GC hr1 (by rfl) gC FC.kp bC .nil pass0 (pa_cons (pv 0) (pa_cons pe_int pa_nil))) (pa_cons pe_int pa_nil))))
      (pss_cons (ps_set (i := 3) scL.nd rfl (Or.inl rfl) (pe_call GT hr1 (by rfl) gT FT.kp bT .nil pass0 (pa_cons (pe_call GC hr1 (by rfl) gC FC.kp bC .nil pass0 (pa_cons (pv 0) (pa_cons pe_int pa_nil))) (pa_cons pe_int pa_nil))))
      (pss_cons (ps_asg (pe_call GN hr3 (by rfl) gN FN.kp bN .nil pass0 (pa_cons (pv 1) pa_nil)) (pg_unl rfl (pgs_cons (pg_name (i := 4) scL.nd rfl (Or.inl rfl)) (pgs_cons (pg_name (i := 5) scL.nd rfl (Or.inl rfl)) pgs_nil))))
      (pss_cons (ps_if (pt_cmpR (op_neD hr.units) (pv 5) (pe_lc (own := [("_law_one", 7)]) (g := gName 7) (tt := tYes) (te := tVar 1) rfl scL.nd (pi_list (pv 5)) (blkOk_by (own := [("_law_one", 7)]) (N := nL) (sc := defScope sLaw) (by decide +kernel)) (fun _ _ _ _ _ => pg_name (i := 7) scL.nd rfl (Or.inl rfl)) (fun _ _ _ _ _ => pts_nil) (fun _ _ _ _ _ => pv 1)) (nomark _)) (pss_one (ps_ret pe_bl)) pss_nil)
      (pss_cons (ps_for (passes_of rfl) rfl (pi_enum (by rfl) mE (pa_cons (pv 4) pa_nil)) (pg_tup rfl (pgs_cons (pg_name (i := 6) scL.nd rfl (Or.inl rfl)) (pgs_cons (pg_name (i := 7) scL.nd rfl (Or.inl rfl)) pgs_nil))) (pss_one (ps_if (pt_not (pt_val (pe_call GA hr2 (by rfl) gA FA.kp bA .nil pass0 (pa_cons (pv 7) (pa_cons (pv 6) pa_nil))))) (pss_one (ps_ret pe_bl)) pss_nil)))
      (pss_cons (ps_set (i := 8) scL.nd rfl (Or.inl rfl) (Vx.pe_mkV O3 I3.iC I3.tI G3 hr2 b3 (by rfl) (G _ (show ("NoRound" : Str) ∈ order by decide)) (pa_cons (pv 1) (pa_cons (pv 2) (pa_cons (pv 3) pa_nil)))))
      (pss_cons (ps_if (PW.pt (pw_or (pt_cmpR (op_neD hr.units) (pe_lst (pa_cons (Vx.pe_xv (pv 8)) (pa_cons (Vx.pe_xv (pv 8)) (pa_cons (Vx.pe_xv (pv 8)) pa_nil)))) (pe_lst (pa_cons (pv 1) (pa_cons (pv 2) (pa_cons (pv 3) pa_nil)))) (nomark _)) (pw_or1 (pt_not (pt_val (pe_call GA hr2 (by rfl) gA FA.kp bA .nil pass0 (pa_cons (pv 8) (pa_cons pe_int pa_nil)))))))) (pss_one (ps_ret pe_bl)) pss_nil)
      (pss_cons (ps_set (i := 9) scL.nd rfl (Or.inl rfl) (pe_lst (pa_cons (Vx.pe_mkP (PX "EmptyWalk" (by decide)).1 (G _ (show ("EmptyWalk" : Str) ∈ order by decide)) (PX "EmptyWalk" (by decide)).2 (by rfl)) (pa_cons (Vx.pe_mkP (PX "EmptyWord" (by decide)).1 (G _ (show ("EmptyWord" : Str) ∈ order by decide)) (PX "EmptyWord" (by decide)).2 (by rfl)) (pa_cons (Vx.pe_mkP (PX "NotWalk" (by decide)).1 (G _ (show ("NotWalk" : Str) ∈ order by decide)) (PX "NotWalk" (by decide)).2 (by rfl)) (pa_cons (Vx.pe_mkP (PX "NotOnePart" (by decide)).1 (G _ (show ("NotOnePart" : Str) ∈ order by decide)) (PX "NotOnePart" (by decide)).2 (by rfl)) (pa_cons (Vx.pe_mkP (PX "NothingWanted" (by decide)).1 (G _ (show ("NothingWanted" : Str) ∈ order by decide)) (PX "NothingWanted" (by decide)).2 (by rfl)) (pa_cons (Vx.pe_mkP (PX "NothingBack" (by decide)).1 (G _ (show ("NothingBack" : Str) ∈ order by decide)) (PX "NothingBack" (by decide)).2 (by rfl)) pa_nil))))))))
      (pss_one (ps_ret (pe_cmpR (op_eqD hr.units) (pe_lc (own := [("_law_k", 6), ("_law_one", 7)]) (g := gTup K 2 (gCons (gName 6) (gCons (gName 7) gNil))) (tt := tNot (tB (tCall (spAlone K) [] E0 (tCons (tVar 7) (tCons (tOp (rI0 fun i j => .int (i + j)) (tC (.int 20)) (tVar 6)) tNil))))) (te := tVar 6) rfl scL.nd (pi_enum (by rfl) mE (pa_cons (pv 9) pa_nil)) (blkOk_by (own := [("_law_k", 6), ("_law_one", 7)]) (N := nL) (sc := defScope sLaw) (by decide +kernel)) (fun _ _ _ _ _ => (pg_tup rfl (pgs_cons (pg_name (i := 6) scL.nd rfl (Or.inl rfl)) (pgs_cons (pg_name (i := 7) scL.nd rfl (Or.inl rfl)) pgs_nil)))) (fun _ _ _ _ _ => pts_one (pt_not (pt_val (pe_call GA hr2 (by rfl) gA FA.kp bA .nil pass0 (pa_cons (pv 7) (pa_cons (pe_op op_add pe_int (pv 6)) pa_nil)))))) (fun _ _ _ _ _ => pv 6)) (pe_lst pa_nil) (nomark _))))))))))))), ?_⟩
    obtain ⟨l, ns, rfl, hS, q⟩ := h
    refine ⟨_, rfl, l, ns, 0, rfl, hS, cellOf ns 0, 0, rfl, fun va da H1 e1 dA lA => ?_⟩
    refine ⟨_, rfl, l, ns, 1, rfl, ex_l e1 hS, cellOf ns 1, 1, rfl, fun vb db H2 e2 dB lB => ?_⟩
    refine ⟨_, rfl, l, ns, 2, rfl, ex_l (e1.trans e2) hS, cellOf ns 2, 2, rfl, fun vc dc H3 e3 dC lC => ?_⟩
    -- errors, kept
    refine ⟨_, rfl, va, rfl, fun p q1 q2 xs H4 e4 hp hq1 her hq2 => ?_⟩
    refine ⟨p, _, rfl, sq_of hp, rfl, _, _, rfl, _, _, rfl, rfl, ?_⟩
    have dA4 : Dp K H4 va da := dp_same (e2.trans (e3.trans e4)) dA
    have lr := low_rep lA 19
    have ca : (PyData.list (List.replicate 19 da)).canLay0 = true := lr.1
    have ha64 : (PyData.list (List.replicate 19 da)).depth ≤ 64 := by
      show PyData.depthAll _ + 1 ≤ 64
      have := lr.2
      omega
    dsimp only
    refine s_seq ?_
    refine s_if (b := false) (et_test (ev_opL (x := .ref q2) (xs := List.replicate 19 va) (ev_var rfl) ?_ ?_)) (fun h => nomatch h) fun _ H5 e5 => ?_
    · have key := el_lcL (K := K) (σ := [some (.ref l), some va, some vb, some vc, some (.ref q1), some (.ref q2), none, none, none, none]) (H := H4) (t := tYes) (te := tVar 1) (tl := tVar 5) (j := 7) (vs := [7]) (fun _ => true) (fun _ => va) (ev_var rfl) (sq_of hq2) (by rw [List.length_replicate]; omega) (fun _ => rfl)
        (fun i x H1 e hi H2 e2 Q q => q H2 (Ex.refl H2)) (fun i x H1 e hi _ => ev_var rfl)
      rw [given_rep, List.length_replicate] at key
      exact key
    · intro p5 H5 h5 e5
      refine rv_val fun H6 e6 Q q6 => ⟨_, _, .lst (sq_of (e6 _ _ (e5 _ _ hq2))) (dpa_rep (dp_same (e5.trans e6) dA4) 19), .lst (sq_of (e6 _ _ h5)) (dpa_rep (dp_same (e5.trans e6) dA4) 19), shaped_of ca ha64, shaped_of ca ha64, ?_⟩
      rw [eqv_same ca]
      exact q6
    -- for k, one in enumerate(errors)
    have hxs : xs.length = 19 := by rw [her.len]; rfl
    refine ⟨_, rfl, q1, xs, rfl, sq_of (e5 _ _ hq1), for_it walk_enum (fun i σ H' => ∃ t6 t7, σ = [some (.ref l), some va, some vb, some vc, some (.ref q1), some (.ref q2), t6, t7, none, none] ∧ Ex H5 H') ⟨_, _, rfl, Ex.refl H5⟩ (fun i σ H' _ ⟨_, _, _, e⟩ => sq_of (e _ _ (e5 _ _ hq1))) ?_ ?_⟩
    · rintro i x σ H6 H7 hi ⟨t6, t7, rfl, e6⟩ ⟨T, x1, x2, rfl, nT, rfl, hx1, hx2⟩
      obtain rfl : V.int (i : Nat) = x1 := Option.some.inj hx1
      obtain ⟨C', f', a, hp', rfl, er⟩ := her.get hx2
      obtain rfl := cl_at hp' (by omega)
      have e7 : Ex H4 (upd H6 T (.tup [V.int (i : Nat), .ref a])) := e5.trans (e6.trans (Ex.new nT))
      refine ⟨T, _, rfl, st_of upd_same, rfl, _, _, rfl, _, _, rfl, rfl, ?_⟩
      refine ⟨_, rfl, _, rfl, a, i, rfl, by omega, (er.mono e7).at_, fun H8 e8 => ⟨true, rfl, iteF ?_⟩⟩
      exact ⟨_, _, rfl, e6.trans ((Ex.new nT).trans e8)⟩
    rintro σ H6 ⟨t6, t7, rfl, e6⟩
    have eS : Ex H H6 := e1.trans (e2.trans (e3.trans (e4.trans (e5.trans e6))))
    -- three
    refine ⟨_, rfl, _, rfl, _, rfl, (by show 3 ≤ 1000; omega), fun a3 na3 => ⟨a3, va, vb, vc, rfl, upd_same, fun dx H7 n1 n2 kp ha3 hd3 => ⟨rfl, ?_⟩⟩⟩
    have e7 : Ex H6 H7 := fun b o hb => kp b o (by rw [upd_ne (ne_of_none hb na3)]; exact hb) (ne_of_none hb na3)
    have d1 : Dp K H7 va da := dp_same (e5.trans (e6.trans e7)) dA4
    have d2 : Dp K H7 vb db := dp_same (e3.trans (e4.trans (e5.trans (e6.trans e7)))) dB
    have d3 : Dp K H7 vc dc := dp_same (e4.trans (e5.trans (e6.trans e7))) dC
    have c3 : (PyData.list [da, db, dc]).canLay0 = true := by
      show (da.canLay0 && (db.canLay0 && (dc.canLay0 && true))) = true
      rw [lA.1, lB.1, lC.1]
      rfl
    have h3 : (PyData.list [da, db, dc]).depth ≤ 64 := by
      show max da.depth (max db.depth (max dc.depth 0)) + 1 ≤ 64
      have h1 := lA.2
      have h2 := lB.2
      have h3 := lC.2
      omega
    have X1 : ∀ (f : Str) (v : V), f ∈ (["first", "second", "side"] : List Str) → List.lookup f [(("side" : Str), vc), ("second", vb), ("first", va)] = some v → ∀ {t0 t1 t2 t3 t4 t5 t6 t7 t9 : Option V}, Ev (Vx.tXv K f (tVar 8)) [t0, t1, t2, t3, t4, t5, t6, t7, some (.ref a3), t9] H7 v := by
      intro f v hf hv t0 t1 t2 t3 t4 t5 t6 t7 t9 H8 e8 Q q8
      exact ⟨_, rfl, a3, _, dx, _, v, rfl, X3, I3.no f hf, e8 _ _ ha3, e8 _ _ hd3, hv, q8 H8 (Ex.refl H8)⟩
    dsimp only
    refine s_seq ?_
    refine s_if (b := false) (et_is (et_or (a := false) (b := false) (et_test (ev_opLL (xs := [va, vb, vc]) (ys := [va, vb, vc]) (el_lst (ea_cons (X1 "first" va (by decide) (by rfl)) (ea_cons (X1 "second" vb (by decide) (by rfl)) (ea_cons (X1 "side" vc (by decide) (by rfl)) ea_nil))) (by show 3 ≤ 100000; omega))
      (el_lst (ea_cons (ev_var rfl) (ea_cons (ev_var rfl) (ea_cons (ev_var rfl) ea_nil))) (by show 3 ≤ 100000; omega)) ?_)) fun _ => et_is (et_not (a := true) (et_B (ev_call (ea_cons (ev_var rfl) (ea_cons ev_c ea_nil)) ?_))) rfl) rfl) (fun h => nomatch h) fun _ H8 e8 => ?_
    · intro p5 p6 H8 h5 h6 e8
      have dd : ∀ H9, Ex H8 H9 → DpAll K H9 [va, vb, vc] [da, db, dc] := fun H9 e9 => .cons (dp_same (e8.trans e9) d1) (.cons (dp_same (e8.trans e9) d2) (.cons (dp_same (e8.trans e9) d3) .nil))
      refine rv_val fun H9 e9 Q q9 => ⟨_, _, .lst (sq_of (e9 _ _ h5)) (dd H9 e9), .lst (sq_of (e9 _ _ h6)) (dd H9 e9), shaped_of c3 h3, shaped_of c3 h3, ?_⟩
      rw [eqv_same c3]
      exact q9
    · intro H8 e8 Q q8 E
      exact ⟨a3, 19, rfl, by omega, .inr ⟨dx, _, e8 _ _ ha3, e8 _ _ hd3⟩, q8⟩
    -- plain
    dsimp only
    refine s_seq ?_
    refine s_asgP (ep_lst (R := Pls K plain) (eap_pl (eap_pl (eap_pl (eap_pl (eap_pl (eap_pl (x := "NothingBack") (r := []) eap_nil)))))) (fun xs H1 h => by rw [h.len]; show 6 ≤ 1000; omega)) ?_
    rintro _ H9 e9 ⟨pp, ps, H0, rfl, np0, _, hpl, rfl⟩
    have hpl9 := hpl.mono (Ex.new (o := .lst ps) np0)
    have hps : (upd H0 pp (.lst ps)) pp = some (.lst ps) := upd_same
    generalize upd H0 pp (.lst ps) = H9 at *
    have lps : ps.length = 6 := by rw [hpl.len]; rfl
    -- return [..] == []
    refine ⟨_, rfl, pp, ps, rfl, sq_of hps, fun Dl hD => lc_it walk_enum (fun i H' => Ex H9 H' ∧ H' Dl = some (.lst [])) ⟨Ex.new hD, upd_same⟩ (fun i H' _ p => sq_of (p.1 _ _ hps)) ?_ ?_⟩
    · rintro i x HA HB hi ⟨eA, hDA⟩ ⟨T, x1, x2, rfl, nT, rfl, hx1, hx2⟩
      obtain rfl : V.int (i : Nat) = x1 := Option.some.inj hx1
      obtain ⟨a, rfl, ex⟩ := hpl9.get hx2
      have hcl : He.ga K (plain.getD i "") = cl K (20 + i) := by
        have h1 : ∀ i, i < 6 → plain.getD i "" = order.getD (20 + i) "" := by decide
        rw [h1 i (by omega)]
      rw [hcl] at ex
      have eB := (Ex.new (o := .tup [V.int (i : Nat), .ref a]) nT)
      refine ⟨T, _, rfl, st_of upd_same, rfl, _, _, rfl, _, _, rfl, rfl, rfl, ?_⟩
      refine ⟨_, rfl, _, rfl, 20, _, rfl, rfl, a, 20 + i, ?_, by omega, exAt_mono (eA.trans eB) ex, fun HC eC => ⟨true, rfl, iteF ?_⟩⟩
      · rw [Int.natCast_add]
        rfl
      · exact ⟨eA.trans (eB.trans eC), eC _ _ (eB _ _ hDA)⟩
    · rintro HA ⟨eA, hDA⟩
      refine ⟨by show 0 ≤ sizeLine; omega, fun p9 np9 => ⟨_, _, .lst (sq_of (Ex.new np9 _ _ hDA)) .nil, .lst (sq_of upd_same) .nil, rfl, rfl, ?_⟩⟩
      exact q _
end
end K01

set_option Elab.async false
set_option linter.all false
set_option maxRecDepth 100000
set_option maxHeartbeats 4000000
namespace K01
open PySem PySem.Spec PyProof.Rows L2 Vl Evl Vh
theorem facts_ok {P : Program} {w : World} {K : PySem.W.Frag} {h : Heap} {mg : Str → Option Value} {f : Addr} (X : K.In h) (G : h.Ns mainGlobals mg) (hfa : mg ("law" : Str) = some (.ref f)) (c : SaysB facts fn K) :
    ∃ fd : FuncData, (∀ (s : Shared) (v : Value), BindsTo s fd ⟨[v], []⟩ [("_law_script", v)]) ∧ ∀ base : Heap, K.In base → base.Ns mainGlobals mg → FnOk P w K mg base CX0 4 f fd ["_law_script"] (spLaw K) := by
  obtain ⟨a1, c1⟩ := He.ba (show (order.all (fun x => (He.Fa.glo x).ok K && errB K (He.ga K x)) && _) = true from c.fact)
  obtain ⟨a2, c1⟩ := He.ba c1
  obtain ⟨a3, c1⟩ := He.ba c1
  obtain ⟨a4, c1⟩ := He.ba c1
  obtain ⟨a5, c1⟩ := He.ba c1
  obtain ⟨a6, c1⟩ := He.ba c1
  obtain ⟨a7, a8⟩ := He.ba c1
  have gg : ∀ x ∈ order, mg x = some (.ref (He.ga K x)) := fun x hx => He.glo_ok X G (He.ba (List.all_eq_true.mp a1 x hx)).1
  have O : ∀ x ∈ order, OexC K (He.ga K x) ∧ XfC K (He.ga K x) ∧ Vx.IsC K (He.ga K x) := fun x hx => errB_ok (He.ba (List.all_eq_true.mp a1 x hx)).2 a2
  have N : ∀ e ∈ errs, Ini K (He.ga K e.2.1) [e.2.2.2] := fun e he => iniB_ok (List.all_eq_true.mp a3 e he)
  have PX : ∀ x ∈ plain, PySem.W.excIn K (He.ga K x) He.veBase "ValueError.__new__" = true ∧ PySem.W.keepIn K (.ref (He.ga K x)) = true := fun x hx => by
    have z := He.exc_ok (List.all_eq_true.mp a5 x hx)
    exact ⟨z.1, z.2.1⟩
  have g2 : ∀ x ∈ (["ShowError", "_law_cell", "_law_thing", "_law_named", "_law_classes", "_law_alone", "law"] : List Str), mg x = some (.ref (He.ga K x)) := fun x hx => He.glo_ok X G (List.all_eq_true.mp a6 x hx)
  have fr : ∀ x ∈ (["len", "int", "str", "abs", "isinstance", "range", "enumerate", "ValueError"] : List Str), mg x = none := fun x hx => He.free_ok X G (List.all_eq_true.mp a7 x hx)
  have C : Cls K := by
    obtain ⟨k1, k2⟩ := He.ba a8
    have at_ : ∀ i, i < 26 → (order.map (He.ga K)).getD i 0 = cl K i := fun i hi => by
      have hl : i < order.length := hi
      rw [List.getD_eq_getElem?_getD, List.getElem?_map, List.getElem?_eq_getElem hl]
      show He.ga K order[i] = He.ga K (order.getD i "")
      rw [List.getD_eq_getElem?_getD, List.getElem?_eq_getElem hl]
      rfl
    have mem : ∀ i, i < 26 → cl K i ∈ order.map (He.ga K) := fun i hi => by
      rw [← at_ i hi, List.getD_eq_getElem?_getD, List.getElem?_eq_getElem (by rw [List.length_map]; exact hi)]
      exact List.getElem_mem _
    refine ⟨fun i hi => ?_, fun i j hi hj => ?_, fun i hi => ?_, fun i hi => ?_⟩
    · have hl : i < order.length := hi
      have e : order.getD i "" = order[i] := by rw [List.getD_eq_getElem?_getD, List.getElem?_eq_getElem hl]; rfl
      exact (O (order.getD i "") (by rw [e]; exact List.getElem_mem _)).2.2
    · have z := List.all_eq_true.mp (List.all_eq_true.mp k1 i (List.mem_range.mpr hi)) j (List.mem_range.mpr hj)
      have z2 := of_decide_eq_true z
      rw [at_ i hi, at_ j hj] at z2
      exact z2
    · exact of_decide_eq_true (He.ba (List.all_eq_true.mp k2 _ (mem i hi))).1
    · exact of_decide_eq_true (He.ba (List.all_eq_true.mp k2 _ (mem i hi))).2
  obtain ⟨_, D0⟩ := c.def_ 0 (d := gD (top 29) "_law_cell") rfl
  obtain ⟨_, D1⟩ := c.def_ 1 (d := gD (top 30) "_law_thing") rfl
  obtain ⟨_, D2⟩ := c.def_ 2 (d := gD (top 31) "_law_named") rfl
  obtain ⟨_, D3⟩ := c.def_ 3 (d := gD (top 32) "_law_classes") rfl
  obtain ⟨_, D4⟩ := c.def_ 4 (d := gD (top 33) "_law_alone") rfl
  obtain ⟨fd, D5⟩ := c.def_ 5 (d := gD (top 34) "law") rfl
  obtain ⟨_, D6⟩ := c.def_ 6 (d := mD (ini 18) "NoRound" "__init__" "NoRound.__init__") rfl
  obtain ⟨_, E0⟩ := c.def_ 7 (d := mD (ini 2) "BadName" "__init__" "BadName.__init__") rfl
  obtain ⟨_, E1⟩ := c.def_ 8 (d := mD (ini 3) "NameTaken" "__init__" "NameTaken.__init__") rfl
  obtain ⟨_, E2⟩ := c.def_ 9 (d := mD (ini 4) "NoPost" "__init__" "NoPost.__init__") rfl
  obtain ⟨_, E3⟩ := c.def_ 10 (d := mD (ini 5) "NoLane" "__init__" "NoLane.__init__") rfl
  obtain ⟨_, E4⟩ := c.def_ 11 (d := mD (ini 6) "Clash" "__init__" "Clash.__init__") rfl
  obtain ⟨_, E5⟩ := c.def_ 12 (d := mD (ini 7) "NoPattern" "__init__" "NoPattern.__init__") rfl
  obtain ⟨_, E6⟩ := c.def_ 13 (d := mD (ini 21) "NoRun" "__init__" "NoRun.__init__") rfl
  obtain ⟨_, E7⟩ := c.def_ 14 (d := mD (ini 22) "SameLane" "__init__" "SameLane.__init__") rfl
  obtain ⟨_, E8⟩ := c.def_ 15 (d := mD (ini 23) "Brought" "__init__" "Brought.__init__") rfl
  obtain ⟨_, E9⟩ := c.def_ 16 (d := mD (ini 24) "StillWanted" "__init__" "StillWanted.__init__") rfl
  obtain ⟨_, E10⟩ := c.def_ 17 (d := mD (ini 25) "NotWanted" "__init__" "NotWanted.__init__") rfl
  obtain ⟨_, E11⟩ := c.def_ 18 (d := mD (ini 14) "BadWalk" "__init__" "BadWalk.__init__") rfl
  obtain ⟨_, E12⟩ := c.def_ 19 (d := mD (ini 15) "BadText" "__init__" "BadText.__init__") rfl
  obtain ⟨_, E13⟩ := c.def_ 20 (d := mD (ini 16) "BadDeed" "__init__" "BadDeed.__init__") rfl
  obtain ⟨_, E14⟩ := c.def_ 21 (d := mD (ini 19) "OneRing" "__init__" "OneRing.__init__") rfl
  obtain ⟨_, E15⟩ := c.def_ 22 (d := mD (ini 20) "NotSure" "__init__" "NotSure.__init__") rfl
  obtain ⟨_, E16⟩ := c.def_ 23 (d := mD (ini 17) "BadNumber" "__init__" "BadNumber.__init__") rfl
  obtain ⟨_, E17⟩ := c.def_ 24 (d := mD (ini 26) "BadWord" "__init__" "BadWord.__init__") rfl
  obtain ⟨_, E18⟩ := c.def_ 25 (d := mD (ini 27) "BadLine" "__init__" "BadLine.__init__") rfl
  have ecs : ∀ b, ECs P w K mg b := fun b => show ∀ q ∈ ([("BadName", "name"), ("NameTaken", "name"), ("NoPost", "name"), ("NoLane", "name"), ("Clash", "name"), ("NoPattern", "name"), ("NoRun", "name"), ("SameLane", "name"), ("Brought", "name"), ("StillWanted", "name"), ("NotWanted", "name"), ("BadWalk", "place"), ("BadText", "place"), ("BadDeed", "place"), ("OneRing", "ring"), ("NotSure", "ring"), ("BadNumber", "value"), ("BadWord", "word"), ("BadLine", "line")] : List (Str × Str)), EC P w K mg b q.1 q.2 from
    List.forall_mem_cons.mpr ⟨ec_BadName E0 (O "BadName" (by decide)).1 (N (2, "BadName", "BadName.__init__", "name") (by decide)) (gg "BadName" (by decide)) (O "BadName" (by decide)).2.1 (O "BadName" (by decide)).2.2, List.forall_mem_cons.mpr ⟨ec_NameTaken E1 (O "NameTaken" (by decide)).1 (N (3, "NameTaken", "NameTaken.__init__", "name") (by decide)) (gg "NameTaken" (by decide)) (O "NameTaken" (by decide)).2.1 (O "NameTaken" (by decide)).2.2, List.forall_mem_cons.mpr ⟨ec_NoPost E2 (O "NoPost" (by decide)).1 (N (4, "NoPost", "NoPost.__init__", "name") (by decide)) (gg "NoPost" (by decide)) (O "NoPost" (by decide)).2.1 (O "NoPost" (by decide)).2.2, List.forall_mem_cons.mpr ⟨ec_NoLane E3 (O "NoLane" (by decide)).1 (N (5, "NoLane", "NoLane.__init__", "name") (by decide)) (gg "NoLane" (by decide)) (O "NoLane" (by decide)).2.1 (O "NoLane" (by decide)).2.2, List.forall_mem_cons.mpr ⟨ec_Clash E4 (O "Clash" (by decide)).1 (N (6, "Clash", "Clash.__init__", "name") (by decide)) (gg "Clash" (by decide)) (O "Clash" (by decide)).2.1 (O "Clash" (by decide)).2.2, List.forall_mem_cons.mpr ⟨ec_NoPattern E5 (O "NoPattern" (by decide)).1 (N (7, "NoPattern", "NoPattern.__init__", "name") (by decide)) (gg "NoPattern" (by decide)) (O "NoPattern" (by decide)).2.1 (O "NoPattern" (by decide)).2.2, List.forall_mem_cons.mpr ⟨ec_NoRun E6 (O "NoRun" (by decide)).1 (N (21, "NoRun", "NoRun.__init__", "name") (by decide)) (gg "NoRun" (by decide)) (O "NoRun" (by decide)).2.1 (O "NoRun" (by decide)).2.2, List.forall_mem_cons.mpr ⟨ec_SameLane E7 (O "SameLane" (by decide)).1 (N (22, "SameLane", "SameLane.__init__", "name") (by decide)) (gg "SameLane" (by decide)) (O "SameLane" (by decide)).2.1 (O "SameLane" (by decide)).2.2, List.forall_mem_cons.mpr ⟨ec_Brought E8 (O "Brought" (by decide)).1 (N (23, "Brought", "Brought.__init__", "name") (by decide)) (gg "Brought" (by decide)) (O "Brought" (by decide)).2.1 (O "Brought" (by decide)).2.2, List.forall_mem_cons.mpr ⟨ec_StillWanted E9 (O "StillWanted" (by decide)).1 (N (24, "StillWanted", "StillWanted.__init__", "name") (by decide)) (gg "StillWanted" (by decide)) (O "StillWanted" (by decide)).2.1 (O "StillWanted" (by decide)).2.2, List.forall_mem_cons.mpr ⟨ec_NotWanted E10 (O "NotWanted" (by decide)).1 (N (25, "NotWanted", "NotWanted.__init__", "name") (by decide)) (gg "NotWanted" (by decide)) (O "NotWanted" (by decide)).2.1 (O "NotWanted" (by decide)).2.2, List.forall_mem_cons.mpr ⟨ec_BadWalk E11 (O "BadWalk" (by decide)).1 (N (14, "BadWalk", "BadWalk.__init__", "place") (by decide)) (gg "BadWalk" (by decide)) (O "BadWalk" (by decide)).2.1 (O "BadWalk" (by decide)).2.2, List.forall_mem_cons.mpr ⟨ec_BadText E12 (O "BadText" (by decide)).1 (N (15, "BadText", "BadText.__init__", "place") (by decide)) (gg "BadText" (by decide)) (O "BadText" (by decide)).2.1 (O "BadText" (by decide)).2.2, List.forall_mem_cons.mpr ⟨ec_BadDeed E13 (O "BadDeed" (by decide)).1 (N (16, "BadDeed", "BadDeed.__init__", "place") (by decide)) (gg "BadDeed" (by decide)) (O "BadDeed" (by decide)).2.1 (O "BadDeed" (by decide)).2.2, List.forall_mem_cons.mpr ⟨ec_OneRing E14 (O "OneRing" (by decide)).1 (N (19, "OneRing", "OneRing.__init__", "ring") (by decide)) (gg "OneRing" (by decide)) (O "OneRing" (by decide)).2.1 (O "OneRing" (by decide)).2.2, List.forall_mem_cons.mpr ⟨ec_NotSure E15 (O "NotSure" (by decide)).1 (N (20, "NotSure", "NotSure.__init__", "ring") (by decide)) (gg "NotSure" (by decide)) (O "NotSure" (by decide)).2.1 (O "NotSure" (by decide)).2.2, List.forall_mem_cons.mpr ⟨ec_BadNumber E16 (O "BadNumber" (by decide)).1 (N (17, "BadNumber", "BadNumber.__init__", "value") (by decide)) (gg "BadNumber" (by decide)) (O "BadNumber" (by decide)).2.1 (O "BadNumber" (by decide)).2.2, List.forall_mem_cons.mpr ⟨ec_BadWord E17 (O "BadWord" (by decide)).1 (N (26, "BadWord", "BadWord.__init__", "word") (by decide)) (gg "BadWord" (by decide)) (O "BadWord" (by decide)).2.1 (O "BadWord" (by decide)).2.2, List.forall_mem_cons.mpr ⟨ec_BadLine E18 (O "BadLine" (by decide)).1 (N (27, "BadLine", "BadLine.__init__", "line") (by decide)) (gg "BadLine" (by decide)) (O "BadLine" (by decide)).2.1 (O "BadLine" (by decide)).2.2, fun _ h => nomatch h⟩⟩⟩⟩⟩⟩⟩⟩⟩⟩⟩⟩⟩⟩⟩⟩⟩⟩⟩
  have e := hfa.symm.trans (g2 "law" (by decide))
  cases e
  have b := FunD.bindsA (ps := ["_law_script"]) D5 fun _ _ _ _ _ _ us hl => match us, hl with | [_], _ => rfl
  refine ⟨fd, fun s v => b s [v] rfl, fun base _ _ => ?_⟩
  exact ok_law (f3 := 0) D5 D0 D1 D2 D4 D3 C ecs gg PX D6 (O "NoRound" (by decide)).1 (iniB_ok a4) (O "NoRound" (by decide)).2.1 (g2 "_law_cell" (by decide)) (g2 "_law_thing" (by decide)) (g2 "_law_named" (by decide)) (g2 "_law_alone" (by decide)) (g2 "_law_classes" (by decide)) (g2 "ShowError" (by decide))
    (fr "len" (by decide)) (fr "int" (by decide)) (fr "str" (by decide)) (fr "abs" (by decide)) (fr "isinstance" (by decide)) (fr "range" (by decide)) (fr "enumerate" (by decide)) (fr "ValueError" (by decide))
end K01
open PySem PySem.W PySem.Calls PyProof.Rows
theorem PySem.Challenge.cw_alsoshown_k01_errors_made_holds : PySem.Challenge.rw_alsoshown_k01_errors_made.Holds := by
  w_on; o_law
  refine HandSHeadRun.head_any (r := OpenLaw.row PySem.Challenge.rw_alsoshown_k01_errors_made) (q := view (OpenLaw.row PySem.Challenge.rw_alsoshown_k01_errors_made).prog [34]) (H := K01.hk) (ob := K01.ob) (M := 20000) (loose := K01.loose)
    (d := HandSHeadRun.topDef (OpenLaw.row PySem.Challenge.rw_alsoshown_k01_errors_made).prog 34) (kwd := []) K01.ob_eq
    (by kernel_rfl) (fun s => by kernel_rfl) K01.run (by kernel_rfl) (by kernel_rfl) (by kernel_rfl) (by rfl) (by first | assumption | decide +kernel) (by decide +kernel) ⟨rfl, rfl, rfl, rfl, rfl, by decide +kernel⟩ ?hw ?hc
  case hw => w_witness2
  case hc =>
    refine L2.walk_ofE (l := PySem.Challenge.rw_alsoshown_k01_errors_made) (n := 63) (k := 4) (x := "_law_script") (CX := L2.CX0) rfl (by decide) (by kernel_rfl) ⟨rfl, by decide, by decide⟩ ?F (fun _ _ _ _ z => z)
    intro w mg fa h Y G hmg0
    obtain ⟨K, KX, c⟩ := Y
    have hmg : mg ("law" : PySem.Str) = some (.ref fa) := by
      have e : (HandSHeadRun.topDef (OpenLaw.row PySem.Challenge.rw_alsoshown_k01_errors_made).prog 34).name = ("law" : PySem.Str) := by kernel_rfl
      rw [← e]
      exact hmg0
    obtain ⟨fd, hb, hF⟩ := K01.facts_ok (P := (PySem.Challenge.rw_alsoshown_k01_errors_made).prog) (w := w) KX G hmg c
    exact ⟨K, fd, K01.spLaw K, KX, hb, fun H a ns hl _ hS => ⟨a, ns, rfl, hS, fun _ => rfl⟩, hF⟩
#print axioms PySem.Challenge.cw_alsoshown_k01_errors_made_holds
