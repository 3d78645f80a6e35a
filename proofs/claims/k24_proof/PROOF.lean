import PyProof.Rows.All
import Wide.All
import OpenK.AllK
import Wide.FinOn
import PyProof.EqAt
import PyProof.EqKinds
import PyProof.TupleCall
import KE.KStateDown
import KE.KIsAll
import KE.KTryMore
import KE.KFromBytes
import HandS.ForMost
import HandS.ForExc
import HandS.IsInst
import HandS.Flow
import HandS.WideBits
import HandS.ExcInit
import HandS.ExcIs
import HandS.Head0
import HandS.Head1
import HandS.Head2
import HandS.HeadEnd
import HandS.HeadHook1
import HandS.HeadHook2
import HandS.ExcField
import HandS.ExcValue
import KE.KExcIs
import HandS.EndBits
import HandS.TupAny
import HandS.Zip
import HandS.TupMul
import HandS.Gcd
import HandS.Property
import HandS.Conv
import KE.KAssignIn
import HandS.Star
import HandS.WordsList
import PyProof.InstNe
import HandS.Head3
import OpenK.KMeth
import PySem.Challenge.RW_needforth_k24_whole_needs_on_courses
import HandS.Walk
import HandS.Call
set_option Elab.async false
set_option linter.all false
set_option maxRecDepth 100000
set_option maxHeartbeats 4000000
/-! Facts of the top as one truth of the written part, and the head that hands them on. -/
namespace NF
open PySem PySem.Spec PyProof.Rows L2 He
def obsM (ex : PySem.W.Frag → Bool) (fn : List DefD) (K : PySem.W.Frag) : AlD := (ex K && fn.all fun d => d.ok K, fn.map fun d => fnW K d.at_)
def SaysM (ex : PySem.W.Frag → Bool) (fn : List DefD) (K : PySem.W.Frag) : Prop := obsM ex fn K = valD fn
def obsMG (n : Nat) (ex : PySem.W.Frag → Bool) (fn : List DefD) (g : Addr → Option Obj) : AlD := obsM ex fn (frG g (asD g n))
def hookM (n : Nat) (ex : PySem.W.Frag → Bool) (fn : List DefD) : PySem.W.Hook where
  α := AlD
  obs := fun s => obsMG n ex fn s.heap.get?
  val := fun _ => valD fn
  says := fun _ h => ∃ K : PySem.W.Frag, K.In h ∧ SaysM ex fn K
  of := fun _ _ e => ⟨_, frG_in, e⟩
  keeps := fun _ _ _ ⟨K, hK, c⟩ k => ⟨K, PySem.W.Frag.In.keeps hK k, c⟩
theorem obsMG_eq {n : Nat} {ex : PySem.W.Frag → Bool} {fn : List DefD} {g : Addr → Option Obj} {s : Shared} (h : ∀ a, g a = s.heap.get? a) : obsMG n ex fn g = (hookM n ex fn).obs s := by
  have e : g = s.heap.get? := funext h
  rw [e] <;> rfl
section
variable {ex : PySem.W.Frag → Bool} {fn : List DefD} {K : PySem.W.Frag}
theorem SaysM.truth (c : SaysM ex fn K) : ex K = true :=
  (ba (show (ex K && fn.all fun d => d.ok K) = true from congrArg (fun z : AlD => z.1) c)).1
theorem SaysM.def_ (c : SaysM ex fn K) (i : Nat) {d : DefD} (h : fn[i]? = some d := by rfl) : ∃ fd, FunD K d.name d.qual d.params d.body d.scope (d.dvs K) (d.kws K) (fAd K d.at_) fd := by
  have c2 := (ba (show (ex K && fn.all fun d => d.ok K) = true from congrArg (fun z : AlD => z.1) c)).2
  have e : fn.map (fun d => fnW K d.at_) = fn.map DefD.val := congrArg (fun z : AlD => z.2) c
  have e2 : (fn.map fun d => fnW K d.at_)[i]? = (fn.map DefD.val)[i]? := by rw [e]
  rw [List.getElem?_map, List.getElem?_map, h] at e2
  exact DefD.funD (Option.some.inj e2) (List.all_eq_true.mp c2 d (List.mem_of_getElem? h))
end
/-! ### an exception class of the program's own, over ValueError, by truths of the written part -/
/-- the class's own object -/
def exObjB (K : PySem.W.Frag) (C : Addr) : Bool := match K.lookup C with
  | some ⟨.type t, _, .cls cd, sl⟩ => t == "type" && (match cd.mro with
    | .ref C' :: bm => C' == C && PySem.HandSPX.refsVE bm
    | _ => false) && (cd.hasDict && !cd.hasDel) && (match sl.toList with
    | [_, _, _, _, some (.builtin n), _] => n == "ValueError.__new__"
    | _ => false)
  | _ => false
theorem exObjB_ok {K : PySem.W.Frag} {C : Addr} (h : exObjB K C = true) :
    ∃ nm q N bs bm sn sub ab col dd k0 k1 k2 k3 k5, K.lookup C = some (excClassObj nm q C N bs bm true sn sub ab col dd k0 k1 k2 k3 k5 "ValueError.__new__") ∧ PySem.HandSPX.refsVE bm = true := by
  unfold exObjB at h
  split at h
  · rename_i t dd cd sl hl
    obtain ⟨h, h4⟩ := ba h
    obtain ⟨h, h3⟩ := ba h
    obtain ⟨h1, h2⟩ := ba h
    split at h2
    · rename_i C' bm hm
      obtain ⟨h5, h6⟩ := ba h2
      split at h4
      · rename_i k0 k1 k2 k3 n k5 hs
        obtain ⟨h7, h8⟩ := ba h3
        have e1 : t = "type" := eq_of_beq h1
        have e5 : C' = C := eq_of_beq h5
        have e9 : n = "ValueError.__new__" := eq_of_beq h4
        subst e1 e5 e9
        obtain ⟨nm, bs, mro, N, q, hd, sn, sub, ab, col, hdel⟩ := cd
        dsimp only at hm h7 h8
        subst hm h7
        have hdel' : hdel = false := by
          cases hdel with
          | false => rfl
          | true => cases h8
        subst hdel'
        have hsl : sl = #[k0, k1, k2, k3, some (.builtin "ValueError.__new__"), k5] := by
          have := congrArg List.toArray hs
          simpa using this
        subst hsl
        exact ⟨nm, q, N, bs, bm, sn, sub, ab, col, dd, k0, k1, k2, k3, k5, hl, h6⟩
      · cases h4
    · cases h2
  · cases h
/-- all that making one, storing to it and raising it ask of the class -/
def oexB (K : PySem.W.Frag) (C : Addr) : Bool :=
  exObjB K C && eqO (PySem.W.findIn K (.ref C) "__setattr__") (some (some (.builtin "object.__setattr__"))) && decide (PySem.W.subIn K (.ref C) (.type "BaseException") = some true) &&
    decide (PySem.W.typeIn K (.ref C) = some (.type "type")) && PySem.W.keepIn K (.ref C)
theorem oexB_ok {K : PySem.W.Frag} {C : Addr} (h : oexB K C = true) : OexC K C := by
  obtain ⟨h, h5⟩ := ba h
  obtain ⟨h, h4⟩ := ba h
  obtain ⟨h, h3⟩ := ba h
  obtain ⟨h1, h2⟩ := ba h
  exact ⟨exObjB_ok h1, eqO_ok h2, of_decide_eq_true h3, of_decide_eq_true h4, h5⟩
/-- all that isinstance asks of an instance's class -/
def excB (K : PySem.W.Frag) (D : Addr) : Bool :=
  eqO (PySem.W.findIn K (.ref D) "__getattribute__") (some (some (.builtin "BaseException.__getattribute__"))) && eqO (PySem.W.findIn K (.ref D) "__getattr__") (some none) &&
    decide (PySem.W.subIn K (.ref D) (.type "BaseException") = some true) && PySem.W.hasDictIn K D && eqO (PySem.W.findIn K (.ref D) "__class__") (some (some (.builtin "object.__class__"))) &&
    eqO (PySem.W.specialIn K (.builtin "object.__class__") "__get__") (some (some (.builtin "getset_descriptor.__get__"))) && decide (PySem.W.takesIn K (.builtin "object.__class__") = some true) && decide (PySem.W.mroIn K D (.type "object") = some true)
theorem excB_ok {K : PySem.W.Frag} {D : Addr} (h : excB K D = true) : ExcC K D := by
  obtain ⟨h, h8⟩ := ba h
  obtain ⟨h, h7⟩ := ba h
  obtain ⟨h, h6⟩ := ba h
  obtain ⟨h, h5⟩ := ba h
  obtain ⟨h, h4⟩ := ba h
  obtain ⟨h, h3⟩ := ba h
  obtain ⟨h1, h2⟩ := ba h
  exact ⟨eqO_ok h1, eqO_ok h2, of_decide_eq_true h3, h4, eqO_ok h5, eqO_ok h6, of_decide_eq_true h7, of_decide_eq_true h8⟩
end NF
set_option Elab.async false
set_option linter.all false
set_option maxRecDepth 100000
set_option maxHeartbeats 4000000
/-! Own exceptions as values: made, asked for their class, read. -/
namespace NF
open PySem PySem.Spec PyProof.Rows L2 He
/-! ### C(e, ..) as a value: the class's own __init__ keeps sp -/
def tMkV (C : Addr) (sp : Sp) (ta : TA) : TE := fun σ H Q => ta σ H fun vs H1 => vs.length ≤ 1000 ∧ ∀ a, H1 a = none → sp (.ref a :: vs) (upd H1 a (exo a C none))
  (fun v H2 => v = .non ∧ Q (.ref a) H2) (fun _ _ _ => False)
section
variable {X : Cx} {e : Expr} {es : List Expr} {ta : TA} {p pos : Pos}
theorem pe_oex {CX : CXT} {x : Str} {C fI : Addr} {k : Nat} {fd : FuncData} {ps : List Str} {sp : Sp} (T : OexC X.K C) (iC : PySem.W.findIn X.K (.ref C) "__init__" = some (some (.ref fI))) (tI : PySem.W.typeIn X.K (.ref fI) = some (.type "function"))
    (F1 : FnOk X.prog X.w X.K X.mg X.base CX k fI fd ps sp) (hr : Room (k + 1) X.A) (hb : Binds X.K fd ps []) (hx : Passes CX X (fun _ _ _ => False)) (hg : Gl X x) (hm : X.mg x = some (.ref C)) (ha : PA X (e :: es) ta)
    (hdb : (x == ("__debug__" : Str)) = false := by decide) (he : starEach (e :: es) X.env = (false, eval e X.env) :: starEach es X.env := by rfl) (hpl : (backTo pos (starEach es X.env)).any (·.1) = false := by rfl) :
    PE X (.Call (.Name x p) (e :: es) [] pos) (tMkV C sp ta) := by
  refine ⟨fun pins s σ H Q I h => ?_⟩
  obtain ⟨nm, q, N, bs, bm, sn, sub, ab, col, dd, k0, k1, k2, k3, k5, hC, hbm⟩ := T.cls
  refine wpAny_Call_Name_kw (ld_glob I hg hm ?_ hdb)
  refine PySem.W.callWith_K (h₀ := X.base) I.ok.mod.kin T.kC (thn (ha.run pos pins s σ H _ I h) fun us s1 ⟨vs, H1, I1, r1, hz, q1⟩ => ⟨I1.kIn, ?_⟩) he hpl
  show wpAny _ _ (call (.ref C) us) _ _ _
  obtain ⟨hp, g, dr, tk, os⟩ := s1
  have hsz : hp.objs.size ≤ hp.objs.size + 1 := Nat.le_succ _
  have hn : H1 (hp.objs.size + 1) = none := I1.hok.fresh hsz
  have hq := q1 (hp.objs.size + 1) hn
  have kk : ∀ b o, hp.get? b = some o → ((hp.push (PySem.W.kdv_tup us)).push (PySem.HandSPX.excO C hp.objs.size)).get? b = some o := fun b o e => Heap.get?_push_of_some _ (Heap.get?_push_of_some _ e)
  have hget : ((hp.push (PySem.W.kdv_tup us)).push (PySem.HandSPX.excO C hp.objs.size)).get? (hp.objs.size + 1) = some (PySem.HandSPX.excO C hp.objs.size) := by heap_get
  have I2 : Inv X pins σ (upd H1 (hp.objs.size + 1) (exo (hp.objs.size + 1) C none)) ⟨(hp.push (PySem.W.kdv_tup us)).push (PySem.HandSPX.excO C hp.objs.size), g, dr, tk, os⟩ :=
    I1.laid (t' := tk) (a := hp.objs.size + 1) (o := exo (hp.objs.size + 1) C none) (h' := (hp.push (PySem.W.kdv_tup us)).push (PySem.HandSPX.excO C hp.objs.size)) kk hsz (exo_ok hget)
  have r2 : Vals (V.ref (hp.objs.size + 1) :: vs) (Value.ref (hp.objs.size + 1) :: us) := .cons rfl r1
  have hl : (Value.ref (hp.objs.size + 1) :: us ++ []).length = ps.length := by
    have e := r2.length
    rw [F1.len _ _ _ _ hq] at e
    rw [List.append_nil]
    exact e.symm
  have hus : us.length ≤ sizeLine := by
    rw [← Paired.length r1, sizeLine_eq]
    omega
  have hb' : BindsTo (⟨(hp.push (PySem.W.kdv_tup us)).push (PySem.HandSPX.excO C hp.objs.size), g, dr, tk, os⟩ : Shared) fd ⟨Value.ref (hp.objs.size + 1) :: us, []⟩ (ps.zip (Value.ref (hp.objs.size + 1) :: us)) := by
    have := hb ⟨(hp.push (PySem.W.kdv_tup us)).push (PySem.HandSPX.excO C hp.objs.size), g, dr, tk, os⟩ (Value.ref (hp.objs.size + 1) :: us) I2.kIn hl
    rw [List.append_nil] at this
    exact this
  refine wpAny_call (PySem.HandSPX.call_own F.excBase_ValueError (fun Y => PySem.HandSPX.refsVE_contains Y bm hbm) (I1.kIn _ _ hC) (PySem.W.looks_findIn I1.kIn iC) (fun self => PySem.W.bind_fn I1.kIn self tI) hus
    (codeAny_mono (F1.run _ X.stack _ _ ⟨Value.ref (hp.objs.size + 1) :: us, []⟩ (Value.ref (hp.objs.size + 1) :: us) _ _ (fun _ _ _ => False) (hr.make C us []) (I2.env0.make C us []) hb' r2 hq) fun r s' hq' => ?_))
  cases r with
  | error er => exact hx pins σ _ _ er s' I2 hq'
  | ok fl =>
    cases fl with
    | ret u =>
      obtain ⟨v, H2, os2, bare2, un2, hok2, rv, ev, q2⟩ := hq'
      subst ev
      obtain ⟨h2, g2, d2, t2, os'⟩ := s'
      exact ⟨rv, V.ref (hp.objs.size + 1), H2, I2.call' (ch := []) os2 un2 hok2 bare2 (fun b z => absurd z (by simp)), rfl, q2⟩
    | next => exact False.elim hq'
    | brk => exact False.elim hq'
    | cont => exact False.elim hq'
/-- C(), an own exception class without own __init__, as a value -/
def tMk0 (C : Addr) : TE := fun _ H Q => ∀ a, H a = none → Q (.ref a) (upd H a (exo a C none))
theorem pe_exc0 {C : Addr} {x : Str} (q : PySem.W.excIn X.K C He.veBase "ValueError.__new__" = true) (gC : X.mg x = some (.ref C)) (kC : PySem.W.keepIn X.K (.ref C) = true) (hg : Gl X x)
    (hdb : (x == ("__debug__" : Str)) = false := by decide) :
    PE X (.Call (.Name x p) [] [] pos) (tMk0 C) := by
  refine ⟨fun pins s σ H Q I h => ?_⟩
  refine wpAny_Call_Name_kw (ld_glob I hg gC ?_ hdb)
  refine PySem.W.callWith_K0 I.kIn kC ?_
  show wpAny _ _ (call (.ref C) []) _ _ _
  obtain ⟨bm, N, nm, qn, bs, hdct, sn, sub, ab, col, dd, k0, k1, k2, k3, k5, mN, hC, hN, hni, T⟩ := exc_obj I.kIn q
  obtain ⟨hp, g, dr, tk, os⟩ := s
  refine wpAny_call_exc_subT F.excBase_ValueError T hC hN hni (fun h' a hm => ?_) (Nat.zero_le _)
  have hn : H a = none := I.hok.gone hm.new
  obtain ⟨t, ht, _, _⟩ := hm.there
  exact ⟨.ref a, upd H a (exo a C none), I.laidN hm.keeps hm.new hn (exo_ok ht), rfl, h a hn⟩
/-! ### isinstance of such a value -/
def rIsV (K : PySem.W.Frag) : List V → Hp → VK → Prop := fun xs H Q => ∃ (a C : Addr) (od : Option Addr) (c : V) (u : Value) (b : Bool), xs = [.ref a, c] ∧ ClsV c u ∧ ExcC K C ∧ H a = some (exo a C od) ∧
  (∀ d, od = some d → ∃ fs, H d = some (exd d fs)) ∧ PySem.W.kitOne K (.ref C) u = some b ∧ Q (.bl b) H
theorem inst_exo {pins : List (Addr × Obj)} {σ : L2.St} {H : Hp} {s : Shared} {a C : Addr} {od : Option Addr} (I : Inv X pins σ H s) (e : H a = some (exo a C od)) (hd : ∀ d, od = some d → ∃ fs, H d = some (exd d fs)) :
    ∃ ox o, PySem.W.InstAt s.heap a ox C o := by
  obtain ⟨t1, h1⟩ := exo_at I.hok e
  cases od with
  | none => exact ⟨_, none, h1, rfl, rfl, trivial⟩
  | some d =>
    obtain ⟨fs, h2⟩ := hd d rfl
    obtain ⟨mA, hns, _⟩ := exd_at I.hok h2
    obtain ⟨o, ho, _⟩ := lookIn_ns hns
    exact ⟨_, some o, h1, rfl, rfl, ho⟩
theorem call_isV : CallR X (.builtin "isinstance") (rIsV X.K) := by
  intro pins s σ H xs us Q I r h
  obtain ⟨a, C, od, c, u, b, rfl, k, T, e, hd, hk, q⟩ := h
  obtain ⟨u1, u2, rfl, r1, r2⟩ := vals2 r
  have e2 := k.eq r2
  subst e2
  cases (show u1 = Value.ref a from r1)
  obtain ⟨ox, o, J⟩ := inst_exo I e hd
  have hcl : (PySem.W.clsIn X.K C).isSome = true := by
    obtain ⟨cd, hc, _⟩ := PySem.W.any_some T.hd
    rw [hc] <;> rfl
  exact PySem.W.kia_one (PySem.W.kitx_exc (ox := ox) (od := o) hcl T.hg T.hk T.hs T.ha T.hn T.ht T.hm) I.kIn J hk (fun z => nomatch z) fun tk => ⟨.bl b, H, I.tok tk, rfl, q⟩
/-! ### its field -/
def tXv (K : PySem.W.Frag) (f : Str) (te : TE) : TE := fun σ H Q => te σ H fun x H1 => ∃ (a C d : Addr) (fs : List (Str × V)) (v : V), x = .ref a ∧ XfC K C ∧ PySem.W.findIn K (.ref C) f = some none ∧ H1 a = some (exo a C (some d)) ∧ H1 d = some (exd d fs) ∧ fs.lookup f = some v ∧ Q v H1
theorem pe_xv {n : Str} {te : TE} (he : PE X e te) (hb : attributeBase e n X.env (eval e X.env) = eval e X.env := by rfl) : PE X (.Attribute e n pos) (tXv X.K n te) := by
  refine ⟨fun pins s σ H Q I h => ?_⟩
  refine attr_of hb (thn (he.run pins s σ H _ I h) fun u s1 hh => ?_)
  obtain ⟨x, H1, I1, rx, a, C, d, fs, v, ex, T, hno, ea, ed, l, q⟩ := hh
  subst ex
  obtain rfl : u = Value.ref a := rx
  obtain ⟨t1, h1⟩ := exo_at I1.hok ea
  obtain ⟨mA, hns, hr⟩ := exd_at I1.hok ed
  obtain ⟨od, ho, hl⟩ := lookIn_ns hns
  obtain ⟨u, hu, ru⟩ := RelO.some_of (v := v) (o := mA n) (by rw [← l]; exact hr n)
  have J : PySem.W.InstAt s1.heap a _ C (some od) := ⟨h1, rfl, rfl, ho⟩
  exact HandSPX.exc_get I1.kIn J T.ga T.gg T.exC (PySem.W.findObj_own T.hdC hno rfl (by rw [hl, hu])) (handed_of ru) ⟨v, H1, I1.tok _, ru, q⟩
end
end NF
set_option Elab.async false
set_option linter.all false
set_option maxRecDepth 100000
set_option maxHeartbeats 4000000
/-! What each law's own helpers keep: the source of draws. -/
namespace NF
open PySem PySem.Spec PyProof.Rows L2 He
/-- the names that a def reads off the module: those that stand for an object of the written part, those that are still Python's own -/
structure Txt (K : PySem.W.Frag) (mg : Str → Option Value) (gs fs : List Str) : Prop where
  gl : ∀ x, x ∈ gs → mg x = some (.ref (ga K x))
  fr : ∀ x, x ∈ fs → mg x = none
/-- a source of draws at p: three ints -/
def Src (H : Hp) (p : Addr) : Prop := ∃ a s c : Int, H p = some (.lst [.int a, .int s, .int c])
/-- a draw: some number from 0 below m; all but the source stands (H0: what the caller wants to stand) -/
def spPick : Sp := fun vs H Q _ => ∃ (H0 : Hp) (p : Addr) (m : Int), vs = [.ref p, .int m] ∧ Same H0 H ∧ H0 p = none ∧ Src H p ∧ 0 < m ∧ m < 1073741824 ∧
  ∀ d H', 0 ≤ d → d < m → Same H0 H' → Src H' p → Q (.int d) H'
/-- a new source of the script -/
def spSource (K : PySem.W.Frag) : Sp := fun vs H Q _ => ∃ (l : Addr) (ns : List Int) (i : Nat), vs = [.ref l, .int (i : Int)] ∧ SqL K H l (ns.map V.int) ∧ ns.length ≤ 63 ∧ (∀ k ∈ ns, Builtin.Int.intBits k ≤ 1048576) ∧ i < 1000 ∧
  ∀ p H', Same H H' → H p = none → Src H' p → Q (.ref p) H'
theorem Same.put {H0 H : Hp} {p : Addr} {o : HO} (h : Same H0 H) (n : H0 p = none) : Same H0 (upd H p o) := fun b u e => by
  rw [upd_ne (ne_of_none e n)]
  exact h b u e
theorem Same.new {H0 H : Hp} {p : Addr} {o : HO} (h : Same H0 H) (n : H p = none) : Same H0 (upd H p o) := NF.Same.put h (L2.Same.free h n)
/-- a def that may be called by its name; it lets nothing out -/
structure Cal (P : Program) (w : World) (K : PySem.W.Frag) (mg : Str → Option Value) (base : Heap) (k : Nat) (x : Str) (sp : Sp) : Prop where
  ex : ∃ (f : Addr) (fd : FuncData) (ps : List Str), FnOk P w K mg base CX0 k f fd ps sp ∧ mg x = some (.ref f) ∧ PySem.W.keepIn K (.ref f) = true ∧ Binds K fd ps []
theorem pe_c {X : Cx} {k j : Nat} {x : Str} {sp : Sp} {e : Expr} {es : List Expr} {t : TA} {p pos : Pos} (c : Cal X.prog X.w X.K X.mg X.base k x sp) (hr : Room j X.A) (hk : k ≤ j) (hg : Gl X x) (ha : PA X (e :: es) t)
    (hdb : (x == ("__debug__" : Str)) = false := by decide) (he : starEach (e :: es) X.env = (false, eval e X.env) :: starEach es X.env := by rfl) (hpl : (backTo pos (starEach es X.env)).any (·.1) = false := by rfl) :
    PE X (.Call (.Name x p) (e :: es) [] pos) (tCall sp [] E0 t) := by
  obtain ⟨f, fd, ps, F, hm, kp, b⟩ := c.ex
  exact pe_call F (hr.mono hk) hg hm kp b .nil pass0 ha hdb he hpl
theorem Cal.mk' {P : Program} {w : World} {K : PySem.W.Frag} {mg : Str → Option Value} {base : Heap} {k : Nat} {x q : Str} {pa : Arguments} {bd : List Stmt} {sc : Scope} {sp : Sp} {f : Addr} {fd : FuncData} {ps : List Str}
    (F : FunD K x q pa bd sc [] [] f fd) (ok : FnOk P w K mg base CX0 k f fd ps sp) (hm : mg x = some (.ref f)) (b : Binds K fd ps []) : Cal P w K mg base k x sp := ⟨f, fd, ps, ok, hm, F.kp, b⟩
theorem at0 {x y z : V} : atI [x, y, z] 0 = some x := rfl
theorem at1 {x y z : V} : atI [x, y, z] 1 = some y := rfl
theorem at2 {x y z : V} : atI [x, y, z] 2 = some z := rfl
end NF
namespace NF
open PySem PySem.Spec PyProof.Rows L2 He
/-- the heap without p -/
def wo (H : Hp) (p : Addr) : Hp := fun a => if a = p then none else H a
theorem wo_none {H : Hp} {p : Addr} : wo H p p = none := if_pos rfl
theorem wo_ne {H : Hp} {p a : Addr} (h : a ≠ p) : wo H p a = H a := if_neg h
theorem wo_same' {H : Hp} {p : Addr} : Same (wo H p) H := fun a o e => by
  by_cases h : a = p
  · rw [h, wo_none] at e
    cases e
  · rw [wo_ne h] at e
    exact e
theorem wo_same {H0 H H' : Hp} {p : Addr} (s : Same H0 H) (n : H0 p = none) (s' : Same (wo H p) H') : Same H0 H' := fun a o e =>
  s' a o ((wo_ne (ne_of_none e n)).trans (s a o e))
theorem Same.mut {H0 H : Hp} {p : Addr} {o : HO} (h : Same H0 H) (n : H0 p = none) : Same H0 (upd H p o) := NF.Same.put h n
theorem Src.mono {H H' : Hp} {p : Addr} (h : Src H p) (s : Same H H') : Src H' p := by
  obtain ⟨x, y, z, h⟩ := h
  exact ⟨x, y, z, s _ _ h⟩
end NF
namespace NF
open PySem PySem.Spec PyProof.Rows L2 He
theorem walk_ofEB {l : PySem.W.OpenLaw} {n k : Nat} {q : Program} {loose : List Str} {XP : (Str → Option Value) → Heap → Prop} {YP : World → Heap → Prop} {d : DefRec} {CX : CXT} {x : Str}
    (hn : l.most = some n) (hn2 : n ≤ sizeLine) (hdf : d.params.defaults = []) (hr : Room k callerA)
    (F : ∀ (w : World) (mg : Str → Option Value) (fa : Addr) (h : Heap), YP w h → h.Ns mainGlobals mg → mg d.name = some (.ref fa) →
      ∃ (K : PySem.W.Frag) (fd : FuncData) (sp : Sp), K.In h ∧ (∀ (s : Shared) (u : Value), BindsTo s fd ⟨[u], []⟩ [(x, u)]) ∧
        (∀ (H : Hp) (a : Addr) (ns : List Int), ns.length ≤ n → (∀ z ∈ ns, Builtin.Int.intBits z ≤ 1048576) → Only H → SqL K H a (ns.map V.int) → sp [.ref a] H (fun v _ => v = .bl true) fun _ _ _ => False) ∧
        ∀ base : Heap, K.In base → base.Ns mainGlobals mg → FnOk l.prog w K mg base CX k fa fd [x] sp)
    (hCX : ∀ (H : Hp) (s : Shared) (e : Value) (s' : Shared), CX [] H s (fun _ _ _ => False) e s' → False) :
    PySem.W.WalkO q loose XP YP l.row.toRowW d [] (fun f vs => PySem.call f vs) := by
  refine Att.attach_callB hn hdf fun w s₀ s₁ mg mb fa o pm cd doc a vs ns G Y ho hd hcd hmg hobj hints hlen hbits hg => ?_
  obtain ⟨K, fd, sp, KX, hb, hsp, hF⟩ := F w mg fa _ Y G.T.g hmg
  exact law_call KX G.T.g G.T.b G.T.builtins G.T.nolimit hg hobj hints (Nat.le_trans hlen hn2) hr hF hb (fun H hO hS => hsp H a ns hlen hbits hO hS) fun H e s' => hCX H s₁ e s'
end NF
set_option linter.all false
/-! Tables as plain Lean: head, loop, rise; the plain form is the only one. -/
namespace NT
/-- what a loop tells, from its first place on -/
def walk (l : List Int) (r : Int) (k : Nat) : Int := l.getD (k % l.length) 0 + r * ((k / l.length : Nat) : Int)
/-- the value at n, from 1 on; none: never -/
def at_ (h l : List Int) (r : Int) (n : Nat) : Option Int :=
  if n ≤ h.length then some (h.getD (n - 1) 0) else if l = [] then none else some (walk l r (n - h.length - 1))
/-- m steps on the values are a fixed number more -/
def Per (f : Nat → Int) (m : Nat) : Prop := ∃ c, ∀ k, f (k + m) = f k + c
def LoopMin (l : List Int) (r : Int) : Prop := ∀ m, 0 < m → m ∣ l.length → Per (walk l r) m → m = l.length
def HeadMin (h l : List Int) (r : Int) : Prop := ∀ k, h.length = k + 1 → h.getD k 0 + r ≠ l.getD (l.length - 1) 0

theorem walk_add {l : List Int} {r : Int} (hl : 0 < l.length) (k : Nat) : walk l r (k + l.length) = walk l r k + r := by
  unfold walk
  rw [Nat.add_mod_right, Nat.add_div_right _ hl]
  rw [Int.natCast_add, Int.mul_add]
  omega
theorem walk_add_mul {l : List Int} {r : Int} (hl : 0 < l.length) (k j : Nat) : walk l r (k + l.length * j) = walk l r k + r * (j : Int) := by
  induction j with
  | zero => simp
  | succ j ih =>
    rw [Nat.mul_succ, ← Nat.add_assoc, walk_add hl, ih, Int.natCast_add, Int.mul_add]
    omega
theorem walk_lt {l : List Int} {r : Int} {k : Nat} (h : k < l.length) : walk l r k = l.getD k 0 := by
  unfold walk
  rw [Nat.mod_eq_of_lt h, Nat.div_eq_of_lt h]
  simp
/-- periods, further on alone -/
def PerF (f : Nat → Int) (N m : Nat) : Prop := ∃ c, ∀ k, N ≤ k → f (k + m) = f k + c
theorem PerF.sub {f : Nat → Int} {N a b : Nat} (ha : PerF f N (a + b)) (hb : PerF f N b) : PerF f N a := by
  obtain ⟨c, hc⟩ := ha
  obtain ⟨d, hd⟩ := hb
  refine ⟨c - d, fun k hk => ?_⟩
  have h1 := hc k hk
  have h2 := hd (k + a) (by omega)
  rw [show k + a + b = k + (a + b) by omega, h1] at h2
  omega
theorem PerF.mul {f : Nat → Int} {N a : Nat} (ha : PerF f N a) (j : Nat) : PerF f N (a * j) := by
  obtain ⟨c, hc⟩ := ha
  refine ⟨c * (j : Int), ?_⟩
  induction j with
  | zero => intro k _; simp
  | succ j ih =>
    intro k hk
    have h1 := ih k hk
    have h2 := hc (k + a * j) (by omega)
    rw [Nat.mul_succ, ← Nat.add_assoc, h2, h1, Int.natCast_add, Int.mul_add]
    omega
theorem PerF.gcd {f : Nat → Int} {N : Nat} : ∀ (a b : Nat), PerF f N a → PerF f N b → PerF f N (Nat.gcd a b) := by
  intro a
  induction a using Nat.strongRecOn with
  | _ a ih =>
    intro b ha hb
    cases a with
    | zero => rw [Nat.gcd_zero_left]; exact hb
    | succ a =>
      rw [Nat.gcd_rec]
      have hlt : b % (a + 1) < a + 1 := Nat.mod_lt _ (Nat.succ_pos a)
      have hm : PerF f N (b % (a + 1)) := by
        have h1 : b = b % (a + 1) + (a + 1) * (b / (a + 1)) := (Nat.mod_add_div b (a + 1)).symm
        exact PerF.sub (b := (a + 1) * (b / (a + 1))) (by rw [← h1]; exact hb) (ha.mul _)
      exact ih _ hlt (a + 1) hm ha
theorem at_loop {h l : List Int} {r : Int} {n : Nat} (hl : l ≠ []) (hn : h.length < n) : at_ h l r n = some (walk l r (n - h.length - 1)) := by
  unfold at_
  rw [if_neg (by omega), if_neg hl]
theorem len_pos {l : List Int} (h : l ≠ []) : 0 < l.length := List.length_pos_iff.mpr h

section
variable {h1 l1 h2 l2 : List Int} {r1 r2 : Int}
theorem walk_eq (n1 : l1 ≠ []) (n2 : l2 ≠ []) (e : ∀ n, 1 ≤ n → at_ h1 l1 r1 n = at_ h2 l2 r2 n) {n : Nat} (g1 : h1.length < n) (g2 : h2.length < n) : walk l1 r1 (n - h1.length - 1) = walk l2 r2 (n - h2.length - 1) := by
  have q := e n (by omega)
  rw [at_loop n1 g1, at_loop n2 g2] at q
  exact Option.some.inj q
theorem one_loop_le (n1 : l1 ≠ []) (n2 : l2 ≠ []) (m1 : LoopMin l1 r1) (e : ∀ n, 1 ≤ n → at_ h1 l1 r1 n = at_ h2 l2 r2 n) : l1.length ∣ l2.length := by
  have p1 := len_pos n1
  have p2 := len_pos n2
  -- l1's walk is, further on, of both periods
  have hA : PerF (walk l1 r1) (h1.length + h2.length) l1.length := ⟨r1, fun k _ => walk_add p1 k⟩
  have hB : PerF (walk l1 r1) (h1.length + h2.length) l2.length := by
    refine ⟨r2, fun k hk => ?_⟩
    have q1 := walk_eq n1 n2 e (n := k + h1.length + 1) (by omega) (by omega)
    have q2 := walk_eq n1 n2 e (n := k + l2.length + h1.length + 1) (by omega) (by omega)
    rw [show k + h1.length + 1 - h1.length - 1 = k by omega] at q1
    rw [show k + l2.length + h1.length + 1 - h1.length - 1 = k + l2.length by omega, show k + l2.length + h1.length + 1 - h2.length - 1 = (k + h1.length + 1 - h2.length - 1) + l2.length by omega, walk_add p2, ← q1] at q2
    exact q2
  have hG := PerF.gcd _ _ hA hB
  obtain ⟨c, hc⟩ := hG
  have hP : Per (walk l1 r1) (Nat.gcd l1.length l2.length) := by
    refine ⟨c, fun k => ?_⟩
    have q := hc (k + l1.length * (h1.length + h2.length)) (by
      have : h1.length + h2.length ≤ l1.length * (h1.length + h2.length) := Nat.le_mul_of_pos_left _ p1
      omega)
    rw [show k + l1.length * (h1.length + h2.length) + Nat.gcd l1.length l2.length = (k + Nat.gcd l1.length l2.length) + l1.length * (h1.length + h2.length) by omega, walk_add_mul p1, walk_add_mul p1] at q
    omega
  have := m1 _ (Nat.gcd_pos_of_pos_left _ p1) (Nat.gcd_dvd_left _ _) hP
  rw [← this]
  exact Nat.gcd_dvd_right _ _
theorem one_head_le (n1 : l1 ≠ []) (n2 : l2 ≠ []) (el : l1.length = l2.length) (m2 : HeadMin h2 l2 r2) (er : r1 = r2) (e : ∀ n, 1 ≤ n → at_ h1 l1 r1 n = at_ h2 l2 r2 n) : h2.length ≤ h1.length := by
  have p1 := len_pos n1
  have p2 := len_pos n2
  refine Nat.le_of_not_lt fun hlt => ?_
  obtain ⟨k, hk⟩ : ∃ k, h2.length = k + 1 := ⟨h2.length - 1, by omega⟩
  have q1 := e (k + 1) (by omega)
  have q2 := e (k + 1 + l2.length) (by omega)
  rw [at_loop n1 (by omega), at_loop n2 (by omega)] at q2
  rw [at_loop n1 (by omega)] at q1
  unfold at_ at q1
  rw [if_pos (by omega)] at q1
  have q1 := Option.some.inj q1
  have q2 := Option.some.inj q2
  rw [show k + 1 + l2.length - h1.length - 1 = (k + 1 - h1.length - 1) + l1.length by omega, walk_add p1, q1] at q2
  rw [walk_lt (by omega), show k + 1 + l2.length - h2.length - 1 = l2.length - 1 by omega, show k + 1 - 1 = k by omega] at q2
  exact m2 k hk (by rw [← q2, er])
/-- two forms that can't be made smaller and tell the same are the same -/
theorem one_form (n1 : l1 ≠ []) (n2 : l2 ≠ []) (a1 : LoopMin l1 r1) (a2 : LoopMin l2 r2) (b1 : HeadMin h1 l1 r1) (b2 : HeadMin h2 l2 r2) (e : ∀ n, 1 ≤ n → at_ h1 l1 r1 n = at_ h2 l2 r2 n) : h1 = h2 ∧ l1 = l2 ∧ r1 = r2 := by
  have p1 := len_pos n1
  have p2 := len_pos n2
  have el : l1.length = l2.length := Nat.dvd_antisymm (one_loop_le n1 n2 a1 e) (one_loop_le n2 n1 a2 fun n hn => (e n hn).symm)
  have er : r1 = r2 := by
    have q1 := walk_eq n1 n2 e (n := h1.length + h2.length + 1) (by omega) (by omega)
    have q2 := walk_eq n1 n2 e (n := h1.length + h2.length + 1 + l1.length) (by omega) (by omega)
    rw [show h1.length + h2.length + 1 + l1.length - h1.length - 1 = (h1.length + h2.length + 1 - h1.length - 1) + l1.length by omega, walk_add p1,
      show h1.length + h2.length + 1 + l1.length - h2.length - 1 = (h1.length + h2.length + 1 - h2.length - 1) + l2.length by omega, walk_add p2, q1] at q2
    omega
  have eh : h1.length = h2.length := Nat.le_antisymm (one_head_le n2 n1 el.symm b1 er.symm fun n hn => (e n hn).symm) (one_head_le n1 n2 el b2 er e)
  refine ⟨List.ext_getElem eh fun i i1 i2 => ?_, List.ext_getElem el fun i i1 i2 => ?_, er⟩
  · have q := e (i + 1) (by omega)
    unfold at_ at q
    rw [if_pos (by omega), if_pos (by omega)] at q
    have q := Option.some.inj q
    rw [show i + 1 - 1 = i by omega, List.getD_eq_getElem?_getD, List.getD_eq_getElem?_getD, List.getElem?_eq_getElem i1, List.getElem?_eq_getElem i2] at q
    exact q
  · have q := walk_eq n1 n2 e (n := h1.length + 1 + i) (by omega) (by omega)
    rw [show h1.length + 1 + i - h1.length - 1 = i by omega, show h1.length + 1 + i - h2.length - 1 = i by omega, walk_lt i1, walk_lt i2,
      List.getD_eq_getElem?_getD, List.getD_eq_getElem?_getD, List.getElem?_eq_getElem i1, List.getElem?_eq_getElem i2] at q
    exact q
theorem one_never (e : ∀ n, 1 ≤ n → at_ h1 [] r1 n = at_ h2 [] r2 n) : h1 = h2 := by
  have el : h1.length = h2.length := by
    have q1 := e (h1.length + 1) (by omega)
    have q2 := e (h2.length + 1) (by omega)
    unfold at_ at q1 q2
    rw [if_neg (by omega), if_pos rfl] at q1
    rw [if_neg (show ¬ h2.length + 1 ≤ h2.length by omega), if_pos rfl] at q2
    by_cases c1 : h1.length + 1 ≤ h2.length
    · rw [if_pos c1] at q1
      cases q1
    · by_cases c2 : h2.length + 1 ≤ h1.length
      · rw [if_pos c2] at q2
        cases q2
      · omega
  refine List.ext_getElem el fun i i1 i2 => ?_
  have q := e (i + 1) (by omega)
  unfold at_ at q
  rw [if_pos (by omega), if_pos (by omega)] at q
  have q := Option.some.inj q
  rw [show i + 1 - 1 = i by omega, List.getD_eq_getElem?_getD, List.getD_eq_getElem?_getD, List.getElem?_eq_getElem i1, List.getElem?_eq_getElem i2] at q
  exact q
end
end NT
set_option linter.all false
namespace NT
structure LapIs (l : List Int) (r : Int) (m : Nat) : Prop where
  pos : 0 < m
  dvd : m ∣ l.length
  per : Per (walk l r) m
  least : ∀ m', 0 < m' → m' ∣ l.length → Per (walk l r) m' → m ≤ m'
theorem LapIs.one {l : List Int} {r : Int} {m m' : Nat} (a : LapIs l r m) (b : LapIs l r m') : m = m' := Nat.le_antisymm (a.least _ b.pos b.dvd b.per) (b.least _ a.pos a.dvd a.per)
theorem per_mul {f : Nat → Int} {m : Nat} {c : Int} (h : ∀ k, f (k + m) = f k + c) (k j : Nat) : f (k + m * j) = f k + c * (j : Int) := by
  induction j with
  | zero => simp
  | succ j ih =>
    rw [Nat.mul_succ, ← Nat.add_assoc, h, ih, Int.natCast_add, Int.mul_add]
    omega
/-- the rise of a part that comes round -/
theorem per_rise {l : List Int} {r c : Int} {m : Nat} (hl : l ≠ []) (h : ∀ k, walk l r (k + m) = walk l r k + c) {t : Nat} (ht : m * t = l.length) : r = c * (t : Int) := by
  have q := per_mul h 0 t
  rw [ht, walk_add (len_pos hl)] at q
  omega
theorem per_self {l : List Int} {r : Int} (hl : l ≠ []) : Per (walk l r) l.length := ⟨r, walk_add (len_pos hl)⟩
theorem getD_take {l : List Int} {m i : Nat} (h : i < m) : (l.take m).getD i 0 = l.getD i 0 := by
  rw [List.getD_eq_getElem?_getD, List.getD_eq_getElem?_getD, List.getElem?_take, if_pos h]
theorem getD_drop {l : List Int} {m i : Nat} : (l.drop m).getD i 0 = l.getD (m + i) 0 := by
  rw [List.getD_eq_getElem?_getD, List.getD_eq_getElem?_getD, List.getElem?_drop]
theorem getD_app1 {h l : List Int} {i : Nat} (q : i < h.length) : (h ++ l).getD i 0 = h.getD i 0 := by
  rw [List.getD_eq_getElem?_getD, List.getD_eq_getElem?_getD, List.getElem?_append_left q]
theorem getD_app2 {h l : List Int} {i : Nat} (q : h.length ≤ i) : (h ++ l).getD i 0 = l.getD (i - h.length) 0 := by
  rw [List.getD_eq_getElem?_getD, List.getD_eq_getElem?_getD, List.getElem?_append_right q]
/-- the shorter loop tells the same -/
theorem walk_short {l : List Int} {r c : Int} {m : Nat} (hm : 0 < m) (hle : m ≤ l.length) (h : ∀ k, walk l r (k + m) = walk l r k + c) (k : Nat) : walk (l.take m) c k = walk l r k := by
  have e : k = k % m + m * (k / m) := (Nat.mod_add_div k m).symm
  have hlt : k % m < m := Nat.mod_lt _ hm
  have q := per_mul h (k % m) (k / m)
  rw [← e] at q
  have w1 : walk l r (k % m) = l.getD (k % m) 0 := walk_lt (by omega)
  rw [q, w1]
  show (l.take m).getD (k % (l.take m).length) 0 + c * ((k / (l.take m).length : Nat) : Int) = _
  rw [List.length_take, Nat.min_eq_left hle, getD_take hlt]
theorem short_min {l : List Int} {r c : Int} {m : Nat} (hl : l ≠ []) (a : LapIs l r m) (h : ∀ k, walk l r (k + m) = walk l r k + c) : LoopMin (l.take m) c := by
  have hle : m ≤ l.length := Nat.le_of_dvd (len_pos hl) a.dvd
  intro m' p d q
  rw [List.length_take, Nat.min_eq_left hle] at d ⊢
  have e : walk (l.take m) c = walk l r := funext fun k => walk_short a.pos hle h k
  rw [e] at q
  exact Nat.le_antisymm (Nat.le_of_dvd a.pos d) (a.least _ p (Nat.dvd_trans d a.dvd) q)
/-! ### the head is cut -/
def cut (e : List Int) (p : Nat) (r : Int) : Nat → Nat
  | 0 => 0
  | k + 1 => if e.getD k 0 + r = e.getD (k + p) 0 then cut e p r k else k + 1
/-- the window of p entries behind the first `left` ones -/
def win (e : List Int) (left p : Nat) : List Int := (e.drop left).take p
theorem win_len {e : List Int} {left p : Nat} (h : left + p ≤ e.length) : (win e left p).length = p := by
  unfold win
  rw [List.length_take, List.length_drop]
  omega
theorem win_get {e : List Int} {left p i : Nat} (hi : i < p) : (win e left p).getD i 0 = e.getD (left + i) 0 := by
  unfold win
  rw [getD_take hi, getD_drop]
theorem win_step {e : List Int} {left p : Nat} {r : Int} (hp : 0 < p) (hle : left + 1 + p ≤ e.length) (hs : e.getD left 0 + r = e.getD (left + p) 0) (k : Nat) : walk (win e (left + 1) p) r k = walk (win e left p) r (k + 1) := by
  unfold walk
  rw [win_len (by omega), win_len (by omega)]
  have hlt : k % p < p := Nat.mod_lt _ hp
  rw [win_get hlt]
  by_cases c : k % p + 1 < p
  · have e1 : (k + 1) % p = k % p + 1 := by
      rw [Nat.add_mod, Nat.mod_eq_of_lt (show 1 < p by omega), Nat.mod_eq_of_lt c]
    have e2 : (k + 1) / p = k / p := by
      have q1 := Nat.div_add_mod (k + 1) p
      have q2 := Nat.div_add_mod k p
      rw [e1] at q1
      have : p * ((k + 1) / p) = p * (k / p) := by omega
      exact Nat.eq_of_mul_eq_mul_left hp this
    rw [e1, e2, win_get c]
    congr 2
    omega
  · have cp : k % p + 1 = p := by omega
    have hk : k + 1 = p * (k / p + 1) := by
      have q2 := Nat.div_add_mod k p
      rw [Nat.mul_add, Nat.mul_one]
      omega
    have e1 : (k + 1) % p = 0 := by rw [hk]; exact Nat.mul_mod_right _ _
    have e2 : (k + 1) / p = k / p + 1 := by rw [hk]; exact Nat.mul_div_cancel_left _ hp
    rw [e1, e2, win_get hp, Int.natCast_add, Int.mul_add, show left + 1 + k % p = left + p by omega, ← hs, show left + 0 = left from rfl]
    omega
theorem at_step {e : List Int} {left p : Nat} {r : Int} (hp : 0 < p) (hle : left + 1 + p ≤ e.length) (hs : e.getD left 0 + r = e.getD (left + p) 0) (n : Nat) (hn : 1 ≤ n) :
    at_ (e.take left) (win e left p) r n = at_ (e.take (left + 1)) (win e (left + 1) p) r n := by
  have n1 : win e left p ≠ [] := fun z => by
    have := win_len (e := e) (left := left) (p := p) (by omega)
    rw [z] at this
    simp at this
    omega
  have n2 : win e (left + 1) p ≠ [] := fun z => by
    have := win_len (e := e) (left := left + 1) (p := p) (by omega)
    rw [z] at this
    simp at this
    omega
  unfold at_
  rw [List.length_take, List.length_take, Nat.min_eq_left (by omega), Nat.min_eq_left (by omega), if_neg n1, if_neg n2]
  by_cases c1 : n ≤ left
  · rw [if_pos c1, if_pos (by omega), getD_take (by omega), getD_take (by omega)]
  · by_cases c2 : n ≤ left + 1
    · rw [if_neg c1, if_pos c2, getD_take (by omega), show n - left - 1 = 0 by omega, walk_lt (by rw [win_len (by omega)]; exact hp), win_get hp, show n - 1 = left + 0 by omega]
    · rw [if_neg c1, if_neg c2, win_step hp hle hs, show n - (left + 1) - 1 + 1 = n - left - 1 by omega]
theorem min_step {e : List Int} {left p : Nat} {r : Int} (hp : 0 < p) (hle : left + 1 + p ≤ e.length) (hs : e.getD left 0 + r = e.getD (left + p) 0) (h : LoopMin (win e (left + 1) p) r) : LoopMin (win e left p) r := by
  have l0 := win_len (e := e) (left := left) (p := p) (by omega)
  have l1 := win_len (e := e) (left := left + 1) (p := p) (by omega)
  intro m hm hd hq
  rw [l0] at hd ⊢
  have := h m hm (by rw [l1]; exact hd) (by
    obtain ⟨c, hc⟩ := hq
    refine ⟨c, fun k => ?_⟩
    rw [win_step hp hle hs, win_step hp hle hs, show k + m + 1 = k + 1 + m by omega, hc])
  rw [l1] at this
  exact this
theorem cut_le {e : List Int} {p : Nat} {r : Int} : ∀ k, cut e p r k ≤ k
  | 0 => Nat.le_refl _
  | k + 1 => by
    unfold cut
    split
    · exact Nat.le_succ_of_le (cut_le k)
    · exact Nat.le_refl _
theorem cut_at {e : List Int} {p : Nat} {r : Int} (hp : 0 < p) : ∀ k, k + p ≤ e.length → ∀ n, 1 ≤ n → at_ (e.take (cut e p r k)) (win e (cut e p r k) p) r n = at_ (e.take k) (win e k p) r n
  | 0, _, _, _ => rfl
  | k + 1, h, n, hn => by
    unfold cut
    split
    · rename_i c
      rw [cut_at hp k (by omega) n hn]
      exact at_step hp h c n hn
    · rfl
theorem cut_min {e : List Int} {p : Nat} {r : Int} (hp : 0 < p) : ∀ k, k + p ≤ e.length → LoopMin (win e k p) r → LoopMin (win e (cut e p r k) p) r
  | 0, _, h => h
  | k + 1, hk, h => by
    unfold cut
    split
    · rename_i c
      exact cut_min hp k (by omega) (min_step hp hk c h)
    · exact h
theorem cut_head {e : List Int} {p : Nat} {r : Int} (hp : 0 < p) : ∀ k, k + p ≤ e.length → HeadMin (e.take (cut e p r k)) (win e (cut e p r k) p) r
  | 0, h => fun k hk => by
    unfold cut at hk
    simp at hk
  | k + 1, h => by
    unfold cut
    split
    · exact cut_head hp k (by omega)
    · rename_i c
      intro j hj
      rw [List.length_take, Nat.min_eq_left (by omega)] at hj
      have ej : j = k := by omega
      subst ej
      rw [getD_take (by omega), win_len (by omega), win_get (by omega)]
      intro z
      exact c (by rw [z]; congr 1; omega)
/-! ### the plain form -/
def IsPlain (h l : List Int) (r : Int) (x : List Int × List Int × Int) : Prop :=
  (l = [] ∧ x = (h, [], 0)) ∨ (l ≠ [] ∧ x.2.1 ≠ [] ∧ LoopMin x.2.1 x.2.2 ∧ HeadMin x.1 x.2.1 x.2.2 ∧ ∀ n, 1 ≤ n → at_ x.1 x.2.1 x.2.2 n = at_ h l r n)
theorem plain_one {h1 l1 h2 l2 : List Int} {r1 r2 : Int} {x y : List Int × List Int × Int} (a : IsPlain h1 l1 r1 x) (b : IsPlain h2 l2 r2 y) (e : ∀ n, 1 ≤ n → at_ h1 l1 r1 n = at_ h2 l2 r2 n) : x = y := by
  rcases a with ⟨rfl, rfl⟩ | ⟨n1, n1', m1, k1, e1⟩
  · rcases b with ⟨rfl, rfl⟩ | ⟨n2, n2', m2, k2, e2⟩
    · rw [one_never e]
    · have q := e (h1.length + h2.length + 1) (by omega)
      rw [at_loop n2 (by omega)] at q
      unfold at_ at q
      rw [if_neg (by omega), if_pos rfl] at q
      cases q
  · rcases b with ⟨rfl, rfl⟩ | ⟨n2, n2', m2, k2, e2⟩
    · have q := e (h1.length + h2.length + 1) (by omega)
      rw [at_loop n1 (by omega)] at q
      unfold at_ at q
      rw [if_neg (by omega), if_pos rfl] at q
      cases q
    · obtain ⟨q1, q2, q3⟩ := one_form n1' n2' m1 m2 k1 k2 fun n hn => by rw [e1 n hn, e n hn, e2 n hn]
      obtain ⟨x1, x2, x3⟩ := x
      obtain ⟨y1, y2, y3⟩ := y
      dsimp only at q1 q2 q3
      rw [q1, q2, q3]
theorem plain_is {h l : List Int} {r : Int} {m : Nat} (hl : l ≠ []) (a : LapIs l r m) {c : Int} (hc : ∀ k, walk l r (k + m) = walk l r k + c) :
    IsPlain h l r ((h ++ l.take m).take (cut (h ++ l.take m) m c h.length), win (h ++ l.take m) (cut (h ++ l.take m) m c h.length) m, c) := by
  have hle : m ≤ l.length := Nat.le_of_dvd (len_pos hl) a.dvd
  have hlen : (h ++ l.take m).length = h.length + m := by rw [List.length_append, List.length_take, Nat.min_eq_left hle]
  have hcut := cut_le (e := h ++ l.take m) (p := m) (r := c) h.length
  have hw : win (h ++ l.take m) h.length m = l.take m := by
    unfold win
    rw [List.drop_left, List.take_of_length_le (by rw [List.length_take]; omega)]
  have ht : (h ++ l.take m).take h.length = h := List.take_left
  refine .inr ⟨hl, fun z => ?_, ?_, ?_, fun n hn => ?_⟩
  · have q := win_len (e := h ++ l.take m) (left := cut (h ++ l.take m) m c h.length) (p := m) (by rw [hlen]; omega)
    have z' : win (h ++ l.take m) (cut (h ++ l.take m) m c h.length) m = [] := z
    rw [z'] at q
    have := a.pos
    simp at q
    omega
  · exact cut_min a.pos _ (by rw [hlen]; exact Nat.le_refl _) (by rw [hw]; exact short_min hl a hc)
  · exact cut_head a.pos _ (by rw [hlen]; exact Nat.le_refl _)
  · show at_ ((h ++ l.take m).take (cut (h ++ l.take m) m c h.length)) (win (h ++ l.take m) (cut (h ++ l.take m) m c h.length) m) c n = _
    rw [cut_at a.pos _ (by rw [hlen]; exact Nat.le_refl _) n hn, hw, ht]
    unfold at_
    have n1 : l.take m ≠ [] := fun z => by
      have q := congrArg List.length z
      rw [List.length_take, Nat.min_eq_left hle] at q
      have := a.pos
      simp at q
      omega
    rw [if_neg hl, if_neg n1, walk_short a.pos hle hc]
end NT
set_option linter.all false
namespace NT
def sk (l : List Int) (r : Int) (k : Nat) : Int := walk l r (k + 1) - walk l r k
def steps (l : List Int) (r : Int) : List Int := (List.range l.length).map (sk l r)
section
variable {l : List Int} {r : Int} {m : Nat}
theorem sk_add (hl : l ≠ []) (k q : Nat) : sk l r (k + l.length * q) = sk l r k := by
  unfold sk
  rw [show k + l.length * q + 1 = (k + 1) + l.length * q by omega, walk_add_mul (len_pos hl), walk_add_mul (len_pos hl)]
  omega
theorem per_of_sk (h : ∀ k, sk l r (k + m) = sk l r k) : Per (walk l r) m := by
  refine ⟨walk l r m - walk l r 0, fun k => ?_⟩
  induction k with
  | zero => rw [Nat.zero_add]; omega
  | succ k ih =>
    have q := h k
    unfold sk at q
    rw [show k + 1 + m = k + m + 1 by omega]
    omega
theorem sk_of_per (h : Per (walk l r) m) (k : Nat) : sk l r (k + m) = sk l r k := by
  obtain ⟨c, hc⟩ := h
  unfold sk
  rw [show k + m + 1 = (k + 1) + m by omega, hc, hc]
  omega
theorem chain_up {f : Nat → Int} {n : Nat} {c : Int} (h : ∀ k, k + m < n → f (k + m) = f k + c) (j : Nat) : ∀ u, j + m * u < n → f (j + m * u) = f j + c * (u : Int)
  | 0, _ => by simp
  | u + 1, hu => by
    have e : j + m * (u + 1) = j + m * u + m := by rw [Nat.mul_succ]; omega
    have ih := chain_up h j u (by omega)
    rw [e, h _ (by omega), ih, Int.natCast_add, Int.mul_add]
    omega
/-- a place in the last part of a loop -/
theorem last_part {n i t : Nat} (hm : 0 < m) (ht : m * t = n) (hi : i < n) (hg : ¬ i + m < n) : ∃ j, j < m ∧ i + m = n + j ∧ i = j + m * (t - 1) ∧ 0 < t := by
  have t0 : 0 < t := Nat.pos_of_ne_zero fun z => by rw [z, Nat.mul_zero] at ht; omega
  obtain ⟨t', rfl⟩ : ∃ t', t = t' + 1 := ⟨t - 1, by omega⟩
  rw [Nat.mul_succ] at ht
  refine ⟨i + m - n, by omega, by omega, ?_, t0⟩
  rw [show t' + 1 - 1 = t' by omega]
  omega
theorem cond_iff (hl : l ≠ []) (hm : 0 < m) (hd : m ∣ l.length) : ((steps l r).drop m = (steps l r).take (l.length - m)) ↔ Per (walk l r) m := by
  obtain ⟨t, ht⟩ := hd
  have hle : m ≤ l.length := by rw [ht]; exact Nat.le_mul_of_pos_right _ (Nat.pos_of_ne_zero fun z => by rw [z, Nat.mul_zero] at ht; exact absurd ht (Nat.ne_of_gt (len_pos hl)))
  constructor
  · intro h
    have h0 : ∀ k, k + m < l.length → sk l r (k + m) = sk l r k + 0 := fun k hk => by
      have q := congrArg (fun z : List Int => z[k]?) h
      simp only [steps, List.getElem?_drop, List.getElem?_take, if_pos (show k < l.length - m by omega), List.getElem?_map, List.getElem?_range (show m + k < l.length by omega), List.getElem?_range (show k < l.length by omega), Option.map_some, Option.some.injEq] at q
      rw [show k + m = m + k by omega, q]
      omega
    refine per_of_sk fun k => ?_
    have hp := len_pos hl
    have e : k = k % l.length + l.length * (k / l.length) := (Nat.mod_add_div k _).symm
    have hi : k % l.length < l.length := Nat.mod_lt _ hp
    have e1 : sk l r k = sk l r (k % l.length) := by
      have := sk_add (r := r) hl (k % l.length) (k / l.length)
      rw [← e] at this
      exact this
    have e2 : sk l r (k + m) = sk l r (k % l.length + m) := by
      have := sk_add (r := r) hl (k % l.length + m) (k / l.length)
      rw [show k % l.length + m + l.length * (k / l.length) = k + m by omega] at this
      exact this
    rw [e1, e2]
    by_cases c : k % l.length + m < l.length
    · rw [h0 _ c]; omega
    · obtain ⟨j, j1, j2, j3, t0⟩ := last_part hm ht.symm hi c
      have q := chain_up (f := sk l r) (n := l.length) h0 j (t - 1) (by omega)
      rw [j2, show l.length + j = j + l.length * 1 by omega, sk_add hl, j3, q]
      omega
  · intro h
    refine List.ext_getElem? fun k => ?_
    simp only [steps, List.getElem?_drop, List.getElem?_take, List.getElem?_map]
    by_cases c : k < l.length - m
    · rw [if_pos c, List.getElem?_range (by omega), List.getElem?_range (by omega)]
      simp only [Option.map_some]
      rw [show m + k = k + m by omega, sk_of_per h]
    · rw [if_neg c, List.getElem?_eq_none (by rw [List.length_range]; omega)]
      rfl
theorem walk_i {i : Nat} (h : i < l.length) : walk l r i = l.getD i 0 := walk_lt h
/-- the law's own look at a part of a loop -/
theorem law_iff (hl : l ≠ []) (hm : 0 < m) {t : Nat} (ht : m * t = l.length) : (r % (t : Int) = 0 ∧ ∀ k, k + m < l.length → l.getD (k + m) 0 = l.getD k 0 + r / (t : Int)) ↔ Per (walk l r) m := by
  have hp := len_pos hl
  have t0 : 0 < t := Nat.pos_of_ne_zero fun z => by rw [z, Nat.mul_zero] at ht; omega
  constructor
  · rintro ⟨h1, h2⟩
    have hr : r = r / (t : Int) * (t : Int) := (Int.ediv_mul_cancel (Int.dvd_of_emod_eq_zero h1)).symm
    refine ⟨r / (t : Int), fun k => ?_⟩
    have e : k = k % l.length + l.length * (k / l.length) := (Nat.mod_add_div k _).symm
    have hi : k % l.length < l.length := Nat.mod_lt _ hp
    have e1 : walk l r k = walk l r (k % l.length) + r * ((k / l.length : Nat) : Int) := by
      have := walk_add_mul (r := r) hp (k % l.length) (k / l.length)
      rw [← e] at this
      exact this
    have e2 : walk l r (k + m) = walk l r (k % l.length + m) + r * ((k / l.length : Nat) : Int) := by
      have := walk_add_mul (r := r) hp (k % l.length + m) (k / l.length)
      rw [show k % l.length + m + l.length * (k / l.length) = k + m by omega] at this
      exact this
    rw [e1, e2, walk_i hi]
    by_cases c : k % l.length + m < l.length
    · rw [walk_i c, h2 _ c]; omega
    · obtain ⟨j, j1, j2, j3, _⟩ := last_part hm ht hi c
      have q := chain_up (f := fun i => l.getD i 0) (n := l.length) h2 j (t - 1) (by omega)
      have q' : l.getD (k % l.length) 0 = l.getD j 0 + r / (t : Int) * ((t - 1 : Nat) : Int) := by rw [← q]; exact congrArg (fun i => l.getD i 0) j3
      have hjl : j < l.length := by omega
      rw [j2, show l.length + j = j + l.length by omega, walk_add hp, walk_i hjl, q']
      have e3 : r / (t : Int) * (t : Int) = r / (t : Int) * ((t - 1 : Nat) : Int) + r / (t : Int) := by
        rw [show (t : Int) = ((t - 1 : Nat) : Int) + 1 by omega, Int.mul_add, Int.mul_one]
      omega
  · rintro ⟨c, hc⟩
    have hr := per_rise hl hc ht
    have hd : r / (t : Int) = c := by
      rw [hr]
      exact Int.mul_ediv_cancel _ (by omega)
    refine ⟨by rw [hr]; exact Int.mul_emod_left _ _, fun k hk => ?_⟩
    have q := hc k
    rw [walk_i hk, walk_i (by omega)] at q
    rw [q, hd]
/-- what goes on by a part goes on so by its rise -/
theorem per_at (hl : l ≠ []) (hm : 0 < m) (h : Per (walk l r) m) {t : Nat} (ht : m * t = l.length) : ∀ k, walk l r (k + m) = walk l r k + r / (t : Int) := by
  obtain ⟨c, hc⟩ := h
  have hr := per_rise hl hc ht
  have t0 : 0 < t := Nat.pos_of_ne_zero fun z => by rw [z, Nat.mul_zero] at ht; exact absurd ht.symm (Nat.ne_of_gt (len_pos hl))
  have hd : r / (t : Int) = c := by
    rw [hr]
    exact Int.mul_ediv_cancel _ (by omega)
  rw [hd]
  exact hc
/-- the program's search -/
theorem lap_prog (hl : l ≠ []) (hm : 0 < m) (hle : m ≤ l.length / 2) (hd : m ∣ l.length) (hp : Per (walk l r) m) (hno : ∀ m', 0 < m' → m' < m → m' ∣ l.length → ¬ Per (walk l r) m') : LapIs l r m :=
  ⟨hm, hd, hp, fun m' p d q => Nat.le_of_not_lt fun c => hno m' p c d q⟩
theorem lap_whole (hl : l ≠ []) (hno : ∀ m', 0 < m' → m' ≤ l.length / 2 → m' ∣ l.length → ¬ Per (walk l r) m') : LapIs l r l.length :=
  ⟨len_pos hl, Nat.dvd_refl _, per_self hl, fun m' p d q => Nat.le_of_not_lt fun c => hno m' p (by
    obtain ⟨t, ht⟩ := d
    have t2 : 2 ≤ t := Nat.le_of_not_lt fun z => by
      have : t = 0 ∨ t = 1 := by omega
      rcases this with rfl | rfl
      · rw [Nat.mul_zero] at ht; omega
      · rw [Nat.mul_one] at ht; omega
    have : m' * 2 ≤ l.length := by rw [ht]; exact Nat.mul_le_mul_left _ t2
    omega) d q⟩
end
end NT
set_option Elab.async false
set_option linter.all false
set_option maxRecDepth 100000
set_option maxHeartbeats 4000000
namespace NF
open PySem PySem.Spec PyProof.Rows L2 He RZ
theorem Same.tup {K : PySem.W.Frag} {H H' : Hp} {a : Addr} {xs : List V} (e : Same H H') (h : SqT K H a xs) : SqT K H' a xs := by
  rcases h with (h | ⟨o, h⟩) | h
  · exact .inl (.inl (e _ _ h))
  · exact .inl (.inr ⟨o, e _ _ h⟩)
  · exact .inr h
abbrev vI (l : List Int) : List V := l.map V.int
/-! ### o.f = v as one of several targets -/
def gFld (K : PySem.W.Frag) (ta : TE) (f : Str) : TG := fun v σ H Q => ta σ H fun x H1 => ∃ a C dx fs, x = .ref a ∧ H1 a = some (.ins C dx fs) ∧ Cls K C ∧ NoAttr K C f ∧ fs.length < 1000 ∧ Q σ (upd H1 a (.ins C dx (putF f v fs)))
theorem pg_fld {X : Cx} {o : Expr} {f : Str} {pos : Pos} {ta : TE} (ha : PE X o ta) : PG X (.Attribute o f pos) (gFld X.K ta f) := by
  refine ⟨fun pins s σ H v u Q I r h => ?_⟩
  refine PySem.W.kas_attr (thn (ha.run pins s σ H _ I h) fun ov s1 ⟨x, H1, I1, rx, a, C, dx, fs, ex, ea, c, n, l, q⟩ => ?_)
  subst ex
  obtain rfl : ov = Value.ref a := rx
  exact setattr_ok I1 ea c n l r fun s2 I2 => ⟨σ, _, I2, q⟩
/-! ### a name of the module that is a function of Python's own -/
theorem pe_gl {X : Cx} {x : Str} {a : Addr} {pos : Pos} (hm : X.mg x = some (.ref a)) (hg : Gl X x := by rfl) (hd : (x == ("__debug__" : Str)) = false := by decide) : PE X (.Name x pos) (tC (.ref a)) := pe_glob (v := .ref a) hg hm rfl hd
theorem ixl {X : Cx} {K : PySem.W.Frag} (h : X.K = K := by rfl) : IxR X (rIxL K) := h ▸ ix_list
theorem pgt {X : Cx} {K : PySem.W.Frag} {es : List Expr} {k : Nat} {pos : Pos} {t : TGs} {n : Nat} (hK : X.K = K) (hc : X.calm = true) (h : PGs X es t)
    (hn : (assignEach es X.env).length = n := by rfl) (hst : (assignEach es X.env).findIdx? (·.1) = none := by rfl) : PG X (.Tuple es k pos) (gTup K n t) := hK ▸ pg_tup hc h hn hst
theorem ixt {X : Cx} {K : PySem.W.Frag} (h : X.K = K := by rfl) : IxR X (rIxT K) := h ▸ ix_tup
/-! ### slices and sums of tuples: whatever object they give -/
theorem sIx_negN {n d k : Nat} (hk : 0 < k) : HT.sIx n d (some (-(k : Int))) = n - k := by
  show (if -(k : Int) < 0 then (-(k : Int) + (n : Int)).toNat else min (-(k : Int)).toNat n) = n - k
  rw [if_pos (by omega)]
  omega
theorem cut_whole {xs : List V} {lo hi : Option Int} (h : HT.sIx xs.length 0 lo = 0 ∧ HT.sIx xs.length xs.length hi = xs.length) : cutV xs lo hi = xs := by
  unfold cutV
  rw [h.1, h.2]
  simp
theorem slA_done {K : PySem.W.Frag} {H : Hp} {a : Addr} {xs : List V} {lo hi : Option Int} {Q : VK} (hx : SqT K H a xs) (q : ∀ p H', Same H H' → SqT K H' p (cutV xs lo hi) → Q (.ref p) H') : rSlA K (.ref a) lo hi H Q := by
  refine ⟨a, xs, rfl, hx, fun w => q a H (Same.refl H) (by rw [cut_whole w]; exact hx), fun _ p hp => q p _ (NF.Same.new (Same.refl H) hp) (SqT.of upd_same)⟩
theorem slA_from {K : PySem.W.Frag} {H : Hp} {a : Addr} {xs : List V} {lo : Option Int} {Q : VK} {σ : L2.St} (hx : SqT K H a xs) (q : ∀ p H', Same H H' → SqT K H' p (cutV xs lo none) → Q (.ref p) H') : tNoPart σ H fun u H3 => rSlA K (.ref a) lo u H3 Q := by
  show rSlA K (.ref a) lo none H Q
  exact slA_done hx q
theorem catA_done {K : PySem.W.Frag} {H : Hp} {a b : Addr} {xs ys : List V} {Q : VK} (hx : SqT K H a xs) (hy : SqT K H b ys) (hz : xs.length + ys.length ≤ sizeLine) (q : ∀ p H', Same H H' → SqT K H' p (xs ++ ys) → Q (.ref p) H') : rCatA K (.ref a) (.ref b) H Q := by
  refine ⟨a, b, xs, ys, rfl, rfl, hx, hy, hz, fun e => q b H (Same.refl H) (by rw [e]; exact hy), fun _ e => q a H (Same.refl H) (by rw [e, List.append_nil]; exact hx), fun _ _ p hp => q p _ (NF.Same.new (Same.refl H) hp) (SqT.of upd_same)⟩
theorem cut_from {xs : List V} {n : Nat} : cutV xs (some (n : Int)) none = xs.drop n := by
  unfold cutV
  rw [HT.sIx_nat]
  show (xs.drop (min n xs.length)).take (xs.length - min n xs.length) = xs.drop n
  by_cases h : n ≤ xs.length
  · rw [Nat.min_eq_left h, List.take_of_length_le (by rw [List.length_drop]; exact Nat.le_refl _)]
  · rw [Nat.min_eq_right (by omega), List.drop_of_length_le (Nat.le_refl _), List.drop_of_length_le (by omega)]
    simp
theorem cut_to {xs : List V} {n : Nat} : cutV xs none (some (n : Int)) = xs.take n := by
  unfold cutV
  rw [HT.sIx_nat]
  show (xs.drop 0).take (min n xs.length - 0) = xs.take n
  rw [List.drop_zero, Nat.sub_zero]
  by_cases h : n ≤ xs.length
  · rw [Nat.min_eq_left h]
  · rw [Nat.min_eq_right (by omega), List.take_of_length_le (Nat.le_refl _), List.take_of_length_le (by omega)]
theorem cut_toN {xs : List V} {n : Nat} (h : 0 < n) : cutV xs none (some (-(n : Int))) = xs.take (xs.length - n) := by
  unfold cutV
  rw [sIx_negN h]
  show (xs.drop 0).take (xs.length - n - 0) = _
  rw [List.drop_zero, Nat.sub_zero]
theorem cut_mid {xs : List V} {a b : Nat} (h : a ≤ b) (hb : b ≤ xs.length) : cutV xs (some (a : Int)) (some (b : Int)) = (xs.drop a).take (b - a) := by
  unfold cutV
  rw [HT.sIx_nat, HT.sIx_nat, Nat.min_eq_left hb, Nat.min_eq_left (by omega)]
theorem map_cut {l : List Int} {lo hi : Option Int} : ∃ m : List Int, cutV (vI l) lo hi = vI m := ⟨(l.drop (HT.sIx (vI l).length 0 lo)).take (HT.sIx (vI l).length (vI l).length hi - HT.sIx (vI l).length 0 lo), by unfold cutV; simp only [vI, List.map_take, List.map_drop]⟩
theorem at_int {l : List Int} {i : Int} {k : Nat} (e : i = (k : Int)) (h : k < l.length) : atI (vI l) i = some (V.int (l.getD k 0)) := by
  rw [e]
  exact atI_nat (by rw [List.getElem?_map, List.getElem?_eq_getElem h, List.getD_eq_getElem?_getD, List.getElem?_eq_getElem h] <;> rfl)
theorem at_last {l : List Int} (h : 0 < l.length) : atI (vI l) (-1) = some (V.int (l.getD (l.length - 1) 0)) := by
  unfold atI ixN
  rw [if_neg (by omega), List.length_map, if_pos (by omega)]
  show (vI l)[((-1 : Int) + (l.length : Int)).toNat]? = _
  rw [show ((-1 : Int) + (l.length : Int)).toNat = l.length - 1 by omega, List.getElem?_map, List.getElem?_eq_getElem (by omega), List.getD_eq_getElem?_getD, List.getElem?_eq_getElem (by omega)] <;> rfl
/-! ### [.. for a, b in zip(t, u)] of two tuples of one length -/
theorem lc_zipT {K : PySem.W.Frag} {a b : Addr} {xs ys : List V} {g : TG} {tt : TT} {te : TE} {vs : List Nat} {σ : L2.St} {H1 : Hp} {D : Addr} {Qd : Hp → Prop} (hl : xs.length = ys.length) (Pv : Nat → Hp → Prop) (h0 : Pv 0 (upd H1 D (.lst []))) (hq : ∀ i H, Pv i H → SqT K H a xs ∧ SqT K H b ys)
    (hs : ∀ i x y T H, xs[i]? = some x → ys[i]? = some y → Pv i H → H T = none → g (.ref T) (wipe σ vs) (upd H T (.tup [x, y])) fun σ2 H2 => wipe σ2 vs = wipe σ vs ∧ tt σ2 H2 fun b H3 =>
      if b = true then te σ2 H3 fun y H4 => ∃ acc, H4 D = some (.lst acc) ∧ acc.length < sizeLine ∧ Pv (i + 1) (upd H4 D (.lst (acc ++ [y]))) else Pv (i + 1) H3) (hd : ∀ H, Pv xs.length H → Qd H) :
    ∃ W : Nat → Nat → Hp → Prop, (∃ m, W 0 m (upd H1 D (.lst []))) ∧ ∀ i m H, W i m H →
      ((ItzT K a b).stop i H ∧ Qd H) ∨ ((ItzT K a b).go i H ∧ ∃ Nx : Hp → Prop, (∀ H', Nx H' → ∃ m', m' < m ∧ W (i + 1) m' H') ∧ ∀ x H', (ItzT K a b).yld i H x H' → g x (wipe σ vs) H' fun σ2 H2 => wipe σ2 vs = wipe σ vs ∧ tt σ2 H2 fun b H3 =>
        if b = true then te σ2 H3 fun y H4 => ∃ acc, H4 D = some (.lst acc) ∧ acc.length < sizeLine ∧ Nx (upd H4 D (.lst (acc ++ [y]))) else Nx H3) := by
  refine ⟨fun i m H => m = xs.length - i ∧ i ≤ xs.length ∧ Pv i H, ⟨xs.length, rfl, Nat.zero_le _, h0⟩, ?_⟩
  rintro i m H ⟨rfl, hi, p⟩
  obtain ⟨qx, qy⟩ := hq i H p
  by_cases hlt : i < xs.length
  · have hx : xs[i]? = some xs[i] := List.getElem?_eq_getElem hlt
    have hlt2 : i < ys.length := by omega
    have hy : ys[i]? = some ys[i] := List.getElem?_eq_getElem hlt2
    refine .inr ⟨⟨xs, ys, _, _, qx, qy, hx, hy⟩, Pv (i + 1), fun H' p' => ⟨xs.length - (i + 1), by omega, rfl, hlt, p'⟩, fun v H' y => ?_⟩
    obtain ⟨T, x', y', rfl, hT, rfl, f1, f2⟩ := y
    exact hs i x' y' T H (f1 xs qx) (f2 ys qy) p hT
  · have e : i = xs.length := by omega
    subst e
    exact .inl ⟨⟨xs, ys, qx, qy, Or.inl (Nat.le_refl _)⟩, hd H p⟩
theorem tru_tup {K : PySem.W.Frag} {H : Hp} {a : Addr} {l : List Int} (h : SqT K H a (vI l)) : TruV K (.ref a) H (!l.isEmpty) := Or.inr (Or.inl ⟨_, h, by cases l <;> rfl⟩)
theorem tru_int {K : PySem.W.Frag} {H : Hp} {i : Int} : TruV K (.int i) H (i != 0) := rfl
/-! ### deep == of lists and tuples of vI -/
theorem dp_ints {K : PySem.W.Frag} {H : Hp} : ∀ l : List Int, DpAll K H (vI l) (l.map PyData.int)
  | [] => .nil
  | i :: l => .cons (.int i) (dp_ints l)
theorem eqv_ints : ∀ a b : List Int, PyData.eqvAll (a.map PyData.int) (b.map PyData.int) = decide (a = b)
  | [], [] => rfl
  | [], _ :: _ => rfl
  | _ :: _, [] => rfl
  | x :: a, y :: b => by
    show (PyData.eqv (.int x) (.int y) && PyData.eqvAll (a.map PyData.int) (b.map PyData.int)) = _
    rw [eqv_ints a b]
    show ((x == y) && decide (a = b)) = _
    by_cases h : x = y <;> by_cases g : a = b <;> simp [h, g]
end NF
namespace NF
open PySem PySem.Spec PyProof.Rows L2 He RZ
theorem lay_ints : ∀ l : List Int, PyData.canLayAll0 (l.map PyData.int) = true
  | [] => rfl
  | _ :: l => lay_ints l
theorem depth_ints : ∀ l : List Int, PyData.depthAll (l.map PyData.int) = 0
  | [] => rfl
  | i :: l => by
    show max (PyData.depth (.int i)) (PyData.depthAll (l.map PyData.int)) = 0
    rw [depth_ints l]
    rfl
theorem shaped_L (l : List Int) : SeqAt.shaped (.list (l.map PyData.int)) = true := by
  show (PyData.canLayAll0 (l.map PyData.int) && decide (PyData.depthAll (l.map PyData.int) + 1 ≤ 64)) = true
  rw [lay_ints, depth_ints]
  rfl
theorem shaped_T (l : List Int) : SeqAt.shaped (.tuple (l.map PyData.int)) = true := by
  show (PyData.canLayAll0 (l.map PyData.int) && decide (PyData.depthAll (l.map PyData.int) + 1 ≤ 64)) = true
  rw [lay_ints, depth_ints]
  rfl
theorem eqL_done {K : PySem.W.Frag} {H : Hp} {a b : Addr} {x y : List Int} {Q : VK} (hx : SqL K H a (vI x)) (hy : SqL K H b (vI y)) (q : Q (.bl (decide (x = y))) H) : rEqD K (.ref a) (.ref b) H Q :=
  ⟨_, _, .lst hx (dp_ints x), .lst hy (dp_ints y), shaped_L x, shaped_L y, by rw [show PyData.eqv (.list (x.map PyData.int)) (.list (y.map PyData.int)) = decide (x = y) from eqv_ints x y]; exact q⟩
theorem eqT_done {K : PySem.W.Frag} {H : Hp} {a b : Addr} {x y : List Int} {Q : VK} (hx : SqT K H a (vI x)) (hy : SqT K H b (vI y)) (q : Q (.bl (decide (x = y))) H) : rEqD K (.ref a) (.ref b) H Q :=
  ⟨_, _, .tup hx (dp_ints x), .tup hy (dp_ints y), shaped_T x, shaped_T y, by rw [show PyData.eqv (.tuple (x.map PyData.int)) (.tuple (y.map PyData.int)) = decide (x = y) from eqv_ints x y]; exact q⟩
theorem neT_done {K : PySem.W.Frag} {H : Hp} {a b : Addr} {x y : List Int} {Q : VK} (hx : SqT K H a (vI x)) (hy : SqT K H b (vI y)) (q : Q (.bl (!decide (x = y))) H) : rNeD K (.ref a) (.ref b) H Q :=
  ⟨_, _, .tup hx (dp_ints x), .tup hy (dp_ints y), shaped_T x, shaped_T y, by rw [show PyData.eqv (.tuple (x.map PyData.int)) (.tuple (y.map PyData.int)) = decide (x = y) from eqv_ints x y]; exact q⟩
end NF
namespace NF
open PySem
theorem vI_drop {l : List Int} {n : Nat} : (vI l).drop n = vI (l.drop n) := by simp [vI, List.map_drop]
theorem vI_take {l : List Int} {n : Nat} : (vI l).take n = vI (l.take n) := by simp [vI, List.map_take]
theorem vI_app {l m : List Int} : vI l ++ vI m = vI (l ++ m) := by simp [vI]
theorem vI_len {l : List Int} : (vI l).length = l.length := by simp [vI]
end NF
namespace NF
open PySem PySem.Spec PyProof.Rows L2 He RZ
/-- a list or a tuple -/
def Row (K : PySem.W.Frag) (H : Hp) (a : Addr) (xs : List V) : Prop := SqL K H a xs ∨ SqT K H a xs
theorem Row.mono {K : PySem.W.Frag} {H H' : Hp} {a : Addr} {xs : List V} (h : Row K H a xs) (s : Same H H') : Row K H' a xs := h.elim (fun h => .inl (L2.Same.seq s h)) (fun h => .inr (NF.Same.tup s h))
def iRow (K : PySem.W.Frag) (tl : TE) : TI := fun σ H R => tl σ H fun x H1 => ∃ a, x = .ref a ∧ (((∃ xs, SqL K H1 a xs) ∧ R (Itl K a) H1) ∨ ((∃ xs, SqT K H1 a xs) ∧ R (Itt K a) H1))
theorem pi_row {X : Cx} {tg l : Expr} {tl : TE} (hl : PE X l tl) : PI X tg l (iRow X.K tl) := by
  refine ⟨fun pins s σ H R I h => ?_⟩
  refine thn (hl.run pins s σ H _ I h) fun v s1 ⟨x, H1, I1, r1, q1⟩ => ?_
  obtain ⟨a, e, q⟩ := q1
  subst e
  cases r1
  rcases q with ⟨⟨xs, hq⟩, q⟩ | ⟨⟨xs, hq⟩, q⟩
  · obtain ⟨its, rv, p, hz⟩ := I1.list hq
    refine wpAny_pyIter_list p.isList ?_
    refine ⟨s1.heap.objs.size, [s1.heap.objs.size], _, _, H1, rfl, I1.kept (t' := s1.toks) fun b o e => Heap.get?_push_of_some _ e, turn_list a _, ⟨_, Heap.get?_push_size _ rfl, rfl, rfl⟩, fun b hb => ?_, q⟩
    have e : b = s1.heap.objs.size := by simpa using hb
    subst e
    exact I1.fpOk (Nat.le_refl _) (I1.hok.fresh (Nat.le_refl _))
  · obtain ⟨its, rv, p, hz⟩ := I1.tuple hq
    refine wpAny_pyIter_tuple (show s1.heap.IsTuple a its.toArray from p) ?_
    refine ⟨s1.heap.objs.size, [s1.heap.objs.size], _, _, H1, rfl, I1.kept (t' := s1.toks) fun b o e => Heap.get?_push_of_some _ e, turn_tuple a _, ⟨_, Heap.get?_push_size _ rfl, rfl, rfl⟩, fun b hb => ?_, q⟩
    have e : b = s1.heap.objs.size := by simpa using hb
    subst e
    exact I1.fpOk (Nat.le_refl _) (I1.hok.fresh (Nat.le_refl _))
theorem for_row {K : PySem.W.Frag} {a : Addr} {xs : List V} {g : TG} {tb : TS} {D : Ends} {σ : L2.St} {H : Hp} (hr : Row K H a xs) (Pv : Nat → L2.St → Hp → Prop) (h0 : Pv 0 σ H) (hm : ∀ i σ H', Pv i σ H' → Same H H')
    (hs : ∀ i x σ H, xs[i]? = some x → Pv i σ H → g x σ H fun σ2 H2 => tb { D with nx := Pv (i + 1), ct := Pv (i + 1), bk := D.nx } σ2 H2) (hd : ∀ σ H, Pv xs.length σ H → D.nx σ H) :
    ((∃ xs, SqL K H a xs) ∧ (∃ W : Nat → Nat → L2.St → Hp → Prop, (∃ m, W 0 m σ H) ∧ ∀ i m σ H, W i m σ H →
      ((Itl K a).stop i H ∧ D.nx σ H) ∨ ((Itl K a).go i H ∧ ∃ N : L2.St → Hp → Prop, (∀ σ' H', N σ' H' → ∃ m', m' < m ∧ W (i + 1) m' σ' H') ∧ ∀ x H', (Itl K a).yld i H x H' → g x σ H' fun σ2 H2 => tb { D with nx := N, ct := N, bk := D.nx } σ2 H2))) ∨
    ((∃ xs, SqT K H a xs) ∧ (∃ W : Nat → Nat → L2.St → Hp → Prop, (∃ m, W 0 m σ H) ∧ ∀ i m σ H, W i m σ H →
      ((Itt K a).stop i H ∧ D.nx σ H) ∨ ((Itt K a).go i H ∧ ∃ N : L2.St → Hp → Prop, (∀ σ' H', N σ' H' → ∃ m', m' < m ∧ W (i + 1) m' σ' H') ∧ ∀ x H', (Itt K a).yld i H x H' → g x σ H' fun σ2 H2 => tb { D with nx := N, ct := N, bk := D.nx } σ2 H2))) := by
  rcases hr with hr | hr
  · exact .inl ⟨⟨_, hr⟩, for_list Pv h0 (fun i σ H' _ p => L2.Same.seq (hm i σ H' p) hr) hs hd⟩
  · exact .inr ⟨⟨_, hr⟩, for_tup Pv h0 (fun i σ H' _ p => NF.Same.tup (hm i σ H' p) hr) hs hd⟩
theorem ixs {X : Cx} {K : PySem.W.Frag} (h : X.K = K := by rfl) : IxR X (rIx K) := h ▸ ix_seq
theorem ix_done {K : PySem.W.Frag} {H : Hp} {a : Addr} {xs : List V} {i : Int} {v : V} {Q : VK} (hr : Row K H a xs) (hv : atI xs i = some v) (q : Q v H) : rIx K (.ref a) (.int i) H Q :=
  hr.elim (fun h => .inl ⟨a, xs, i, v, rfl, rfl, h, hv, q⟩) fun h => .inr (.inl ⟨a, xs, i, v, rfl, rfl, h, hv, q⟩)
theorem tru_row {K : PySem.W.Frag} {H : Hp} {a : Addr} {l : List Int} (h : Row K H a (vI l)) : TruV K (.ref a) H (!l.isEmpty) := h.elim (fun h => Or.inl ⟨_, h, by cases l <;> rfl⟩) tru_tup
theorem tyx_tup {K : PySem.W.Frag} {H : Hp} {a : Addr} {xs : List V} (h : SqT K H a xs) : TyX K H (.ref a) (.type "tuple") := by
  rcases h with (h | ⟨o, h⟩) | ⟨o, its, n, h1, h2, _⟩
  · exact .base (.tup h)
  · exact .fTuple h
  · exact .kTuple h1 h2
theorem tyx_lst {K : PySem.W.Frag} {H : Hp} {a : Addr} {xs : List V} (h : SqL K H a xs) : TyX K H (.ref a) (.type "list") := by
  rcases h with (h | ⟨o, h⟩) | ⟨o, its, n, h1, h2, _⟩
  · exact .base (.lst h)
  · exact .base (.frz h)
  · exact .kList h1 h2
theorem kit_i_i (K : PySem.W.Frag) : PySem.W.kitOne K (.type "int") (.type "int") = some true := if_pos (by decide +kernel)
theorem kit_i_b (K : PySem.W.Frag) : PySem.W.kitOne K (.type "int") (.type "bool") = some false := by kernel_rfl
theorem kit_b_b (K : PySem.W.Frag) : PySem.W.kitOne K (.type "bool") (.type "bool") = some true := if_pos (by decide +kernel)
theorem kit_t_t (K : PySem.W.Frag) : PySem.W.kitOne K (.type "tuple") (.type "tuple") = some true := if_pos (by decide +kernel)
theorem kit_t_tl (K : PySem.W.Frag) : PySem.W.kitAny K (.type "tuple") [.type "tuple", .type "list"] = some true := by kernel_rfl
theorem kit_l_tl (K : PySem.W.Frag) : PySem.W.kitAny K (.type "list") [.type "tuple", .type "list"] = some true := by kernel_rfl
end NF
namespace NT
def climbs : Int → List Int → Prop
  | _, [] => True
  | lo, x :: xs => lo ≤ x ∧ climbs x xs
structure Good (h l : List Int) (r : Int) : Prop where
  hd : climbs 0 h
  lp : climbs 0 l
  join : h ≠ [] → l ≠ [] → h.getD (h.length - 1) 0 ≤ l.getD 0 0
  r0 : 0 ≤ r
  rl : l = [] → r = 0
  last : l ≠ [] → l.getD (l.length - 1) 0 ≤ l.getD 0 0 + r
end NT
set_option Elab.async false
set_option linter.all false
set_option maxRecDepth 100000
set_option maxHeartbeats 4000000
namespace NT
theorem least_of {p : Nat → Prop} : ∀ n, p n → ∃ m, p m ∧ m ≤ n ∧ ∀ k, p k → m ≤ k := by
  intro n
  induction n using Nat.strongRecOn with
  | _ n ih =>
    intro hn
    by_cases h : ∃ k, p k ∧ k < n
    · obtain ⟨k, hk, hlt⟩ := h
      obtain ⟨m, h1, h2, h3⟩ := ih k hlt hk
      exact ⟨m, h1, by omega, h3⟩
    · exact ⟨n, hn, Nat.le_refl _, fun k hk => Nat.le_of_not_lt fun hlt => h ⟨k, hk, hlt⟩⟩
theorem lap_ex {l : List Int} {r : Int} (hl : l ≠ []) : ∃ m, LapIs l r m := by
  obtain ⟨m, ⟨h1, h2, h3⟩, _, hm⟩ := least_of (p := fun m => 0 < m ∧ m ∣ l.length ∧ Per (walk l r) m) l.length ⟨len_pos hl, Nat.dvd_refl _, per_self hl⟩
  exact ⟨m, h1, h2, h3, fun k a b c => hm k ⟨a, b, c⟩⟩
/-- the plain form is no longer than what it was told by -/
theorem plain_size {h l : List Int} {r : Int} {x : List Int × List Int × Int} (hx : IsPlain h l r x) : x.1.length ≤ h.length ∧ x.2.1.length ≤ l.length ∧ (l ≠ [] → x.2.1 ≠ []) ∧ (l = [] → x.2.1 = []) ∧ (0 ≤ r → 0 ≤ x.2.2 ∧ x.2.2 ≤ r) ∧ (l ≠ [] → (0 < r ↔ 0 < x.2.2)) ∧ (l = [] → x = (h, [], 0)) := by
  by_cases hl : l = []
  · subst hl
    rcases hx with ⟨_, rfl⟩ | ⟨z, _⟩
    · exact ⟨Nat.le_refl _, Nat.le_refl _, fun z => absurd rfl z, fun _ => rfl, fun h => ⟨Int.le_refl _, h⟩, fun z => absurd rfl z, fun _ => rfl⟩
    · exact absurd rfl z
  · obtain ⟨m, a⟩ := lap_ex (r := r) hl
    obtain ⟨t, ht⟩ := a.dvd
    have hc := per_at hl a.pos a.per ht.symm
    have hr := per_rise hl hc ht.symm
    have t0 : 0 < t := Nat.pos_of_ne_zero fun z => by rw [z, Nat.mul_zero] at ht; have := len_pos hl; omega
    have b := plain_is (h := h) hl a hc
    have e := plain_one hx b fun n _ => rfl
    have hle : m ≤ l.length := Nat.le_of_dvd (len_pos hl) a.dvd
    have hlen : (h ++ l.take m).length = h.length + m := by rw [List.length_append, List.length_take, Nat.min_eq_left hle]
    have hcut := cut_le (e := h ++ l.take m) (p := m) (r := r / (t : Int)) h.length
    have hw := win_len (e := h ++ l.take m) (left := cut (h ++ l.take m) m (r / (t : Int)) h.length) (p := m) (by rw [hlen]; omega)
    subst e
    have hm := a.pos
    refine ⟨?_, ?_, fun _ z => ?_, fun z => absurd z hl, fun h0 => ?_, fun _ => ?_, fun z => absurd z hl⟩
    · show ((h ++ l.take m).take _).length ≤ _
      rw [List.length_take]
      omega
    · show (win _ _ _).length ≤ _
      rw [hw]
      exact hle
    · have z' : win (h ++ l.take m) (cut (h ++ l.take m) m (r / (t : Int)) h.length) m = [] := z
      rw [z'] at hw
      simp at hw
      omega
    · show 0 ≤ r / (t : Int) ∧ r / (t : Int) ≤ r
      exact ⟨Int.ediv_nonneg h0 (by omega), Int.ediv_le_self _ h0⟩
    · show 0 < r ↔ 0 < r / (t : Int)
      have t1 : (0 : Int) < (t : Int) := by omega
      constructor
      · intro h0
        rcases Int.lt_or_le 0 (r / (t : Int)) with q | q
        · exact q
        · have := Int.mul_le_mul_of_nonneg_right q (Int.le_of_lt t1)
          omega
      · intro h0
        have := Int.mul_pos h0 t1
        omega
/-- the end of a table -/
def fin_ (l : List Int) (r : Int) : Option Int := if l = [] ∨ 0 < r then none else some (l.getD (l.length - 1) 0)
/-- the value at a count, or at never -/
def val_ (h l : List Int) (r : Int) : Option Nat → Option Int
  | none => fin_ l r
  | some n => if n = 0 then some 0 else at_ h l r n
end NT
namespace NF
open PySem PySem.Spec PyProof.Rows L2 He RZ NT
def vO : Option Int → V
  | none => .non
  | some i => .int i
def vN : Option Nat → V
  | none => .non
  | some n => .int (n : Int)
def tf (a b : Addr) (r : Int) : List (Str × V) := [("head", .ref a), ("loop", .ref b), ("rise", .int r)]
/-- a table with these three -/
def TabAt (K : PySem.W.Frag) (C : Addr) (H : Hp) (x : Addr) (y : List Int × List Int × Int) : Prop := ∃ dx a b, H x = some (.ins C dx (tf a b y.2.2)) ∧ SqT K H a (vI y.1) ∧ SqT K H b (vI y.2.1)
theorem TabAt.mono {K : PySem.W.Frag} {C : Addr} {H H' : Hp} {x : Addr} {y : List Int × List Int × Int} (h : TabAt K C H x y) (s : Same H H') : TabAt K C H' x y := by
  obtain ⟨dx, a, b, h1, h2, h3⟩ := h
  exact ⟨dx, a, b, s _ _ h1, NF.Same.tup s h2, NF.Same.tup s h3⟩
/-- what stands at p is no tuple -/
def NoTup : HO → Prop
  | .tup _ => False
  | .frz _ _ => False
  | _ => True
theorem SqT.put {K : PySem.W.Frag} {H : Hp} {a p : Addr} {o u : HO} {xs : List V} (h : SqT K H a xs) (hp : H p = some u) (n : match u with | .lst _ => True | .ins _ _ _ => True | _ => False) : SqT K (upd H p o) a xs := by
  rcases h with (h | ⟨w, h⟩) | h
  · refine .inl (.inl ?_)
    rw [upd_ne (fun z => by subst z; rw [h] at hp; cases hp; exact n)]
    exact h
  · refine .inl (.inr ⟨w, ?_⟩)
    rw [upd_ne (fun z => by subst z; rw [h] at hp; cases hp; exact n)]
    exact h
  · exact .inr h
theorem SqT.wo {K : PySem.W.Frag} {H : Hp} {a p : Addr} {u : HO} {xs : List V} (h : SqT K H a xs) (hp : H p = some u) (n : match u with | .lst _ => True | .ins _ _ _ => True | _ => False) : SqT K (wo H p) a xs := by
  rcases h with (h | ⟨w, h⟩) | h
  · refine .inl (.inl ?_)
    rw [wo_ne (fun z => by subst z; rw [h] at hp; cases hp; exact n)]
    exact h
  · refine .inl (.inr ⟨w, ?_⟩)
    rw [wo_ne (fun z => by subst z; rw [h] at hp; cases hp; exact n)]
    exact h
  · exact .inr h
theorem TabAt.wo {K : PySem.W.Frag} {C : Addr} {H : Hp} {x p : Addr} {y : List Int × List Int × Int} {l : List V} (h : TabAt K C H x y) (hp : H p = some (.lst l)) : TabAt K C (NF.wo H p) x y := by
  obtain ⟨dx, a, b, h1, h2, h3⟩ := h
  refine ⟨dx, a, b, ?_, SqT.wo h2 hp trivial, SqT.wo h3 hp trivial⟩
  rw [wo_ne (fun z => by subst z; rw [h1] at hp; cases hp)]
  exact h1
/-- a class that may be made by its name; sp: its __init__ -/
structure Mak (P : Program) (w : World) (K : PySem.W.Frag) (mg : Str → Option Value) (base : Heap) (k n : Nat) (x : Str) (C : Addr) (sp : Sp) (dvs : List V) : Prop where
  ex : ∃ (f : Addr) (fd : FuncData) (ps : List Str) (ds : List Value), Mk K C f ∧ FnOk P w K mg base CX0 k f fd ps sp ∧ mg x = some (.ref C) ∧ Binds K fd ps ds ∧ Vals dvs ds
theorem pe_mk {X : Cx} {k j n : Nat} {C : Addr} {x : Str} {sp : Sp} {dvs : List V} {p pos : Pos} {e : Expr} {es : List Expr} {t : TA} (c : Mak X.prog X.w X.K X.mg X.base k n x C sp dvs) (hr : Room j X.A) (hk : k + 1 ≤ j) (hg : Gl X x) (ha : PA X (e :: es) t)
    (hdb : (x == ("__debug__" : Str)) = false := by decide) (he : starEach (e :: es) X.env = (false, eval e X.env) :: starEach es X.env := by rfl) (hpl : (backTo pos (starEach es X.env)).any (·.1) = false := by rfl) :
    PE X (.Call (.Name x p) (e :: es) [] pos) (tMake C sp dvs E0 t) := by
  obtain ⟨f, fd, ps, ds, M, F, hm, b, d⟩ := c.ex
  exact pe_make M F (hr.mono hk) hg hm b d pass0 ha hdb he hpl
end NF
namespace NF
open PySem PySem.Spec PyProof.Rows L2 He RZ NT
/-- tuple(..) of a list or a tuple -/
def rTupOf (K : PySem.W.Frag) : List V → Hp → VK → Prop := fun xs H Q => ∃ a ys, xs = [.ref a] ∧ Row K H a ys ∧ ∀ p H', Same H H' → SqT K H' p ys → Q (.ref p) H'
theorem cr_tup {X : Cx} : CallR X (.type "tuple") (rTupOf X.K) := by
  intro pins s σ H xs us Q I r h
  obtain ⟨a, ys, rfl, hr, q⟩ := h
  refine call_tuple_of pins s σ H _ us Q I r ⟨a, ys, rfl, ?_⟩
  exact hr.elim (fun h => .inl ⟨h, fun l hl => q l _ (NF.Same.new (Same.refl H) hl) (SqT.of upd_same)⟩) fun h => .inr ⟨h, q a H (Same.refl H) h⟩
end NF
set_option Elab.async false
set_option linter.all false
set_option maxRecDepth 100000
set_option maxHeartbeats 4000000
/-! Instances of a plain class with an own __eq__: ==, !=, isinstance, calls, properties. -/
namespace NF
open PySem PySem.Spec PyProof.Rows L2 He RZ NT
theorem ns_some_of {K : PySem.W.Frag} {h : Heap} {N : Addr} {mg : Str → Option Value} {n : Str} {v : Value} (X : K.In h) (G : h.Ns N mg) (e : PySem.W.nsIn K N n = some (some v)) : mg n = some v := by
  rcases G with ⟨ob, rows, cnt, at_, isD, rest⟩
  have val := rest.2 n
  rcases hk : K.lookup N with _ | ⟨c0, d0, dt, sl⟩
  · simp only [PySem.W.nsIn, hk] at e
    cases e
  · have same := (X N _ hk).symm.trans at_
    injection same with same
    subst same
    dsimp only at isD
    subst isD
    simp only [PySem.W.nsIn, hk] at e
    rw [← val]
    unfold nsFind findBy
    rw [← Array.find?_toList]
    revert e
    cases rows.toList.find? _ with
    | some en => exact fun e => by simpa using e
    | none =>
      intro e
      by_cases hany : (rows.toList.any fun x => x.refKey) = true
      · simp [hany] at e
      · simp [hany] at e
/-- the class's own object: nothing above it but object, an own __eq__ at f, no own __ne__ -/
def plObjB (K : PySem.W.Frag) (C f : Addr) : Bool := match K.lookup C with
  | some ⟨.type t, _, .cls cd, sl⟩ => t == "type" && (match cd.mro with
    | .ref C' :: bm => C' == C && bm == [.type "object"]
    | _ => false) && (cd.hasDict && !cd.hasDel) && (PySem.W.nsOkIn K cd.ns && eqO (PySem.W.nsIn K cd.ns "__eq__") (some (some (.ref f))) && eqO (PySem.W.nsIn K cd.ns "__ne__") (some none)) && (match sl.toList with
    | [_, _, _, _, some (.builtin n), _] => n == "object.__new__"
    | _ => false)
  | _ => false
theorem plObjB_ok {K : PySem.W.Frag} {C f : Addr} (h : plObjB K C f = true) :
    ∃ nm q N bs sn sub ab col dd k0 k1 k2 k3 k5, K.lookup C = some (excClassObj nm q C N bs [.type "object"] true sn sub ab col dd k0 k1 k2 k3 k5 "object.__new__") ∧ PySem.W.nsOkIn K N = true ∧ PySem.W.nsIn K N "__eq__" = some (some (.ref f)) ∧ PySem.W.nsIn K N "__ne__" = some none := by
  unfold plObjB at h
  split at h
  · rename_i t dd cd sl hl
    obtain ⟨h, h4⟩ := ba h
    obtain ⟨h, h9⟩ := ba h
    obtain ⟨h, h3⟩ := ba h
    obtain ⟨h1, h2⟩ := ba h
    obtain ⟨h12, h11⟩ := ba h9
    obtain ⟨h13, h10⟩ := ba h12
    split at h2
    · rename_i C' bm hm
      obtain ⟨h5, h6⟩ := ba h2
      split at h4
      · rename_i k0 k1 k2 k3 n k5 hs
        obtain ⟨h7, h8⟩ := ba h3
        have e1 : t = "type" := eq_of_beq h1
        have e5 : C' = C := eq_of_beq h5
        have e6 : bm = [.type "object"] := eq_of_beq h6
        have e9 : n = "object.__new__" := eq_of_beq h4
        subst e1 e5 e6 e9
        obtain ⟨nm, bs, mro, N, q, hd, sn, sub, ab, col, hdel⟩ := cd
        dsimp only at hm h7 h8 h13 h10 h11
        subst hm h7
        have hdel' : hdel = false := by
          cases hdel with
          | false => rfl
          | true => cases h8
        subst hdel'
        have hsl : sl = #[k0, k1, k2, k3, some (.builtin "object.__new__"), k5] := by
          have := congrArg List.toArray hs
          simpa using this
        subst hsl
        exact ⟨nm, q, N, bs, sn, sub, ab, col, dd, k0, k1, k2, k3, k5, hl, h13, eqO_ok h10, eqO_ok h11⟩
      · cases h4
    · cases h2
  · cases h
/-- x == y, x an instance of C -/
def rEqO (K : PySem.W.Frag) (C : Addr) (sp : Sp) : R2 := fun x y H Q => ∃ a dx fs tb, x = .ref a ∧ H a = some (.ins C dx fs) ∧ TyX K H y tb ∧ PySem.W.notFirst K C tb = true ∧ sp [.ref a, y] H Q E0
/-- x != y, both instances of C -/
def rNeO (K : PySem.W.Frag) (C : Addr) (sp : Sp) : R2 := fun x y H Q => ∃ a dx fs b dy gs, x = .ref a ∧ H a = some (.ins C dx fs) ∧ y = .ref b ∧ H b = some (.ins C dy gs) ∧ sp [.ref a, .ref b] H (fun v H' => ∃ t, v = .bl t ∧ Q (.bl (!t)) H') E0
/-- a class with an own == at f -/
structure EqC (P : Program) (w : World) (K : PySem.W.Frag) (mg : Str → Option Value) (base : Heap) (k : Nat) (C : Addr) (sp : Sp) : Prop where
  ex : ∃ (f : Addr) (fd : FuncData) (ps : List Str), FnOk P w K mg base CX0 k f fd ps sp ∧ PySem.W.findIn K (.ref C) "__eq__" = some (some (.ref f)) ∧ PySem.W.isFn K (.ref f) = true ∧ plObjB K C f = true ∧ Binds K fd ps []
theorem op_eqO {X : Cx} {k j : Nat} {C : Addr} {sp : Sp} (c : EqC X.prog X.w X.K X.mg X.base k C sp) (hr : Room j X.A) (hk : k ≤ j) : OpR X (compareOp .Eq) (rEqO X.K C sp) := by
  obtain ⟨f, fd, ps, F, hs, hf, _, hb⟩ := c.ex
  intro pins s σ H x y v u Q I rx ry h
  obtain ⟨a, dx, fs, tb, rfl, ha, ty, hn, q⟩ := h
  cases rx
  obtain ⟨mA, O, _⟩ := ins_get I.hok ha
  obtain ⟨od, J, _⟩ := O.look
  obtain ⟨m, hF⟩ := I.fr
  obtain ⟨P, Z, p, _⟩ := kit_of I ry ty
  show wpAny (model X.prog X.w) X.A (richCompare .Eq (.ref a) u) (EP X pins σ Q) X.xe s
  refine PySem.W.cmp_K (op := .Eq) (tb := tb) hr.units0 hF I.ok.mod.kin J (Z.ty _ _ I.kIn p) hn hs hf ?_
  have r2 : Vals [V.ref a, y] [Value.ref a, u] := .cons rfl (.cons ry .nil)
  refine wpAny_mono (run_fn (us := [.ref a, u]) (vs := [.ref a, y]) F (hr.mono hk) hb .nil pass0 I r2 q) (fun r s' z => ?_) fun _ _ e => e
  obtain ⟨z, H', I', rz, q'⟩ := z
  have hni : r ≠ .notImplemented := fun e => by
    subst e
    cases z with
    | int i => obtain ⟨t, e⟩ := (show ∃ t, Value.notImplemented = Value.int i t from rz); cases e
    | str i => obtain ⟨t, e⟩ := (show ∃ t, Value.notImplemented = Value.str i t from rz); cases e
    | byt i => obtain ⟨t, e⟩ := (show ∃ t, Value.notImplemented = Value.bytes i t from rz); cases e
    | flt i => obtain ⟨t, e⟩ := (show ∃ t, Value.notImplemented = Value.float i t from rz); cases e
    | _ => cases rz
  unfold PySem.W.CmpBack
  split
  · exact hni rfl
  · exact ⟨z, H', I', rz, q'⟩
theorem op_neO {X : Cx} {k j : Nat} {C : Addr} {sp : Sp} (c : EqC X.prog X.w X.K X.mg X.base k C sp) (hr : Room j X.A) (hk : k + 1 ≤ j) : OpR X (compareOp .NotEq) (rNeO X.K C sp) := by
  obtain ⟨f, fd, ps, F, hs, hf, hp, hb⟩ := c.ex
  intro pins s σ H x y v u Q I rx ry h
  obtain ⟨a, dx, fs, b, dy, gs, rfl, ha, rfl, hb', q⟩ := h
  cases rx
  cases ry
  obtain ⟨mA, O, _⟩ := ins_get I.hok ha
  obtain ⟨od, J, _⟩ := O.look
  obtain ⟨mB, O', _⟩ := ins_get I.hok hb'
  obtain ⟨od', J', _⟩ := O'.look
  obtain ⟨nm, qn, N, bs, sn, sub, ab, col, dd, k0, k1, k2, k3, k5, hl, hok, he, hne⟩ := plObjB_ok hp
  have G : s.heap.Ns N (s.heap.nsMap N) := .of_isNs (PySem.W.isNs_of_in I.kIn hok)
  have hr1 := hr.mono hk
  have r2 : Vals [V.ref a, .ref b] [Value.ref a, .ref b] := .cons rfl (.cons rfl .nil)
  have hlen := F.len _ _ _ _ q
  have run : wpAny (model X.prog X.w) X.A.in1 (call (.ref f) [.ref a, .ref b]) (fun v s' => ∃ t, v = .bool t ∧ EP X pins σ Q (.bool (!t)) s') X.xe s := by
    refine wpAny_call (codeAny_mono (F.run X.A.in1 X.stack s H ⟨[.ref a, .ref b], []⟩ [.ref a, .ref b] [.ref a, .ref b] _ E0 hr1.in1 I.env0.in1 (by
      have := hb s [.ref a, .ref b] I.kIn (by simpa using hlen)
      simpa using this) r2 q) fun r s' hq => ?_)
    cases r with
    | error e => exact False.elim hq
    | ok fl =>
      cases fl with
      | ret w =>
        obtain ⟨z, H', I', rz, t, ez, q3⟩ := I.after hq
        subst ez
        cases rz
        exact ⟨t, rfl, .bl (!t), H', I', rfl, q3⟩
      | next => exact False.elim hq
      | brk => exact False.elim hq
      | cont => exact False.elim hq
  obtain ⟨j1, j2, _⟩ := J
  obtain ⟨j3, j4, _⟩ := J'
  obtain ⟨of, hfo, hfc⟩ : ∃ of, s.heap.get? f = some of ∧ of.cls = .type "function" := by
    have e : (K0 : PySem.W.Frag) → K0.In s.heap → PySem.W.isFn K0 (.ref f) = true → ∃ of, s.heap.get? f = some of ∧ of.cls = .type "function" := fun K0 hK h0 => by
      have e1 : (K0.lookup f).map (·.cls) = some (.type "function") := beq_iff_eq.mp h0
      obtain ⟨o, ho, hc⟩ := Option.map_eq_some_iff.mp e1
      exact ⟨o, hK _ _ ho, hc⟩
    exact e X.K I.kIn hf
  obtain ⟨hp', g, d, tk, os⟩ := s
  exact PySem.compareOp_ne_ownEq (B := "object") (bm := [.type "object"]) PySem.F.cmp_object ⟨_, of, nm, qn, N, bs, true, sn, sub, ab, col, dd, k0, k1, k2, k3, k5, "object.__new__", _, _, j1, j2, I.kIn _ _ hl, G, ns_some_of I.kIn G he, hfo, hfc, PySem.F.cmp_object.mro, PySem.F.cmp_object.eq.lookup, PySem.W.ns_none_of I.kIn G hne⟩ j3 j4 (by have := hr.un; omega) run
/-- an instance of C may be called -/
structure CalO (P : Program) (w : World) (K : PySem.W.Frag) (mg : Str → Option Value) (base : Heap) (k : Nat) (C : Addr) (sp : Sp) : Prop where
  ex : ∃ (g : Addr) (fd : FuncData) (ps : List Str), StX.CallO K C g ∧ FnOk P w K mg base CX0 k g fd ps sp ∧ Binds K fd ps []
theorem pe_co {X : Cx} {k j : Nat} {C : Addr} {sp : Sp} {fe e : Expr} {es : List Expr} {t : TA} {tf : TE} {pos : Pos} (hf : PE X fe tf) (c : CalO X.prog X.w X.K X.mg X.base k C sp) (hr : Room j X.A) (hk : k ≤ j) (ha : PA X (e :: es) t)
    (ht : eval (.Call fe (e :: es) [] pos) X.env = (do callWith pos (← eval fe X.env) [] (backTo pos (starEach (e :: es) X.env)) (backToKw pos (keywordEach [] X.env))) := by rfl)
    (he : starEach (e :: es) X.env = (false, eval e X.env) :: starEach es X.env := by rfl) (hpl : (backTo pos (starEach es X.env)).any (·.1) = false := by rfl) :
    PE X (.Call fe (e :: es) [] pos) (StX.tCallO X C (fun vs H Q E => sp (vs ++ []) H Q E) E0 tf t) := by
  obtain ⟨g, fd, ps, c, F, b⟩ := c.ex
  exact StX.pe_callO hf c (F.raw b .nil) (hr.mono hk) pass0 ha ht he hpl
/-- a property of C -/
structure PropC (P : Program) (w : World) (K : PySem.W.Frag) (mg : Str → Option Value) (base : Heap) (k : Nat) (C : Addr) (f : Str) (sp : Sp) : Prop where
  cl : Cls K C
  ex : ∃ (p g : Addr) (fd : FuncData) (ps : List Str), PropOf K C f p g ∧ FnOk P w K mg base CX0 k g fd ps sp ∧ Binds K fd ps []
theorem pe_pr {X : Cx} {k j : Nat} {C : Addr} {f : Str} {sp : Sp} {e : Expr} {ta : TE} {pos : Pos} (he : PE X e ta) (c : PropC X.prog X.w X.K X.mg X.base k C f sp) (hr : Room j X.A) (hk : k + 1 ≤ j) (hab : attributeBase e f X.env (eval e X.env) = eval e X.env := by rfl) :
    PE X (.Attribute e f pos) (tProp C sp [] E0 ta) := by
  obtain ⟨p, g, fd, ps, c2, F, b⟩ := c.ex
  exact pe_prop he c.cl c2 F (hr.mono hk) b .nil pass0 hab
end NF
set_option Elab.async false
set_option linter.all false
set_option maxRecDepth 100000
set_option maxHeartbeats 4000000
/-! The hook with getters: defs at addresses told by the written part. -/
namespace NF
open PySem PySem.Spec PyProof.Rows L2 He
def fnWa (K : PySem.W.Frag) (a : Addr) : FnW := match K.lookup a with
  | some ⟨_, _, .func fd, _⟩ => some (fd.name, fd.qualname, fd.params, fd.body, fd.scope, fd.globals, fd.closure, fd.builtins)
  | _ => none
def okA (K : PySem.W.Frag) (a : Addr) (d : DefD) : Bool := PySem.W.keepIn K (.ref a) && (match K.lookup a with
  | some ⟨_, _, .func fd, _⟩ => PySem.W.codeIn K fd.code d.qual && (dflB K fd.defaults (d.dvs K) && kwdB K fd.kwdefaults (d.kws K))
  | _ => false)
theorem funA {K : PySem.W.Frag} {a : Addr} {d : DefD} (e : fnWa K a = d.val) (c : okA K a d = true) : ∃ fd, FunD K d.name d.qual d.params d.body d.scope (d.dvs K) (d.kws K) a fd := by
  have hkp := (ba c).1
  have hrec := (ba c).2
  rcases hl : K.lookup a with _ | ⟨c0, d0, dt, sl⟩
  · simp only [hl] at hrec
    exact absurd hrec (by decide)
  · cases dt
    case func g =>
      simp only [fnWa, hl, DefD.val, Option.some.injEq, Prod.mk.injEq] at e
      rcases g with ⟨m1, m2, m3, m4, m5, m6, m7, m8, m9, m10, m11, m12, m13, m14, m15⟩
      simp only at e
      rcases e with ⟨z1, z2, z3, z4, z5, z6, z7, z8⟩
      simp only [hl] at hrec
      have hcode := (ba hrec).1
      have hdfl := dflB_ok (ba (ba hrec).2).1
      have hkwd := kwdB_ok (ba (ba hrec).2).2
      refine ⟨PySem.W.fnOf d.name d.qual d.params d.body d.scope m8 m9 m10 m11 m12 m13 m14, ⟨c0, d0, m8, m9, m10, m11, m12, m13, m14, sl, rfl, ?_, hcode, hdfl, hkwd⟩, hkp⟩
      subst z1 z2 z3 z4 z5 z6 z7 z8
      exact hl
    all_goals
      simp only [hl] at hrec
      exact absurd hrec (by decide)
abbrev Adr := (PySem.W.Frag → Addr) × DefD
def obsP (ex : PySem.W.Frag → Bool) (fn : List Adr) (K : PySem.W.Frag) : AlD := (ex K && fn.all fun d => okA K (d.1 K) d.2, fn.map fun d => fnWa K (d.1 K))
def valP (fn : List Adr) : AlD := (true, fn.map fun d => d.2.val)
def SaysP (ex : PySem.W.Frag → Bool) (fn : List Adr) (K : PySem.W.Frag) : Prop := obsP ex fn K = valP fn
def obsPG (n : Nat) (ex : PySem.W.Frag → Bool) (fn : List Adr) (g : Addr → Option Obj) : AlD := obsP ex fn (frG g (asD g n))
def hookP (n : Nat) (ex : PySem.W.Frag → Bool) (fn : List Adr) : PySem.W.Hook where
  α := AlD
  obs := fun s => obsPG n ex fn s.heap.get?
  val := fun _ => valP fn
  says := fun _ h => ∃ K : PySem.W.Frag, K.In h ∧ SaysP ex fn K
  of := fun _ _ e => ⟨_, frG_in, e⟩
  keeps := fun _ _ _ ⟨K, hK, c⟩ k => ⟨K, PySem.W.Frag.In.keeps hK k, c⟩
theorem obsPG_eq {n : Nat} {ex : PySem.W.Frag → Bool} {fn : List Adr} {g : Addr → Option Obj} {s : Shared} (h : ∀ a, g a = s.heap.get? a) : obsPG n ex fn g = (hookP n ex fn).obs s := by
  have e : g = s.heap.get? := funext h
  rw [e] <;> rfl
section
variable {ex : PySem.W.Frag → Bool} {fn : List Adr} {K : PySem.W.Frag}
theorem SaysP.truth (c : SaysP ex fn K) : ex K = true :=
  (ba (show (ex K && fn.all fun d => okA K (d.1 K) d.2) = true from congrArg (fun z : AlD => z.1) c)).1
theorem SaysP.def_ (c : SaysP ex fn K) (i : Nat) {d : Adr} (h : fn[i]? = some d := by rfl) : ∃ fd, FunD K d.2.name d.2.qual d.2.params d.2.body d.2.scope (d.2.dvs K) (d.2.kws K) (d.1 K) fd := by
  have c2 := (ba (show (ex K && fn.all fun d => okA K (d.1 K) d.2) = true from congrArg (fun z : AlD => z.1) c)).2
  have e : fn.map (fun d => fnWa K (d.1 K)) = fn.map fun d => d.2.val := congrArg (fun z : AlD => z.2) c
  have e2 : (fn.map fun d => fnWa K (d.1 K))[i]? = (fn.map fun d => d.2.val)[i]? := by rw [e]
  rw [List.getElem?_map, List.getElem?_map, h] at e2
  exact funA (Option.some.inj e2) (List.all_eq_true.mp c2 d (List.mem_of_getElem? h))
end
end NF
set_option Elab.async false
set_option linter.all false
set_option maxRecDepth 100000
set_option maxHeartbeats 4000000
/-! Makers and instances whose defs let an exception out. -/
namespace NF
open PySem PySem.Spec PyProof.Rows L2 He RZ NT
/-- a def's answer handed on, or its exception let through -/
theorem handS {X : Cx} {CX : CXT} {E : L2.St → XK} {σ : L2.St} {pins : List (Addr × Obj)} {H : Hp} {s : Shared} {Q : VK} (hx : PassesAt CX X σ (E σ)) (I : Inv X pins σ H s) {r : Result} {s' : Shared} (h : CR CX X.stack X.prog X.w H s Q (E σ) r s') :
    (∃ u, r = .ok (.ret u) ∧ EP X pins σ Q u s') ∨ ∃ e, r = .error e ∧ X.xe e s' := by
  cases r with
  | error e => exact .inr ⟨e, rfl, hx pins H s e s' I h⟩
  | ok fl => cases fl with
    | ret u => exact .inl ⟨u, rfl, I.after h⟩
    | next => exact h.elim
    | brk => exact h.elim
    | cont => exact h.elim
def tMakeS (C : Addr) (sp : Sp) (dvs : List V) (E : L2.St → XK) (t : TA) : TE := fun σ H Q => t σ H fun vs H1 => ∀ x dx, H1 x = none → H1 dx = none → dx ≠ x →
  sp (.ref x :: (vs ++ dvs)) (upd (upd H1 dx (.own x)) x (.ins C dx [])) (fun v H2 => v = .non ∧ Q (.ref x) H2) (E σ)
theorem make_runs {X : Cx} {CX : CXT} {k : Nat} {C f : Addr} {fd : FuncData} {ps : List Str} {sp : Sp} {dvs : List V} {ds : List Value} {E : L2.St → XK} {pins : List (Addr × Obj)} {σ : L2.St} {H : Hp} {s : Shared} {Q : VK} {us : List Value} {vs : List V}
    (M : Mk X.K C f) (F : FnOk X.prog X.w X.K X.mg X.base CX k f fd ps sp) (hr : Room (k + 1) X.A) (hb : Binds X.K fd ps ds) (hd : Vals dvs ds) (hx : PassesAt CX X σ (E σ)) (I : Inv X pins σ H s) (r : Vals vs us)
    (h : ∀ x dx, H x = none → H dx = none → dx ≠ x → sp (.ref x :: (vs ++ dvs)) (upd (upd H dx (.own x)) x (.ins C dx [])) (fun v H2 => v = .non ∧ Q (.ref x) H2) (E σ)) :
    wpAny (model X.prog X.w) X.A (call (.ref C) us) (EP X pins σ Q) X.xe s := by
  have want := h (s.heap.objs.size + 1) s.heap.objs.size (I.hok.fresh (Nat.le_succ _)) (I.hok.fresh (Nat.le_refl _)) (Nat.ne_of_lt (Nat.lt_succ_self _))
  have J := Inv.made (C := C) I
  have rr : Vals (V.ref (s.heap.objs.size + 1) :: (vs ++ dvs)) (Value.ref (s.heap.objs.size + 1) :: (us ++ ds)) := .cons rfl (r.append hd)
  have len : (Value.ref (s.heap.objs.size + 1) :: us ++ ds).length = ps.length := rr.length.symm.trans (F.len _ _ _ _ want)
  have body := F.run _ X.stack _ _ ⟨Value.ref (s.heap.objs.size + 1) :: us, []⟩ (Value.ref (s.heap.objs.size + 1) :: (us ++ ds)) _ _ (E σ) (hr.make C us []) (J.env0.make C us []) (hb _ (Value.ref (s.heap.objs.size + 1) :: us) J.kIn len) rr want
  refine wpAny_call (make_map (f := f) I.kIn M.makes M.init (beq_iff_eq.mp M.fn) (codeAny_mono body fun q s' hq => ?_))
  rcases handS hx J hq with ⟨u, rfl, v, H', J', rv, ev, q3⟩ | ⟨e, rfl, hz⟩
  · subst ev
    exact ⟨rv, V.ref (s.heap.objs.size + 1), H', J', rfl, q3⟩
  · exact hz
/-- a class whose __init__ may let an exception out -/
structure MakX (P : Program) (w : World) (K : PySem.W.Frag) (mg : Str → Option Value) (base : Heap) (k n : Nat) (x : Str) (C : Addr) (sp : Sp) (dvs : List V) : Prop where
  ex : ∃ (f : Addr) (fd : FuncData) (ps : List Str) (ds : List Value), Mk K C f ∧ FnOk P w K mg base (L2.CX P w) k f fd ps sp ∧ mg x = some (.ref C) ∧ Binds K fd ps ds ∧ Vals dvs ds
theorem pe_mkX {X : Cx} {k j n : Nat} {C : Addr} {x : Str} {sp : Sp} {dvs : List V} {W : WX} {p pos : Pos} {e : Expr} {es : List Expr} {t : TA} (tk : Takes X W) (c : MakX X.prog X.w X.K X.mg X.base k n x C sp dvs) (hr : Room j X.A) (hk : k + 1 ≤ j) (hg : Gl X x) (ha : PA X (e :: es) t)
    (hdb : (x == ("__debug__" : Str)) = false := by decide) (he : starEach (e :: es) X.env = (false, eval e X.env) :: starEach es X.env := by rfl) (hpl : (backTo pos (starEach es X.env)).any (·.1) = false := by rfl) :
    PE X (.Call (.Name x p) (e :: es) [] pos) (tMakeS C sp dvs (WE W) t) := by
  obtain ⟨f, fd, ps, ds, M, F, hm, b, d⟩ := c.ex
  refine ⟨fun pins s σ H Q I h => ?_⟩
  refine wpAny_Call_Name_kw (ld_glob I hg hm ?_ hdb)
  refine PySem.W.callWith_K (h₀ := X.base) I.ok.mod.kin M.kp (thn (ha.run pos pins s σ H _ I h) fun us s1 ⟨vs, H1, I1, r, q⟩ => ⟨I1.kIn, ?_⟩) he hpl
  exact make_runs (E := WE W) M F (hr.mono hk) b d (passAt tk σ) I1 r q
/-- a def that may let an exception out, by its name -/
structure CalX (P : Program) (w : World) (K : PySem.W.Frag) (mg : Str → Option Value) (base : Heap) (k : Nat) (x : Str) (sp : Sp) : Prop where
  ex : ∃ (f : Addr) (fd : FuncData) (ps : List Str), FnOk P w K mg base (L2.CX P w) k f fd ps sp ∧ mg x = some (.ref f) ∧ PySem.W.keepIn K (.ref f) = true ∧ Binds K fd ps []
theorem pe_cX {X : Cx} {k j : Nat} {x : Str} {sp : Sp} {W : WX} {e : Expr} {es : List Expr} {t : TA} {p pos : Pos} (tk : Takes X W) (c : CalX X.prog X.w X.K X.mg X.base k x sp) (hr : Room j X.A) (hk : k ≤ j) (hg : Gl X x) (ha : PA X (e :: es) t)
    (hdb : (x == ("__debug__" : Str)) = false := by decide) (he : starEach (e :: es) X.env = (false, eval e X.env) :: starEach es X.env := by rfl) (hpl : (backTo pos (starEach es X.env)).any (·.1) = false := by rfl) :
    PE X (.Call (.Name x p) (e :: es) [] pos) (tCallS sp (WE W) t) := by
  obtain ⟨f, fd, ps, F, hm, kp, b⟩ := c.ex
  exact pe_callS F (hr.mono hk) hg hm kp b (fun σ => passAt tk σ) ha hdb he hpl
/-- an instance that may be called, and may let an exception out -/
structure CalOX (P : Program) (w : World) (K : PySem.W.Frag) (mg : Str → Option Value) (base : Heap) (k : Nat) (C : Addr) (sp : Sp) : Prop where
  ex : ∃ (g : Addr) (fd : FuncData) (ps : List Str), StX.CallO K C g ∧ FnOk P w K mg base (L2.CX P w) k g fd ps sp ∧ Binds K fd ps []
def tCallOS (C : Addr) (sp : Sp) (E : L2.St → XK) (tf : TE) (t : TA) : TE := fun σ H Q => tf σ H fun y H1 => ∃ a, y = V.ref a ∧ t σ H1 fun vs H2 => (∃ dx fs, H2 a = some (.ins C dx fs)) ∧ sp (V.ref a :: vs) H2 Q (E σ)
theorem pe_coX {X : Cx} {k j : Nat} {C : Addr} {sp : Sp} {W : WX} {fe e : Expr} {es : List Expr} {t : TA} {tf : TE} {pos : Pos} (tk : Takes X W) (hf : PE X fe tf) (c : CalOX X.prog X.w X.K X.mg X.base k C sp) (hr : Room j X.A) (hk : k ≤ j) (ha : PA X (e :: es) t)
    (ht : eval (.Call fe (e :: es) [] pos) X.env = (do callWith pos (← eval fe X.env) [] (backTo pos (starEach (e :: es) X.env)) (backToKw pos (keywordEach [] X.env))) := by rfl)
    (he : starEach (e :: es) X.env = (false, eval e X.env) :: starEach es X.env := by rfl) (hpl : (backTo pos (starEach es X.env)).any (·.1) = false := by rfl) :
    PE X (.Call fe (e :: es) [] pos) (tCallOS C sp (WE W) tf t) := by
  obtain ⟨g, fd, ps, co, F, b⟩ := c.ex
  refine ⟨fun pins s σ H Q I h => ?_⟩
  refine Call_ (thn (hf.run pins s σ H _ I h) fun u s1 ⟨y, H1, I1, ry, a, ey, q⟩ => ?_) ht
  subst ey
  cases ry
  refine StX.callO_with (thn (ha.run pos pins s1 σ H1 _ I1 q) fun us s2 ⟨vs, H2, I2, r, hi0, q2⟩ => ?_) he hpl
  have hi : StX.InsC X H2 a C := .inr hi0
  obtain ⟨ox, od, J, hd⟩ := StX.insC_at I2 hi
  refine ⟨⟨C, ox, od, J, hd⟩, ?_⟩
  have rr : Vals (V.ref a :: vs) (Value.ref a :: us) := .cons rfl r
  have len : (Value.ref a :: us).length = ps.length := rr.length.symm.trans (F.len _ _ _ _ q2)
  have bb := b s2 (Value.ref a :: us) I2.kIn (by rw [List.append_nil]; exact len)
  rw [List.append_nil] at bb
  refine wpAny_call (PySem.W.kco_code I2.kIn J hd co.at_ co.fn co.fi (codeAny_mono (F.run X.A X.stack s2 H2 ⟨Value.ref a :: us, []⟩ (Value.ref a :: us) (V.ref a :: vs) Q (WE W σ) (hr.mono hk) I2.env0 bb rr q2) fun z s' hq => ?_))
  rcases handS (E := WE W) (passAt tk σ) I2 hq with ⟨u, rfl, hz⟩ | ⟨e, rfl, hz⟩
  · exact hz
  · exact hz
/-! ### own exceptions that keep their one argument -/
/-- what __init__ of a class whose errors bear f does -/
def spExc (C : Addr) (f : Str) : Sp := fun vs H Q _ => ∃ (a : Addr) (v : V), vs = [.ref a, v] ∧ H a = some (exo a C none) ∧ ∀ d, H d = none → d ≠ a → Q .non (upd (upd H d (exd d [(f, v)])) a (exo a C (some d)))
structure ExcI (P : Program) (w : World) (K : PySem.W.Frag) (mg : Str → Option Value) (base : Heap) (x f : Str) : Prop where
  T : OexC K (ga K x)
  ex : ∃ (fI : Addr) (fd : FuncData), PySem.W.findIn K (.ref (ga K x)) "__init__" = some (some (.ref fI)) ∧ PySem.W.typeIn K (.ref fI) = some (.type "function") ∧ FnOk P w K mg base CX0 1 fI fd ["self", f] (spExc (ga K x) f) ∧ Binds K fd ["self", f] []
  gm : mg x = some (.ref (ga K x))
abbrev bodyE (f : Str) (q1 q2 q3 q4 : Pos) : List Stmt := [.Assign [.Attribute (.Name "self" q1) f q2] (.Name f q3) q4]
theorem ok_exc {P : Program} {w : World} {K : PySem.W.Frag} {mg : Str → Option Value} {base : Heap} {x q f : Str} {pa : Arguments} {bd : List Stmt} {sc : Scope} {fI : Addr} {fd : FuncData} {q1 q2 q3 q4 : Pos} (F : FunD K "__init__" q pa bd sc [] [] fI fd) (hb : bd = bodyE f q1 q2 q3 q4) (S : FnScope ["self", f] ["self", f] sc)
    (T : OexC K (ga K x)) (hno : PySem.W.findIn K (.ref (ga K x)) f = some none) (hv0 : Vis sc "self") (hv1 : Vis sc f) (hd : (f == ("__debug__" : Str)) = false) (hcd : (f == ("__classdict__" : Str)) = false) :
    FnOk P w K mg base CX0 1 fI fd ["self", f] (spExc (ga K x) f) := by
  subst hb
  refine F.ok S (fun vs H Q E h => ?_) (fun cdv A outer s H vs Q E hr h => ?_)
  · obtain ⟨a, v, rfl, _⟩ := h
    rfl
  · obtain ⟨a, v, rfl, ha, k⟩ := h
    refine ⟨_, PSs.nox (pss_one (ps_ost (pe_var (i := 0) rfl hv0) (pe_var (i := 1) rfl hv1 hd hcd))), ?_⟩
    exact ⟨_, rfl, _, rfl, a, ga K x, rfl, T, hno, Or.inl ⟨ha, fun d hd hda => k d hd hda⟩⟩
/-- raise X(e) -/
theorem ps_rz {X : Cx} {W : WX} {x f : Str} {e : Expr} {te : TE} {p pos pos' : Pos} {j : Nat} (hc : X.calm = true) (tk : Takes X W) (M : ExcI X.prog X.w X.K X.mg X.base x f) (hr : Room j X.A) (hj : 2 ≤ j) (hg : Gl X x) (he : PE X e te) (hdb : (x == ("__debug__" : Str)) = false := by decide)
    (hs : starEach (e :: []) X.env = (false, eval e X.env) :: starEach [] X.env := by rfl) : PS X (.Raise (some (.Call (.Name x p) [e] [] pos)) none pos') (fun _ σ H => tMkO (ga X.K x) (spExc (ga X.K x) f) [] (tCons te tNil) σ H fun cls d H' => W cls d σ H') := by
  obtain ⟨fI, fd, h1, h2, h3, h4⟩ := M.ex
  exact ps_raise hc tk (pmk_oex M.T h1 h2 h3 (hr.mono hj) h4 .nil pass0 hg M.gm (pa_cons he pa_nil hs) hdb hs)
theorem raise_done {C : Addr} {f : Str} {v : V} {H1 : Hp} {Q : XK} (k : ∀ d H2, H1 d = none → Same H1 H2 → H2 d = some (.xd [(f, v)]) → Q (.ref C) (some d) H2) :
    ([v] : List V).length ≤ 1000 ∧ ∀ a, H1 a = none → spExc C f (.ref a :: ([v] ++ [])) (upd H1 a (exo a C none)) (fun u H2 => u = .non ∧ ∃ (d : Addr) (fs : List (Str × V)), H2 a = some (exo a C (some d)) ∧ H2 d = some (exd d fs) ∧ H1 d = none ∧ Q (.ref C) (some d) (upd (del H2 a) d (.xd fs))) (fun _ _ _ => False) := by
  refine ⟨by show 1 ≤ 1000; decide, fun a ha => ⟨a, v, rfl, upd_same, fun d hd hda => ?_⟩⟩
  have hd0 : H1 d = none := by
    rw [upd_ne hda] at hd
    exact hd
  refine ⟨rfl, d, [(f, v)], upd_same, by rw [upd_ne hda, upd_same], hd0, k d _ hd0 ?_ upd_same⟩
  intro b u e
  have hb : b ≠ d := ne_of_none e hd0
  have hba : b ≠ a := ne_of_none e ha
  rw [upd_ne hb, del_ne hba, upd_ne hba, upd_ne hb, upd_ne hba]
  exact e
end NF
set_option Elab.async false
set_option linter.all false
set_option maxRecDepth 100000
set_option maxHeartbeats 4000000
/-! tuple * int for any int that is not too great. -/
namespace NF
open PySem PySem.Spec PyProof.Rows L2 He RZ
theorem rep_none (l : Addr) (items : Array Value) (n : Nat) (dd : Option Addr) (sl : Array (Option Value)) (x : Int) (u : Tok) (c0 : (decide (x < -(2 ^ 63)) || decide (x ≥ 2 ^ 63)) = false) (c1 : (items.isEmpty || x == 1) = false) (c2 : (decide (x ≤ 0) || items.isEmpty) = true) :
    Meets (Builtin.«tuple.__mul__» ⟨[.ref l, .int x u], []⟩) (fun _ R s => s.heap.get? l = some { cls := .type "tuple", dict := dd, data := .seq items n, slots := sl } ∧
      R (.ok (.ret (Value.ref s.heap.objs.size))) { s with heap := s.heap.push { cls := Value.type "tuple", data := Data.seq #[] } }) :=
  .of_wp fun prog w A R s h => by
    obtain ⟨hp, g, d, tk, os⟩ := s
    obtain ⟨hl, h⟩ := h
    have f1 := AutoSeq1.idx_int
    wp_walk using wpAny_loadPart' hl
    repeat (first
      | (refine wpAny_ite_false (decide_eq_false (by rw [c0]; exact Bool.false_ne_true)) ?_; wp_walk using wpAny_loadPart' hl)
      | (refine wpAny_ite_false (decide_eq_false (by rw [c1]; exact Bool.false_ne_true)) ?_; wp_walk using wpAny_loadPart' hl)
      | (refine wpAny_ite_true (decide_eq_true (by rw [c2])) ?_; wp_walk using wpAny_loadPart' hl))
    exact ⟨_, rfl, h⟩
theorem rep_one (l : Addr) (items : Array Value) (n : Nat) (dd : Option Addr) (sl : Array (Option Value)) (x : Int) (u : Tok) (c0 : (decide (x < -(2 ^ 63)) || decide (x ≥ 2 ^ 63)) = false) (c1 : (items.isEmpty || x == 1) = true) :
    Meets (Builtin.«tuple.__mul__» ⟨[.ref l, .int x u], []⟩) (fun _ R s => s.heap.get? l = some { cls := .type "tuple", dict := dd, data := .seq items n, slots := sl } ∧ R (.ok (.ret (Value.ref l))) s) :=
  .of_wp fun prog w A R s h => by
    obtain ⟨hp, g, d, tk, os⟩ := s
    obtain ⟨hl, h⟩ := h
    have f1 := AutoSeq1.idx_int
    wp_walk using wpAny_loadPart' hl
    repeat (first
      | (refine wpAny_ite_false (decide_eq_false (by rw [c0]; exact Bool.false_ne_true)) ?_; wp_walk using wpAny_loadPart' hl)
      | (refine wpAny_ite_true (decide_eq_true (by rw [c1])) ?_; wp_walk using wpAny_loadPart' hl))
    exact ⟨_, rfl, h⟩
def rRepA (K : PySem.W.Frag) : R2 := fun x y H Q => ∃ l k xs, x = .ref l ∧ y = .int k ∧ SqT K H l xs ∧ xs ≠ [] ∧ xs.length ≤ 100 ∧ -10000 ≤ k ∧ k ≤ 10000 ∧ ∀ p H', Same H H' → SqT K H' p (List.replicate k.toNat xs).flatten → Q (.ref p) H'
/-- t * k -/
theorem op_repA {X : Cx} : OpR X (binaryOp .Mult) (rRepA X.K) := by
  intro pins s σ H x y v u Q I rx ry h
  obtain ⟨l, k, xs, rfl, rfl, hT, hne, hz, k1, k2, q⟩ := h
  cases rx
  obtain ⟨t, rfl⟩ := ry
  obtain ⟨its, r, ⟨⟨cls, dd, data, sl⟩, ho, hc, n, hd⟩, hs⟩ := I.tuple hT
  simp only at hc hd
  subst hc hd
  have hle : its.length = xs.length := r.length.symm
  have hpos : 0 < its.length := by
    rw [hle]
    exact List.length_pos_iff.mpr hne
  have hfull : its.toArray.isEmpty = false := by
    cases hi : its with
    | nil => rw [hi] at hpos; simp at hpos
    | cons _ _ => rfl
  have small : (decide (k < -(2 ^ 63)) || decide (k ≥ 2 ^ 63)) = false := by
    rw [decide_eq_false (show ¬ k < -(2 ^ 63) by omega), decide_eq_false (show ¬ k ≥ 2 ^ 63 by omega)]
    rfl
  have ty : s.TypeIs (.ref l) "tuple" := ⟨_, ho, rfl⟩
  have road : ∀ {W : Value → Shared → Prop}, wpAny (model X.prog X.w) X.A (call (.builtin "tuple.__mul__") [.ref l, .int k t]) W X.xe s → wpAny (model X.prog X.w) X.A (binaryOp .Mult (.ref l) (.int k t)) W X.xe s := fun {W} z =>
    wpAny_binaryOp_repeat_ref (T := "tuple") (U := "int") (by decide) ty (fun s' => typeIs_int s' k t) noFill_tuple_mul F.fills_int_mul F.slot_int_rmul repeat_tuple F.slot_int_index.lookup
      (call_meets F.slot_int_rmul (typeIs_int s k t) F.entry_int_rmul (F.args_int_rmul_2 _ _) (int_rmul_tuple k t l its.toArray n dd sl) ⟨ho, rfl, ty, z⟩)
  refine road ?_
  by_cases c1 : k = 1
  · subst c1
    refine call_meets F.slot_tuple_mul ty F.entry_tuple_mul (F.args_tuple_mul_2 _ _) (rep_one l its.toArray n dd sl 1 t small (by rw [hfull]; rfl)) ⟨ho, ?_⟩
    refine ⟨.ref l, H, I, rfl, q l H (Same.refl H) ?_⟩
    rw [show (List.replicate (1 : Int).toNat xs).flatten = xs by simp]
    exact hT
  · have not1 : (its.toArray.isEmpty || k == 1) = false := by
      rw [hfull, Bool.false_or]
      exact beq_eq_false_iff_ne.mpr c1
    by_cases c0 : k ≤ 0
    · refine call_meets F.slot_tuple_mul ty F.entry_tuple_mul (F.args_tuple_mul_2 _ _) (rep_none l its.toArray n dd sl k t small not1 (by rw [decide_eq_true c0]; rfl)) ⟨ho, ?_⟩
      have hn := I.hok.fresh (Nat.le_refl s.heap.objs.size)
      have e0 : (List.replicate k.toNat xs).flatten = [] := by
        rw [show k.toNat = 0 by omega]
        rfl
      refine ⟨.ref s.heap.objs.size, _, I.laid (t' := s.toks) (o := .tup []) (fun b ob q => Heap.get?_push_of_some _ q) (Nat.le_refl _) ?_, rfl, q _ _ (NF.Same.new (Same.refl H) hn) (by rw [e0]; exact SqT.of upd_same)⟩
      exact ⟨Nat.zero_le _, [], .nil, IsTup.new _ _⟩
    · have many : its.toArray.size = xs.length := by rw [List.size_toArray, hle]
      have prod : ((its.toArray.size : Nat) : Int) * k ≤ 100 * 10000 := by
        rw [many]
        exact Int.mul_le_mul (by omega) k2 (by omega) (by decide)
      have flat : (List.replicate k.toNat xs).flatten.length ≤ 1000000 := by
        rw [PyProof.Rows.lm_len_rep_flat]
        exact Nat.le_trans (Nat.mul_le_mul (show k.toNat ≤ 10000 by omega) hz) (by decide)
      have flat2 : (List.replicate k.toNat its).flatten.length ≤ 1000000 := by
        rw [PyProof.Rows.lm_len_rep_flat, hle]
        exact Nat.le_trans (Nat.mul_le_mul (show k.toNat ≤ 10000 by omega) hz) (by decide)
      refine call_meets F.slot_tuple_mul ty F.entry_tuple_mul (F.args_tuple_mul_2 _ _) (tuple_mulW l its.toArray n dd sl k t small not1 (by rw [hfull, Bool.or_false]; exact decide_eq_false c0) (by omega) ?_ ?_) ⟨ho, ?_⟩
      · unfold Builtin.Tuple.tupleTooMany
        rw [sizeLine_eq]
        exact decide_eq_false (by omega)
      · rw [size_rep, List.size_toArray, sizeLine_eq]
        omega
      · rw [size_rep]
        have hn := I.hok.fresh (Nat.le_refl s.heap.objs.size)
        refine ⟨.ref s.heap.objs.size, _, I.laid (t' := s.toks) (o := .tup (List.replicate k.toNat xs).flatten) (fun b ob q => Heap.get?_push_of_some _ q) (Nat.le_refl _) ?_, rfl, q _ _ (NF.Same.new (Same.refl H) hn) (SqT.of upd_same)⟩
        exact ⟨by rw [sizeLine_eq]; omega, _, r.rep k.toNat, IsTup.new _ _⟩
end NF
set_option Elab.async false
set_option linter.all false
set_option maxRecDepth 100000
set_option maxHeartbeats 4000000
/-! C.m(..), m a static method that may let an exception out. -/
namespace NF
open PySem PySem.Spec PyProof.Rows L2 He RZ
structure SMet (K : PySem.W.Frag) (C : Addr) (mc : Value) (m : Str) (p g : Addr) : Prop where
  ty : PySem.W.typeIn K (.ref C) = some mc
  rd : PySem.W.readsIn K C mc = true
  ga : PySem.W.specialIn K (.ref C) "__getattribute__" = some (some (.builtin "type.__getattribute__"))
  at_ : PySem.W.findCls K (.ref C) mc m = some (.get (.builtin "staticmethod.__get__") (.ref p) .none (.ref C))
  rc : ∃ rest, PySem.W.recIn K p "staticmethod" = some (.ref g :: rest)
  kp : PySem.W.keepIn K (.ref g) = true
structure StaX (P : Program) (w : World) (K : PySem.W.Frag) (mg : Str → Option Value) (base : Heap) (k : Nat) (C : Addr) (m : Str) (sp : Sp) : Prop where
  ex : ∃ (mc : Value) (p g : Addr) (fd : FuncData) (ps : List Str), SMet K C mc m p g ∧ FnOk P w K mg base (L2.CX P w) k g fd ps sp ∧ Binds K fd ps []
def tStaS (C : Addr) (sp : Sp) (E : L2.St → XK) (ta : TE) (t : TA) : TE := fun σ H Q => ta σ H fun x H1 => x = .ref C ∧ t σ H1 fun vs H2 => sp vs H2 Q (E σ)
theorem pe_smX {X : Cx} {k j : Nat} {C : Addr} {m : Str} {sp : Sp} {W : WX} {o e : Expr} {es : List Expr} {ta : TE} {t : TA} {pos apos : Pos} {pl : Sem Bool} (tk : Takes X W) (he : PE X o ta) (c : StaX X.prog X.w X.K X.mg X.base k C m sp) (hr : Room j X.A) (hk : k ≤ j) (ha : PA X (e :: es) t)
    (hst : starEach (e :: es) X.env = (false, eval e X.env) :: starEach es X.env := by rfl) (hpl : (backTo pos (starEach es X.env)).any (·.1) = false := by rfl)
    (ht : eval (.Call (.Attribute o m apos) (e :: es) [] pos) X.env = (do
      let ov ← eval o X.env
      standAt apos.atName
      let (f, first) ← holding [ov] (getMethod ov m pl)
      callWith pos f first (backTo pos (starEach (e :: es) X.env)) (backToKw pos (keywordEach [] X.env))) := by rfl) :
    PE X (.Call (.Attribute o m apos) (e :: es) [] pos) (tStaS C sp (WE W) ta t) := by
  obtain ⟨mc, p, g, fd, ps, S, F, hb⟩ := c.ex
  obtain ⟨rest, hp⟩ := S.rc
  refine ⟨fun pins s σ H Q I h => ?_⟩
  refine PySem.W.methodCall_KW (pl := pl) (thn (he.run pins s σ H _ I h) fun u s1 ⟨x, H1, I1, rx, ex, q⟩ => ?_) ht
  subst ex
  cases rx
  obtain ⟨fm, hF⟩ := I1.fr
  refine PySem.W.method_cls I1.kIn S.ga (PySem.W.cls_sm hF I1.ok.mod.kin S.ty S.rd S.at_ hp rfl ?_)
  have I2 := I1.tok (s1.toks + 1)
  show wpAny _ _ (callWith pos (.ref g) [] (backTo pos (starEach (e :: es) X.env)) []) _ _ _
  refine PySem.W.callWith_K (h₀ := X.base) I2.ok.mod.kin S.kp (thn (ha.run pos pins _ σ H1 _ I2 q) fun us s3 ⟨vs, H2, I3, r, q2⟩ => ⟨I3.kIn, ?_⟩) hst hpl
  exact run_fnS (E := WE W) F (hr.mono hk) hb (passAt tk σ) I3 r q2
end NF
set_option Elab.async false
set_option linter.all false
set_option maxRecDepth 100000
set_option maxHeartbeats 4000000
/-! Facts of a top, each as one Bool of the written part, with what it says. -/
namespace NF
open PySem PySem.Spec PyProof.Rows L2 He RZ
def dG (x : Str) (st : Stmt) : Adr := (fun K => ga K x, ⟨(x, none), x, x, defArgs st, defBody st, defScope st, [], []⟩)
def dGd (x : Str) (st : Stmt) (dfl : List He.Dv) : Adr := (fun K => ga K x, ⟨(x, none), x, x, defArgs st, defBody st, defScope st, dfl, []⟩)
def dM (c m q : Str) (st : Stmt) (dfl : List He.Dv) : Adr := (fun K => ma K (ga K c) m, ⟨(c, some m), m, q, defArgs st, defBody st, defScope st, dfl, []⟩)
def getW (t : String) (c f : Str) (K : PySem.W.Frag) : Addr := match PySem.W.recIn K (ma K (ga K c) f) t with
  | some (.ref g :: _) => g
  | _ => 0
def dP (c m q : Str) (st : Stmt) : Adr := (getW "property" c m, ⟨(c, some m), m, q, defArgs st, defBody st, defScope st, [], []⟩)
def dS (c m q : Str) (st : Stmt) : Adr := (getW "staticmethod" c m, ⟨(c, some m), m, q, defArgs st, defBody st, defScope st, [], []⟩)
def recB (t : String) (c f : Str) (K : PySem.W.Frag) : Bool := match PySem.W.recIn K (ma K (ga K c) f) t with
  | some (.ref _ :: _) => true
  | _ => false
theorem rec_ok {t : String} {c f : Str} {K : PySem.W.Frag} (h : recB t c f K = true) : ∃ rest, PySem.W.recIn K (ma K (ga K c) f) t = some (.ref (getW t c f K) :: rest) := by
  unfold recB at h
  unfold getW
  cases q : PySem.W.recIn K (ma K (ga K c) f) t with
  | none =>
    rw [q] at h
    cases h
  | some l =>
    rw [q] at h
    match l, h with
    | .ref g' :: rest, _ => exact ⟨rest, rfl⟩
/-! ### names -/
def namB (gs fs : List Str) (K : PySem.W.Frag) : Bool := (gs.all fun x => eqO (PySem.W.nsIn K mainGlobals x) (some (some (.ref (ga K x))))) && fs.all fun x => eqO (PySem.W.nsIn K mainGlobals x) (some none)
theorem nam_ok {gs fs : List Str} {K : PySem.W.Frag} {mg : Str → Option Value} {h : Heap} (c : namB gs fs K = true) (X : K.In h) (G : h.Ns mainGlobals mg) : Txt K mg gs fs := by
  obtain ⟨h1, h2⟩ := ba c
  exact ⟨fun x hx => PySem.W.mg_of X G (eqO_ok (List.all_eq_true.mp h1 x hx)), fun x hx => PySem.W.mg_none_of X G (eqO_ok (List.all_eq_true.mp h2 x hx))⟩
def bltB (x : Str) (b : String) (K : PySem.W.Frag) : Bool := eqO (PySem.W.nsIn K mainGlobals x) (some (some (.builtin b)))
theorem blt_ok {x : Str} {b : String} {K : PySem.W.Frag} {mg : Str → Option Value} {h : Heap} (c : bltB x b K = true) (X : K.In h) (G : h.Ns mainGlobals mg) : mg x = some (.builtin b) := PySem.W.mg_of X G (eqO_ok c)
def intB (x : Str) (n : Int) (K : PySem.W.Frag) : Bool := match PySem.W.nsIn K mainGlobals x with
  | some (some (.int m _)) => decide (m = n)
  | _ => false
theorem int_ok {x : Str} {n : Int} {K : PySem.W.Frag} {mg : Str → Option Value} {h : Heap} (c : intB x n K = true) (X : K.In h) (G : h.Ns mainGlobals mg) : ∃ tok, mg x = some (.int n tok) := by
  unfold intB at c
  split at c
  · rename_i m tok q
    have e : m = n := of_decide_eq_true c
    subst e
    exact ⟨tok, PySem.W.mg_of X G q⟩
  · cases c
def strB (x s : Str) (K : PySem.W.Frag) : Bool := match PySem.W.nsIn K mainGlobals x with
  | some (some (.str m _)) => decide (m = s)
  | _ => false
theorem str_ok {x s : Str} {K : PySem.W.Frag} {mg : Str → Option Value} {h : Heap} (c : strB x s K = true) (X : K.In h) (G : h.Ns mainGlobals mg) : ∃ tok, mg x = some (.str s tok) := by
  unfold strB at c
  split at c
  · rename_i m tok q
    have e : m = s := of_decide_eq_true c
    subst e
    exact ⟨tok, PySem.W.mg_of X G q⟩
  · cases c
/-! ### an own exception that keeps its one argument under f -/
structure ExcK (K : PySem.W.Frag) (x f : Str) : Prop where
  xc : ExcC K (ga K x)
  T : OexC K (ga K x)
  i : PySem.W.findIn K (.ref (ga K x)) "__init__" = some (some (.ref (ma K (ga K x) "__init__")))
  t : PySem.W.typeIn K (.ref (ma K (ga K x) "__init__")) = some (.type "function")
  no : PySem.W.findIn K (.ref (ga K x)) f = some none
  xf : XfC K (ga K x)
def excKB (x f : Str) (K : PySem.W.Frag) : Bool := (excB K (ga K x) && (oexB K (ga K x) && eqO (PySem.W.findIn K (.ref (ga K x)) "__init__") (some (some (.ref (ma K (ga K x) "__init__")))))) &&
  (decide (PySem.W.typeIn K (.ref (ma K (ga K x) "__init__")) = some (.type "function")) && (eqO (PySem.W.findIn K (.ref (ga K x)) f) (some none) && xfB K (ga K x)))
theorem excK_ok {x f : Str} {K : PySem.W.Frag} (h : excKB x f K = true) : ExcK K x f := by
  obtain ⟨h1, h2⟩ := ba h
  obtain ⟨a1, h1⟩ := ba h1
  obtain ⟨a2, a3⟩ := ba h1
  obtain ⟨a4, h2⟩ := ba h2
  obtain ⟨a5, a6⟩ := ba h2
  exact ⟨excB_ok a1, oexB_ok a2, eqO_ok a3, of_decide_eq_true a4, eqO_ok a5, xfB_ok a6⟩
theorem ExcK.excI {P : Program} {w : World} {K : PySem.W.Frag} {mg : Str → Option Value} {base : Heap} {x f q : Str} {gs fs : List Str} {pa : Arguments} {bd : List Stmt} {sc : Scope} {fd : FuncData} {q1 q2 q3 q4 : Pos} (e : ExcK K x f) (T : Txt K mg gs fs) (hx : x ∈ gs)
    (F : FunD K "__init__" q pa bd sc [] [] (ma K (ga K x) "__init__") fd) (hb : bd = bodyE f q1 q2 q3 q4) (S : FnScope ["self", f] ["self", f] sc)
    (hv0 : Vis sc "self") (hv1 : Vis sc f) (hd : (f == ("__debug__" : Str)) = false) (hcd : (f == ("__classdict__" : Str)) = false) (b : Binds K fd ["self", f] []) : ExcI P w K mg base x f :=
  ⟨e.T, ⟨_, fd, e.i, e.t, ok_exc (x := x) F hb S e.T e.no hv0 hv1 hd hcd, b⟩, T.gl x hx⟩
/-! ### which class is under which -/
def kitPB (ps : List (Str × Str × Bool)) (K : PySem.W.Frag) : Bool := ps.all fun p => decide (PySem.W.kitOne K (.ref (ga K p.1)) (.ref (ga K p.2.1)) = some p.2.2)
theorem kitP_ok {ps : List (Str × Str × Bool)} {K : PySem.W.Frag} (h : kitPB ps K = true) {x y : Str} {b : Bool} (m : (x, y, b) ∈ ps) : PySem.W.kitOne K (.ref (ga K x)) (.ref (ga K y)) = some b := of_decide_eq_true (List.all_eq_true.mp h _ m)
def exmPB (ps : List (Str × Str × Bool)) (K : PySem.W.Frag) : Bool := ps.all fun p => decide (PySem.W.exmOne K (.ref (ga K p.1)) (.ref (ga K p.2.1)) = some p.2.2)
theorem exmP_ok {ps : List (Str × Str × Bool)} {K : PySem.W.Frag} (h : exmPB ps K = true) {x y : Str} {b : Bool} (m : (x, y, b) ∈ ps) : PySem.W.exmOne K (.ref (ga K x)) (.ref (ga K y)) = some b := of_decide_eq_true (List.all_eq_true.mp h _ m)
/-! ### an own class -/
def clsB (c : Str) (K : PySem.W.Frag) : Bool := (PySem.W.plainGet K (ga K c) Str.empty && PySem.W.hasDictIn K (ga K c)) && (PySem.W.plainOver K (ga K c) && eqO (PySem.W.findIn K (.ref (ga K c)) "__setattr__") (some (some (.builtin "object.__setattr__"))))
theorem cls_ok {c : Str} {K : PySem.W.Frag} (h : clsB c K = true) : Cls K (ga K c) := by
  obtain ⟨h1, h2⟩ := ba h
  obtain ⟨a1, a2⟩ := ba h1
  obtain ⟨a3, a4⟩ := ba h2
  exact ⟨a1, a2, a3, eqO_ok a4⟩
def fldsB (c : Str) (fs : List Str) (K : PySem.W.Frag) : Bool := fs.all fun f => eqO (PySem.W.findIn K (.ref (ga K c)) f) (some none)
theorem flds_ok {c : Str} {fs : List Str} {K : PySem.W.Frag} (h : fldsB c fs K = true) {f : Str} (m : f ∈ fs) : PySem.W.findIn K (.ref (ga K c)) f = some none := eqO_ok (List.all_eq_true.mp h f m)
structure TyC (K : PySem.W.Frag) (C : Addr) : Prop where
  ac : PySem.W.findIn K (.ref C) "__class__" = some (some (.builtin "object.__class__"))
  ag : PySem.W.specialIn K (.builtin "object.__class__") "__get__" = some (some (.builtin "getset_descriptor.__get__"))
  at_ : PySem.W.takesIn K (.builtin "object.__class__") = some true
  am : PySem.W.mroIn K C (.type "object") = some true
  self : PySem.W.kitOne K (.ref C) (.ref C) = some true
  tup : PySem.W.kitOne K (.type "tuple") (.ref C) = some false
  int : PySem.W.kitOne K (.type "int") (.ref C) = some false
  non : PySem.W.kitOne K (.type "NoneType") (.ref C) = some false
def tyB (c : Str) (K : PySem.W.Frag) : Bool := ((eqO (PySem.W.findIn K (.ref (ga K c)) "__class__") (some (some (.builtin "object.__class__"))) && eqO (PySem.W.specialIn K (.builtin "object.__class__") "__get__") (some (some (.builtin "getset_descriptor.__get__")))) &&
  (decide (PySem.W.takesIn K (.builtin "object.__class__") = some true) && decide (PySem.W.mroIn K (ga K c) (.type "object") = some true))) &&
  ((decide (PySem.W.kitOne K (.ref (ga K c)) (.ref (ga K c)) = some true) && decide (PySem.W.kitOne K (.type "tuple") (.ref (ga K c)) = some false)) && (decide (PySem.W.kitOne K (.type "int") (.ref (ga K c)) = some false) && decide (PySem.W.kitOne K (.type "NoneType") (.ref (ga K c)) = some false)))
theorem ty_ok {c : Str} {K : PySem.W.Frag} (h : tyB c K = true) : TyC K (ga K c) := by
  obtain ⟨h1, h2⟩ := ba h
  obtain ⟨t1, t2⟩ := ba h1
  obtain ⟨t1, t3⟩ := ba t1
  obtain ⟨t2, t4⟩ := ba t2
  obtain ⟨k1, k2⟩ := ba h2
  obtain ⟨k1, k3⟩ := ba k1
  obtain ⟨k2, k4⟩ := ba k2
  exact ⟨eqO_ok t1, eqO_ok t3, of_decide_eq_true t2, of_decide_eq_true t4, of_decide_eq_true k1, of_decide_eq_true k3, of_decide_eq_true k2, of_decide_eq_true k4⟩
def nfB (c : Str) (ts : List String) (K : PySem.W.Frag) : Bool := ts.all fun t => PySem.W.notFirst K (ga K c) (.type t)
theorem nf_ok {c : Str} {ts : List String} {K : PySem.W.Frag} (h : nfB c ts K = true) {t : String} (m : t ∈ ts) : PySem.W.notFirst K (ga K c) (.type t) = true := List.all_eq_true.mp h t m
def mkB (c : Str) (K : PySem.W.Frag) : Bool := (PySem.W.makesIn K (ga K c) && eqO (PySem.W.findIn K (.ref (ga K c)) "__init__") (some (some (.ref (ma K (ga K c) "__init__"))))) && (PySem.W.isFn K (.ref (ma K (ga K c) "__init__")) && PySem.W.keepIn K (.ref (ga K c)))
theorem mk_ok {c : Str} {K : PySem.W.Frag} (h : mkB c K = true) : Mk K (ga K c) (ma K (ga K c) "__init__") := by
  obtain ⟨m1, m2⟩ := ba h
  obtain ⟨m1, m3⟩ := ba m1
  obtain ⟨m2, m4⟩ := ba m2
  exact ⟨m1, eqO_ok m3, m2, m4⟩
def callB (c : Str) (K : PySem.W.Frag) : Bool := eqO (PySem.W.findIn K (.ref (ga K c)) "__call__") (some (some (.ref (ma K (ga K c) "__call__")))) && (PySem.W.isFn K (.ref (ma K (ga K c) "__call__")) && PySem.W.fnIn K (ma K (ga K c) "__call__"))
theorem call_ok {c : Str} {K : PySem.W.Frag} (h : callB c K = true) : StX.CallO K (ga K c) (ma K (ga K c) "__call__") := by
  obtain ⟨g1, g2⟩ := ba h
  obtain ⟨g2, g3⟩ := ba g2
  exact ⟨eqO_ok g1, g2, g3⟩
structure EqM (K : PySem.W.Frag) (C : Addr) : Prop where
  e1 : PySem.W.findIn K (.ref C) "__eq__" = some (some (.ref (ma K C "__eq__")))
  e2 : PySem.W.isFn K (.ref (ma K C "__eq__")) = true
  e3 : plObjB K C (ma K C "__eq__") = true
def eqB (c : Str) (K : PySem.W.Frag) : Bool := (eqO (PySem.W.findIn K (.ref (ga K c)) "__eq__") (some (some (.ref (ma K (ga K c) "__eq__")))) && PySem.W.isFn K (.ref (ma K (ga K c) "__eq__"))) && plObjB K (ga K c) (ma K (ga K c) "__eq__")
theorem eq_ok {c : Str} {K : PySem.W.Frag} (h : eqB c K = true) : EqM K (ga K c) := by
  obtain ⟨e1, e2⟩ := ba h
  obtain ⟨e1, e3⟩ := ba e1
  exact ⟨eqO_ok e1, e3, e2⟩
def propB (c f : Str) (K : PySem.W.Frag) : Bool := (eqO (PySem.W.findIn K (.ref (ga K c)) f) (some (some (.ref (ma K (ga K c) f)))) && eqO (PySem.W.specialIn K (.ref (ma K (ga K c) f)) "__get__") (some (some (.builtin "property.__get__")))) &&
  (decide (PySem.W.takesIn K (.ref (ma K (ga K c) f)) = some true) && recB "property" c f K)
theorem prop_ok {c f : Str} {K : PySem.W.Frag} (h : propB c f K = true) : PropOf K (ga K c) f (ma K (ga K c) f) (getW "property" c f K) := by
  obtain ⟨h1, h2⟩ := ba h
  obtain ⟨h1, h3⟩ := ba h1
  obtain ⟨h2, h4⟩ := ba h2
  exact ⟨eqO_ok h1, eqO_ok h3, of_decide_eq_true h2, rec_ok h4⟩
def staB (c m : Str) (K : PySem.W.Frag) : Bool := (decide (PySem.W.typeIn K (.ref (ga K c)) = some (.type "type")) && (PySem.W.readsIn K (ga K c) (.type "type") && eqO (PySem.W.specialIn K (.ref (ga K c)) "__getattribute__") (some (some (.builtin "type.__getattribute__"))))) &&
  ((match PySem.W.findCls K (.ref (ga K c)) (.type "type") m with
    | some (.get g a o t) => decide (g = .builtin "staticmethod.__get__") && (decide (a = .ref (ma K (ga K c) m)) && (decide (o = .none) && decide (t = .ref (ga K c))))
    | _ => false) && (recB "staticmethod" c m K && PySem.W.keepIn K (.ref (getW "staticmethod" c m K))))
theorem sta_ok {c m : Str} {K : PySem.W.Frag} (h : staB c m K = true) : SMet K (ga K c) (.type "type") m (ma K (ga K c) m) (getW "staticmethod" c m K) := by
  obtain ⟨h1, h2⟩ := ba h
  obtain ⟨a1, h1⟩ := ba h1
  obtain ⟨a2, a3⟩ := ba h1
  obtain ⟨a4, h2⟩ := ba h2
  obtain ⟨a5, a6⟩ := ba h2
  refine ⟨of_decide_eq_true a1, a2, eqO_ok a3, ?_, rec_ok a5, a6⟩
  split at a4
  · rename_i g a o t q
    obtain ⟨b1, a4⟩ := ba a4
    obtain ⟨b2, a4⟩ := ba a4
    obtain ⟨b3, b4⟩ := ba a4
    rw [q, of_decide_eq_true b1, of_decide_eq_true b2, of_decide_eq_true b3, of_decide_eq_true b4]
  · cases a4
/-! ### a default that is an empty tuple -/
def e0B (e0 : PySem.W.Frag → Addr) (K : PySem.W.Frag) : Bool := match K.lookup (e0 K) with
  | some ⟨.type c, _, .seq its _, _⟩ => decide (c = "tuple") && decide (its.toList = [])
  | _ => false
theorem e0_ok {e0 : PySem.W.Frag → Addr} {K : PySem.W.Frag} (h : e0B e0 K = true) (H : Hp) : SqT K H (e0 K) [] := by
  unfold e0B at h
  split at h
  · rename_i c dd its n sl q
    obtain ⟨h1, h2⟩ := ba h
    have e : its.toList = [] := of_decide_eq_true h2
    refine .inr ⟨_, its, n, q, congrArg Value.type (of_decide_eq_true h1), rfl, ?_, ?_⟩
    · rw [← Array.length_toList, e]
      exact Nat.zero_le _
    · rw [e]
      exact .nil
  · cases h
/-! ### what the module's names reach, each address once (seen ones are bits of a number) -/
def newB : List Addr → Nat → List Addr → List Addr × Nat
  | [], seen, acc => (acc, seen)
  | a :: r, seen, acc => match Nat.beq (Nat.land (Nat.shiftRight seen a) 1) 0 with
    | true => newB r (Nat.lor seen (Nat.shiftLeft 1 a)) (a :: acc)
    | false => newB r seen acc
def asB (g : Addr → Option Obj) : Nat → List Addr → Nat → List Addr → List Addr
  | 0, fr, _, all => fr ++ all
  | n + 1, fr, seen, all => match newB (fr.flatMap fun a => match g a with
      | some o => refsD o
      | none => []) seen [] with
    | (fr', seen') => asB g n fr' seen' (fr ++ all)
/-! ### the hook, with the classes' statics beside -/
def obsQG (n : Nat) (ex : PySem.W.Frag → Bool) (fn : List Adr) (g : Addr → Option Obj) : AlD := obsP ex fn (frG g (asB g n [mainGlobals] (Nat.shiftLeft 1 mainGlobals) [] ++ [cStatics]))
def hookQ (n : Nat) (ex : PySem.W.Frag → Bool) (fn : List Adr) : PySem.W.Hook where
  α := AlD
  obs := fun s => obsQG n ex fn s.heap.get?
  val := fun _ => valP fn
  says := fun _ h => ∃ K : PySem.W.Frag, K.In h ∧ SaysP ex fn K
  of := fun _ _ e => ⟨_, frG_in, e⟩
  keeps := fun _ _ _ ⟨K, hK, c⟩ k => ⟨K, PySem.W.Frag.In.keeps hK k, c⟩
theorem obsQG_eq {n : Nat} {ex : PySem.W.Frag → Bool} {fn : List Adr} {g : Addr → Option Obj} {s : Shared} (h : ∀ a, g a = s.heap.get? a) : obsQG n ex fn g = (hookQ n ex fn).obs s := by
  have e : g = s.heap.get? := funext h
  rw [e] <;> rfl
end NF
set_option Elab.async false
set_option linter.all false
set_option maxRecDepth 100000
set_option maxHeartbeats 4000000
/-! Own binary operators of a class: x * y, x & y, x | y, both instances of it. -/
namespace NF
open PySem PySem.Spec PyProof.Rows L2 He RZ NT
def rBinO (C : Addr) (sp : Sp) : R2 := fun x y H Q => ∃ a dx fs b dy gs, x = .ref a ∧ H a = some (.ins C dx fs) ∧ y = .ref b ∧ H b = some (.ins C dy gs) ∧ sp [.ref a, .ref b] H Q E0
structure OpM (K : PySem.W.Frag) (C f : Addr) (nm : Str) : Prop where
  o1 : PySem.W.findIn K (.ref C) nm = some (some (.ref f))
  o2 : PySem.W.isFn K (.ref f) = true
  o3 : PySem.W.selfFirst K C = true
/-- a class with an own operator, and how its instances' type is read -/
structure OpC (P : Program) (w : World) (K : PySem.W.Frag) (mg : Str → Option Value) (base : Heap) (k : Nat) (C : Addr) (nm : Str) (sp : Sp) : Prop where
  cl : Cls K C
  ac : PySem.W.findIn K (.ref C) "__class__" = some (some (.builtin "object.__class__"))
  ag : PySem.W.specialIn K (.builtin "object.__class__") "__get__" = some (some (.builtin "getset_descriptor.__get__"))
  at_ : PySem.W.takesIn K (.builtin "object.__class__") = some true
  am : PySem.W.mroIn K C (.type "object") = some true
  ex : ∃ (f : Addr) (fd : FuncData) (ps : List Str), FnOk P w K mg base CX0 k f fd ps sp ∧ OpM K C f nm ∧ Binds K fd ps []
theorem op_bin {X : Cx} {k j : Nat} {C : Addr} {sp : Sp} {op : Operator} {nm : Str} (c : OpC X.prog X.w X.K X.mg X.base k C nm sp) (hr : Room j X.A) (hk : k ≤ j) (hnm : PySem.dunder op.info.2 = nm := by rfl) : OpR X (binaryOp op) (rBinO C sp) := by
  obtain ⟨f, fd, ps, F, ⟨hs, hf, hc⟩, hb⟩ := c.ex
  intro pins s σ H x y v u Q I rx ry h
  obtain ⟨a, dx, fs, b, dy, gs, rfl, ha, rfl, hb2, q⟩ := h
  cases rx
  obtain ⟨mA, O, _⟩ := ins_get I.hok ha
  obtain ⟨od, J, _⟩ := O.look
  obtain ⟨m, hF⟩ := I.fr
  obtain ⟨P, Z, p, _⟩ := kit_of I ry (.base (.ins hb2 c.cl c.ac c.ag c.at_ c.am))
  cases ry
  show wpAny (model X.prog X.w) X.A (binaryOp op (.ref a) (.ref b)) (EP X pins σ Q) X.xe s
  refine PySem.W.binop_K hF I.ok.mod.kin J (Z.ty _ _ I.kIn p) hc (by rw [hnm]; exact hs) hf ?_
  have r2 : Vals [V.ref a, V.ref b] [Value.ref a, Value.ref b] := .cons rfl (.cons rfl .nil)
  refine wpAny_mono (run_fn (us := [.ref a, .ref b]) (vs := [.ref a, .ref b]) F (hr.mono hk) hb .nil pass0 I r2 q) (fun r s' z => ?_) fun _ _ e => e
  obtain ⟨z, H', I', rz, q'⟩ := z
  have hni : r ≠ .notImplemented := fun e => by
    subst e
    cases z with
    | int i => obtain ⟨t, e⟩ := (show ∃ t, Value.notImplemented = Value.int i t from rz); cases e
    | str i => obtain ⟨t, e⟩ := (show ∃ t, Value.notImplemented = Value.str i t from rz); cases e
    | byt i => obtain ⟨t, e⟩ := (show ∃ t, Value.notImplemented = Value.bytes i t from rz); cases e
    | flt i => obtain ⟨t, e⟩ := (show ∃ t, Value.notImplemented = Value.float i t from rz); cases e
    | _ => cases rz
  unfold PySem.W.CmpBack
  split
  · exact hni rfl
  · exact ⟨z, H', I', rz, q'⟩
end NF
set_option Elab.async false
set_option linter.all false
set_option maxRecDepth 100000
set_option maxHeartbeats 4000000
namespace NF
open PySem PySem.Spec PyProof.Rows L2 He RZ NT
def binB (c m : Str) (K : PySem.W.Frag) : Bool := eqO (PySem.W.findIn K (.ref (ga K c)) m) (some (some (.ref (ma K (ga K c) m)))) && (PySem.W.isFn K (.ref (ma K (ga K c) m)) && PySem.W.selfFirst K (ga K c))
theorem bin_ok {c m : Str} {K : PySem.W.Frag} (h : binB c m K = true) : OpM K (ga K c) (ma K (ga K c) m) m := by
  obtain ⟨h1, h2⟩ := ba h
  obtain ⟨h2, h3⟩ := ba h2
  exact ⟨eqO_ok h1, h2, h3⟩
end NF
set_option Elab.async false
set_option linter.all false
set_option maxRecDepth 100000
set_option maxHeartbeats 4000000
/-! o.m(..): a method of a class of one's own. -/
namespace NF
open PySem PySem.Spec PyProof.Rows L2 He RZ NT
structure MetC (P : Program) (w : World) (K : PySem.W.Frag) (mg : Str → Option Value) (base : Heap) (k : Nat) (C : Addr) (m : Str) (sp : Sp) : Prop where
  cl : Cls K C
  ex : ∃ (f : Addr) (fd : FuncData) (ps : List Str), Meth K C m f ∧ FnOk P w K mg base CX0 k f fd ps sp ∧ Binds K fd ps []
theorem pe_mt {X : Cx} {k j : Nat} {C : Addr} {m : Str} {sp : Sp} {o e : Expr} {es : List Expr} {ta : TE} {t : TA} {pl : Sem Bool} {pos apos : Pos} (he : PE X o ta) (c : MetC X.prog X.w X.K X.mg X.base k C m sp) (hr : Room j X.A) (hk : k ≤ j) (ha : PA X (e :: es) t)
    (hst : starEach (e :: es) X.env = (false, eval e X.env) :: starEach es X.env := by rfl) (hpl : (backTo pos (starEach es X.env)).any (·.1) = false := by rfl)
    (ht : eval (.Call (.Attribute o m apos) (e :: es) [] pos) X.env = (do
      let ov ← eval o X.env
      standAt apos.atName
      let (f, first) ← holding [ov] (getMethod ov m pl)
      callWith pos f first (backTo pos (starEach (e :: es) X.env)) (backToKw pos (keywordEach [] X.env))) := by rfl) :
    PE X (.Call (.Attribute o m apos) (e :: es) [] pos) (tMeth C m sp [] E0 ta t) := by
  obtain ⟨f, fd, ps, hm, F, b⟩ := c.ex
  exact pe_meth he c.cl hm F (hr.mono hk) b .nil pass0 ha hst hpl ht
/-- o.m() -/
theorem pe_mt0 {X : Cx} {k j : Nat} {C : Addr} {m : Str} {sp : Sp} {o : Expr} {ta : TE} {pl : Sem Bool} {pos apos : Pos} (he : PE X o ta) (c : MetC X.prog X.w X.K X.mg X.base k C m sp) (hr : Room j X.A) (hk : k ≤ j)
    (ht : eval (.Call (.Attribute o m apos) [] [] pos) X.env = (do
      let ov ← eval o X.env
      standAt apos.atName
      let (f, first) ← holding [ov] (getMethod ov m pl)
      callWith pos f first (backTo pos (starEach [] X.env)) (backToKw pos (keywordEach [] X.env))) := by rfl) :
    PE X (.Call (.Attribute o m apos) [] [] pos) (tMeth C m sp [] E0 ta tNil) := by
  obtain ⟨f, fd, ps, hm, F, b⟩ := c.ex
  exact pe_meth0 he c.cl hm F (hr.mono hk) b .nil pass0 ht
end NF
set_option linter.all false
namespace NF
open PySem PySem.Spec PyProof.Rows L2 He RZ
/-- o.m(..): a plain method, as the head's run finds it -/
def metB (c m : Str) (K : PySem.W.Frag) : Bool := eqO (PySem.W.findIn K (.ref (ga K c)) m) (some (some (.ref (ma K (ga K c) m)))) && (PySem.W.isFn K (.ref (ma K (ga K c) m)) && PySem.W.keepIn K (.ref (ma K (ga K c) m)))
theorem met_ok {c m : Str} {K : PySem.W.Frag} (h : metB c m K = true) : Meth K (ga K c) m (ma K (ga K c) m) := by
  obtain ⟨h1, h2⟩ := ba h
  obtain ⟨h2, h3⟩ := ba h2
  exact ⟨eqO_ok h1, h2, h3⟩
end NF
set_option Elab.async false
set_option linter.all false
set_option maxHeartbeats 4000000
namespace NT
variable {h l : List Int} {r : Int}
theorem climbs_lo : ∀ {l : List Int} {lo : Int} {i : Nat}, climbs lo l → i < l.length → lo ≤ l.getD i 0
  | [], _, _, _, h => by simp at h
  | x :: l, lo, 0, c, _ => c.1
  | x :: l, lo, i + 1, c, h => by
    have := climbs_lo (i := i) c.2 (by simpa using h)
    have := c.1
    show lo ≤ l.getD i 0
    omega
theorem climbs_up : ∀ {l : List Int} {lo : Int} {i : Nat}, climbs lo l → i + 1 < l.length → l.getD i 0 ≤ l.getD (i + 1) 0
  | [], _, _, _, h => by simp at h
  | x :: l, lo, 0, c, h => climbs_lo (i := 0) c.2 (by simpa using h)
  | x :: l, lo, i + 1, c, h => climbs_up (i := i) c.2 (by simpa using h)
theorem climbs_of : ∀ {l : List Int} {lo : Int}, (∀ i, i < l.length → lo ≤ l.getD i 0) → (∀ i, i + 1 < l.length → l.getD i 0 ≤ l.getD (i + 1) 0) → climbs lo l
  | [], _, _, _ => trivial
  | x :: l, lo, h1, h2 => by
    refine ⟨h1 0 (by simp), climbs_of (fun i hi => ?_) fun i hi => h2 (i + 1) (by simpa using hi)⟩
    induction i with
    | zero => exact h2 0 (by simpa using hi)
    | succ i ih => exact Int.le_trans (ih (by omega)) (h2 (i + 1) (by simpa using hi))
/-- the value at n as a number -/
def num (h l : List Int) (r : Int) (n : Nat) : Int := (at_ h l r n).getD 0
theorem walk_up (g : Good h l r) (hl : l ≠ []) (k : Nat) : walk l r k ≤ walk l r (k + 1) := by
  have hp := len_pos hl
  have e : k = k % l.length + l.length * (k / l.length) := (Nat.mod_add_div k _).symm
  have hi : k % l.length < l.length := Nat.mod_lt _ hp
  generalize k % l.length = a at e hi
  generalize k / l.length = b at e
  subst e
  rw [walk_add_mul hp, show a + l.length * b + 1 = (a + 1) + l.length * b by omega, walk_add_mul hp, walk_lt hi]
  by_cases c : a + 1 < l.length
  · rw [walk_lt c]
    have := climbs_up g.lp c
    omega
  · have : a + 1 = 0 + l.length := by omega
    rw [this, walk_add hp, walk_lt hp]
    have := g.last hl
    have e : l.length - 1 = a := by omega
    rw [e] at this
    omega
theorem at_some (n : Nat) (hn : n ≤ h.length ∨ l ≠ []) : at_ h l r n = some (num h l r n) := by
  unfold num at_
  by_cases c : n ≤ h.length
  · rw [if_pos c]; rfl
  · rw [if_neg c, if_neg (hn.resolve_left c)]; rfl
theorem num_up (g : Good h l r) (n : Nat) (hn : 1 ≤ n) (hs : n + 1 ≤ h.length ∨ l ≠ []) : num h l r n ≤ num h l r (n + 1) := by
  unfold num at_
  by_cases c : n + 1 ≤ h.length
  · rw [if_pos c, if_pos (by omega)]
    show h.getD (n - 1) 0 ≤ h.getD (n + 1 - 1) 0
    have := climbs_up (i := n - 1) g.hd (by omega)
    rw [show n - 1 + 1 = n + 1 - 1 by omega] at this
    exact this
  · have hl := hs.resolve_left c
    have e1 : (if n + 1 ≤ h.length then some (h.getD (n + 1 - 1) 0) else if l = [] then none else some (walk l r (n + 1 - h.length - 1))).getD 0 = walk l r (n + 1 - h.length - 1) := by rw [if_neg c, if_neg hl]; rfl
    rw [e1]
    by_cases c2 : n ≤ h.length
    · rw [if_pos c2]
      have e : n = h.length := by omega
      subst e
      show h.getD (h.length - 1) 0 ≤ walk l r (h.length + 1 - h.length - 1)
      rw [show h.length + 1 - h.length - 1 = 0 by omega, walk_lt (len_pos hl)]
      exact g.join (fun z => by rw [z] at hn; simp at hn) hl
    · rw [if_neg c2, if_neg hl]
      show walk l r (n - h.length - 1) ≤ walk l r (n + 1 - h.length - 1)
      rw [show n + 1 - h.length - 1 = (n - h.length - 1) + 1 by omega]
      exact walk_up g hl _
theorem walk_ge (g : Good h l r) (hl : l ≠ []) (k : Nat) : 0 ≤ walk l r k := by
  induction k with
  | zero =>
    rw [walk_lt (len_pos hl)]
    exact climbs_lo g.lp (len_pos hl)
  | succ k ih => exact Int.le_trans ih (walk_up g hl k)
theorem num_ge (g : Good h l r) (n : Nat) (hn : 1 ≤ n) : 0 ≤ num h l r n := by
  unfold num at_
  by_cases c : n ≤ h.length
  · rw [if_pos c]
    exact climbs_lo (i := n - 1) g.hd (by omega)
  · rw [if_neg c]
    by_cases hl : l = []
    · rw [if_pos hl]; exact Int.le_refl _
    · rw [if_neg hl]; exact walk_ge g hl _
theorem walk_mono (g : Good h l r) (hl : l ≠ []) (k d : Nat) : walk l r k ≤ walk l r (k + d) := by
  induction d with
  | zero => exact Int.le_refl _
  | succ d ih => exact Int.le_trans ih (walk_up g hl (k + d))
/-- the plain form is made of counts -/
theorem plain_counts (g : Good h l r) {x : List Int × List Int × Int} (hx : IsPlain h l r x) : (∀ i, i ∈ x.1 ++ x.2.1 → 0 ≤ i) ∧ 0 ≤ x.2.2 := by
  have hz := plain_size hx
  refine ⟨fun i hi => ?_, (hz.2.2.2.2.1 g.r0).1⟩
  have all : ∀ n, 1 ≤ n → ∀ v, at_ x.1 x.2.1 x.2.2 n = some v → 0 ≤ v := by
    rcases hx with ⟨rfl, rfl⟩ | ⟨_, _, _, _, e⟩
    · intro n hn v hv
      unfold at_ at hv
      by_cases c : n ≤ h.length
      · rw [if_pos c] at hv
        injection hv with hv
        rw [← hv]
        exact climbs_lo (l := h) (i := n - 1) g.hd (by omega)
      · rw [if_neg c, if_pos rfl] at hv
        cases hv
    · intro n hn v hv
      rw [e n hn] at hv
      have := num_ge g n hn
      unfold num at this
      rw [hv] at this
      exact this
  rcases List.mem_append.mp hi with h1 | h1
  · obtain ⟨k, hk, rfl⟩ := List.getElem_of_mem h1
    refine all (k + 1) (by omega) _ ?_
    unfold at_
    rw [if_pos (by omega), Nat.add_sub_cancel, List.getD_eq_getElem?_getD, List.getElem?_eq_getElem hk]
    rfl
  · obtain ⟨k, hk, rfl⟩ := List.getElem_of_mem h1
    have hne : x.2.1 ≠ [] := fun z => by rw [z] at hk; simp at hk
    refine all (x.1.length + k + 1) (by omega) _ ?_
    rw [at_loop hne (by omega), show x.1.length + k + 1 - x.1.length - 1 = k by omega, walk_lt hk, List.getD_eq_getElem?_getD, List.getElem?_eq_getElem hk]
    rfl
/-! ### the same table with more values in the head and a longer loop -/
def tell (h l : List Int) (r : Int) (n : Nat) : List Int := (List.range n).map fun k => num h l r (k + 1)
theorem tell_len (n : Nat) : (tell h l r n).length = n := by unfold tell; rw [List.length_map, List.length_range]
theorem tell_get {n k : Nat} (hk : k < n) : (tell h l r n).getD k 0 = num h l r (k + 1) := by
  unfold tell
  rw [List.getD_eq_getElem?_getD, List.getElem?_map, List.getElem?_range hk]
  rfl
theorem getD_take' {l : List Int} {m i : Nat} (h : i < m) : (l.take m).getD i 0 = l.getD i 0 := getD_take h
theorem tell_good (g : Good h l r) {more t : Nat} (hm : l = [] → more = 0) (ht : 0 < t) :
    Good ((tell h l r (h.length + more + l.length * t)).take (h.length + more)) ((tell h l r (h.length + more + l.length * t)).drop (h.length + more)) (r * (t : Int)) := by
  generalize hN : h.length + more + l.length * t = N
  generalize hc : h.length + more = c
  have some_ : ∀ n, n ≤ N → n ≤ h.length ∨ l ≠ [] := fun n hn => by
    by_cases hl : l = []
    · left
      have := hm hl
      have : l.length = 0 := by rw [hl]; rfl
      rw [this, Nat.zero_mul] at hN
      omega
    · exact .inr hl
  have cle : c ≤ N := by omega
  have hlt : ((tell h l r N).take c).length = c := by rw [List.length_take, tell_len]; omega
  have hld : ((tell h l r N).drop c).length = N - c := by rw [List.length_drop, tell_len]
  refine ⟨climbs_of (fun i hi => ?_) (fun i hi => ?_), climbs_of (fun i hi => ?_) (fun i hi => ?_), fun h1 h2 => ?_, ?_, fun hl => ?_, fun hl => ?_⟩
  · rw [hlt] at hi
    rw [getD_take hi, tell_get (by omega)]
    exact num_ge g _ (by omega)
  · rw [hlt] at hi
    rw [getD_take (by omega), getD_take hi, tell_get (by omega), tell_get (by omega)]
    exact num_up g _ (by omega) (some_ _ (by omega))
  · rw [hld] at hi
    rw [getD_drop, tell_get (by omega)]
    exact num_ge g _ (by omega)
  · rw [hld] at hi
    rw [getD_drop, getD_drop, tell_get (by omega), tell_get (by omega)]
    have := num_up g (c + i + 1) (by omega) (some_ _ (by omega))
    exact this
  · have c0 : 0 < c := by
      rcases Nat.eq_zero_or_pos c with z | z
      · rw [z] at h1; exact absurd rfl h1
      · exact z
    have d0 : 0 < N - c := by rw [← hld]; exact len_pos h2
    rw [hlt, getD_take (by omega), getD_drop, tell_get (by omega), tell_get (by omega)]
    have := num_up g c (by omega) (some_ _ (by omega))
    rw [show c - 1 + 1 = c by omega, show c + 0 + 1 = c + 1 by omega]
    exact this
  · exact Int.mul_nonneg g.r0 (by omega)
  · have z : N - c = 0 := by rw [← hld, hl]; rfl
    have z2 : l.length * t = 0 := by omega
    have z3 : l.length = 0 := by
      rcases Nat.mul_eq_zero.mp z2 with q | q
      · exact q
      · omega
    rw [g.rl (List.eq_nil_of_length_eq_zero z3), Int.zero_mul]
  · have d0 : 0 < N - c := by rw [← hld]; exact len_pos hl
    have hl2 : l ≠ [] := fun z => by
      have : l.length = 0 := by rw [z]; rfl
      rw [this, Nat.zero_mul] at hN
      omega
    rw [hld, getD_drop, getD_drop, tell_get (by omega), tell_get (by omega)]
    have w : ∀ j, num h l r (c + j + 1) = walk l r (more + j) := fun j => by
      unfold num
      rw [at_loop hl2 (by omega), show c + j + 1 - h.length - 1 = more + j by omega]
      rfl
    rw [w (N - c - 1), w 0, ← walk_add_mul (len_pos hl2)]
    have e : more + 0 + l.length * t = (more + (N - c - 1)) + 1 := by omega
    rw [e]
    exact walk_mono g hl2 _ 1
theorem tell_at {more t : Nat} (hm : l = [] → more = 0) (ht : 0 < t) (n : Nat) (hn : 1 ≤ n) :
    at_ ((tell h l r (h.length + more + l.length * t)).take (h.length + more)) ((tell h l r (h.length + more + l.length * t)).drop (h.length + more)) (r * (t : Int)) n = at_ h l r n := by
  by_cases hl : l = []
  · subst hl
    have hm := hm rfl
    subst hm
    have e : h.length + 0 + ([] : List Int).length * t = h.length := by simp
    rw [e, Nat.add_zero]
    unfold at_
    have e1 : ((tell h [] r h.length).take h.length).length = h.length := by rw [List.length_take, tell_len]; omega
    have e2 : (tell h [] r h.length).drop h.length = [] := List.drop_of_length_le (by rw [tell_len]; exact Nat.le_refl _)
    rw [e1, e2]
    by_cases c : n ≤ h.length
    · rw [if_pos c, if_pos c, getD_take (by omega), tell_get (by omega)]
      unfold num at_
      rw [show n - 1 + 1 = n by omega, if_pos c]
      rfl
    · rw [if_neg c, if_neg c, if_pos rfl, if_pos rfl]
  · have hp := len_pos hl
    generalize hN : h.length + more + l.length * t = N
    generalize hc : h.length + more = c
    have lt0 : 0 < l.length * t := Nat.mul_pos hp ht
    have hlt : ((tell h l r N).take c).length = c := by rw [List.length_take, tell_len]; omega
    have hld : ((tell h l r N).drop c).length = l.length * t := by rw [List.length_drop, tell_len]; omega
    have hne : (tell h l r N).drop c ≠ [] := fun z => by rw [z] at hld; simp at hld; omega
    by_cases q : n ≤ c
    · have : at_ h l r n = some (num h l r n) := at_some n (.inr hl)
      rw [this]
      unfold at_
      rw [hlt, if_pos q, getD_take (by omega), tell_get (by omega), show n - 1 + 1 = n by omega]
    · rw [at_loop hne (by rw [hlt]; omega), hlt, at_loop hl (by omega)]
      congr 1
      unfold walk
      rw [hld]
      generalize hk : n - c - 1 = k
      have hi : k % (l.length * t) < l.length * t := Nat.mod_lt _ lt0
      have w : ∀ j, num h l r (c + j + 1) = walk l r (more + j) := fun j => by
        unfold num
        rw [at_loop hl (by omega), show c + j + 1 - h.length - 1 = more + j by omega]
        rfl
      rw [getD_drop, tell_get (by omega), w]
      have e : n - h.length - 1 = (more + k % (l.length * t)) + l.length * (t * (k / (l.length * t))) := by
        have := Nat.mod_add_div k (l.length * t)
        rw [← Nat.mul_assoc]
        omega
      have e2 : walk l r (n - h.length - 1) = walk l r (more + k % (l.length * t)) + r * ((t * (k / (l.length * t)) : Nat) : Int) := by rw [e, walk_add_mul hp]
      have e3 : walk l r (n - h.length - 1) = l.getD ((n - h.length - 1) % l.length) 0 + r * (((n - h.length - 1) / l.length : Nat) : Int) := rfl
      rw [← e3, e2, Int.natCast_mul, Int.mul_assoc]
end NT
set_option Elab.async false
set_option linter.all false
set_option maxHeartbeats 4000000
/-! Rows of values that climb and may come to never: their tellings; the values of one table at the values of another one. -/
namespace NT
structure Asc (F : Nat → Option Int) : Prop where
  ge : ∀ n v, 1 ≤ n → F n = some v → 0 ≤ v
  up : ∀ n v, 1 ≤ n → F (n + 1) = some v → ∃ u, F n = some u ∧ u ≤ v
def numF (F : Nat → Option Int) (n : Nat) : Int := (F n).getD 0
def seg (F : Nat → Option Int) (a m : Nat) : List (Option Int) := (List.range m).map fun k => F (a + k + 1)
def segN (F : Nat → Option Int) (a m : Nat) : List Int := (List.range m).map fun k => numF F (a + k + 1)
variable {F : Nat → Option Int}
theorem seg_succ {a m : Nat} : seg F a (m + 1) = seg F a m ++ [F (a + m + 1)] := by
  unfold seg
  rw [List.range_succ, List.map_append]
  rfl
theorem segN_succ {a m : Nat} : segN F a (m + 1) = segN F a m ++ [numF F (a + m + 1)] := by
  unfold segN
  rw [List.range_succ, List.map_append]
  rfl
theorem seg_len {a m : Nat} : (seg F a m).length = m := by unfold seg; rw [List.length_map, List.length_range]
theorem segN_len {a m : Nat} : (segN F a m).length = m := by unfold segN; rw [List.length_map, List.length_range]
theorem segN_get {a m k : Nat} (hk : k < m) : (segN F a m).getD k 0 = numF F (a + k + 1) := by
  unfold segN
  rw [List.getD_eq_getElem?_getD, List.getElem?_map, List.getElem?_range hk]
  rfl
theorem Asc.below (A : Asc F) {m d : Nat} (hm : 1 ≤ m) : ∀ {v : Int}, F (m + d) = some v → ∃ u, F m = some u ∧ u ≤ v := by
  induction d with
  | zero => exact fun {v} h => ⟨v, h, Int.le_refl _⟩
  | succ d ih =>
    intro v h
    obtain ⟨u, hu, le⟩ := A.up (m + d) v (by omega) h
    obtain ⟨u2, h2, le2⟩ := ih hu
    exact ⟨u2, h2, Int.le_trans le2 le⟩
theorem Asc.none_up (A : Asc F) {m n : Nat} (hm : 1 ≤ m) (h : F m = none) (le : m ≤ n) : F n = none := by
  cases e : F n with
  | none => rfl
  | some v =>
    obtain ⟨d, rfl⟩ : ∃ d, n = m + d := ⟨n - m, by omega⟩
    obtain ⟨u, hu, _⟩ := A.below hm e
    rw [h] at hu
    cases hu
theorem numF_some {n : Nat} (h : F n ≠ none) : F n = some (numF F n) := by
  unfold numF
  cases e : F n with
  | none => exact absurd e h
  | some v => rfl
theorem Asc.mono (A : Asc F) {m n : Nat} (hm : 1 ≤ m) (le : m ≤ n) (h : F n ≠ none) : numF F m ≤ numF F n := by
  obtain ⟨d, rfl⟩ : ∃ d, n = m + d := ⟨n - m, by omega⟩
  obtain ⟨u, hu, le2⟩ := A.below hm (numF_some h)
  have : numF F m = u := by unfold numF; rw [hu]; rfl
  rw [this]
  exact le2
theorem Asc.nonneg (A : Asc F) {n : Nat} (hn : 1 ≤ n) (h : F n ≠ none) : 0 ≤ numF F n := A.ge n _ hn (numF_some h)
/-- those that are counts -/
theorem cnt_ex (A : Asc F) (N : Nat) : ∃ M, M ≤ N ∧ (seg F 0 N).filterMap id = segN F 0 M ∧ (∀ n, 1 ≤ n → n ≤ M → F n ≠ none) ∧ (∀ n, M < n → n ≤ N → F n = none) := by
  induction N with
  | zero => exact ⟨0, Nat.le_refl _, rfl, fun n h1 h2 => by omega, fun n h1 h2 => by omega⟩
  | succ N ih =>
    obtain ⟨M, hM, e, s, z⟩ := ih
    cases h : F (N + 1) with
    | none =>
      refine ⟨M, by omega, ?_, s, fun n h1 h2 => ?_⟩
      · rw [seg_succ, List.filterMap_append, e, show 0 + N + 1 = N + 1 by omega, h]
        simp
      · by_cases c : n ≤ N
        · exact z n h1 c
        · rw [show n = N + 1 by omega, h]
    | some v =>
      have hall : M = N := by
        rcases Nat.lt_or_ge M N with c | c
        · have := z (M + 1) (by omega) (by omega)
          have := A.none_up (by omega) this (show M + 1 ≤ N + 1 by omega)
          rw [h] at this
          cases this
        · omega
      subst hall
      refine ⟨M + 1, Nat.le_refl _, ?_, fun n h1 h2 => ?_, fun n h1 h2 => by omega⟩
      · rw [seg_succ, List.filterMap_append, e, segN_succ, show 0 + M + 1 = M + 1 by omega, h]
        unfold numF
        rw [h]
        rfl
      · by_cases c : n ≤ M
        · exact s n h1 c
        · rw [show n = M + 1 by omega, h]
          exact fun y => by cases y
theorem ended (A : Asc F) {M : Nat} (s : ∀ n, 1 ≤ n → n ≤ M → F n ≠ none) : Good (segN F 0 M) [] 0 := by
  refine ⟨climbs_of (fun i hi => ?_) (fun i hi => ?_), trivial, fun _ z => absurd rfl z, Int.le_refl _, fun _ => rfl, fun z => absurd rfl z⟩
  · rw [segN_len] at hi
    rw [segN_get hi]
    exact A.nonneg (by omega) (s _ (by omega) (by omega))
  · rw [segN_len] at hi
    rw [segN_get (by omega), segN_get hi]
    exact A.mono (by omega) (by omega) (s _ (by omega) (by omega))
theorem at_ended {M : Nat} (s : ∀ n, 1 ≤ n → n ≤ M → F n ≠ none) (z : ∀ n, M < n → F n = none) {n : Nat} (hn : 1 ≤ n) : at_ (segN F 0 M) [] 0 n = F n := by
  unfold at_
  rw [segN_len]
  by_cases c : n ≤ M
  · rw [if_pos c, segN_get (by omega), show 0 + (n - 1) + 1 = n by omega]
    exact (numF_some (s n hn c)).symm
  · rw [if_neg c, if_pos rfl]
    exact (z n (by omega)).symm
theorem per_num {N m : Nat} {c : Int} (p : ∀ n, N < n → numF F (n + m) = numF F n + c) (i j : Nat) : numF F (N + 1 + i + m * j) = numF F (N + 1 + i) + c * (j : Int) := by
  induction j with
  | zero => simp
  | succ j ih =>
    have e : N + 1 + i + m * (j + 1) = (N + 1 + i + m * j) + m := by rw [Nat.mul_succ]; omega
    rw [e, p _ (by omega), ih, Int.natCast_succ, Int.mul_add]
    omega
theorem looped (A : Asc F) {N m : Nat} {c : Int} (hm : 0 < m) (s : ∀ n, 1 ≤ n → F n ≠ none) (p : ∀ n, N < n → numF F (n + m) = numF F n + c) :
    Good (segN F 0 N) (segN F N m) c ∧ ∀ n, 1 ≤ n → at_ (segN F 0 N) (segN F N m) c n = F n := by
  have hl : segN F N m ≠ [] := fun z => by
    have := congrArg List.length z
    rw [segN_len] at this
    simp at this
    omega
  refine ⟨⟨climbs_of (fun i hi => ?_) (fun i hi => ?_), climbs_of (fun i hi => ?_) (fun i hi => ?_), fun h1 _ => ?_, ?_, fun z => absurd z hl, fun _ => ?_⟩, fun n hn => ?_⟩
  · rw [segN_len] at hi
    rw [segN_get hi]
    exact A.nonneg (by omega) (s _ (by omega))
  · rw [segN_len] at hi
    rw [segN_get (by omega), segN_get hi]
    exact A.mono (by omega) (by omega) (s _ (by omega))
  · rw [segN_len] at hi
    rw [segN_get hi]
    exact A.nonneg (by omega) (s _ (by omega))
  · rw [segN_len] at hi
    rw [segN_get (by omega), segN_get hi]
    exact A.mono (by omega) (by omega) (s _ (by omega))
  · have : 0 < N := by
      rcases Nat.eq_zero_or_pos N with z | z
      · subst z; exact absurd rfl h1
      · exact z
    rw [segN_len, segN_get (by omega), segN_get hm]
    exact A.mono (by omega) (by omega) (s _ (by omega))
  · have e := p (N + 1) (by omega)
    have := A.mono (m := N + 1) (n := N + 1 + m) (by omega) (by omega) (s _ (by omega))
    omega
  · rw [segN_len, segN_get (by omega), segN_get hm]
    have e := p (N + 0 + 1) (by omega)
    have := A.mono (m := N + (m - 1) + 1) (n := N + 0 + 1 + m) (by omega) (by omega) (s _ (by omega))
    omega
  · by_cases q : n ≤ N
    · unfold at_
      rw [segN_len, if_pos q, segN_get (by omega), show 0 + (n - 1) + 1 = n by omega]
      exact (numF_some (s n hn)).symm
    · rw [at_loop hl (by rw [segN_len]; omega), segN_len, numF_some (s n hn)]
      congr 1
      unfold walk
      rw [segN_len, segN_get (Nat.mod_lt _ hm)]
      have e := per_num p ((n - N - 1) % m) ((n - N - 1) / m)
      have e2 : N + 1 + (n - N - 1) % m + m * ((n - N - 1) / m) = n := by
        have := Nat.mod_add_div (n - N - 1) m
        omega
      rw [e2] at e
      rw [e, show N + (n - N - 1) % m + 1 = N + 1 + (n - N - 1) % m by omega]
/-- how the program tells a table that comes to an end -/
def settled (vs : List (Option Int)) : Option Int → List Int × List Int × Int
  | none => (vs.filterMap id, [], 0)
  | some v => if (vs.filterMap id).length < vs.length then (vs.filterMap id, [], 0) else (vs.filterMap id, [v], 0)
theorem settled_ok (A : Asc F) {N : Nat} {t : Option Int} (ht : ∀ n, N < n → F n = t) :
    Good (settled (seg F 0 N) t).1 (settled (seg F 0 N) t).2.1 (settled (seg F 0 N) t).2.2 ∧ (∀ n, 1 ≤ n → at_ (settled (seg F 0 N) t).1 (settled (seg F 0 N) t).2.1 (settled (seg F 0 N) t).2.2 n = F n) ∧
      (settled (seg F 0 N) t).1.length ≤ N ∧ (settled (seg F 0 N) t).2.1.length ≤ 1 := by
  obtain ⟨M, hM, e, s, z⟩ := cnt_ex A N
  have short : M < N ∨ t = none → Good (segN F 0 M) [] 0 ∧ (∀ n, 1 ≤ n → at_ (segN F 0 M) [] 0 n = F n) ∧ (segN F 0 M).length ≤ N ∧ ([] : List Int).length ≤ 1 := fun h => by
    refine ⟨ended A s, fun n hn => at_ended s (fun k hk => ?_) hn, by rw [segN_len]; exact hM, Nat.zero_le _⟩
    rcases h with h | h
    · exact A.none_up (m := M + 1) (by omega) (z (M + 1) (by omega) (by omega)) (by omega)
    · by_cases c : k ≤ N
      · exact z k hk c
      · rw [ht k (by omega), h]
  unfold settled
  cases t with
  | none =>
    dsimp only
    rw [e]
    exact short (.inr rfl)
  | some v =>
    dsimp only
    rw [e, seg_len, segN_len]
    by_cases c : M < N
    · rw [if_pos c]
      exact short (.inl c)
    · rw [if_neg c]
      have hMN : M = N := by omega
      subst hMN
      have sall : ∀ n, 1 ≤ n → F n ≠ none := fun n hn => by
        by_cases q : n ≤ M
        · exact s n hn q
        · rw [ht n (by omega)]
          exact fun y => by cases y
      have el : segN F M 1 = [v] := by
        unfold segN
        show [numF F (M + 0 + 1)] = [v]
        unfold numF
        rw [ht _ (by omega)]
        rfl
      have g := looped A (N := M) (m := 1) (c := 0) (by decide) sall (fun n hn => by
        unfold numF
        rw [ht n hn, ht (n + 1) (by omega)]
        simp)
      rw [el] at g
      exact ⟨g.1, g.2, by rw [segN_len]; exact Nat.le_refl _, Nat.le_refl _⟩
/-! ### a table's own values -/
section
variable {h l : List Int} {r : Int}
theorem asc_at (g : Good h l r) : Asc (at_ h l r) := by
  have some_of : ∀ n v, at_ h l r n = some v → n ≤ h.length ∨ l ≠ [] := fun n v e => by
    by_cases c : n ≤ h.length
    · exact .inl c
    · refine .inr fun z => ?_
      unfold at_ at e
      rw [if_neg c, if_pos z] at e
      cases e
  refine ⟨fun n v hn e => ?_, fun n v hn e => ?_⟩
  · have := num_ge g n hn
    unfold num at this
    rw [e] at this
    exact this
  · have c := some_of _ _ e
    have e1 := at_some (h := h) (l := l) (r := r) n (c.imp (fun q => by omega) id)
    refine ⟨_, e1, ?_⟩
    have := num_up g n hn c
    have e2 : num h l r (n + 1) = v := by unfold num; rw [e]; rfl
    omega
theorem good_of (A : Asc (at_ h l r)) (r0 : 0 ≤ r) (rl : l = [] → r = 0) : Good h l r := by
  have ah : ∀ i, i < h.length → at_ h l r (i + 1) = some (h.getD i 0) := fun i hi => by
    unfold at_
    rw [if_pos (by omega), Nat.add_sub_cancel]
  have al : ∀ i, i < l.length → at_ h l r (h.length + i + 1) = some (l.getD i 0) := fun i hi => by
    have hl : l ≠ [] := fun z => by rw [z] at hi; simp at hi
    rw [at_loop hl (by omega), show h.length + i + 1 - h.length - 1 = i by omega, walk_lt hi]
  refine ⟨climbs_of (fun i hi => A.ge _ _ (by omega) (ah i hi)) (fun i hi => ?_), climbs_of (fun i hi => A.ge _ _ (by omega) (al i hi)) (fun i hi => ?_), fun h1 h2 => ?_, r0, rl, fun hl => ?_⟩
  · obtain ⟨u, hu, le⟩ := A.up _ _ (by omega) (ah (i + 1) hi)
    rw [ah i (by omega)] at hu
    injection hu with hu
    omega
  · obtain ⟨u, hu, le⟩ := A.up _ _ (by omega) (al (i + 1) hi)
    rw [show h.length + (i + 1) = h.length + i + 1 by omega, al i (by omega)] at hu
    injection hu with hu
    omega
  · have h0 := len_pos h1
    obtain ⟨u, hu, le⟩ := A.up _ _ (by omega) (al 0 (len_pos h2))
    have := ah (h.length - 1) (by omega)
    rw [show h.length - 1 + 1 = h.length by omega] at this
    rw [this] at hu
    injection hu with hu
    omega
  · have l0 := len_pos hl
    have e : at_ h l r (h.length + (l.length - 1) + 1 + 1) = some (l.getD 0 0 + r) := by
      rw [at_loop hl (by omega), show h.length + (l.length - 1) + 1 + 1 - h.length - 1 = 0 + l.length by omega, walk_add l0, walk_lt l0]
    obtain ⟨u, hu, le⟩ := A.up _ _ (by omega) e
    rw [al (l.length - 1) (by omega)] at hu
    injection hu with hu
    omega
theorem at_fin (g : Good h l r) (c : l = [] ∨ r = 0) {n : Nat} (hn : h.length < n) : at_ h l r n = fin_ l r := by
  unfold fin_
  by_cases hl : l = []
  · rw [if_pos (.inl hl)]
    unfold at_
    rw [if_neg (by omega), if_pos hl]
  · have hr := c.resolve_left hl
    rw [if_neg (fun z => z.elim hl fun z => by omega), at_loop hl hn]
    have l0 := len_pos hl
    congr 1
    unfold walk
    rw [hr, Int.zero_mul, Int.add_zero]
    have hi := Nat.mod_lt (n - h.length - 1) l0
    generalize (n - h.length - 1) % l.length = i at hi
    have up : ∀ i d, i + d < l.length → l.getD i 0 ≤ l.getD (i + d) 0 := fun i d => by
      induction d with
      | zero => exact fun _ => Int.le_refl _
      | succ d ih => exact fun q => Int.le_trans (ih (by omega)) (climbs_up g.lp q)
    have e1 := up 0 i (by omega)
    have e2 := up i (l.length - 1 - i) (by omega)
    rw [Nat.zero_add] at e1
    rw [show i + (l.length - 1 - i) = l.length - 1 by omega] at e2
    have := g.last hl
    omega
theorem val_mono (g : Good h l r) {a b : Nat} (le : a ≤ b) {v : Int} (e : val_ h l r (some b) = some v) : ∃ u, val_ h l r (some a) = some u ∧ u ≤ v ∧ 0 ≤ u := by
  have A := asc_at g
  unfold val_ at e ⊢
  dsimp only at e ⊢
  by_cases ha : a = 0
  · rw [if_pos ha]
    refine ⟨0, rfl, ?_, Int.le_refl _⟩
    by_cases hb : b = 0
    · rw [if_pos hb] at e
      injection e with e
      omega
    · rw [if_neg hb] at e
      exact A.ge _ _ (by omega) e
  · rw [if_neg ha]
    rw [if_neg (by omega)] at e
    obtain ⟨d, rfl⟩ : ∃ d, b = a + d := ⟨b - a, by omega⟩
    obtain ⟨u, hu, le2⟩ := A.below (by omega) e
    exact ⟨u, hu, le2, A.ge _ _ (by omega) hu⟩
theorem val_fin (g : Good h l r) {v : Int} (e : fin_ l r = some v) (a : Nat) : ∃ u, val_ h l r (some a) = some u ∧ u ≤ v ∧ 0 ≤ u := by
  have c : l = [] ∨ r = 0 := by
    unfold fin_ at e
    by_cases q : l = [] ∨ 0 < r
    · rw [if_pos q] at e
      cases e
    · have := g.r0
      right
      have : ¬ 0 < r := fun z => q (.inr z)
      omega
  refine val_mono g (b := a + h.length + 1) (by omega) ?_
  unfold val_
  dsimp only
  rw [if_neg (by omega), at_fin g c (by omega), e]
end
/-! ### the values of one table at the values of another one -/
section
variable {h1 l1 h2 l2 : List Int} {r1 r2 : Int}
def beh (h1 l1 : List Int) (r1 : Int) (h2 l2 : List Int) (r2 : Int) (n : Nat) : Option Int := val_ h1 l1 r1 ((at_ h2 l2 r2 n).map Int.toNat)
theorem beh_asc (g1 : Good h1 l1 r1) (g2 : Good h2 l2 r2) : Asc (beh h1 l1 r1 h2 l2 r2) := by
  have A := asc_at g2
  refine ⟨fun n v hn e => ?_, fun n v hn e => ?_⟩
  · unfold beh at e
    cases q : at_ h2 l2 r2 n with
    | none =>
      rw [q] at e
      obtain ⟨u, _, h, h'⟩ := val_fin g1 e 0
      omega
    | some k =>
      rw [q] at e
      obtain ⟨u, h0, _, h⟩ := val_mono g1 (Nat.le_refl _) e
      have : some u = some v := h0.symm.trans e
      injection this with this
      omega
  · unfold beh at e ⊢
    cases q : at_ h2 l2 r2 (n + 1) with
    | none =>
      rw [q] at e
      cases q2 : at_ h2 l2 r2 n with
      | none => exact ⟨v, e, Int.le_refl _⟩
      | some k =>
        obtain ⟨u, h0, h, _⟩ := val_fin g1 e k.toNat
        exact ⟨u, h0, h⟩
    | some k =>
      rw [q] at e
      obtain ⟨j, hj, le⟩ := A.up n k hn q
      rw [hj]
      obtain ⟨u, h0, h, _⟩ := val_mono g1 (show j.toNat ≤ k.toNat by omega) e
      exact ⟨u, h0, h⟩
theorem beh_end (g2 : Good h2 l2 r2) (c : l2 = [] ∨ r2 = 0) {n : Nat} (hn : h2.length < n) : beh h1 l1 r1 h2 l2 r2 n = val_ h1 l1 r1 ((fin_ l2 r2).map Int.toNat) := by
  unfold beh
  rw [at_fin g2 c hn]
theorem beh_far {n : Nat} {v : Int} (e : at_ h2 l2 r2 n = some v) (hv : (h1.length : Int) < v) : beh h1 l1 r1 h2 l2 r2 n = at_ h1 l1 r1 v.toNat := by
  unfold beh
  rw [e]
  show val_ h1 l1 r1 (some v.toNat) = _
  unfold val_
  dsimp only
  rw [if_neg (by omega)]
theorem beh_flat (g1 : Good h1 l1 r1) (c : l1 = [] ∨ r1 = 0) {n : Nat} {v : Int} (e : at_ h2 l2 r2 n = some v) (hv : (h1.length : Int) < v) : beh h1 l1 r1 h2 l2 r2 n = fin_ l1 r1 := by
  rw [beh_far e hv, at_fin g1 c (by omega)]
theorem beh_some (n1 : l1 ≠ []) (n2 : l2 ≠ []) (n : Nat) : beh h1 l1 r1 h2 l2 r2 n ≠ none := by
  unfold beh
  rw [at_some n (.inr n2)]
  show val_ h1 l1 r1 (some _) ≠ none
  unfold val_
  dsimp only
  by_cases c : (num h2 l2 r2 n).toNat = 0
  · rw [if_pos c]
    exact fun z => by cases z
  · rw [if_neg c, at_some _ (.inr n1)]
    exact fun z => by cases z
theorem beh_per (n1 : l1 ≠ []) (n2 : l2 ≠ []) {lead q : Nat} {rq gg : Nat} (hq : l1.length = gg * q) (hr : r2 = ((gg * rq : Nat) : Int)) (hl : h2.length ≤ lead) (far : ∀ n, lead < n → ∃ v, at_ h2 l2 r2 n = some v ∧ (h1.length : Int) < v) (n : Nat) (hn : lead < n) :
    numF (beh h1 l1 r1 h2 l2 r2) (n + l2.length * q) = numF (beh h1 l1 r1 h2 l2 r2) n + r1 * (rq : Int) := by
  obtain ⟨v, hv, lv⟩ := far n hn
  obtain ⟨v', hv', lv'⟩ := far (n + l2.length * q) (by omega)
  have e : v' = v + (l1.length : Int) * (rq : Int) := by
    have a := at_loop n2 (r := r2) (h := h2) (n := n) (by omega)
    have b := at_loop n2 (r := r2) (h := h2) (n := n + l2.length * q) (by omega)
    rw [hv] at a
    rw [hv', show n + l2.length * q - h2.length - 1 = (n - h2.length - 1) + l2.length * q by omega, walk_add_mul (len_pos n2)] at b
    injection a with a
    injection b with b
    rw [b, a, hr, hq, Int.natCast_mul, Int.natCast_mul, Int.mul_assoc, Int.mul_assoc, Int.mul_comm (rq : Int) (q : Int)]
  unfold numF
  rw [beh_far hv lv, beh_far hv' lv', at_loop n1 (by omega), at_loop n1 (by omega)]
  show walk l1 r1 _ = walk l1 r1 _ + _
  have e3 : v'.toNat - h1.length - 1 = (v.toNat - h1.length - 1) + l1.length * rq := by
    have : (l1.length : Int) * (rq : Int) = ((l1.length * rq : Nat) : Int) := (Int.natCast_mul _ _).symm
    omega
  rw [e3, walk_add_mul (len_pos n1)]
end
end NT
namespace NT
section
variable {h l : List Int} {r : Int}
theorem at_bound {B R : Int} (hh : ∀ i, i < h.length → h.getD i 0 ≤ B) (hl : ∀ i, i < l.length → l.getD i 0 ≤ B) (r0 : 0 ≤ r) (hr : r ≤ R) (R0 : 0 ≤ R) {n : Nat} (hn : 1 ≤ n) {v : Int} (e : at_ h l r n = some v) : v ≤ B + R * (n : Int) := by
  have Rn : 0 ≤ R * (n : Int) := Int.mul_nonneg R0 (by omega)
  unfold at_ at e
  by_cases c : n ≤ h.length
  · rw [if_pos c] at e
    injection e with e
    have := hh (n - 1) (by omega)
    omega
  · rw [if_neg c] at e
    by_cases z : l = []
    · rw [if_pos z] at e
      cases e
    · rw [if_neg z] at e
      injection e with e
      unfold walk at e
      have a := hl ((n - h.length - 1) % l.length) (Nat.mod_lt _ (len_pos z))
      have b : (n - h.length - 1) / l.length ≤ n := Nat.le_trans (Nat.div_le_self _ _) (by omega)
      have c1 : r * (((n - h.length - 1) / l.length : Nat) : Int) ≤ R * (n : Int) := Int.mul_le_mul hr (Int.ofNat_le.mpr b) (Int.natCast_nonneg _) R0
      omega
/-- all that a form names is less than a bound -/
structure Few (x : List Int × List Int × Int) (B : Int) : Prop where
  v : ∀ n v, 1 ≤ n → n ≤ x.1.length + x.2.1.length → at_ x.1 x.2.1 x.2.2 n = some v → 0 ≤ v ∧ v < B
  r0 : 0 ≤ x.2.2
  r1 : x.2.2 < B
theorem plain_at {x : List Int × List Int × Int} (p : IsPlain h l r x) (n : Nat) (hn : 1 ≤ n) : at_ x.1 x.2.1 x.2.2 n = at_ h l r n := by
  rcases p with ⟨rfl, rfl⟩ | ⟨_, _, _, _, e⟩
  · rfl
  · exact e n hn
theorem plain_few {x : List Int × List Int × Int} {B : Int} (p : IsPlain h l r x) (f : Few (h, l, r) B) : Few x B := by
  have z := plain_size p
  refine ⟨fun n v hn h2 e => f.v n v hn ?_ ((plain_at p n hn).symm.trans e), (z.2.2.2.2.1 f.r0).1, Int.lt_of_le_of_lt (z.2.2.2.2.1 f.r0).2 f.r1⟩
  have := z.1
  have := z.2.1
  dsimp only
  omega
theorem few_head {x : List Int × List Int × Int} {B : Int} (f : Few x B) {i : Nat} (hi : i < x.1.length) : 0 ≤ x.1.getD i 0 ∧ x.1.getD i 0 < B := by
  refine f.v (i + 1) _ (by omega) (by omega) ?_
  unfold at_
  rw [if_pos (by omega), Nat.add_sub_cancel]
theorem few_loop {x : List Int × List Int × Int} {B : Int} (f : Few x B) {i : Nat} (hi : i < x.2.1.length) : 0 ≤ x.2.1.getD i 0 ∧ x.2.1.getD i 0 < B := by
  refine f.v (x.1.length + i + 1) _ (by omega) (by omega) ?_
  rw [at_loop (fun z => by rw [z] at hi; simp at hi) (by omega), show x.1.length + i + 1 - x.1.length - 1 = i by omega, walk_lt hi]
theorem plain_fin {x : List Int × List Int × Int} (g : Good h l r) (p : IsPlain h l r x) : Good x.1 x.2.1 x.2.2 ∧ fin_ x.2.1 x.2.2 = fin_ l r := by
  have z := plain_size p
  have gx : Good x.1 x.2.1 x.2.2 := by
    refine good_of ?_ (z.2.2.2.2.1 g.r0).1 fun hl => ?_
    · have A := asc_at g
      refine ⟨fun n v hn e => A.ge n v hn ((plain_at p n hn).symm.trans e), fun n v hn e => ?_⟩
      obtain ⟨u, hu, le⟩ := A.up n v hn ((plain_at p (n + 1) (by omega)).symm.trans e)
      exact ⟨u, (plain_at p n hn).trans hu, le⟩
    · by_cases q : l = []
      · rw [z.2.2.2.2.2.2 q]
      · exact absurd hl (z.2.2.1 q)
  refine ⟨gx, ?_⟩
  by_cases q : l = []
  · have hx := z.2.2.2.1 q
    unfold fin_
    rw [if_pos (.inl hx), if_pos (.inl q)]
  · have hx := z.2.2.1 q
    have hr := z.2.2.2.2.2.1 q
    by_cases q2 : 0 < r
    · unfold fin_
      rw [if_pos (.inr (hr.mp q2)), if_pos (.inr q2)]
    · have r0 : r = 0 := by have := g.r0; omega
      have rx : x.2.2 = 0 := by
        have := gx.r0
        have : ¬ 0 < x.2.2 := fun y => q2 (hr.mpr y)
        omega
      rw [← at_fin gx (.inr rx) (n := x.1.length + h.length + 1) (by omega), ← at_fin g (.inr r0) (n := x.1.length + h.length + 1) (by omega)]
      exact plain_at p _ (by omega)
theorem val_plain {x : List Int × List Int × Int} (g : Good h l r) (p : IsPlain h l r x) (n : Option Nat) : val_ x.1 x.2.1 x.2.2 n = val_ h l r n := by
  unfold val_
  cases n with
  | none => exact (plain_fin g p).2
  | some n =>
    dsimp only
    by_cases c : n = 0
    · rw [if_pos c, if_pos c]
    · rw [if_neg c, if_neg c]
      exact plain_at p n (by omega)
end
theorem beh_plain {h1 l1 h2 l2 : List Int} {r1 r2 : Int} {x y : List Int × List Int × Int} (g1 : Good h1 l1 r1) (p1 : IsPlain h1 l1 r1 x) (p2 : IsPlain h2 l2 r2 y) (n : Nat) (hn : 1 ≤ n) : beh x.1 x.2.1 x.2.2 y.1 y.2.1 y.2.2 n = beh h1 l1 r1 h2 l2 r2 n := by
  unfold beh
  rw [plain_at p2 n hn, val_plain g1 p1]
/-- what is not after a place at which a bound is passed -/
theorem far_of {h l : List Int} {r : Int} (g : Good h l r) (hl : l ≠ []) {lead : Nat} {lim : Int} (e : lim < num h l r (lead + 1)) (n : Nat) (hn : lead < n) : ∃ v, at_ h l r n = some v ∧ lim < v := by
  refine ⟨_, at_some n (.inr hl), ?_⟩
  have := (asc_at g).mono (m := lead + 1) (n := n) (by omega) (by omega) (by rw [at_some n (.inr hl)]; exact fun z => by cases z)
  exact Int.lt_of_lt_of_le e this
end NT
set_option linter.all false
set_option maxHeartbeats 4000000
/-! Deeds of makers: none gives a piece, some i takes one at inlet i. Plain Lean. -/
namespace NT
abbrev Deed := Option Nat
/-- how many pieces are taken at inlet i -/
def took (i : Nat) : List Deed → Nat
  | [] => 0
  | none :: ds => took i ds
  | some j :: ds => (if j = i then 1 else 0) + took i ds
/-- for each give how many pieces are taken at inlet i ahead of it, t of them before -/
def ahead (i : Nat) : List Deed → Int → List Int
  | [], _ => []
  | none :: ds, t => t :: ahead i ds t
  | some j :: ds, t => ahead i ds (if j = i then t + 1 else t)
theorem took_app {i : Nat} : ∀ {a b : List Deed}, took i (a ++ b) = took i a + took i b
  | [], b => by simp [took]
  | none :: a, b => by simp only [List.cons_append, took]; exact took_app
  | some j :: a, b => by simp only [List.cons_append, took]; rw [took_app]; omega
theorem ahead_app {i : Nat} : ∀ {a b : List Deed} {t : Int}, ahead i (a ++ b) t = ahead i a t ++ ahead i b (t + (took i a : Int))
  | [], b, t => by simp [took, ahead]
  | none :: a, b, t => by simp only [List.cons_append, took, ahead]; rw [ahead_app]
  | some j :: a, b, t => by
    simp only [List.cons_append, took, ahead]
    rw [ahead_app]
    congr 2
    by_cases h : j = i
    · rw [if_pos h, if_pos h]; omega
    · rw [if_neg h, if_neg h]; omega
theorem ahead_add {i : Nat} : ∀ {a : List Deed} {t c : Int}, ahead i a (t + c) = (ahead i a t).map (· + c)
  | [], _, _ => rfl
  | none :: a, t, c => by simp only [ahead, List.map_cons]; rw [ahead_add]
  | some j :: a, t, c => by
    simp only [ahead]
    by_cases h : j = i
    · rw [if_pos h, if_pos h, show t + c + 1 = t + 1 + c by omega, ahead_add]
    · rw [if_neg h, if_neg h, ahead_add]
theorem ahead_off {i : Nat} {a : List Deed} {t : Int} : ahead i a t = (ahead i a 0).map (t + ·) := by
  have := ahead_add (i := i) (a := a) (t := 0) (c := t)
  rw [Int.zero_add] at this
  rw [this]
  exact List.map_congr_left fun x _ => Int.add_comm _ _
theorem ahead_len {i : Nat} : ∀ {a : List Deed} {t : Int}, (ahead i a t).length ≤ a.length
  | [], _ => Nat.le_refl _
  | none :: a, t => by simp only [ahead, List.length_cons]; exact Nat.succ_le_succ ahead_len
  | some j :: a, t => by simp only [ahead, List.length_cons]; exact Nat.le_succ_of_le ahead_len
theorem took_len {i : Nat} : ∀ {a : List Deed}, took i a ≤ a.length
  | [] => Nat.le_refl _
  | none :: a => by simp only [took, List.length_cons]; exact Nat.le_succ_of_le took_len
  | some j :: a => by
    have := took_len (i := i) (a := a)
    simp only [took, List.length_cons]
    by_cases h : j = i
    · rw [if_pos h]; omega
    · rw [if_neg h]; omega
theorem ahead_climbs {i : Nat} : ∀ {a : List Deed} {lo t : Int}, lo ≤ t → climbs lo (ahead i a t)
  | [], _, _, _ => trivial
  | none :: a, lo, t, h => ⟨h, ahead_climbs (Int.le_refl t)⟩
  | some j :: a, lo, t, h => by
    simp only [ahead]
    by_cases e : j = i
    · rw [if_pos e]; exact ahead_climbs (by omega)
    · rw [if_neg e]; exact ahead_climbs h
theorem ahead_le {i : Nat} : ∀ {a : List Deed} {t : Int}, ∀ x ∈ ahead i a t, t ≤ x ∧ x ≤ t + (took i a : Int)
  | [], _, x, h => nomatch h
  | none :: a, t, x, h => by
    simp only [ahead, took] at h ⊢
    rcases List.mem_cons.mp h with rfl | h
    · omega
    · exact ahead_le x h
  | some j :: a, t, x, h => by
    simp only [ahead, took] at h ⊢
    by_cases e : j = i
    · rw [if_pos e] at h ⊢
      have := ahead_le x h
      omega
    · rw [if_neg e] at h ⊢
      have := ahead_le x h
      omega
theorem ahead_nil {i : Nat} : ∀ {a : List Deed} {t : Int}, ahead i a t = [] ↔ none ∉ a
  | [], _ => by simp [ahead]
  | none :: a, t => by simp [ahead]
  | some j :: a, t => by simp only [ahead]; rw [ahead_nil]; simp
theorem took_snoc {i : Nat} {a : List Deed} {d : Deed} : took i (a ++ [d]) = match d with
  | none => took i a
  | some j => if j = i then took i a + 1 else took i a := by
  rw [took_app]
  cases d with
  | none => rfl
  | some j =>
    show took i a + ((if j = i then 1 else 0) + 0) = if j = i then took i a + 1 else took i a
    split <;> omega
theorem ahead_snoc {i : Nat} {a : List Deed} {d : Deed} : ahead i (a ++ [d]) 0 = match d with
  | none => ahead i a 0 ++ [(took i a : Int)]
  | some _ => ahead i a 0 := by
  rw [ahead_app, Int.zero_add]
  cases d with
  | none => rfl
  | some j => exact List.append_nil _
/-- the need at inlet i: first these deeds, then those for ever -/
def needT (i : Nat) (b c : List Deed) : List Int × List Int × Int :=
  (ahead i b 0, ahead i c (took i b : Int), if ahead i c (took i b : Int) = [] then 0 else (took i c : Int))
theorem getD_mem {l : List Int} {k : Nat} (h : k < l.length) : l.getD k 0 ∈ l := by
  rw [List.getD_eq_getElem?_getD, List.getElem?_eq_getElem h]
  exact List.getElem_mem h
theorem needT_good (i : Nat) (b c : List Deed) : Good (needT i b c).1 (needT i b c).2.1 (needT i b c).2.2 := by
  unfold needT
  refine ⟨ahead_climbs (Int.le_refl 0), ahead_climbs (by omega), fun h1 h2 => ?_, ?_, fun h => if_pos h, fun h => ?_⟩
  · dsimp only at h1 h2
    have p1 := List.length_pos_iff.mpr h1
    have p2 := List.length_pos_iff.mpr h2
    have q1 := ahead_le _ (getD_mem (l := ahead i b 0) (k := (ahead i b 0).length - 1) (by omega))
    have q2 := ahead_le _ (getD_mem (l := ahead i c (took i b : Int)) (k := 0) p2)
    dsimp only
    omega
  · dsimp only
    split <;> omega
  · dsimp only at h ⊢
    rw [if_neg h]
    have p2 := List.length_pos_iff.mpr h
    have q1 := ahead_le _ (getD_mem (l := ahead i c (took i b : Int)) (k := 0) p2)
    have q2 := ahead_le _ (getD_mem (l := ahead i c (took i b : Int)) (k := (ahead i c (took i b : Int)).length - 1) (by omega))
    omega
/-- so often -/
def rep (c : List Deed) : Nat → List Deed
  | 0 => []
  | k + 1 => c ++ rep c k
theorem walk_shift {l : List Int} {r c : Int} {q : Nat} (h : 0 < l.length) : walk (l.map (· + c)) r q = walk l r q + c := by
  unfold walk
  rw [List.length_map, List.getD_eq_getElem?_getD, List.getD_eq_getElem?_getD, List.getElem?_map, List.getElem?_eq_getElem (Nat.mod_lt _ h)]
  show _ + c + _ = _
  show l[q % l.length]'(Nat.mod_lt _ h) + c + _ = l[q % l.length]'(Nat.mod_lt _ h) + _ + c
  omega
theorem rep_walk {i : Nat} {c : List Deed} : ∀ {k : Nat} {t : Int} {q : Nat}, q < k * (ahead i c t).length → q < (ahead i (rep c k) t).length ∧ (ahead i (rep c k) t).getD q 0 = walk (ahead i c t) (took i c : Int) q
  | 0, _, _, h => by omega
  | k + 1, t, q, h => by
    have l0 : 0 < (ahead i c t).length := by
      rcases Nat.eq_zero_or_pos (ahead i c t).length with z | z
      · rw [z] at h; omega
      · exact z
    have e : (ahead i c (t + (took i c : Int))) = (ahead i c t).map (· + (took i c : Int)) := ahead_add
    have el : (ahead i c (t + (took i c : Int))).length = (ahead i c t).length := by rw [e, List.length_map]
    simp only [rep]
    rw [ahead_app, List.length_append]
    by_cases z : q < (ahead i c t).length
    · refine ⟨by omega, ?_⟩
      rw [List.getD_eq_getElem?_getD, List.getElem?_append_left z, ← List.getD_eq_getElem?_getD, walk_lt z]
    · have h2 : q - (ahead i c t).length < k * (ahead i c (t + (took i c : Int))).length := by
        rw [el]
        rw [Nat.succ_mul] at h
        omega
      obtain ⟨r1, r2⟩ := rep_walk h2
      refine ⟨by omega, ?_⟩
      rw [List.getD_eq_getElem?_getD, List.getElem?_append_right (by omega), ← List.getD_eq_getElem?_getD, r2, e, walk_shift l0]
      have := walk_add (l := ahead i c t) (r := (took i c : Int)) l0 (q - (ahead i c t).length)
      rw [show q - (ahead i c t).length + (ahead i c t).length = q by omega] at this
      exact this.symm
theorem rep_none {i : Nat} {c : List Deed} (h : ∀ t, ahead i c t = []) : ∀ {k : Nat} {t : Int}, ahead i (rep c k) t = []
  | 0, _ => rfl
  | k + 1, t => by simp only [rep]; rw [ahead_app, h, rep_none h]; rfl
/-- the need, place by place, as it comes by walking -/
theorem needT_at {i : Nat} {b c : List Deed} {k n : Nat} (hn : 1 ≤ n) (hk : n ≤ k) : at_ (needT i b c).1 (needT i b c).2.1 (needT i b c).2.2 n = (ahead i (b ++ rep c k) 0)[n - 1]? := by
  unfold needT
  dsimp only
  rw [ahead_app, Int.zero_add]
  by_cases h : n ≤ (ahead i b 0).length
  · unfold at_
    rw [if_pos h, List.getElem?_append_left (by omega), List.getD_eq_getElem?_getD, List.getElem?_eq_getElem (by omega)]
    rfl
  · rw [List.getElem?_append_right (by omega)]
    by_cases z : ahead i c (took i b : Int) = []
    · unfold at_
      rw [if_neg h, if_pos z, rep_none fun t => ahead_nil.mpr (ahead_nil.mp z)]
      rfl
    · have l0 := List.length_pos_iff.mpr z
      rw [at_loop z (by omega), if_neg z]
      have lt : n - 1 - (ahead i b 0).length < k * (ahead i c (took i b : Int)).length := Nat.lt_of_lt_of_le (show n - 1 - (ahead i b 0).length < k by omega) (Nat.le_mul_of_pos_right _ l0)
      obtain ⟨r1, r2⟩ := rep_walk lt
      rw [List.getElem?_eq_getElem r1]
      rw [List.getD_eq_getElem?_getD, List.getElem?_eq_getElem r1] at r2
      rw [show n - (ahead i b 0).length - 1 = n - 1 - (ahead i b 0).length by omega, ← r2]
      rfl
end NT
set_option Elab.async false
set_option linter.all false
set_option maxRecDepth 100000
set_option maxHeartbeats 4000000
/-! A comprehension over a list or a tuple; rows of deeds. -/
namespace NF
open PySem PySem.Spec PyProof.Rows L2 He RZ NT
theorem lc_row {K : PySem.W.Frag} {a : Addr} {xs : List V} {g : TG} {tt : TT} {te : TE} {vs : List Nat} {σ : L2.St} {H1 : Hp} {Qd : Addr → Hp → Prop} (hr : Row K H1 a xs) (Pv : Addr → Nat → Hp → Prop) (h0 : ∀ D, H1 D = none → Pv D 0 (upd H1 D (.lst [])))
    (hl : ∀ D i H, H1 D = none → Pv D i H → Same H1 H)
    (hs : ∀ D, H1 D = none → ∀ i x H, xs[i]? = some x → Pv D i H → g x (wipe σ vs) H fun σ2 H2 => wipe σ2 vs = wipe σ vs ∧ tt σ2 H2 fun b H3 =>
      if b = true then te σ2 H3 fun y H4 => ∃ acc, H4 D = some (.lst acc) ∧ acc.length < sizeLine ∧ Pv D (i + 1) (upd H4 D (.lst (acc ++ [y]))) else Pv D (i + 1) H3) (hd : ∀ D, H1 D = none → ∀ H, Pv D xs.length H → Qd D H) :
    ((∃ xs, SqL K H1 a xs) ∧ ∀ D, H1 D = none → ∃ W : Nat → Nat → Hp → Prop, (∃ m, W 0 m (upd H1 D (.lst []))) ∧ ∀ i m H, W i m H →
      ((Itl K a).stop i H ∧ Qd D H) ∨ ((Itl K a).go i H ∧ ∃ Nx : Hp → Prop, (∀ H', Nx H' → ∃ m', m' < m ∧ W (i + 1) m' H') ∧ ∀ x H', (Itl K a).yld i H x H' → g x (wipe σ vs) H' fun σ2 H2 => wipe σ2 vs = wipe σ vs ∧ tt σ2 H2 fun b H3 =>
        if b = true then te σ2 H3 fun y H4 => ∃ acc, H4 D = some (.lst acc) ∧ acc.length < sizeLine ∧ Nx (upd H4 D (.lst (acc ++ [y]))) else Nx H3)) ∨
    ((∃ xs, SqT K H1 a xs) ∧ ∀ D, H1 D = none → ∃ W : Nat → Nat → Hp → Prop, (∃ m, W 0 m (upd H1 D (.lst []))) ∧ ∀ i m H, W i m H →
      ((Itt K a).stop i H ∧ Qd D H) ∨ ((Itt K a).go i H ∧ ∃ Nx : Hp → Prop, (∀ H', Nx H' → ∃ m', m' < m ∧ W (i + 1) m' H') ∧ ∀ x H', (Itt K a).yld i H x H' → g x (wipe σ vs) H' fun σ2 H2 => wipe σ2 vs = wipe σ vs ∧ tt σ2 H2 fun b H3 =>
        if b = true then te σ2 H3 fun y H4 => ∃ acc, H4 D = some (.lst acc) ∧ acc.length < sizeLine ∧ Nx (upd H4 D (.lst (acc ++ [y]))) else Nx H3)) := by
  rcases hr with hr | hr
  · exact .inl ⟨⟨_, hr⟩, fun D hD => lc_list (Pv D) (h0 D hD) (fun i H _ p => L2.Same.seq (hl D i H hD p) hr) (hs D hD) (hd D hD)⟩
  · exact .inr ⟨⟨_, hr⟩, fun D hD => lc_tup (Pv D) (h0 D hD) (fun i H _ p => NF.Same.tup (hl D i H hD p) hr) (hs D hD) (hd D hD)⟩
theorem for_rowM {K : PySem.W.Frag} {a : Addr} {xs : List V} {g : TG} {tb : TS} {D : Ends} {σ : L2.St} {H H0 : Hp} (hr : Row K H0 a xs) (Pv : Nat → L2.St → Hp → Prop) (h0 : Pv 0 σ H) (hm : ∀ i σ H', Pv i σ H' → Same H0 H')
    (hs : ∀ i x σ H, xs[i]? = some x → Pv i σ H → g x σ H fun σ2 H2 => tb { D with nx := Pv (i + 1), ct := Pv (i + 1), bk := D.nx } σ2 H2) (hd : ∀ σ H, Pv xs.length σ H → D.nx σ H) :
    ((∃ xs, SqL K H a xs) ∧ (∃ W : Nat → Nat → L2.St → Hp → Prop, (∃ m, W 0 m σ H) ∧ ∀ i m σ H, W i m σ H →
      ((Itl K a).stop i H ∧ D.nx σ H) ∨ ((Itl K a).go i H ∧ ∃ N : L2.St → Hp → Prop, (∀ σ' H', N σ' H' → ∃ m', m' < m ∧ W (i + 1) m' σ' H') ∧ ∀ x H', (Itl K a).yld i H x H' → g x σ H' fun σ2 H2 => tb { D with nx := N, ct := N, bk := D.nx } σ2 H2))) ∨
    ((∃ xs, SqT K H a xs) ∧ (∃ W : Nat → Nat → L2.St → Hp → Prop, (∃ m, W 0 m σ H) ∧ ∀ i m σ H, W i m σ H →
      ((Itt K a).stop i H ∧ D.nx σ H) ∨ ((Itt K a).go i H ∧ ∃ N : L2.St → Hp → Prop, (∀ σ' H', N σ' H' → ∃ m', m' < m ∧ W (i + 1) m' σ' H') ∧ ∀ x H', (Itt K a).yld i H x H' → g x σ H' fun σ2 H2 => tb { D with nx := N, ct := N, bk := D.nx } σ2 H2))) := by
  rcases hr with hr | hr
  · exact .inl ⟨⟨_, L2.Same.seq (hm 0 σ H h0) hr⟩, for_list Pv h0 (fun i σ H' _ p => L2.Same.seq (hm i σ H' p) hr) hs hd⟩
  · exact .inr ⟨⟨_, NF.Same.tup (hm 0 σ H h0) hr⟩, for_tup Pv h0 (fun i σ H' _ p => NF.Same.tup (hm i σ H' p) hr) hs hd⟩
theorem cr_tupK {X : Cx} {K : PySem.W.Frag} (h : X.K = K := by rfl) : CallR X (.type "tuple") (rTupOf K) := h ▸ cr_tup
theorem call_list_ofK {X : Cx} {K : PySem.W.Frag} (h : X.K = K := by rfl) : CallR X (.type "list") (fun xs H Q => ∃ p ys, xs = [.ref p] ∧ (SqL K H p ys ∨ SqT K H p ys) ∧ ∀ l, H l = none → Q (.ref l) (upd H l (.lst ys))) := h ▸ call_list_of
theorem call_isiK {X : Cx} {K : PySem.W.Frag} (h : X.K = K := by rfl) : CallR X (.builtin "isinstance") (rIsi K) := h ▸ call_isi
/-- a deed -/
def dV : Deed → V
  | none => .str "give"
  | some i => .int (i : Int)
theorem dV_give {d : Deed} : decide (dV d = V.str "give") = d.isNone := by
  cases d with
  | none => exact decide_eq_true rfl
  | some i => exact decide_eq_false fun z => by cases z
theorem dV_int {j i : Nat} : decide (dV (some j) = V.int (i : Int)) = decide (j = i) := by
  by_cases h : j = i
  · subst h
    rw [decide_eq_true rfl]
    exact decide_eq_true rfl
  · rw [decide_eq_false h]
    exact decide_eq_false fun z => h (by injection z with z; omega)
theorem dV_scal {d : Deed} {s : Str} : scal (dV d) (.str s) = true := by cases d <;> rfl
theorem dV_scalI {d : Deed} {i : Int} : scal (dV d) (.int i) = true := by cases d <;> rfl
/-- rows of deeds, each one at its own address -/
def WaysR (K : PySem.W.Frag) (H : Hp) (pw : Addr) (ws : List (List Deed)) : Prop := ∃ as : List Addr, Row K H pw (as.map V.ref) ∧ as.length = ws.length ∧ ∀ (j : Nat) (a : Addr) (w : List Deed), as[j]? = some a → ws[j]? = some w → Row K H a (w.map dV)
def WaysT (K : PySem.W.Frag) (H : Hp) (pw : Addr) (ws : List (List Deed)) : Prop := ∃ as : List Addr, SqT K H pw (as.map V.ref) ∧ as.length = ws.length ∧ ∀ (j : Nat) (a : Addr) (w : List Deed), as[j]? = some a → ws[j]? = some w → SqT K H a (w.map dV)
theorem WaysT.r {K : PySem.W.Frag} {H : Hp} {pw : Addr} {ws : List (List Deed)} (h : WaysT K H pw ws) : WaysR K H pw ws := by
  obtain ⟨as, h1, h2, h3⟩ := h
  exact ⟨as, .inr h1, h2, fun j a w e1 e2 => .inr (h3 j a w e1 e2)⟩
theorem WaysR.mono {K : PySem.W.Frag} {H H' : Hp} {pw : Addr} {ws : List (List Deed)} (h : WaysR K H pw ws) (s : Same H H') : WaysR K H' pw ws := by
  obtain ⟨as, h1, h2, h3⟩ := h
  exact ⟨as, h1.mono s, h2, fun j a w e1 e2 => (h3 j a w e1 e2).mono s⟩
theorem WaysT.mono {K : PySem.W.Frag} {H H' : Hp} {pw : Addr} {ws : List (List Deed)} (h : WaysT K H pw ws) (s : Same H H') : WaysT K H' pw ws := by
  obtain ⟨as, h1, h2, h3⟩ := h
  exact ⟨as, NF.Same.tup s h1, h2, fun j a w e1 e2 => NF.Same.tup s (h3 j a w e1 e2)⟩
end NF
set_option Elab.async false
set_option linter.all false
set_option maxRecDepth 100000
set_option maxHeartbeats 4000000
/-! Deep == of rows of anything that is equal only to itself. -/
namespace NF
open PySem PySem.Spec PyProof.Rows L2 He RZ NT
theorem iteT' {b : Bool} {A B : Prop} (e : b = true) (h : A) : if b = true then A else B := by rw [e]; exact iteT h
theorem iteF' {b : Bool} {A B : Prop} (e : b = false) (h : B) : if b = true then A else B := by rw [e]; exact iteF h
theorem eqv_map {α : Type} [DecidableEq α] {f : α → PyData} (h : ∀ a b, PyData.eqv (f a) (f b) = decide (a = b)) : ∀ a b : List α, PyData.eqvAll (a.map f) (b.map f) = decide (a = b)
  | [], [] => rfl
  | [], _ :: _ => rfl
  | _ :: _, [] => rfl
  | x :: a, y :: b => by
    show (PyData.eqv (f x) (f y) && PyData.eqvAll (a.map f) (b.map f)) = _
    rw [eqv_map h a b, h]
    by_cases h1 : x = y <;> by_cases h2 : a = b <;> simp [h1, h2]
theorem lay_map {α : Type} {f : α → PyData} : ∀ (l : List α), (∀ a ∈ l, PyData.canLay0 (f a) = true) → PyData.canLayAll0 (l.map f) = true
  | [], _ => rfl
  | a :: l, h => by
    show (PyData.canLay0 (f a) && PyData.canLayAll0 (l.map f)) = true
    rw [h a List.mem_cons_self, lay_map l fun b hb => h b (List.mem_cons_of_mem _ hb)]
    rfl
theorem depth_map {α : Type} {f : α → PyData} {n : Nat} : ∀ (l : List α), (∀ a ∈ l, PyData.depth (f a) ≤ n) → PyData.depthAll (l.map f) ≤ n
  | [], _ => Nat.zero_le _
  | a :: l, h => by
    show max (PyData.depth (f a)) (PyData.depthAll (l.map f)) ≤ n
    have := h a List.mem_cons_self
    have := depth_map l fun b hb => h b (List.mem_cons_of_mem _ hb)
    omega
theorem shaped_map {α : Type} {f : α → PyData} {n : Nat} (l : List α) (h1 : ∀ a ∈ l, PyData.canLay0 (f a) = true) (h2 : ∀ a ∈ l, PyData.depth (f a) ≤ n) (h3 : n ≤ 60) : SeqAt.shaped (.tuple (l.map f)) = true := by
  show (PyData.canLayAll0 (l.map f) && decide (PyData.depthAll (l.map f) + 1 ≤ 64)) = true
  rw [lay_map l h1, decide_eq_true (by have := depth_map l h2; omega)]
  rfl
/-- a deed as data -/
def dataD : Deed → PyData
  | none => .str "give"
  | some i => .int (i : Int)
theorem eqv_dP : ∀ a b : Deed, PyData.eqv (dataD a) (dataD b) = decide (a = b)
  | none, none => by decide
  | none, some _ => rfl
  | some _, none => rfl
  | some i, some j => by
    show ((i : Int) == (j : Int)) = _
    by_cases h : i = j
    · subst h
      simp
    · rw [decide_eq_false (fun z => h (by injection z))]
      exact beq_eq_false_iff_ne.mpr fun z => h (by omega)
theorem lay_dP (a : Deed) : PyData.canLay0 (dataD a) = true := by
  cases a with
  | none => decide +kernel
  | some i => rfl
theorem depth_dP (a : Deed) : PyData.depth (dataD a) ≤ 0 := by cases a <;> exact Nat.le_refl _
theorem dp_deeds {K : PySem.W.Frag} {H : Hp} : ∀ l : List Deed, DpAll K H (l.map dV) (l.map dataD)
  | [] => .nil
  | none :: l => .cons (.str _) (dp_deeds l)
  | some i :: l => .cons (.int _) (dp_deeds l)
def dataW (w : List Deed) : PyData := .tuple (w.map dataD)
theorem eqv_wP (a b : List Deed) : PyData.eqv (dataW a) (dataW b) = decide (a = b) := eqv_map eqv_dP a b
theorem lay_wP (a : List Deed) : PyData.canLay0 (dataW a) = true := lay_map a fun d _ => lay_dP d
theorem depth_wP (a : List Deed) : PyData.depth (dataW a) ≤ 1 := by
  show PyData.depthAll (a.map dataD) + 1 ≤ 1
  have := depth_map a fun d _ => depth_dP d
  omega
theorem shaped_wP (a : List Deed) : SeqAt.shaped (dataW a) = true := shaped_map a (fun d _ => lay_dP d) (fun d _ => depth_dP d) (by decide)
theorem dp_way {K : PySem.W.Frag} {H : Hp} {a : Addr} {w : List Deed} (h : SqT K H a (w.map dV)) : Dp K H (.ref a) (dataW w) := .tup h (dp_deeds w)
theorem dp_waysL {K : PySem.W.Frag} {H : Hp} : ∀ (as : List Addr) (ws : List (List Deed)), as.length = ws.length → (∀ (j : Nat) (a : Addr) (w : List Deed), as[j]? = some a → ws[j]? = some w → SqT K H a (w.map dV)) → DpAll K H (as.map V.ref) (ws.map dataW)
  | [], [], _, _ => .nil
  | [], _ :: _, h, _ => nomatch h
  | _ :: _, [], h, _ => nomatch h
  | a :: as, w :: ws, h, q => .cons (dp_way (q 0 a w rfl rfl)) (dp_waysL as ws (by simpa using h) fun j a' w' e1 e2 => q (j + 1) a' w' (by simpa using e1) (by simpa using e2))
def dataWs (ws : List (List Deed)) : PyData := .tuple (ws.map dataW)
theorem eqv_wsP (a b : List (List Deed)) : PyData.eqv (dataWs a) (dataWs b) = decide (a = b) := eqv_map eqv_wP a b
theorem shaped_wsP (a : List (List Deed)) : SeqAt.shaped (dataWs a) = true := shaped_map a (fun w _ => lay_wP w) (fun w _ => depth_wP w) (by decide)
theorem dp_ways {K : PySem.W.Frag} {H : Hp} {pw : Addr} {ws : List (List Deed)} (h : WaysT K H pw ws) : Dp K H (.ref pw) (dataWs ws) := by
  obtain ⟨as, h1, h2, h3⟩ := h
  exact .tup h1 (dp_waysL as ws h2 h3)
theorem eqD_deeds {K : PySem.W.Frag} {H : Hp} {a b : Addr} {x y : List Deed} {Q : VK} (hx : SqT K H a (x.map dV)) (hy : SqT K H b (y.map dV)) (q : Q (.bl (decide (x = y))) H) : rEqD K (.ref a) (.ref b) H Q :=
  ⟨_, _, dp_way hx, dp_way hy, shaped_wP x, shaped_wP y, by rw [eqv_wP]; exact q⟩
theorem eqD_ways {K : PySem.W.Frag} {H : Hp} {a b : Addr} {x y : List (List Deed)} {Q : VK} (hx : WaysT K H a x) (hy : WaysT K H b y) (q : Q (.bl (decide (x = y))) H) : rEqD K (.ref a) (.ref b) H Q :=
  ⟨_, _, dp_ways hx, dp_ways hy, shaped_wsP x, shaped_wsP y, by rw [eqv_wsP]; exact q⟩
end NF
set_option Elab.async false
set_option linter.all false
set_option maxRecDepth 100000
set_option maxHeartbeats 0
namespace K24
open PySem PySem.Spec PyProof.Rows L2 He NF RZ
def top (i : Nat) : Stmt := PySem.Challenge.pw_needforth_k24_whole_needs_on_courses.main.body.getD i (.Pass ⟨0, 0, 0, 0⟩)
abbrev s__wall : Stmt := top 1
abbrev s_TooMany_init : Stmt := inClass (top 4) 0
abbrev s_BadCount_init : Stmt := inClass (top 5) 0
abbrev s_BadInlet_init : Stmt := inClass (top 6) 0
abbrev s_BadCourse_init : Stmt := inClass (top 7) 0
abbrev s_BadTable_init : Stmt := inClass (top 8) 0
abbrev s_BadMaker_init : Stmt := inClass (top 9) 0
abbrev s_is_integer : Stmt := top 11
abbrev s_is_count : Stmt := top 12
abbrev s_is_row : Stmt := top 13
abbrev s_is_pair : Stmt := top 14
abbrev s_is_climb : Stmt := top 15
abbrev s_end_of : Stmt := top 17
abbrev s_value_at : Stmt := top 18
abbrev s_values_from : Stmt := top 19
abbrev s_many_at_most : Stmt := top 20
abbrev s_last_at_most : Stmt := top 21
abbrev s_shortest_lap : Stmt := top 22
abbrev s_plain_form : Stmt := top 23
abbrev s_settled_form : Stmt := top 24
abbrev s_spread : Stmt := top 25
abbrev s_ladder_of : Stmt := top 27
abbrev s_least_in : Stmt := top 28
abbrev s_first_under : Stmt := top 29
abbrev s_last_under : Stmt := top 30
abbrev s_Chase_init : Stmt := inClass (top 31) 0
abbrev s_Chase_ladder_from : Stmt := inClass (top 31) 1
abbrev s_Chase_runners_of : Stmt := inClass (top 31) 2
abbrev s_Chase_greatest_lead : Stmt := inClass (top 31) 3
abbrev s_Chase_first_lead : Stmt := inClass (top 31) 4
abbrev s_Chase_last_lead : Stmt := inClass (top 31) 5
abbrev s_Chase_place_of : Stmt := inClass (top 31) 6
abbrev s_drift_of : Stmt := top 32
abbrev s_longest_head : Stmt := top 33
abbrev s_values_behind : Stmt := top 35
abbrev s_behind_form : Stmt := top 36
abbrev s_chosen : Stmt := top 37
abbrev s_settling : Stmt := top 38
abbrev s_joined_form : Stmt := top 39
abbrev s_both_form : Stmt := top 40
abbrev s_either_form : Stmt := top 41
abbrev s_turn_form : Stmt := top 42
abbrev s_check_table : Stmt := top 44
abbrev s_Table_init : Stmt := inClass (top 45) 0
abbrev s_Table_eq : Stmt := inClass (top 45) 1
abbrev s_Table_call : Stmt := inClass (top 45) 2
abbrev s_Table_end : Stmt := inClass (top 45) 3
abbrev s_Table_rate : Stmt := inClass (top 45) 4
abbrev s_Table_steady : Stmt := inClass (top 45) 5
abbrev s_Table_shift : Stmt := inClass (top 45) 6
abbrev s_Table_mul : Stmt := inClass (top 45) 7
abbrev s_Table_and : Stmt := inClass (top 45) 8
abbrev s_Table_or : Stmt := inClass (top 45) 9
abbrev s_Table_invert : Stmt := inClass (top 45) 10
abbrev s_Round_init : Stmt := inClass (top 47) 0
abbrev s_marks_along : Stmt := top 48
abbrev s_is_deed : Stmt := top 56
abbrev s_are_deeds : Stmt := top 57
abbrev s_are_ways : Stmt := top 58
abbrev s_check_maker : Stmt := top 59
abbrev s_are_numbers : Stmt := top 60
abbrev s_is_course : Stmt := top 61
abbrev s_check_inlet : Stmt := top 62
abbrev s_Maker_init : Stmt := inClass (top 63) 0
abbrev s_Maker_eq : Stmt := inClass (top 63) 1
abbrev s_Maker_need : Stmt := inClass (top 63) 2
abbrev s__law_source : Stmt := top 65
abbrev s__law_pick : Stmt := top 66
abbrev s__law_is_integer : Stmt := top 67
abbrev s__law_is_count : Stmt := top 68
abbrev s__law_plain : Stmt := top 69
abbrev s__law_same : Stmt := top 70
abbrev s__law_deeds : Stmt := top 71
abbrev s__law_maker : Stmt := top 72
abbrev s__law_made : Stmt := top 73
abbrev s__law_ahead : Stmt := top 74
abbrev s__law_on : Stmt := top 75
abbrev s__law_course : Stmt := top 76
abbrev s__law_walked : Stmt := top 77
abbrev s__law_asked : Stmt := top 78
abbrev s__law_other : Stmt := top 79
abbrev s_law : Stmt := top 80
def FS : List Str := ["len", "int", "abs", "range", "isinstance", "all", "bool", "tuple", "list", "zip", "divmod", "max", "min", "enumerate", "str", "sum", "sorted", "dict", "set"]
end K24
set_option Elab.async false
set_option linter.all false
set_option maxRecDepth 100000
set_option maxHeartbeats 0
namespace K24
open PySem PySem.Spec PyProof.Rows L2 He NF RZ
def e0 (K : PySem.W.Frag) : Addr := He.dflAt ("Table", some "__init__") 0 K
def fn : List Adr := ([dG "shortest_lap" s_shortest_lap, dG "plain_form" s_plain_form, dG "is_integer" s_is_integer, dG "is_count" s_is_count, dG "is_row" s_is_row, dG "is_climb" s_is_climb, dG "check_table" s_check_table, dM "Table" "__init__" "Table.__init__" s_Table_init [.adr e0, .int 0], dG "end_of" s_end_of, dG "value_at" s_value_at, dM "Table" "__call__" "Table.__call__" s_Table_call [], dG "is_deed" s_is_deed, dG "are_deeds" s_are_deeds, dG "are_ways" s_are_ways, dG "check_maker" s_check_maker, dM "Maker" "__init__" "Maker.__init__" s_Maker_init [], dM "Round" "__init__" "Round.__init__" s_Round_init [], dG "is_pair" s_is_pair, dG "are_numbers" s_are_numbers, dG "is_course" s_is_course] : List Adr) ++ ([dG "check_inlet" s_check_inlet, dG "marks_along" s_marks_along, dM "Maker" "__eq__" "Maker.__eq__" s_Maker_eq [], dM "Maker" "need" "Maker.need" s_Maker_need [], dG "_law_pick" s__law_pick, dG "_law_source" s__law_source, dG "_law_deeds" s__law_deeds, dG "_law_maker" s__law_maker, dG "_law_made" s__law_made, dG "_law_plain" s__law_plain, dG "_law_ahead" s__law_ahead, dG "_law_on" s__law_on, dG "_law_course" s__law_course, dG "_law_walked" s__law_walked, dG "_law_is_integer" s__law_is_integer, dG "_law_is_count" s__law_is_count, dG "_law_same" s__law_same, dG "_law_asked" s__law_asked, dG "_law_other" s__law_other, dG "law" s_law] : List Adr)
def gs : List Str := (["shortest_lap", "plain_form", "is_integer", "is_count", "is_row", "is_climb", "check_table", "end_of", "value_at", "is_deed", "are_deeds", "are_ways", "check_maker", "is_pair", "are_numbers", "is_course", "check_inlet", "marks_along", "_law_pick", "_law_source", "_law_deeds", "_law_maker", "_law_made", "_law_plain", "_law_ahead"] : List Str) ++ (["_law_on", "_law_course", "_law_walked", "_law_is_integer", "_law_is_count", "_law_same", "_law_asked", "_law_other", "law", "NeedforthError", "TooMany", "BadCount", "BadInlet", "BadCourse", "BadTable", "BadMaker", "Chase", "Table", "Round", "Maker"] : List Str)
def exL : List (PySem.W.Frag → Bool) := [namB gs FS, intB "MOST_INLETS" 3, intB "MOST_WAYS" 4, intB "MOST_DEEDS" 600, intB "MOST_DEEDS_OF_SEVERAL" 24, intB "MOST_FIRST" 200, intB "MOST_THEN" 40, clsB "Table", fldsB "Table" ["head", "loop", "rise"], tyB "Table", mkB "Table", callB "Table", clsB "Maker", fldsB "Maker" ["inlets", "begin", "ways"], tyB "Maker", mkB "Maker", eqB "Maker", metB "Maker" "need", clsB "Round", fldsB "Round" ["taken", "marks"], mkB "Round", nfB "Maker" ["int", "tuple"]]
def exB (K : PySem.W.Frag) : Bool := exL.all fun f => f K
end K24
set_option Elab.async false
set_option linter.all false
set_option maxRecDepth 100000
set_option maxHeartbeats 0
namespace K24
open PySem PySem.Spec PyProof.Rows L2 He NF
abbrev R : PySem.W.OpenRow := PySem.W.OpenLaw.row PySem.Challenge.rw_needforth_k24_whole_needs_on_courses
abbrev hk : PySem.W.Hook := hookQ 5 exB fn
def ob (s : PySem.W.SharedT) : He.AlD := obsQG 5 exB fn (HandSHeadRun.getT s)
theorem ob_eq (s : PySem.W.SharedT) : ob s = hk.obs s.abs := obsQG_eq (HandSHeadRun.getT_eq s)
def loose : List Str := (["_wall", "__name__", "NeedforthError", "TooMany", "BadCount", "BadInlet", "BadCourse", "BadTable", "BadMaker", "is_integer", "is_count", "is_row", "is_pair", "is_climb", "end_of", "value_at", "values_from", "many_at_most", "last_at_most", "shortest_lap", "plain_form", "settled_form", "spread", "ladder_of", "least_in"] : List Str) ++ (["first_under", "last_under", "Chase", "drift_of", "longest_head", "values_behind", "behind_form", "chosen", "settling", "joined_form", "both_form", "either_form", "turn_form", "check_table", "Table", "Round", "marks_along", "MOST_INLETS", "MOST_WAYS", "MOST_DEEDS", "MOST_DEEDS_OF_SEVERAL", "MOST_FIRST", "MOST_THEN", "is_deed", "are_deeds"] : List Str) ++ (["are_ways", "check_maker", "are_numbers", "is_course", "check_inlet", "Maker", "_law_source", "_law_pick", "_law_is_integer", "_law_is_count", "_law_plain", "_law_same", "_law_deeds", "_law_maker", "_law_made", "_law_ahead", "_law_on", "_law_course", "_law_walked", "_law_asked", "_law_other"] : List Str)
theorem run (w : World) : HandSHeadRun.RunEqI R (PySem.W.view R.prog [0, 80]) hk ob 12000 loose w := by
  show _ = _
  kernel_rfl
end K24
set_option Elab.async false
set_option linter.all false
set_option maxRecDepth 100000
set_option maxHeartbeats 4000000
namespace K24
open PySem PySem.Spec PyProof.Rows L2 He NF RZ NT
/-- the shortest lap of a loop -/
def spLap (K : PySem.W.Frag) : Sp := fun vs H Q _ => ∃ (a : Addr) (l : List Int) (r : Int), vs = [.ref a, .int r] ∧ SqT K H a (vI l) ∧ l ≠ [] ∧ l.length ≤ 10000 ∧ ∀ m H', LapIs l r m → Same H H' → Q (.int (m : Int)) H'
theorem sc_shortest_lap : FnScope ["loop", "rise", "following", "steps", "many", "entry", "later"] ["loop", "rise"] (defScope s_shortest_lap) := ⟨rfl, rfl, rfl, by decide +kernel, rfl, by decide +kernel, by decide +kernel⟩
theorem following_is {l : List Int} {r : Int} (hl : l ≠ []) : cutV (vI l) (some 1) none ++ [V.int (l.getD 0 0 + r)] = vI ((List.range l.length).map fun k => walk l r (k + 1)) := by
  rw [show (1 : Int) = ((1 : Nat) : Int) from rfl, cut_from]
  have hp := len_pos hl
  refine List.ext_getElem? fun k => ?_
  simp only [vI, List.getElem?_map]
  by_cases c : k + 1 < l.length
  · rw [List.getElem?_append_left (by rw [List.length_drop, List.length_map]; omega), List.getElem?_drop, List.getElem?_map, List.getElem?_range (by omega), List.getElem?_eq_getElem (show 1 + k < l.length by omega)]
    simp only [Option.map_some]
    rw [walk_i c, List.getD_eq_getElem?_getD, List.getElem?_eq_getElem c]
    simp only [Option.getD_some, Option.some.injEq, V.int.injEq]
    congr 1
    omega
  · by_cases c2 : k + 1 = l.length
    · rw [List.getElem?_append_right (by rw [List.length_drop, List.length_map]; omega), List.length_drop, List.length_map, show k - (l.length - 1) = 0 by omega, List.getElem?_range (by omega)]
      simp only [Option.map_some, List.getElem?_cons_zero]
      rw [show k + 1 = 0 + l.length by omega, walk_add hp, walk_i hp]
    · rw [List.getElem?_eq_none (by rw [List.length_append, List.length_drop, List.length_map, List.length_singleton]; omega), List.getElem?_eq_none (by rw [List.length_range]; omega)]
      rfl
theorem steps_get {l : List Int} {r : Int} {k : Nat} (h : k < l.length) : (vI (steps l r))[k]? = some (V.int (walk l r (k + 1) - l.getD k 0)) := by
  unfold steps
  simp only [vI, List.getElem?_map]
  rw [List.getElem?_range h]
  simp only [Option.map_some, sk]
  rw [walk_i h]
section
variable {P : Program} {w : World} {K : PySem.W.Frag} {mg : Str → Option Value} {base : Heap} {gs fs : List Str}
theorem ok_shortest_lap {f : Addr} {fd : FuncData} (F : FunD K "shortest_lap" "shortest_lap" (defArgs s_shortest_lap) (defBody s_shortest_lap) (defScope s_shortest_lap) [] [] f fd) (T : Txt K mg gs fs) (hfs : fs = FS) : FnOk P w K mg base CX0 1 f fd ["loop", "rise"] (spLap K) := by
  subst hfs
  refine F.ok sc_shortest_lap (fun vs H Q E h => ?_) (fun cdv A outer s H vs Q E hr h => ?_)
  · obtain ⟨a, l, r, rfl, _⟩ := h
    rfl
  · obtain ⟨a, l, r, rfl, ha, hl, hz, q⟩ := h
    have hu : (A.deeper (envOfC "shortest_lap" (defScope s_shortest_lap) s.heap.objs.size f cdv)).units + 64 < cLine := by
      have := hr.un
      omega
    have hp := len_pos hl
    refine ⟨_, PSs.nox (pss_cons (ps_set (i := 2) sc_shortest_lap.nd rfl (Or.inl rfl) (pe_op op_catA (pe_slice sl_tupA (pv 0) (po_some pe_int) po_none) (pe_tup (pa_cons (pe_op op_add (pe_ix (ixt (K := K)) (pv 0) pe_int fun _ _ => rfl) (pv 1)) pa_nil)))) (pss_cons (ps_setLc (i := 3) (own := [("entry", 5), ("later", 6)]) rfl sc_shortest_lap.nd rfl rfl (sw_true rfl rfl rfl (by decide +kernel)) (pi_zipA rfl (T.fr _ (by decide +kernel)) (pa_cons (pv 0) (pa_cons (pv 2) pa_nil))) (blkOk_by (N := ["loop", "rise", "following", "steps", "many", "entry", "later"]) (sc := defScope s_shortest_lap) (by decide +kernel)) (fun _ _ _ _ _ => by exact (pgt (K := K) (n := 2) rfl rfl (pgs_cons (pg_name (i := 5) sc_shortest_lap.nd rfl (Or.inl rfl)) (pgs_cons (pg_name (i := 6) sc_shortest_lap.nd rfl (Or.inl rfl)) pgs_nil)))) (fun _ _ _ _ _ => by exact pts_nil) (fun _ _ _ _ _ => by exact (pe_op op_sub (pv 6) (pv 5)))) (pss_cons (ps_for PassesOwn.never rfl (pi_range2 rfl (T.fr _ (by decide +kernel)) (pa_cons pe_int (pa_cons (pe_op op_add (pe_op op_fdiv (pe_callB call_len_seq rfl (T.fr _ (by decide +kernel)) boot_len (pa_cons (pv 3) pa_nil)) pe_int) pe_int) pa_nil))) (pg_name (i := 4) sc_shortest_lap.nd rfl (Or.inl rfl)) (pss_one (ps_if (PW.pt (pw_and (pt_cmpR op_eq (pe_op op_mod (pe_callB call_len_seq rfl (T.fr _ (by decide +kernel)) boot_len (pa_cons (pv 3) pa_nil)) (pv 4)) pe_int (nomark _)) (pw_and1 (pt_cmpR (op_eqD hu) (pe_slice sl_list (pv 3) (po_some (pv 4)) po_none) (pe_slice sl_list (pv 3) po_none (po_some (pe_un un_neg (pv 4)))) (nomark _))))) (pss_one (ps_ret (pv 4))) pss_nil))) (pss_one (ps_ret (pe_callB call_len_seq rfl (T.fr _ (by decide +kernel)) boot_len (pa_cons (pv 3) pa_nil))))))), ?_⟩
    refine ⟨_, rfl, _, rfl, ?_⟩
    refine slA_from (K := K) ha fun p1 H1 s1 t1 => ?_
    refine ⟨_, rfl, a, _, 0, _, rfl, rfl, NF.Same.tup s1 ha, at_int (k := 0) rfl hp, _, rfl, _, _, rfl, rfl, (by show 1 ≤ sizeLine; decide), fun p2 hp2 => ?_⟩
    refine catA_done (NF.Same.tup (NF.Same.new (Same.refl _) hp2) t1) (SqT.of upd_same) ?_ fun p3 H3 s3 t3 => ?_
    · have : (cutV (vI l) (some 1) none).length = l.length - 1 := by
        rw [show (1 : Int) = ((1 : Nat) : Int) from rfl, cut_from, List.length_drop, List.length_map]
      rw [this]
      exact Nat.le_trans (show l.length - 1 + 1 ≤ 10001 by omega) (by decide)
    rw [following_is hl] at t3
    have s03 : Same H H3 := Same.trans s1 (Same.trans (NF.Same.new (Same.refl _) hp2) s3)
    refine ⟨_, rfl, _, rfl, a, p3, _, _, rfl, Or.inr ⟨NF.Same.tup s03 ha, t3, fun D hD => ?_⟩⟩
    have hsl : (vI (steps l r)).length = l.length := by unfold steps; simp
    refine lc_zipT (by simp) (fun i G => Same H3 G ∧ G D = some (.lst ((vI (steps l r)).take i))) ⟨NF.Same.new (Same.refl _) hD, upd_same⟩ (fun i G z => ⟨NF.Same.tup (Same.trans s03 z.1) ha, NF.Same.tup z.1 t3⟩) ?_ ?_
    · rintro i x y U G hx hy ⟨hG, hD2⟩ hU
      have hi : i < l.length := by
        have := (List.getElem?_eq_some_iff.mp hx).1
        rw [List.length_map] at this
        exact this
      obtain rfl : x = V.int (l.getD i 0) := by
        rw [List.getElem?_map, List.getElem?_eq_getElem hi] at hx
        rw [List.getD_eq_getElem?_getD, List.getElem?_eq_getElem hi]
        exact (Option.some.inj hx).symm
      obtain rfl : y = V.int (walk l r (i + 1)) := by
        rw [List.getElem?_map, List.getElem?_map, List.getElem?_range hi] at hy
        exact (Option.some.inj hy).symm
      refine ⟨U, _, rfl, SqT.of upd_same, rfl, _, _, rfl, _, _, rfl, rfl, rfl, ?_⟩
      refine ⟨_, rfl, _, rfl, _, _, rfl, rfl, (vI (steps l r)).take i, ?_, ?_, ?_, ?_⟩
      · rw [upd_ne (ne_of_none hD2 hU)]
        exact hD2
      · rw [List.length_take, hsl]
        exact Nat.lt_of_le_of_lt (show min i l.length ≤ 10000 by omega) (by decide)
      · exact NF.Same.mut (NF.Same.new hG hU) hD
      · rw [upd_same, List.take_add_one, steps_get hi]
        rfl
    · rintro G ⟨hG, hD2⟩
      rw [List.length_map, List.take_of_length_le (by rw [hsl]; exact Nat.le_refl _)] at hD2
      have hlen : (vI (steps l r)).length = l.length := hsl
      refine ⟨_, rfl, D, _, rfl, Or.inl (SqL.of hD2), _, _, rfl, rfl, ⟨by decide, by decide⟩, _, _, rfl, rfl, 1, _, rfl, ⟨by decide, by decide, ?_, ?_⟩, ?_⟩
      · rw [hlen]; omega
      · rw [hlen]; omega
      have en : (((vI (steps l r)).length : Int) / 2 + 1 - 1).toNat = l.length / 2 := by rw [hlen]; omega
      have s0G : Same H G := Same.trans s03 hG
      show (fun J H1 => _) (Itr 1 (((vI (steps l r)).length : Int) / 2 + 1 - 1).toNat) G
      rw [en]
      refine for_range (lo := 1) (n := l.length / 2) (fun i σ G' => Same G G' ∧ (∀ m', 0 < m' → m' ≤ i → m' ∣ l.length → ¬ Per (walk l r) m') ∧ ∃ v : Option V, σ = [some (.ref a), some (.int r), some (.ref p3), some (.ref D), v, none, none])
        ⟨Same.refl _, fun m' h1 h2 => by omega, none, rfl⟩ ?_ ?_
      · rintro i σ G' hi ⟨hs, hno, v, rfl⟩
        have e1 : (1 : Int) + (i : Int) = ((i + 1 : Nat) : Int) := by omega
        rw [e1]
        have hD3 := hs _ _ hD2
        refine ⟨_, rfl, D, _, rfl, Or.inl (SqL.of hD3), _, rfl, _, _, rfl, rfl, (by show (0 : Int) < ((i + 1 : Nat) : Int); omega), rfl, _, rfl, ?_⟩
        have hnext : ¬ ((i + 1 ∣ l.length) ∧ Per (walk l r) (i + 1)) → (∀ m', 0 < m' → m' ≤ i + 1 → m' ∣ l.length → ¬ Per (walk l r) m') := fun hn m' h1 h2 h3 h4 => by
          by_cases c : m' ≤ i
          · exact hno m' h1 c h3 h4
          · have : m' = i + 1 := by omega
            subst this
            exact hn ⟨h3, h4⟩
        refine ite2 (fun hc => ?_) (fun hc => ?_)
        · have hd : i + 1 ∣ l.length := by
            have hc := of_decide_eq_true hc
            injection hc with hc
            rw [hlen] at hc
            have := Int.dvd_of_emod_eq_zero hc
            exact Int.natCast_dvd_natCast.mp this
          refine ⟨_, rfl, _, rfl, _, rfl, D, _, rfl, SqL.of hD3, fun q1 hq1 => ?_⟩
          have hD4 : upd G' q1 (.lst (cutV (vI (steps l r)) (some ((i + 1 : Nat) : Int)) none)) D = some (.lst (vI (steps l r))) := by
            rw [upd_ne (ne_of_none hD3 hq1)]
            exact hD3
          refine ⟨_, rfl, _, rfl, _, rfl, _, rfl, D, _, rfl, SqL.of hD4, fun q2 hq2 => ?_⟩
          have hq3 : upd (upd G' q1 (.lst (cutV (vI (steps l r)) (some ((i + 1 : Nat) : Int)) none))) q2 (.lst (cutV (vI (steps l r)) none (some (-((i + 1 : Nat) : Int))))) q1 = some (.lst (vI ((steps l r).drop (i + 1)))) := by
            rw [upd_ne (ne_of_none upd_same hq2), upd_same, cut_from, vI_drop]
          have hq4 : upd (upd G' q1 (.lst (cutV (vI (steps l r)) (some ((i + 1 : Nat) : Int)) none))) q2 (.lst (cutV (vI (steps l r)) none (some (-((i + 1 : Nat) : Int))))) q2 = some (.lst (vI ((steps l r).take (l.length - (i + 1))))) := by
            rw [upd_same, cut_toN (by omega), hlen, vI_take]
          have hsD : Same G (upd (upd G' q1 (.lst (cutV (vI (steps l r)) (some ((i + 1 : Nat) : Int)) none))) q2 (.lst (cutV (vI (steps l r)) none (some (-((i + 1 : Nat) : Int)))))) := NF.Same.new (NF.Same.new hs hq1) hq2
          refine eqL_done (SqL.of hq3) (SqL.of hq4) ⟨_, rfl, ?_⟩
          refine ite2 (fun hc2 => ?_) (fun hc2 => ?_)
          · have hper := (cond_iff hl (Nat.succ_pos i) hd).mp (of_decide_eq_true hc2)
            exact ⟨_, rfl, q (i + 1) _ (lap_prog hl (Nat.succ_pos i) (by omega) hd hper fun m' h1 h2 h3 h4 => hno m' h1 (by omega) h3 h4) (Same.trans s0G hsD)⟩
          · refine ⟨hsD, hnext fun ⟨_, h⟩ => hc2 (decide_eq_true ((cond_iff hl (Nat.succ_pos i) hd).mpr h)), _, rfl⟩
        · refine ⟨hs, hnext fun ⟨h, _⟩ => hc (decide_eq_true ?_), _, rfl⟩
          rw [hlen]
          exact congrArg V.int (Int.emod_eq_zero_of_dvd (Int.natCast_dvd_natCast.mpr h))
      · rintro σ G' ⟨hs, hno, v, rfl⟩
        refine ⟨_, rfl, D, _, rfl, Or.inl (SqL.of (hs _ _ hD2)), ?_⟩
        rw [hlen]
        exact q l.length _ (lap_whole hl hno) (Same.trans s0G hs)
end
end K24
set_option Elab.async false
set_option linter.all false
set_option maxRecDepth 100000
set_option maxHeartbeats 4000000
namespace K24
open PySem PySem.Spec PyProof.Rows L2 He NF RZ NT
/-- a tuple of two tuples of ints and an int stands at p -/
def FormAt (K : PySem.W.Frag) (H : Hp) (p : Addr) (x : List Int × List Int × Int) : Prop := ∃ a b, SqT K H p [.ref a, .ref b, .int x.2.2] ∧ SqT K H a (vI x.1) ∧ SqT K H b (vI x.2.1)
theorem FormAt.mono {K : PySem.W.Frag} {H H' : Hp} {p : Addr} {x : List Int × List Int × Int} (h : FormAt K H p x) (s : Same H H') : FormAt K H' p x := by
  obtain ⟨a, b, h1, h2, h3⟩ := h
  exact ⟨a, b, NF.Same.tup s h1, NF.Same.tup s h2, NF.Same.tup s h3⟩
def spForm (K : PySem.W.Frag) : Sp := fun vs H Q _ => ∃ (a b : Addr) (h l : List Int) (r : Int), vs = [.ref a, .ref b, .int r] ∧ SqT K H a (vI h) ∧ SqT K H b (vI l) ∧ h.length + l.length ≤ 10000 ∧ ∀ x p H', IsPlain h l r x → Same H H' → FormAt K H' p x → Q (.ref p) H'
theorem sc_plain_form : FnScope ["head", "loop", "rise", "many", "lap_rise", "entries", "left"] ["head", "loop", "rise"] (defScope s_plain_form) := ⟨rfl, rfl, rfl, by decide +kernel, rfl, by decide +kernel, by decide +kernel⟩
section
variable {P : Program} {w : World} {K : PySem.W.Frag} {mg : Str → Option Value} {base : Heap} {gs fs : List Str}
theorem ok_plain_form {f : Addr} {fd : FuncData} (F : FunD K "plain_form" "plain_form" (defArgs s_plain_form) (defBody s_plain_form) (defScope s_plain_form) [] [] f fd) (T : Txt K mg gs fs) (hfs : fs = FS) (c_shortest_lap : Cal P w K mg base 1 "shortest_lap" (spLap K)) : FnOk P w K mg base CX0 2 f fd ["head", "loop", "rise"] (spForm K) := by
  subst hfs
  refine F.ok sc_plain_form (fun vs H Q E h => ?_) (fun cdv A outer s H vs Q E hr h => ?_)
  · obtain ⟨a, b, h, l, r, rfl, _⟩ := h
    rfl
  · obtain ⟨a, b, h, l, r, rfl, ha, hb, hz, q⟩ := h
    refine ⟨_, PSs.nox (pss_cons (ps_if (pt_not (pt_truth (pv 1) (fun _ => rfl))) (pss_one (ps_ret (pe_tup (pa_cons (pv 0) (pa_cons (pe_tup pa_nil) (pa_cons pe_int pa_nil)))))) pss_nil) (pss_cons (ps_set (i := 3) sc_plain_form.nd rfl (Or.inl rfl) (pe_c c_shortest_lap hr (by decide) rfl (pa_cons (pv 1) (pa_cons (pv 2) pa_nil)))) (pss_cons (ps_set (i := 4) sc_plain_form.nd rfl (Or.inl rfl) (pe_op op_fdiv (pe_op op_mul (pv 2) (pv 3)) (pe_callB call_len_seq rfl (T.fr _ (by decide +kernel)) boot_len (pa_cons (pv 1) pa_nil)))) (pss_cons (ps_set (i := 5) sc_plain_form.nd rfl (Or.inl rfl) (pe_op op_catA (pv 0) (pe_slice sl_tupA (pv 1) po_none (po_some (pv 3))))) (pss_cons (ps_set (i := 6) sc_plain_form.nd rfl (Or.inl rfl) (pe_callB call_len_seq rfl (T.fr _ (by decide +kernel)) boot_len (pa_cons (pv 0) pa_nil))) (pss_cons (ps_while PassesOwn.never (PW.pt (pw_and (pt_cmpR op_gt (pv 6) pe_int (nomark _)) (pw_and1 (pt_cmpR op_eq (pe_op op_add (pe_ix (ixt (K := K)) (pv 5) (pe_op op_sub (pv 6) pe_int) fun _ _ => rfl) (pv 4)) (pe_ix (ixt (K := K)) (pv 5) (pe_op op_add (pe_op op_sub (pv 6) pe_int) (pv 3)) fun _ _ => rfl) (nomark _))))) (pss_one (ps_set (i := 6) sc_plain_form.nd rfl (Or.inl rfl) (pe_op op_sub (pv 6) pe_int)))) (pss_one (ps_ret (pe_tup (pa_cons (pe_slice sl_tupA (pv 5) po_none (po_some (pv 6))) (pa_cons (pe_slice sl_tupA (pv 5) (po_some (pv 6)) (po_some (pe_op op_add (pv 6) (pv 3)))) (pa_cons (pv 4) pa_nil)))))))))))), ?_⟩
    refine ⟨_, rfl, _, tru_tup hb, ?_⟩
    by_cases hl : l = []
    · subst hl
      refine iteT ?_
      refine ⟨_, rfl, (by show 0 ≤ sizeLine; decide), fun p1 hp1 => ⟨(by show 3 ≤ sizeLine; decide), fun p2 hp2 => ?_⟩⟩
      have s1 := NF.Same.new (o := .tup []) (Same.refl H) hp1
      have s2 := NF.Same.new (o := .tup [V.ref a, V.ref p1, V.int 0]) s1 hp2
      exact q (h, [], 0) p2 _ (.inl ⟨rfl, rfl⟩) s2 ⟨a, p1, SqT.of upd_same, NF.Same.tup s2 ha, SqT.of (by rw [upd_ne (ne_of_none upd_same hp2)]; exact upd_same)⟩
    · have hne : (!l.isEmpty) = true := by cases l with
        | nil => exact absurd rfl hl
        | cons _ _ => rfl
      rw [hne]
      refine iteF ?_
      have hp := len_pos hl
      refine ⟨_, rfl, _, rfl, b, l, r, rfl, hb, hl, by omega, fun m H1 hm s1 => ?_⟩
      have hle : m ≤ l.length := Nat.le_of_dvd hp hm.dvd
      obtain ⟨t, ht⟩ := hm.dvd
      have hc := per_at hl hm.pos hm.per ht.symm
      have hb1 := NF.Same.tup s1 hb
      have t0 : 0 < t := Nat.pos_of_ne_zero fun z => by rw [z, Nat.mul_zero] at ht; omega
      have hcr : r * (m : Int) / ((vI l).length : Int) = r / (t : Int) := by
        rw [vI_len]
        have hr := per_rise hl hc ht.symm
        have e : r * (m : Int) = r / (t : Int) * (l.length : Int) := by
          rw [ht, Int.natCast_mul]
          calc r * (m : Int) = (r / (t : Int) * (t : Int)) * (m : Int) := by rw [← hr]
            _ = r / (t : Int) * ((m : Int) * (t : Int)) := by rw [Int.mul_assoc, Int.mul_comm (t : Int)]
        rw [e]
        exact Int.mul_ediv_cancel _ (by omega)
      refine ⟨_, rfl, _, rfl, _, _, rfl, rfl, Or.inr ⟨by omega, by omega⟩, ?_⟩
      refine ⟨_, rfl, b, _, rfl, Or.inr hb1, _, _, rfl, rfl, ⟨by rw [vI_len]; omega, by rw [vI_len]; omega⟩, ?_⟩
      show gName 4 (V.int (r * (m : Int) / ((vI l).length : Int))) _ _ _
      rw [hcr]
      generalize hcc : r / (t : Int) = cc at hc
      refine ⟨_, rfl, _, rfl, _, rfl, _, rfl, ?_⟩
      refine slA_done (K := K) hb1 fun p2 H2 s2 t2 => ?_
      rw [cut_to, vI_take] at t2
      refine catA_done (K := K) (NF.Same.tup (Same.trans s1 s2) ha) t2 (Nat.le_trans (show (vI h).length + (vI (l.take m)).length ≤ 10000 by rw [vI_len, vI_len, List.length_take]; omega) (by decide)) fun p3 H3 s3 t3 => ?_
      rw [vI_app] at t3
      have s03 : Same H H3 := Same.trans s1 (Same.trans s2 s3)
      refine ⟨_, rfl, a, _, rfl, Or.inr (NF.Same.tup s03 ha), ?_⟩
      rw [vI_len]
      have hel : (h ++ l.take m).length = h.length + m := by rw [List.length_append, List.length_take, Nat.min_eq_left hle]
      refine ⟨fun k σ G => G = H3 ∧ k ≤ h.length ∧ cut (h ++ l.take m) m cc h.length = cut (h ++ l.take m) m cc k ∧ σ = [some (.ref a), some (.ref b), some (.int r), some (.int (m : Int)), some (.int cc), some (.ref p3), some (.int (k : Int))], ⟨h.length, rfl, Nat.le_refl _, rfl, rfl⟩, ?_⟩
      rintro k σ G ⟨rfl, hk, hcut, rfl⟩
      -- what is handed back
      have hdone : cut (h ++ l.take m) m cc k = k → (tRet (tTup (tCons (tSl (rSlA K) (tVar 5) tNoPart (tPart (tVar 6))) (tCons (tSl (rSlA K) (tVar 5) (tPart (tVar 6)) (tPart (tOp (rI0 fun i j => .int (i + j)) (tVar 6) (tVar 3)))) (tCons (tVar 4) tNil))))) { nx := fun _ H' => Q .non H', rt := Q }
          [some (.ref a), some (.ref b), some (.int r), some (.int (m : Int)), some (.int cc), some (.ref p3), some (.int (k : Int))] G := fun hk2 => by
        refine ⟨_, rfl, _, rfl, _, rfl, ?_⟩
        refine slA_done (K := K) t3 fun p4 H4 s4 t4 => ?_
        refine ⟨_, rfl, _, rfl, _, rfl, _, rfl, _, rfl, _, _, rfl, rfl, _, rfl, ?_⟩
        refine slA_done (K := K) (NF.Same.tup s4 t3) fun p5 H5 s5 t5 => ?_
        refine ⟨_, rfl, (by show 3 ≤ sizeLine; decide), fun p6 hp6 => ?_⟩
        have s6 := NF.Same.new (o := .tup [V.ref p4, V.ref p5, V.int cc]) (Same.refl H5) hp6
        have hx := plain_is (h := h) hl hm hc
        rw [hcut, hk2] at hx
        rw [cut_to, vI_take] at t4
        rw [show (k : Int) + (m : Int) = ((k + m : Nat) : Int) by omega, cut_mid (by omega) (by rw [vI_len, hel]; omega), vI_drop, vI_take, show k + m - k = m by omega] at t5
        exact q _ p6 _ hx (Same.trans s03 (Same.trans s4 (Same.trans s5 s6))) ⟨p4, p5, SqT.of upd_same, NF.Same.tup (Same.trans s5 s6) t4, NF.Same.tup s6 t5⟩
      refine ⟨_, rfl, _, _, rfl, rfl, _, rfl, ?_⟩
      refine ite2 (fun h1 => ?_) (fun h1 => ?_)
      · have k0 : 0 < k := by
          have := of_decide_eq_true h1
          omega
        obtain ⟨j, rfl⟩ : ∃ j, k = j + 1 := ⟨k - 1, by omega⟩
        have e1 : ((j + 1 : Nat) : Int) - 1 = (j : Int) := by omega
        refine ⟨_, rfl, _, rfl, _, _, rfl, rfl, p3, _, _, _, rfl, rfl, t3, at_int (k := j) e1 (by rw [hel]; omega), _, rfl, _, _, rfl, rfl, ?_⟩
        refine ⟨_, rfl, _, rfl, _, _, rfl, rfl, _, rfl, _, _, rfl, rfl, p3, _, _, _, rfl, rfl, t3, at_int (k := j + m) (by omega) (by rw [hel]; omega), rfl, _, rfl, ?_⟩
        refine ite2 (fun h2 => ?_) (fun h2 => ?_)
        · have h2' : (h ++ l.take m).getD j 0 + cc = (h ++ l.take m).getD (j + m) 0 := by
            have := of_decide_eq_true h2
            injection this
          refine ⟨fun σ' G' => G' = G ∧ σ' = [some (.ref a), some (.ref b), some (.int r), some (.int (m : Int)), some (.int cc), some (.ref p3), some (.int (j : Int))], fun σ' G' ⟨z1, z2⟩ => ⟨j, Nat.lt_succ_self j, z1, by omega, ?_, z2⟩, ?_⟩
          · rw [hcut]
            show (if (h ++ l.take m).getD j 0 + cc = (h ++ l.take m).getD (j + m) 0 then _ else _) = _
            rw [if_pos h2']
          · refine ⟨_, rfl, _, _, rfl, rfl, rfl, ?_⟩
            show _ = _
            rw [← e1]
            rfl
        · refine hdone ?_
          show (if (h ++ l.take m).getD j 0 + cc = (h ++ l.take m).getD (j + m) 0 then _ else _) = _
          rw [if_neg fun z => h2 (decide_eq_true (congrArg V.int z))]
      · have k0 : k = 0 := by
          have : ¬ (0 : Int) < (k : Int) := fun z => h1 (decide_eq_true z)
          omega
        subst k0
        exact hdone rfl
end
end K24
set_option Elab.async false
set_option linter.all false
set_option maxRecDepth 100000
set_option maxHeartbeats 4000000
namespace K24
open PySem PySem.Spec PyProof.Rows L2 He NF RZ NT
def spIsInt : Sp := fun vs H Q _ => ∃ i : Int, vs = [.int i] ∧ Q (.bl true) H
def spIsCount : Sp := fun vs H Q _ => ∃ i : Int, vs = [.int i] ∧ Q (.bl (decide (0 ≤ i))) H
def spIsRow (K : PySem.W.Frag) : Sp := fun vs H Q _ => ∃ (a : Addr) (xs : List V), vs = [.ref a] ∧ Row K H a xs ∧ ∀ H', Same H H' → Q (.bl true) H'
def spIsClimb (K : PySem.W.Frag) : Sp := fun vs H Q _ => ∃ (a : Addr) (l : List Int), vs = [.ref a] ∧ Row K H a (vI l) ∧ climbs 0 l ∧ ∀ H', Same H H' → Q (.bl true) H'
def spCheck (K : PySem.W.Frag) : Sp := fun vs H Q _ => ∃ (a b : Addr) (h l : List Int) (r : Int), vs = [.ref a, .ref b, .int r] ∧ Row K H a (vI h) ∧ Row K H b (vI l) ∧ Good h l r ∧ ∀ H', Same H H' → Q .non H'
theorem sc_is_integer : FnScope ["thing"] ["thing"] (defScope s_is_integer) := ⟨rfl, rfl, rfl, by decide +kernel, rfl, by decide +kernel, by decide +kernel⟩
theorem sc_is_count : FnScope ["thing"] ["thing"] (defScope s_is_count) := ⟨rfl, rfl, rfl, by decide +kernel, rfl, by decide +kernel, by decide +kernel⟩
theorem sc_is_row : FnScope ["thing"] ["thing"] (defScope s_is_row) := ⟨rfl, rfl, rfl, by decide +kernel, rfl, by decide +kernel, by decide +kernel⟩
theorem sc_is_climb : FnScope ["thing", "last", "entry"] ["thing"] (defScope s_is_climb) := ⟨rfl, rfl, rfl, by decide +kernel, rfl, by decide +kernel, by decide +kernel⟩
theorem sc_check_table : FnScope ["head", "loop", "rise"] ["head", "loop", "rise"] (defScope s_check_table) := ⟨rfl, rfl, rfl, by decide +kernel, rfl, by decide +kernel, by decide +kernel⟩
theorem climbs_get : ∀ {l : List Int} {lo : Int} {i : Nat}, climbs lo l → i < l.length → (if i = 0 then lo else l.getD (i - 1) 0) ≤ l.getD i 0
  | [], _, _, _, h => by simp at h
  | x :: l, lo, 0, c, _ => c.1
  | x :: l, lo, i + 1, c, h => by
    have ih := climbs_get (i := i) c.2 (by simpa using h)
    rw [if_neg (Nat.succ_ne_zero i)]
    by_cases z : i = 0
    · subst z
      simpa using ih
    · rw [if_neg z] at ih
      obtain ⟨j, rfl⟩ : ∃ j, i = j + 1 := ⟨i - 1, by omega⟩
      simpa using ih
section
variable {P : Program} {w : World} {K : PySem.W.Frag} {mg : Str → Option Value} {base : Heap} {gs fs : List Str}
theorem ok_is_integer {f : Addr} {fd : FuncData} (F : FunD K "is_integer" "is_integer" (defArgs s_is_integer) (defBody s_is_integer) (defScope s_is_integer) [] [] f fd) (T : Txt K mg gs FS) : FnOk P w K mg base CX0 1 f fd ["thing"] spIsInt := by
  refine F.ok sc_is_integer (fun vs H Q E h => ?_) (fun cdv A outer s H vs Q E hr h => ?_)
  · obtain ⟨i, rfl, _⟩ := h
    rfl
  · obtain ⟨i, rfl, q⟩ := h
    refine ⟨_, PSs.nox (pss_one (ps_ret (pe_and (pe_callB call_isi rfl (T.fr _ (by decide +kernel)) (by decide +kernel) (pa_cons (pv 0) (pa_cons (pe_bltn (v := .ty "int") rfl (T.fr _ (by decide +kernel)) (by decide +kernel) rfl) pa_nil))) (pe_one (pe_not (pe_callB call_isi rfl (T.fr _ (by decide +kernel)) (by decide +kernel) (pa_cons (pv 0) (pa_cons (pe_bltn (v := .ty "bool") rfl (T.fr _ (by decide +kernel)) (by decide +kernel) rfl) pa_nil)))))))), ?_⟩
    exact ⟨_, rfl, _, _, _, _, true, rfl, .ty "int", .base (.int i), kit_i_i K, true, rfl, _, rfl, _, _, _, _, false, rfl, .ty "bool", .base (.int i), kit_i_b K, false, rfl, q⟩
theorem ok_is_count {f : Addr} {fd : FuncData} (F : FunD K "is_count" "is_count" (defArgs s_is_count) (defBody s_is_count) (defScope s_is_count) [] [] f fd) (T : Txt K mg gs FS) (c_is_integer : Cal P w K mg base 1 "is_integer" spIsInt) : FnOk P w K mg base CX0 2 f fd ["thing"] spIsCount := by
  refine F.ok sc_is_count (fun vs H Q E h => ?_) (fun cdv A outer s H vs Q E hr h => ?_)
  · obtain ⟨i, rfl, _⟩ := h
    rfl
  · obtain ⟨i, rfl, q⟩ := h
    refine ⟨_, PSs.nox (pss_one (ps_ret (pe_and (pe_c c_is_integer hr (by decide) rfl (pa_cons (pv 0) pa_nil)) (pe_one (pe_cmpR op_ge (pv 0) pe_int (nomark _)))))), ?_⟩
    exact ⟨_, rfl, i, rfl, true, rfl, _, rfl, _, _, rfl, rfl, q⟩
theorem ok_is_row {f : Addr} {fd : FuncData} (F : FunD K "is_row" "is_row" (defArgs s_is_row) (defBody s_is_row) (defScope s_is_row) [] [] f fd) (T : Txt K mg gs FS) : FnOk P w K mg base CX0 1 f fd ["thing"] (spIsRow K) := by
  refine F.ok sc_is_row (fun vs H Q E h => ?_) (fun cdv A outer s H vs Q E hr h => ?_)
  · obtain ⟨a, xs, rfl, _⟩ := h
    rfl
  · obtain ⟨a, xs, rfl, ha, q⟩ := h
    refine ⟨_, PSs.nox (pss_one (ps_ret (pe_callB call_isiT rfl (T.fr _ (by decide +kernel)) (by decide +kernel) (pa_cons (pv 0) (pa_cons (pe_tup (pa_cons (pe_bltn (v := .ty "tuple") rfl (T.fr _ (by decide +kernel)) (by decide +kernel) rfl) (pa_cons (pe_bltn (v := .ty "list") rfl (T.fr _ (by decide +kernel)) (by decide +kernel) rfl) pa_nil))) pa_nil))))), ?_⟩
    refine ⟨_, rfl, (by show 2 ≤ sizeLine; decide), fun p hp => ?_⟩
    have s1 := NF.Same.new (o := .tup [V.ty "tuple", V.ty "list"]) (Same.refl H) hp
    rcases ha.mono s1 with h | h
    · exact ⟨_, p, _, _, _, true, rfl, upd_same, .cons (.ty _) (.cons (.ty _) .nil), tyx_lst h, kit_l_tl K, q _ s1⟩
    · exact ⟨_, p, _, _, _, true, rfl, upd_same, .cons (.ty _) (.cons (.ty _) .nil), tyx_tup h, kit_t_tl K, q _ s1⟩
theorem ok_is_climb {f : Addr} {fd : FuncData} (F : FunD K "is_climb" "is_climb" (defArgs s_is_climb) (defBody s_is_climb) (defScope s_is_climb) [] [] f fd) (T : Txt K mg gs FS) (c_is_row : Cal P w K mg base 1 "is_row" (spIsRow K)) (c_is_integer : Cal P w K mg base 1 "is_integer" spIsInt) : FnOk P w K mg base CX0 2 f fd ["thing"] (spIsClimb K) := by
  refine F.ok sc_is_climb (fun vs H Q E h => ?_) (fun cdv A outer s H vs Q E hr h => ?_)
  · obtain ⟨a, l, rfl, _⟩ := h
    rfl
  · obtain ⟨a, l, rfl, ha, hc, q⟩ := h
    refine ⟨_, PSs.nox (pss_cons (ps_if (pt_not (pt_val (pe_c c_is_row hr (by decide) rfl (pa_cons (pv 0) pa_nil)))) (pss_one (ps_ret pe_bl)) pss_nil) (pss_cons (ps_set (i := 1) sc_is_climb.nd rfl (Or.inl rfl) pe_int) (pss_cons (ps_for PassesOwn.never rfl (pi_row (pv 0)) (pg_name (i := 2) sc_is_climb.nd rfl (Or.inl rfl)) (pss_cons (ps_if (PW.pt (pw_or (pt_not (pt_val (pe_c c_is_integer hr (by decide) rfl (pa_cons (pv 2) pa_nil)))) (pw_or1 (pt_cmpR op_lt (pv 2) (pv 1) (nomark _))))) (pss_one (ps_ret pe_bl)) pss_nil) (pss_one (ps_set (i := 1) sc_is_climb.nd rfl (Or.inl rfl) (pv 2))))) (pss_one (ps_ret pe_bl))))), ?_⟩
    refine ⟨_, rfl, a, _, rfl, ha, fun H1 s1 => ⟨true, rfl, iteF ?_⟩⟩
    refine ⟨_, rfl, a, rfl, ?_⟩
    refine for_row (ha.mono s1) (fun i σ G => Same H1 G ∧ ∃ v : Option V, σ = [some (.ref a), some (.int (if i = 0 then 0 else l.getD (i - 1) 0)), v]) ⟨Same.refl _, none, rfl⟩ (fun i σ G z => z.1) ?_ ?_
    · rintro i x σ G hx ⟨s2, v, rfl⟩
      have hi : i < l.length := by
        have := (List.getElem?_eq_some_iff.mp hx).1
        rw [List.length_map] at this
        exact this
      obtain rfl : x = V.int (l.getD i 0) := by
        rw [List.getElem?_map, List.getElem?_eq_getElem hi] at hx
        rw [List.getD_eq_getElem?_getD, List.getElem?_eq_getElem hi]
        exact (Option.some.inj hx).symm
      have hle := climbs_get hc hi
      refine ⟨_, rfl, _, rfl, true, rfl, iteF ⟨_, rfl, _, rfl, _, _, rfl, rfl, false, congrArg V.bl (decide_eq_false (by omega)), iteF ?_⟩⟩
      refine ⟨_, rfl, s2, some (V.int (l.getD i 0)), ?_⟩
      rw [if_neg (Nat.succ_ne_zero i)]
      rfl
    · rintro σ G ⟨s2, v, rfl⟩
      exact q _ (Same.trans s1 s2)
theorem ok_check_table {f : Addr} {fd : FuncData} (F : FunD K "check_table" "check_table" (defArgs s_check_table) (defBody s_check_table) (defScope s_check_table) [] [] f fd) (T : Txt K mg gs FS) (c_is_climb : Cal P w K mg base 2 "is_climb" (spIsClimb K)) (c_is_count : Cal P w K mg base 2 "is_count" spIsCount) : FnOk P w K mg base CX0 3 f fd ["head", "loop", "rise"] (spCheck K) := by
  refine F.ok sc_check_table (fun vs H Q E h => ?_) (fun cdv A outer s H vs Q E hr h => ?_)
  · obtain ⟨a, b, h, l, r, rfl, _⟩ := h
    rfl
  · obtain ⟨a, b, h, l, r, rfl, ha, hb, hg, q⟩ := h
    refine ⟨_, PSs.nox (pss_cons (ps_if (pt_not (pt_val (pe_c c_is_climb hr (by decide) rfl (pa_cons (pv 0) pa_nil)))) (pss_one ps_never) pss_nil) (pss_cons (ps_if (PW.pt (pw_or (pt_not (pt_val (pe_c c_is_climb hr (by decide) rfl (pa_cons (pv 1) pa_nil)))) (pw_or1 (PW.pt (pw_and (pt_truth (pv 1) (fun _ => rfl)) (pw_and (pt_truth (pv 0) (fun _ => rfl)) (pw_and1 (pt_cmpR op_lt (pe_ix (ixs (K := K)) (pv 1) pe_int fun _ _ => rfl) (pe_ix (ixs (K := K)) (pv 0) (pe_un un_neg pe_int) fun _ _ => rfl) (nomark _))))))))) (pss_one ps_never) pss_nil) (pss_one (ps_if (PW.pt (pw_or (pt_not (pt_val (pe_c c_is_count hr (by decide) rfl (pa_cons (pv 2) pa_nil)))) (pw_or (PW.pt (pw_and (pt_not (pt_truth (pv 1) (fun _ => rfl))) (pw_and1 (pt_cmpR op_ne (pv 2) pe_int (nomark _))))) (pw_or1 (PW.pt (pw_and (pt_truth (pv 1) (fun _ => rfl)) (pw_and1 (pt_cmpR op_gt (pe_ix (ixs (K := K)) (pv 1) (pe_un un_neg pe_int) fun _ _ => rfl) (pe_op op_add (pe_ix (ixs (K := K)) (pv 1) pe_int fun _ _ => rfl) (pv 2)) (nomark _))))))))) (pss_one ps_never) pss_nil)))), ?_⟩
    refine ⟨_, rfl, a, h, rfl, ha, hg.hd, fun H1 s1 => ⟨true, rfl, iteF ?_⟩⟩
    refine ⟨_, rfl, b, l, rfl, hb.mono s1, hg.lp, fun H2 s2 => ⟨true, rfl, iteF ?_⟩⟩
    have s02 := Same.trans s1 s2
    have ha2 := ha.mono s02
    have hb2 := hb.mono s02
    -- the rise
    have hrise : (tIfS (tOr (tNot (tB (tCall spIsCount [] E0 (tCons (tVar 2) tNil)))) (tOr (tAnd (tNot (fun σ H Q => tVar 1 σ H fun x H' => ∃ k, TruV K x H' k ∧ Q k H')) (tTest (tOp rNe (tVar 2) (tC (.int 0)))))
        (tAnd (fun σ H Q => tVar 1 σ H fun x H' => ∃ k, TruV K x H' k ∧ Q k H') (tTest (tOp (rI0 fun i j => .bl (decide (j < i))) (tOp (rIx K) (tVar 1) (tUn (rU fun i => .int (-i)) (tC (.int 1)))) (tOp (rI0 fun i j => .int (i + j)) (tOp (rIx K) (tVar 1) (tC (.int 0))) (tVar 2)))))))
        tNever tNext) { nx := fun _ H' => Q .non H', rt := Q } (start ["head", "loop", "rise"] [.ref a, .ref b, .int r]) H2 := by
      refine ⟨_, rfl, r, rfl, decide (0 ≤ r), rfl, ?_⟩
      rw [decide_eq_true hg.r0]
      refine iteF ?_
      refine ⟨_, rfl, _, tru_row hb2, ?_⟩
      by_cases hl : l = []
      · have hl2 : (!l.isEmpty) = false := by rw [hl]; rfl
        rw [hl2]
        refine iteT ⟨_, rfl, rfl, false, ?_, iteF ⟨_, rfl, _, tru_row hb2, ?_⟩⟩
        · rw [hg.rl hl]; rfl
        · rw [hl2]
          exact iteF (iteF (q _ s02))
      · have hl2 : (!l.isEmpty) = true := by cases l with
          | nil => exact absurd rfl hl
          | cons _ _ => rfl
        rw [hl2]
        refine iteF (iteF ⟨_, rfl, _, tru_row hb2, ?_⟩)
        rw [hl2]
        refine iteT ⟨_, rfl, _, rfl, ix_done hb2 (at_last (len_pos hl)) ⟨_, rfl, ix_done hb2 (at_int (k := 0) rfl (len_pos hl)) ⟨_, rfl, _, _, rfl, rfl, _, _, rfl, rfl, false, congrArg V.bl (decide_eq_false ?_), iteF (q _ s02)⟩⟩⟩
        have := hg.last hl
        omega
    refine ⟨_, rfl, _, tru_row hb2, ?_⟩
    by_cases hl : l = []
    · have hl2 : (!l.isEmpty) = false := by rw [hl]; rfl
      rw [hl2]
      exact iteF (iteF hrise)
    · have hl2 : (!l.isEmpty) = true := by cases l with
        | nil => exact absurd rfl hl
        | cons _ _ => rfl
      rw [hl2]
      refine iteT ⟨_, rfl, _, tru_row ha2, ?_⟩
      by_cases hh : h = []
      · have hh2 : (!h.isEmpty) = false := by rw [hh]; rfl
        rw [hh2]
        exact iteF (iteF hrise)
      · have hh2 : (!h.isEmpty) = true := by cases h with
          | nil => exact absurd rfl hh
          | cons _ _ => rfl
        rw [hh2]
        refine iteT ⟨_, rfl, ?_⟩
        refine ix_done hb2 (at_int (k := 0) rfl (len_pos hl)) ⟨_, rfl, _, rfl, ix_done ha2 (at_last (len_pos hh)) ⟨_, _, rfl, rfl, false, congrArg V.bl (decide_eq_false ?_), iteF hrise⟩⟩
        have := hg.join hh hl
        omega
end
end K24
set_option Elab.async false
set_option linter.all false
set_option maxRecDepth 100000
set_option maxHeartbeats 4000000
namespace K24
open PySem PySem.Spec PyProof.Rows L2 He NF RZ NT
/-- a table is told -/
def spInit (K : PySem.W.Frag) (C : Addr) : Sp := fun vs H Q _ => ∃ (x dx a b : Addr) (h l : List Int) (r : Int), vs = [.ref x, .ref a, .ref b, .int r] ∧ H x = some (.ins C dx []) ∧ Row K H a (vI h) ∧ Row K H b (vI l) ∧ Good h l r ∧ h.length + l.length ≤ 10000 ∧
  ∀ y H', IsPlain h l r y → Same (wo H x) H' → TabAt K C H' x y → Q .non H'
theorem sc_Table___init__ : FnScope ["self", "head", "loop", "rise"] ["self", "head", "loop", "rise"] (defScope s_Table_init) := ⟨rfl, rfl, rfl, by decide +kernel, rfl, by decide +kernel, by decide +kernel⟩
theorem tf_eq (a b : Addr) (r : Int) : putF "rise" (.int r) (putF "loop" (.ref b) (putF "head" (.ref a) [])) = tf a b r := by rfl
theorem few1 (a : V) : (putF "head" a []).length < 1000 := show 1 < 1000 by decide
theorem few2 (a b : V) : (putF "loop" b (putF "head" a [])).length < 1000 := show 2 < 1000 by decide
section
variable {P : Program} {w : World} {K : PySem.W.Frag} {mg : Str → Option Value} {base : Heap} {gs fs : List Str}
theorem ok_Table_init {C : Addr} {dvs : List V} {f : Addr} {fd : FuncData} (F : FunD K "__init__" "Table.__init__" (defArgs s_Table_init) (defBody s_Table_init) (defScope s_Table_init) dvs [] f fd) (T : Txt K mg gs FS) (hc : Cls K C) (n1 : NoAttr K C "head") (n2 : NoAttr K C "loop") (n3 : NoAttr K C "rise") (c_check_table : Cal P w K mg base 3 "check_table" (spCheck K)) (c_plain_form : Cal P w K mg base 2 "plain_form" (spForm K)) : FnOk P w K mg base CX0 4 f fd ["self", "head", "loop", "rise"] (spInit K C) := by
  refine F.ok sc_Table___init__ (fun vs H Q E h => ?_) (fun cdv A outer s H vs Q E hr h => ?_)
  · obtain ⟨x, dx, a, b, h, l, r, rfl, _⟩ := h
    rfl
  · obtain ⟨x, dx, a, b, h, l, r, rfl, hx, ha, hb, hg, hz, q⟩ := h
    refine ⟨_, PSs.nox (pss_cons (ps_expr (pe_c c_check_table hr (by decide) rfl (pa_cons (pv 1) (pa_cons (pv 2) (pa_cons (pv 3) pa_nil))))) (pss_one (ps_asg (pe_c c_plain_form hr (by decide) rfl (pa_cons (pe_callTy cr_tup rfl (T.fr _ (by decide +kernel)) (by decide +kernel) (pa_cons (pv 1) pa_nil)) (pa_cons (pe_callTy cr_tup rfl (T.fr _ (by decide +kernel)) (by decide +kernel) (pa_cons (pv 2) pa_nil)) (pa_cons (pv 3) pa_nil)))) (pgt (K := K) (n := 3) rfl rfl (pgs_cons (pg_fld (pv 0)) (pgs_cons (pg_fld (pv 0)) (pgs_cons (pg_fld (pv 0)) pgs_nil))))))), ?_⟩
    refine ⟨_, rfl, _, rfl, _, rfl, a, b, h, l, r, rfl, ha, hb, hg, fun H1 s1 => ?_⟩
    refine ⟨_, rfl, a, _, rfl, ha.mono s1, fun p1 H2 s2 t1 => ?_⟩
    refine ⟨_, rfl, b, _, rfl, hb.mono (Same.trans s1 s2), fun p2 H3 s3 t2 => ?_⟩
    refine ⟨_, rfl, p1, p2, h, l, r, rfl, NF.Same.tup s3 t1, t2, hz, fun y p H4 hy s4 fo => ?_⟩
    obtain ⟨u, v, f1, f2, f3⟩ := fo
    have s04 : Same H H4 := Same.trans s1 (Same.trans s2 (Same.trans s3 s4))
    have x4 := s04 _ _ hx
    refine ⟨p, _, rfl, f1, rfl, ?_⟩
    refine ⟨_, _, rfl, _, rfl, x, C, dx, _, rfl, x4, hc, n1, by decide, ?_⟩
    refine ⟨_, _, rfl, _, rfl, x, C, dx, _, rfl, upd_same, hc, n2, few1 _, ?_⟩
    refine ⟨_, _, rfl, _, rfl, x, C, dx, _, rfl, upd_same, hc, n3, few2 _ _, ?_⟩
    refine ⟨rfl, ?_⟩
    refine q y _ hy ?_ ⟨dx, u, v, ?_, ?_, ?_⟩
    · exact Same.put (Same.put (Same.put (Same.trans wo_same' s04) wo_none) wo_none) wo_none
    · rw [upd_same, ← tf_eq]
    · exact SqT.put (SqT.put (SqT.put f2 x4 trivial) upd_same trivial) upd_same trivial
    · exact SqT.put (SqT.put (SqT.put f3 x4 trivial) upd_same trivial) upd_same trivial
end
end K24
set_option Elab.async false
set_option linter.all false
set_option maxRecDepth 100000
set_option maxHeartbeats 4000000
namespace K24
open PySem PySem.Spec PyProof.Rows L2 He NF RZ NT
/-- what the class of tables is -/
structure TabC (K : PySem.W.Frag) (C : Addr) : Prop where
  cl : Cls K C
  hd : NoAttr K C "head"
  lp : NoAttr K C "loop"
  ri : NoAttr K C "rise"
  ac : PySem.W.findIn K (.ref C) "__class__" = some (some (.builtin "object.__class__"))
  ag : PySem.W.specialIn K (.builtin "object.__class__") "__get__" = some (some (.builtin "getset_descriptor.__get__"))
  at_ : PySem.W.takesIn K (.builtin "object.__class__") = some true
  am : PySem.W.mroIn K C (.type "object") = some true
  self : PySem.W.kitOne K (.ref C) (.ref C) = some true
  tup : PySem.W.kitOne K (.type "tuple") (.ref C) = some false
  int : PySem.W.kitOne K (.type "int") (.ref C) = some false
  non : PySem.W.kitOne K (.type "NoneType") (.ref C) = some false
theorem TabC.ty {K : PySem.W.Frag} {C : Addr} (c : TabC K C) {H : Hp} {a dx : Addr} {fs : List (Str × V)} (h : H a = some (.ins C dx fs)) : TyX K H (.ref a) (.ref C) := .base (.ins h c.cl c.ac c.ag c.at_ c.am)
/-- what a table must be that it can be asked -/
structure Small (y : List Int × List Int × Int) : Prop where
  h : y.1.length ≤ 10000
  l : y.2.1.length ≤ 10000
  r0 : 0 ≤ y.2.2
  r1 : y.2.2 ≤ 1000000
def spEnd (K : PySem.W.Frag) (C : Addr) : Sp := fun vs H Q _ => ∃ x y, vs = [.ref x] ∧ TabAt K C H x y ∧ Q (vO (fin_ y.2.1 y.2.2)) H
def spAt (K : PySem.W.Frag) (C : Addr) : Sp := fun vs H Q _ => ∃ x y n, vs = [.ref x, vN n] ∧ TabAt K C H x y ∧ Small y ∧ ∀ H', Same H H' → Q (vO (val_ y.1 y.2.1 y.2.2 n)) H'
/-- ==: with another table, with what is none -/
def spEq (K : PySem.W.Frag) (C : Addr) : Sp := fun vs H Q _ => ∃ x y v, vs = [.ref x, v] ∧ TabAt K C H x y ∧
  ((∃ x2 y2, v = .ref x2 ∧ TabAt K C H x2 y2 ∧ Q (.bl (decide (y = y2))) H) ∨ (∃ t, TyX K H v t ∧ PySem.W.kitOne K t (.ref C) = some false ∧ Q (.bl false) H))
theorem sc_end_of : FnScope ["table"] ["table"] (defScope s_end_of) := ⟨rfl, rfl, rfl, by decide +kernel, rfl, by decide +kernel, by decide +kernel⟩
theorem sc_value_at : FnScope ["table", "n", "lap", "at"] ["table", "n"] (defScope s_value_at) := ⟨rfl, rfl, rfl, by decide +kernel, rfl, by decide +kernel, by decide +kernel⟩
theorem sc_Table___call__ : FnScope ["self", "n"] ["self", "n"] (defScope s_Table_call) := ⟨rfl, rfl, rfl, by decide +kernel, rfl, by decide +kernel, by decide +kernel⟩
theorem sc_Table_end : FnScope ["self"] ["self"] (defScope s_Table_end) := ⟨rfl, rfl, rfl, by decide +kernel, rfl, by decide +kernel, by decide +kernel⟩
theorem sc_Table___eq__ : FnScope ["self", "other"] ["self", "other"] (defScope s_Table_eq) := ⟨rfl, rfl, rfl, by decide +kernel, rfl, by decide +kernel, by decide +kernel⟩
theorem ne_nil {l : List Int} (h : l ≠ []) : (!l.isEmpty) = true := by cases l with
  | nil => exact absurd rfl h
  | cons _ _ => rfl
theorem is_nil {l : List Int} (h : l = []) : (!l.isEmpty) = false := by rw [h]; rfl
section
variable {P : Program} {w : World} {K : PySem.W.Frag} {mg : Str → Option Value} {base : Heap} {gs fs : List Str} {C : Addr}
theorem ok_end_of {f : Addr} {fd : FuncData} (F : FunD K "end_of" "end_of" (defArgs s_end_of) (defBody s_end_of) (defScope s_end_of) [] [] f fd) (T : Txt K mg gs FS) (tc : TabC K C) : FnOk P w K mg base CX0 1 f fd ["table"] (spEnd K C) := by
  refine F.ok sc_end_of (fun vs H Q E h => ?_) (fun cdv A outer s H vs Q E hr h => ?_)
  · obtain ⟨x, y, rfl, _⟩ := h
    rfl
  · obtain ⟨x, ⟨h, l, r⟩, rfl, ⟨dx, a, b, hx, ha, hb⟩, q⟩ := h
    dsimp only at hx ha hb q
    refine ⟨_, PSs.nox (pss_cons (ps_if (PW.pt (pw_or (pt_not (pt_truth (pe_fld (pv 0) rfl) (fun _ => rfl))) (pw_or1 (pt_cmpR op_gt (pe_fld (pv 0) rfl) pe_int (nomark _))))) (pss_one (ps_ret pe_non)) pss_nil) (pss_one (ps_ret (pe_ix (ixt (K := K)) (pe_fld (pv 0) rfl) (pe_un un_neg pe_int) fun _ _ => rfl)))), ?_⟩
    refine ⟨_, rfl, x, C, dx, _, _, rfl, hx, tc.cl, tc.lp, rfl, _, tru_tup hb, ?_⟩
    by_cases hl : l = []
    · rw [is_nil hl]
      refine iteT (iteT ?_)
      unfold fin_ at q
      rw [if_pos (.inl hl)] at q
      exact q
    · rw [ne_nil hl]
      refine iteF ⟨_, rfl, x, C, dx, _, _, rfl, hx, tc.cl, tc.ri, rfl, _, _, rfl, rfl, _, rfl, ?_⟩
      refine ite2 (fun h1 => ?_) (fun h1 => ?_)
      · have h2 : (0 : Int) < r := of_decide_eq_true h1
        unfold fin_ at q
        rw [if_pos (.inr h2)] at q
        exact q
      · have h2 : ¬ (0 : Int) < r := fun z => h1 (decide_eq_true z)
        unfold fin_ at q
        rw [if_neg (fun z => z.elim hl h2)] at q
        exact ⟨_, rfl, x, C, dx, _, _, rfl, hx, tc.cl, tc.lp, rfl, _, rfl, b, _, _, _, rfl, rfl, hb, at_last (len_pos hl), q⟩
theorem ok_value_at {f : Addr} {fd : FuncData} (F : FunD K "value_at" "value_at" (defArgs s_value_at) (defBody s_value_at) (defScope s_value_at) [] [] f fd) (T : Txt K mg gs FS) (tc : TabC K C) (c_end_of : Cal P w K mg base 1 "end_of" (spEnd K C)) : FnOk P w K mg base CX0 2 f fd ["table", "n"] (spAt K C) := by
  refine F.ok sc_value_at (fun vs H Q E h => ?_) (fun cdv A outer s H vs Q E hr h => ?_)
  · obtain ⟨x, y, n, rfl, _⟩ := h
    rfl
  · obtain ⟨x, ⟨h, l, r⟩, n, rfl, tb, sm, q⟩ := h
    have tb0 := tb
    obtain ⟨dx, a, b, hx, ha, hb⟩ := tb0
    dsimp only at hx ha hb q
    refine ⟨_, PSs.nox (pss_cons (ps_if (pt_cmpR op_isN (pv 1) pe_non (nomark _)) (pss_one (ps_ret (pe_c c_end_of hr (by decide) rfl (pa_cons (pv 0) pa_nil)))) pss_nil) (pss_cons (ps_if (pt_cmpR op_eq (pv 1) pe_int (nomark _)) (pss_one (ps_ret pe_int)) pss_nil) (pss_cons (ps_if (pt_cmpR op_le (pv 1) (pe_callB call_len_seq rfl (T.fr _ (by decide +kernel)) boot_len (pa_cons (pe_fld (pv 0) rfl) pa_nil)) (nomark _)) (pss_one (ps_ret (pe_ix (ixt (K := K)) (pe_fld (pv 0) rfl) (pe_op op_sub (pv 1) pe_int) fun _ _ => rfl))) pss_nil) (pss_cons (ps_if (pt_not (pt_truth (pe_fld (pv 0) rfl) (fun _ => rfl))) (pss_one (ps_ret pe_non)) pss_nil) (pss_cons (ps_asg (pe_callB call_divmod rfl (T.fr _ (by decide +kernel)) (by decide +kernel) (pa_cons (pe_op op_sub (pe_op op_sub (pv 1) (pe_callB call_len_seq rfl (T.fr _ (by decide +kernel)) boot_len (pa_cons (pe_fld (pv 0) rfl) pa_nil))) pe_int) (pa_cons (pe_callB call_len_seq rfl (T.fr _ (by decide +kernel)) boot_len (pa_cons (pe_fld (pv 0) rfl) pa_nil)) pa_nil))) (pgt (K := K) (n := 2) rfl rfl (pgs_cons (pg_name (i := 2) sc_value_at.nd rfl (Or.inl rfl)) (pgs_cons (pg_name (i := 3) sc_value_at.nd rfl (Or.inl rfl)) pgs_nil)))) (pss_one (ps_ret (pe_op op_add (pe_ix (ixt (K := K)) (pe_fld (pv 0) rfl) (pv 3) fun _ _ => rfl) (pe_op op_mul (pv 2) (pe_fld (pv 0) rfl)))))))))), ?_⟩
    cases n with
    | none => exact ⟨_, rfl, rfl, _, rfl, iteT ⟨_, rfl, x, _, rfl, tb, q _ (Same.refl H)⟩⟩
    | some n =>
      refine ⟨_, rfl, rfl, _, rfl, iteF ?_⟩
      refine ⟨_, rfl, rfl, _, rfl, ite2 (fun h1 => ?_) (fun h1 => ?_)⟩
      · have h2 : n = 0 := by
          have := of_decide_eq_true h1
          injection this with this
          omega
        subst h2
        exact q _ (Same.refl H)
      have n0 : n ≠ 0 := fun z => h1 (by rw [z]; exact decide_eq_true rfl)
      unfold val_ at q
      dsimp only at q
      rw [if_neg n0] at q
      refine ⟨_, rfl, _, rfl, x, C, dx, _, _, rfl, hx, tc.cl, tc.hd, rfl, a, _, rfl, Or.inr ha, ?_⟩
      rw [vI_len]
      refine ⟨_, _, rfl, rfl, _, rfl, ite2 (fun h1 => ?_) (fun h1 => ?_)⟩
      · have h2 : n ≤ h.length := by
          have := of_decide_eq_true h1
          omega
        unfold at_ at q
        rw [if_pos h2] at q
        exact ⟨_, rfl, x, C, dx, _, _, rfl, hx, tc.cl, tc.hd, rfl, _, rfl, _, _, rfl, rfl, a, _, _, _, rfl, rfl, ha, at_int (k := n - 1) (by omega) (by omega), q _ (Same.refl H)⟩
      have h2 : ¬ n ≤ h.length := fun z => h1 (decide_eq_true (by omega))
      refine ⟨_, rfl, x, C, dx, _, _, rfl, hx, tc.cl, tc.lp, rfl, _, tru_tup hb, ?_⟩
      by_cases hl : l = []
      · rw [is_nil hl]
        unfold at_ at q
        rw [if_neg h2, if_pos hl] at q
        exact iteT (q _ (Same.refl H))
      rw [ne_nil hl]
      have hp := len_pos hl
      have hsl := sm.l
      dsimp only at hsl
      rw [at_loop hl (by omega)] at q
      refine iteF ?_
      refine ⟨_, rfl, _, rfl, x, C, dx, _, _, rfl, hx, tc.cl, tc.hd, rfl, a, _, rfl, Or.inr ha, _, _, rfl, rfl, _, _, rfl, rfl, ?_⟩
      refine ⟨_, rfl, x, C, dx, _, _, rfl, hx, tc.cl, tc.lp, rfl, b, _, rfl, Or.inr hb, ?_⟩
      rw [vI_len, vI_len]
      refine ⟨_, _, rfl, ⟨by omega, by omega⟩, fun p hpn => ?_⟩
      have s1 := NF.Same.new (o := .tup [V.int (((n : Int) - (h.length : Int) - 1) / (l.length : Int)), V.int (((n : Int) - (h.length : Int) - 1) % (l.length : Int))]) (Same.refl H) hpn
      refine ⟨p, _, rfl, SqT.of upd_same, rfl, _, _, rfl, ?_⟩
      refine ⟨_, _, rfl, ?_⟩
      refine ⟨rfl, ?_⟩
      have hx1 := s1 _ _ hx
      have hb1 := NF.Same.tup s1 hb
      have e1 : (n : Int) - (h.length : Int) - 1 = ((n - h.length - 1 : Nat) : Int) := by omega
      have e2 : ((n : Int) - (h.length : Int) - 1) % (l.length : Int) = (((n - h.length - 1) % l.length : Nat) : Int) := by rw [e1]; rfl
      refine ⟨_, rfl, x, C, dx, _, _, rfl, hx1, tc.cl, tc.lp, rfl, _, rfl, b, _, _, _, rfl, rfl, hb1, at_int (k := (n - h.length - 1) % l.length) e2 (Nat.mod_lt _ hp), ?_⟩
      have r0 := sm.r0
      have r1 := sm.r1
      dsimp only at r0 r1
      refine ⟨_, rfl, _, rfl, x, C, dx, _, _, rfl, hx1, tc.cl, tc.ri, rfl, _, _, rfl, rfl, Or.inr ⟨by omega, by omega⟩, ?_⟩
      refine ⟨_, _, rfl, rfl, ?_⟩
      have e3 : l.getD ((n - h.length - 1) % l.length) 0 + ((n : Int) - (h.length : Int) - 1) / (l.length : Int) * r = walk l r (n - h.length - 1) := by
        unfold walk
        rw [e1, Int.mul_comm]
        rfl
      show Q (V.int _) _
      rw [e3]
      exact q _ s1
theorem ok_Table_call {f : Addr} {fd : FuncData} (F : FunD K "__call__" "Table.__call__" (defArgs s_Table_call) (defBody s_Table_call) (defScope s_Table_call) [] [] f fd) (T : Txt K mg gs FS) (c_is_count : Cal P w K mg base 2 "is_count" spIsCount) (c_value_at : Cal P w K mg base 2 "value_at" (spAt K C)) : FnOk P w K mg base CX0 3 f fd ["self", "n"] (spAt K C) := by
  refine F.ok sc_Table___call__ (fun vs H Q E h => ?_) (fun cdv A outer s H vs Q E hr h => ?_)
  · obtain ⟨x, y, n, rfl, _⟩ := h
    rfl
  · obtain ⟨x, y, n, rfl, tb, sm, q⟩ := h
    refine ⟨_, PSs.nox (pss_cons (ps_if (PW.pt (pw_and (pt_cmpR op_notN (pv 1) pe_non (nomark _)) (pw_and1 (pt_not (pt_val (pe_c c_is_count hr (by decide) rfl (pa_cons (pv 1) pa_nil))))))) (pss_one ps_never) pss_nil) (pss_one (ps_ret (pe_c c_value_at hr (by decide) rfl (pa_cons (pv 0) (pa_cons (pv 1) pa_nil)))))), ?_⟩
    cases n with
    | none => exact ⟨_, rfl, rfl, _, rfl, iteF (iteF ⟨_, rfl, _, rfl, x, y, none, rfl, tb, sm, q⟩)⟩
    | some n =>
      refine ⟨_, rfl, rfl, _, rfl, iteT ⟨_, rfl, (n : Int), rfl, true, congrArg V.bl (decide_eq_true (by omega)), iteF ?_⟩⟩
      exact ⟨_, rfl, _, rfl, x, y, some n, rfl, tb, sm, q⟩
theorem ok_Table_end {f : Addr} {fd : FuncData} (F : FunD K "end" "Table.end" (defArgs s_Table_end) (defBody s_Table_end) (defScope s_Table_end) [] [] f fd) (T : Txt K mg gs FS) (c_end_of : Cal P w K mg base 1 "end_of" (spEnd K C)) : FnOk P w K mg base CX0 2 f fd ["self"] (spEnd K C) := by
  refine F.ok sc_Table_end (fun vs H Q E h => ?_) (fun cdv A outer s H vs Q E hr h => ?_)
  · obtain ⟨x, y, rfl, _⟩ := h
    rfl
  · obtain ⟨x, y, rfl, tb, q⟩ := h
    exact ⟨_, PSs.nox (pss_one (ps_ret (pe_c c_end_of hr (by decide) rfl (pa_cons (pv 0) pa_nil)))), _, rfl, x, y, rfl, tb, q⟩
theorem ok_Table_eq {f : Addr} {fd : FuncData} (F : FunD K "__eq__" "Table.__eq__" (defArgs s_Table_eq) (defBody s_Table_eq) (defScope s_Table_eq) [] [] f fd) (T : Txt K mg gs FS) (hT : mg "Table" = some (.ref C)) (tc : TabC K C) : FnOk P w K mg base CX0 1 f fd ["self", "other"] (spEq K C) := by
  refine F.ok sc_Table___eq__ (fun vs H Q E h => ?_) (fun cdv A outer s H vs Q E hr h => ?_)
  · obtain ⟨x, y, v, rfl, _⟩ := h
    rfl
  · obtain ⟨x, ⟨h, l, r⟩, v, rfl, ⟨dx, a, b, hx, ha, hb⟩, q⟩ := h
    have hu : (A.deeper (envOfC "Table.__eq__" (defScope s_Table_eq) s.heap.objs.size f cdv)).units + 64 < cLine := by
      have := hr.un
      omega
    refine ⟨_, PSs.nox (pss_one (ps_ret (pe_and (pe_callB call_isi rfl (T.fr _ (by decide +kernel)) (by decide +kernel) (pa_cons (pv 1) (pa_cons (pe_gl hT) pa_nil))) (pe_and (pe_cmpR (op_eqD hu) (pe_fld (pv 0) rfl) (pe_fld (pv 1) rfl) (nomark _)) (pe_and (pe_cmpR (op_eqD hu) (pe_fld (pv 0) rfl) (pe_fld (pv 1) rfl) (nomark _)) (pe_one (pe_cmpR op_eq (pe_fld (pv 0) rfl) (pe_fld (pv 1) rfl) (nomark _)))))))), ?_⟩
    rcases q with ⟨x2, ⟨h2, l2, r2⟩, rfl, ⟨dx2, a2, b2, hx2, ha2, hb2⟩, q⟩ | ⟨t, ty, hk, q⟩
    · have tx := tc.ty hx2
      dsimp only at hx ha hb hx2 ha2 hb2 q
      refine ⟨_, rfl, _, _, _, _, true, rfl, .own C, tx, tc.self, true, rfl, iteT ?_⟩
      refine ⟨_, rfl, x, C, dx, _, _, rfl, hx, tc.cl, tc.hd, rfl, _, rfl, x2, C, dx2, _, _, rfl, hx2, tc.cl, tc.hd, rfl, ?_⟩
      refine eqT_done (K := K) ha ha2 ⟨_, rfl, ite2 (fun h1 => ?_) (fun h1 => ?_)⟩
      · have e1 : h = h2 := of_decide_eq_true h1
        refine ⟨_, rfl, x, C, dx, _, _, rfl, hx, tc.cl, tc.lp, rfl, _, rfl, x2, C, dx2, _, _, rfl, hx2, tc.cl, tc.lp, rfl, ?_⟩
        refine eqT_done (K := K) hb hb2 ⟨_, rfl, ite2 (fun h3 => ?_) (fun h3 => ?_)⟩
        · have e2 : l = l2 := of_decide_eq_true h3
          refine ⟨_, rfl, x, C, dx, _, _, rfl, hx, tc.cl, tc.ri, rfl, _, rfl, x2, C, dx2, _, _, rfl, hx2, tc.cl, tc.ri, rfl, rfl, ?_⟩
          have e : decide ((h, l, r) = (h2, l2, r2)) = decide (V.int r = V.int r2) := by
            subst e1 e2
            by_cases z : r = r2
            · subst z; simp
            · rw [decide_eq_false (fun y => z (by injection y with _ y; injection y)), decide_eq_false (fun y => z (by injection y))]
          rw [← e]
          exact q
        · have e2 : l ≠ l2 := fun z => h3 (decide_eq_true z)
          rw [decide_eq_false (fun y => e2 (by injection y with _ y; injection y))] at q
          exact q
      · have e1 : h ≠ h2 := fun z => h1 (decide_eq_true z)
        rw [decide_eq_false (fun y => e1 (by injection y))] at q
        exact q
    · exact ⟨_, rfl, _, _, _, _, false, rfl, .own C, ty, hk, false, rfl, iteF q⟩
end
end K24
set_option Elab.async false
set_option linter.all false
set_option maxRecDepth 100000
set_option maxHeartbeats 4000000
/-! A comprehension with two fors: the outer one, the inner one. -/
namespace NF
open PySem PySem.Spec PyProof.Rows L2
theorem pi_tupK {X : Cx} {K : PySem.W.Frag} {tg l : Expr} {tl : TE} (hl : PE X l tl) (h : X.K = K := by rfl) : PI X tg l (iTup K tl) := h ▸ pi_tup hl
theorem pi_listK {X : Cx} {K : PySem.W.Frag} {tg l : Expr} {tl : TE} (hl : PE X l tl) (h : X.K = K := by rfl) : PI X tg l (iList K tl) := h ▸ pi_list hl
theorem pe_fldK {X : Cx} {K : PySem.W.Frag} {e : Expr} {f : Str} {pos : Pos} {ta : TE} (he : PE X e ta) (hb : attributeBase e f X.env (eval e X.env) = eval e X.env) (h : X.K = K := by rfl) : PE X (.Attribute e f pos) (tFld K ta f) := h ▸ pe_fld he hb
theorem lc2_range {lo : Int} {n : Nat} {g g1 : TG} {tt tt1 : TT} {wi1 : TI} {te : TE} {vs vs1 : List Nat} {σ : L2.St} {H1 : Hp} {D : Addr} {Qd : Hp → Prop} (Pv : Nat → Hp → Prop) (h0 : Pv 0 (upd H1 D (.lst [])))
    (hs : ∀ i H, i < n → Pv i H → g (.int (lo + i)) (wipe σ vs) H fun σ2 H2 => wipe σ2 vs = wipe σ vs ∧ tt σ2 H2 fun b H3 =>
      if b = true then wi1 σ2 H3 fun J1 H4 => ∃ W1 : Nat → Nat → Hp → Prop, (∃ m, W1 0 m H4) ∧ ∀ j k H, W1 j k H →
        (J1.stop j H ∧ Pv (i + 1) H) ∨ (J1.go j H ∧ ∃ Nx1 : Hp → Prop, (∀ H', Nx1 H' → ∃ k', k' < k ∧ W1 (j + 1) k' H') ∧ ∀ x H', J1.yld j H x H' → g1 x (wipe σ2 vs1) H' fun σ3 H5 => wipe σ3 vs1 = wipe σ2 vs1 ∧ tt1 σ3 H5 fun b H6 =>
          if b = true then te σ3 H6 fun y H7 => ∃ acc, H7 D = some (.lst acc) ∧ acc.length < sizeLine ∧ Nx1 (upd H7 D (.lst (acc ++ [y]))) else Nx1 H6)
      else Pv (i + 1) H3) (hd : ∀ H, Pv n H → Qd H) :
    ∃ W : Nat → Nat → Hp → Prop, (∃ m, W 0 m (upd H1 D (.lst []))) ∧ ∀ i m H, W i m H →
      ((Itr lo n).stop i H ∧ Qd H) ∨ ((Itr lo n).go i H ∧ ∃ Nx : Hp → Prop, (∀ H', Nx H' → ∃ m', m' < m ∧ W (i + 1) m' H') ∧ ∀ x H', (Itr lo n).yld i H x H' → g x (wipe σ vs) H' fun σ2 H2 => wipe σ2 vs = wipe σ vs ∧ tt σ2 H2 fun b H3 =>
        if b = true then wi1 σ2 H3 fun J1 H4 => ∃ W1 : Nat → Nat → Hp → Prop, (∃ m, W1 0 m H4) ∧ ∀ j k H, W1 j k H →
          (J1.stop j H ∧ Nx H) ∨ (J1.go j H ∧ ∃ Nx1 : Hp → Prop, (∀ H', Nx1 H' → ∃ k', k' < k ∧ W1 (j + 1) k' H') ∧ ∀ x H', J1.yld j H x H' → g1 x (wipe σ2 vs1) H' fun σ3 H5 => wipe σ3 vs1 = wipe σ2 vs1 ∧ tt1 σ3 H5 fun b H6 =>
            if b = true then te σ3 H6 fun y H7 => ∃ acc, H7 D = some (.lst acc) ∧ acc.length < sizeLine ∧ Nx1 (upd H7 D (.lst (acc ++ [y]))) else Nx1 H6)
        else Nx H3) := by
  refine ⟨fun i m H => m = n - i ∧ i ≤ n ∧ Pv i H, ⟨n, by simp, Nat.zero_le _, h0⟩, ?_⟩
  rintro i m H ⟨rfl, hi, p⟩
  by_cases hlt : i < n
  · refine .inr ⟨hlt, Pv (i + 1), fun H' p' => ⟨n - (i + 1), by omega, rfl, hlt, p'⟩, fun x H' y => ?_⟩
    obtain ⟨e, y⟩ := y
    subst e y
    exact hs i _ hlt p
  · have e : i = n := by omega
    subst e
    exact .inl ⟨Nat.le_refl _, hd H p⟩
theorem in_it {J : It} {n : Nat} {G : Hp → Prop} {Y : Nat → Hp → V → Hp → Prop} (w : Walk J n G Y) {g : TG} {tt : TT} {te : TE} {vs : List Nat} {σ : L2.St} {H4 : Hp} {D : Addr} {Qd : Hp → Prop} (Pv : Nat → Hp → Prop) (h0 : Pv 0 H4) (hG : ∀ i H, i ≤ n → Pv i H → G H)
    (hs : ∀ i x H H', i < n → Pv i H → Y i H x H' → g x (wipe σ vs) H' fun σ2 H2 => wipe σ2 vs = wipe σ vs ∧ tt σ2 H2 fun b H3 =>
      if b = true then te σ2 H3 fun y H4 => ∃ acc, H4 D = some (.lst acc) ∧ acc.length < sizeLine ∧ Pv (i + 1) (upd H4 D (.lst (acc ++ [y]))) else Pv (i + 1) H3) (hd : ∀ H, Pv n H → Qd H) :
    ∃ W : Nat → Nat → Hp → Prop, (∃ m, W 0 m H4) ∧ ∀ i m H, W i m H →
      (J.stop i H ∧ Qd H) ∨ (J.go i H ∧ ∃ Nx : Hp → Prop, (∀ H', Nx H' → ∃ m', m' < m ∧ W (i + 1) m' H') ∧ ∀ x H', J.yld i H x H' → g x (wipe σ vs) H' fun σ2 H2 => wipe σ2 vs = wipe σ vs ∧ tt σ2 H2 fun b H3 =>
        if b = true then te σ2 H3 fun y H4 => ∃ acc, H4 D = some (.lst acc) ∧ acc.length < sizeLine ∧ Nx (upd H4 D (.lst (acc ++ [y]))) else Nx H3) := by
  refine ⟨fun i m H => m = n - i ∧ i ≤ n ∧ Pv i H, ⟨n, by simp, Nat.zero_le _, h0⟩, ?_⟩
  rintro i m H ⟨rfl, hi, p⟩
  have q := hG i H hi p
  by_cases hlt : i < n
  · exact .inr ⟨w.goes i H hlt q, Pv (i + 1), fun H' p' => ⟨n - (i + 1), by omega, rfl, hlt, p'⟩, fun x H' y => hs i x H H' hlt p (w.yields i H x H' hlt q y)⟩
  · have e : i = n := by omega
    subst e
    exact .inl ⟨w.stops H q, hd H p⟩
end NF
set_option Elab.async false
set_option linter.all false
/-! Rules within a comprehension: what is read is told by the class's K, not by the block's. -/
namespace NF
open PySem PySem.Spec PyProof.Rows L2 He RZ
theorem call_lenK {X : Cx} {K : PySem.W.Frag} (h : X.K = K := by rfl) : CallR X (.builtin "len") (fun xs H Q => ∃ p ys, xs = [.ref p] ∧ (SqL K H p ys ∨ SqT K H p ys) ∧ Q (.int ys.length) H) := h ▸ call_len_seq
theorem pt_truthK {X : Cx} {K : PySem.W.Frag} {a : Expr} {ta : TE} (ha : PE X a ta) (he : ∀ whole, isTrue a X.env whole = (do let v ← whole; standAt a.pos; holding [v] (truthy v))) (h : X.K = K := by rfl) :
    PT X a (fun σ H Q => ta σ H fun x H' => ∃ k, TruV K x H' k ∧ Q k H') := h ▸ pt_truth ha he
end NF
set_option Elab.async false
set_option linter.all false
set_option maxRecDepth 100000
set_option maxHeartbeats 4000000
namespace K24
open PySem PySem.Spec PyProof.Rows L2 He NF RZ NT
/-- what the class of makers is -/
structure MakC (K : PySem.W.Frag) (C : Addr) : Prop where
  cl : Cls K C
  ni : NoAttr K C "inlets"
  nb : NoAttr K C "begin"
  nw : NoAttr K C "ways"
  ac : PySem.W.findIn K (.ref C) "__class__" = some (some (.builtin "object.__class__"))
  ag : PySem.W.specialIn K (.builtin "object.__class__") "__get__" = some (some (.builtin "getset_descriptor.__get__"))
  at_ : PySem.W.takesIn K (.builtin "object.__class__") = some true
  am : PySem.W.mroIn K C (.type "object") = some true
  self : PySem.W.kitOne K (.ref C) (.ref C) = some true
  tup : PySem.W.kitOne K (.type "tuple") (.ref C) = some false
  int : PySem.W.kitOne K (.type "int") (.ref C) = some false
theorem MakC.ty {K : PySem.W.Frag} {C : Addr} (c : MakC K C) {H : Hp} {a dx : Addr} {fs : List (Str × V)} (h : H a = some (.ins C dx fs)) : TyX K H (.ref a) (.ref C) := .base (.ins h c.cl c.ac c.ag c.at_ c.am)
structure RouC (K : PySem.W.Frag) (C : Addr) : Prop where
  cl : Cls K C
  nt : NoAttr K C "taken"
  nm : NoAttr K C "marks"
/-- a right maker -/
structure GoodM (n : Nat) (b : List Deed) (ws : List (List Deed)) : Prop where
  n1 : 1 ≤ n
  n3 : n ≤ 3
  bd : ∀ i, some i ∈ b → i < n
  wy : ∀ v ∈ ws, v ≠ [] ∧ v.length ≤ 24 ∧ ∀ i, some i ∈ v → i < n
  m1 : 1 ≤ ws.length
  m4 : ws.length ≤ 4
  bl : b.length ≤ 600
def okD (n : Nat) : Deed → Bool
  | none => true
  | some i => decide (i < n)
def mf (n : Nat) (pb pw : Addr) : List (Str × V) := [("inlets", .int (n : Int)), ("begin", .ref pb), ("ways", .ref pw)]
def MakAt (K : PySem.W.Frag) (C : Addr) (H : Hp) (x : Addr) (n : Nat) (b : List Deed) (ws : List (List Deed)) : Prop := ∃ dx pb pw, H x = some (.ins C dx (mf n pb pw)) ∧ SqT K H pb (b.map dV) ∧ WaysT K H pw ws
theorem MakAt.mono {K : PySem.W.Frag} {C : Addr} {H H' : Hp} {x : Addr} {n : Nat} {b : List Deed} {ws : List (List Deed)} (h : MakAt K C H x n b ws) (s : Same H H') : MakAt K C H' x n b ws := by
  obtain ⟨dx, pb, pw, h1, h2, h3⟩ := h
  exact ⟨dx, pb, pw, s _ _ h1, NF.Same.tup s h2, h3.mono s⟩
def rf (i : Nat) (ds : List Deed) (m : Addr) : List (Str × V) := [("taken", .int (took i ds : Int)), ("marks", .ref m)]
def RouAt (K : PySem.W.Frag) (C : Addr) (H : Hp) (x : Addr) (i : Nat) (ds : List Deed) : Prop := ∃ dx m, H x = some (.ins C dx (rf i ds m)) ∧ SqT K H m (vI (ahead i ds 0))
theorem RouAt.mono {K : PySem.W.Frag} {C : Addr} {H H' : Hp} {x : Addr} {i : Nat} {ds : List Deed} (h : RouAt K C H x i ds) (s : Same H H') : RouAt K C H' x i ds := by
  obtain ⟨dx, m, h1, h2⟩ := h
  exact ⟨dx, m, s _ _ h1, NF.Same.tup s h2⟩
def spDeed : Sp := fun vs H Q _ => ∃ (d : Deed) (n : Nat), vs = [dV d, .int (n : Int)] ∧ Q (.bl (okD n d)) H
def spDeeds (K : PySem.W.Frag) : Sp := fun vs H Q _ => ∃ (a : Addr) (n : Nat) (ds : List Deed), vs = [.ref a, .int (n : Int)] ∧ Row K H a (ds.map dV) ∧ (∀ i, some i ∈ ds → i < n) ∧ ds.length ≤ 10000 ∧ ∀ H', Same H H' → Q (.bl true) H'
def spWays (K : PySem.W.Frag) : Sp := fun vs H Q _ => ∃ (a : Addr) (n : Nat) (b : List Deed) (ws : List (List Deed)), vs = [.ref a, .int (n : Int)] ∧ WaysR K H a ws ∧ GoodM n b ws ∧ ∀ H', Same H H' → Q (.bl true) H'
def spCheckM (K : PySem.W.Frag) : Sp := fun vs H Q _ => ∃ (pb pw : Addr) (n : Nat) (b : List Deed) (ws : List (List Deed)), vs = [.int (n : Int), .ref pb, .ref pw] ∧ Row K H pb (b.map dV) ∧ WaysR K H pw ws ∧ GoodM n b ws ∧ ∀ H', Same H H' → Q .non H'
theorem sc_is_deed : FnScope ["thing", "inlets"] ["thing", "inlets"] (defScope s_is_deed) := ⟨rfl, rfl, rfl, by decide +kernel, rfl, by decide +kernel, by decide +kernel⟩
theorem sc_are_deeds : FnScope ["thing", "inlets", "deed"] ["thing", "inlets"] (defScope s_are_deeds) := ⟨rfl, rfl, rfl, by decide +kernel, rfl, by decide +kernel, by decide +kernel⟩
theorem sc_are_ways : FnScope ["thing", "inlets", "way"] ["thing", "inlets"] (defScope s_are_ways) := ⟨rfl, rfl, rfl, by decide +kernel, rfl, by decide +kernel, by decide +kernel⟩
theorem sc_check_maker : FnScope ["inlets", "begin", "ways", "most", "way"] ["inlets", "begin", "ways"] (defScope s_check_maker) := ⟨rfl, rfl, rfl, by decide +kernel, rfl, by decide +kernel, by decide +kernel⟩
section
variable {P : Program} {w : World} {K : PySem.W.Frag} {mg : Str → Option Value} {base : Heap} {gs fs : List Str} {C : Addr}
theorem kit_s_s (K : PySem.W.Frag) : PySem.W.kitOne K (.type "str") (.type "str") = some true := if_pos (by decide +kernel)
theorem kit_i_s (K : PySem.W.Frag) : PySem.W.kitOne K (.type "int") (.type "str") = some false := by kernel_rfl
theorem ok_is_deed {f : Addr} {fd : FuncData} (F : FunD K "is_deed" "is_deed" (defArgs s_is_deed) (defBody s_is_deed) (defScope s_is_deed) [] [] f fd) (T : Txt K mg gs FS) (c_is_count : Cal P w K mg base 2 "is_count" spIsCount) : FnOk P w K mg base CX0 3 f fd ["thing", "inlets"] spDeed := by
  refine F.ok sc_is_deed (fun vs H Q E h => ?_) (fun cdv A outer s H vs Q E hr h => ?_)
  · obtain ⟨d, n, rfl, _⟩ := h
    rfl
  · obtain ⟨d, n, rfl, q⟩ := h
    refine ⟨_, PSs.nox (pss_cons (ps_if (pt_val (pe_callB call_isi rfl (T.fr _ (by decide +kernel)) (by decide +kernel) (pa_cons (pv 0) (pa_cons (pe_bltn (v := .ty "str") rfl (T.fr _ (by decide +kernel)) (by decide +kernel) rfl) pa_nil)))) (pss_one (ps_ret (pe_cmpR op_eq (pv 0) pe_str (nomark _)))) pss_nil) (pss_one (ps_ret (pe_and (pe_c c_is_count hr (by decide) rfl (pa_cons (pv 0) pa_nil)) (pe_one (pe_cmpR op_lt (pv 0) (pv 1) (nomark _))))))), ?_⟩
    cases d with
    | none => exact ⟨_, rfl, _, _, _, _, true, rfl, .ty "str", .base (.str _), kit_s_s K, true, rfl, iteT ⟨_, rfl, rfl, q⟩⟩
    | some i =>
      refine ⟨_, rfl, _, _, _, _, false, rfl, .ty "str", .base (.int _), kit_i_s K, false, rfl, iteF ?_⟩
      refine ⟨_, rfl, (i : Int), rfl, decide (0 ≤ (i : Int)), rfl, ?_⟩
      rw [decide_eq_true (by omega)]
      refine ⟨_, rfl, _, rfl, _, _, rfl, rfl, ?_⟩
      have e : decide ((i : Int) < (n : Int)) = okD n (some i) := by
        show _ = decide (i < n)
        by_cases h : i < n
        · rw [decide_eq_true h, decide_eq_true (by omega)]
        · rw [decide_eq_false h, decide_eq_false (by omega)]
      show Q (V.bl (decide ((i : Int) < (n : Int)))) H
      rw [e]
      exact q
theorem ok_are_deeds {f : Addr} {fd : FuncData} (F : FunD K "are_deeds" "are_deeds" (defArgs s_are_deeds) (defBody s_are_deeds) (defScope s_are_deeds) [] [] f fd) (T : Txt K mg gs FS) (c_is_row : Cal P w K mg base 1 "is_row" (spIsRow K)) (c_is_deed : Cal P w K mg base 3 "is_deed" spDeed) : FnOk P w K mg base CX0 4 f fd ["thing", "inlets"] (spDeeds K) := by
  refine F.ok sc_are_deeds (fun vs H Q E h => ?_) (fun cdv A outer s H vs Q E hr h => ?_)
  · obtain ⟨a, n, ds, rfl, _⟩ := h
    rfl
  · obtain ⟨a, n, ds, rfl, ha, ok, hl, q⟩ := h
    refine ⟨_, PSs.nox (pss_one (ps_ret (pe_and (pe_c c_is_row hr (by decide) rfl (pa_cons (pv 0) pa_nil)) (pe_one (pe_callB (cr_all rfl) rfl (T.fr _ (by decide +kernel)) (by decide +kernel) (pa_cons (pe_lc (own := [("deed", 2)]) rfl sc_are_deeds.nd (pi_row (pv 0)) (blkOk_by (N := ["thing", "inlets", "deed"]) (sc := defScope s_are_deeds) (by decide +kernel)) (fun _ _ _ _ _ => by exact (pg_name (i := 2) sc_are_deeds.nd rfl (Or.inl rfl))) (fun _ _ _ _ _ => by exact pts_nil) (fun _ _ _ _ _ => by exact (pe_c c_is_deed hr (by decide) rfl (pa_cons (pv 2) (pa_cons (pv 1) pa_nil))))) pa_nil)))))), ?_⟩
    refine ⟨_, rfl, a, _, rfl, ha, fun H1 s1 => ⟨true, rfl, iteT ?_⟩⟩
    refine ⟨_, rfl, a, rfl, ?_⟩
    refine lc_row (ha.mono s1) (fun D j G => Same H1 G ∧ G D = some (.lst ((List.replicate j true).map V.bl))) (fun D hD => ⟨NF.Same.new (Same.refl H1) hD, upd_same⟩) (fun D i G _ z => z.1) ?_ ?_
    · rintro D hD j v G hv ⟨hG, hD2⟩
      have hj := (List.getElem?_eq_some_iff.mp hv).1
      rw [List.length_map] at hj
      obtain rfl : dV (ds[j]) = v := by
        rw [List.getElem?_map, List.getElem?_eq_getElem hj] at hv
        exact Option.some.inj hv
      refine ⟨rfl, _, rfl, _, rfl, ds[j], n, rfl, ?_⟩
      have e : okD n ds[j] = true := by
        cases ed : ds[j] with
        | none => rfl
        | some i => exact decide_eq_true (ok i (by rw [← ed]; exact List.getElem_mem hj))
      rw [e]
      refine ⟨_, hD2, by rw [List.length_map, List.length_replicate]; exact Nat.lt_of_lt_of_le (show j < 10000 by omega) (by decide), NF.Same.mut hG hD, ?_⟩
      rw [upd_same, List.replicate_succ', List.map_append] <;> rfl
    · rintro D hD G ⟨hG, hD2⟩
      refine ⟨D, _, rfl, SqL.of hD2, ?_⟩
      have : (List.replicate ((ds.map dV).length) true).all id = true := by
        rw [List.all_replicate]
        simp
      rw [this]
      exact q G (Same.trans s1 hG)
theorem ok_are_ways {f : Addr} {fd : FuncData} (F : FunD K "are_ways" "are_ways" (defArgs s_are_ways) (defBody s_are_ways) (defScope s_are_ways) [] [] f fd) (T : Txt K mg gs FS) (h_MOST_WAYS : mg "MOST_WAYS" = some (.int 4 tok_w)) (c_is_row : Cal P w K mg base 1 "is_row" (spIsRow K)) (c_are_deeds : Cal P w K mg base 4 "are_deeds" (spDeeds K)) : FnOk P w K mg base CX0 5 f fd ["thing", "inlets"] (spWays K) := by
  refine F.ok sc_are_ways (fun vs H Q E h => ?_) (fun cdv A outer s H vs Q E hr h => ?_)
  · obtain ⟨a, n, b, ws, rfl, _⟩ := h
    rfl
  · obtain ⟨a, n, b, ws, rfl, ⟨as, ha, hl, hw⟩, g, q⟩ := h
    have m1 := g.m1
    have m4 := g.m4
    refine ⟨_, PSs.nox (pss_cons (ps_if (PW.pt (pw_or (pt_not (pt_val (pe_c c_is_row hr (by decide) rfl (pa_cons (pv 0) pa_nil)))) (pw_or1 (pt_not (pt_chain op_le op_le pe_int (pe_callB call_len_seq rfl (T.fr _ (by decide +kernel)) boot_len (pa_cons (pv 0) pa_nil)) (pe_glob (v := .int 4) rfl h_MOST_WAYS ⟨_, rfl⟩)))))) (pss_one (ps_ret pe_bl)) pss_nil) (pss_one (ps_ret (pe_callB (cr_all rfl) rfl (T.fr _ (by decide +kernel)) (by decide +kernel) (pa_cons (pe_lc (own := [("way", 2)]) rfl sc_are_ways.nd (pi_row (pv 0)) (blkOk_by (N := ["thing", "inlets", "way"]) (sc := defScope s_are_ways) (by decide +kernel)) (fun _ _ _ _ _ => by exact (pg_name (i := 2) sc_are_ways.nd rfl (Or.inl rfl))) (fun _ _ _ _ _ => by exact pts_nil) (fun _ _ _ _ _ => by exact (pe_and (pe_c c_are_deeds hr (by decide) rfl (pa_cons (pv 2) (pa_cons (pv 1) pa_nil))) (pe_one (pe_cmpR op_gt (pe_callB (call_lenK (K := K)) rfl (T.fr _ (by decide +kernel)) boot_len (pa_cons (pv 2) pa_nil)) pe_int (nomark _)))))) pa_nil))))), ?_⟩
    refine ⟨_, rfl, a, _, rfl, ha, fun H1 s1 => ⟨true, rfl, iteF ?_⟩⟩
    refine ⟨_, rfl, a, _, rfl, ha.mono s1, ?_⟩
    rw [List.length_map, hl]
    refine ⟨_, _, rfl, rfl, _, rfl, iteT' (decide_eq_true (by omega)) ⟨_, _, rfl, rfl, _, rfl, ?_⟩⟩
    rw [show decide ((ws.length : Int) ≤ 4) = true from decide_eq_true (by omega)]
    refine iteF ?_
    refine ⟨_, rfl, a, rfl, ?_⟩
    refine lc_row (ha.mono s1) (fun D j G => Same H1 G ∧ G D = some (.lst ((List.replicate j true).map V.bl))) (fun D hD => ⟨NF.Same.new (Same.refl H1) hD, upd_same⟩) (fun D i G _ z => z.1) ?_ ?_
    · rintro D hD j v G hv ⟨hG, hD2⟩
      have hj := (List.getElem?_eq_some_iff.mp hv).1
      rw [List.length_map] at hj
      obtain rfl : V.ref (as[j]) = v := by
        rw [List.getElem?_map, List.getElem?_eq_getElem hj] at hv
        exact Option.some.inj hv
      have hjw : j < ws.length := by omega
      have hr1 := (hw j as[j] ws[j] (List.getElem?_eq_getElem hj) (List.getElem?_eq_getElem hjw)).mono (Same.trans s1 hG)
      obtain ⟨w1, w2, w3⟩ := g.wy ws[j] (List.getElem_mem hjw)
      have w0 := List.length_pos_iff.mpr w1
      refine ⟨rfl, _, rfl, _, rfl, as[j], n, ws[j], rfl, hr1, w3, by omega, fun G2 s2 => ⟨true, rfl, iteT ?_⟩⟩
      refine ⟨_, rfl, as[j], _, rfl, hr1.mono s2, _, _, rfl, rfl, ?_⟩
      rw [List.length_map]
      refine ⟨_, s2 _ _ hD2, by rw [List.length_map, List.length_replicate]; exact Nat.lt_of_lt_of_le (show j < 10000 by omega) (by decide), NF.Same.mut (Same.trans hG s2) hD, ?_⟩
      rw [upd_same, List.replicate_succ', List.map_append]
      show some (HO.lst (_ ++ [V.bl (decide ((0 : Int) < (ws[j].length : Int)))])) = _
      rw [decide_eq_true (by omega)]
      rfl
    · rintro D hD G ⟨hG, hD2⟩
      refine ⟨D, _, rfl, SqL.of hD2, ?_⟩
      have : (List.replicate ((as.map V.ref).length) true).all id = true := by
        rw [List.all_replicate]
        simp
      rw [this]
      exact q G (Same.trans s1 hG)
theorem ok_check_maker {f : Addr} {fd : FuncData} (F : FunD K "check_maker" "check_maker" (defArgs s_check_maker) (defBody s_check_maker) (defScope s_check_maker) [] [] f fd) (T : Txt K mg gs FS) (h_MOST_INLETS : mg "MOST_INLETS" = some (.int 3 tok_i)) (h_MOST_DEEDS : mg "MOST_DEEDS" = some (.int 600 tok_d)) (h_MOST_DEEDS_OF_SEVERAL : mg "MOST_DEEDS_OF_SEVERAL" = some (.int 24 tok_s)) (c_is_integer : Cal P w K mg base 1 "is_integer" spIsInt) (c_are_deeds : Cal P w K mg base 4 "are_deeds" (spDeeds K)) (c_are_ways : Cal P w K mg base 5 "are_ways" (spWays K)) : FnOk P w K mg base CX0 6 f fd ["inlets", "begin", "ways"] (spCheckM K) := by
  refine F.ok sc_check_maker (fun vs H Q E h => ?_) (fun cdv A outer s H vs Q E hr h => ?_)
  · obtain ⟨pb, pw, n, b, ws, rfl, _⟩ := h
    rfl
  · obtain ⟨pb, pw, n, b, ws, rfl, hb, hw, g, q⟩ := h
    have n1 := g.n1
    have n3 := g.n3
    have m1 := g.m1
    have m4 := g.m4
    have gb := g.bl
    refine ⟨_, PSs.nox (pss_cons (ps_if (PW.pt (pw_or (pt_not (pt_val (pe_c c_is_integer hr (by decide) rfl (pa_cons (pv 0) pa_nil)))) (pw_or1 (pt_not (pt_chain op_le op_le pe_int (pv 0) (pe_glob (v := .int 3) rfl h_MOST_INLETS ⟨_, rfl⟩)))))) (pss_one ps_never) pss_nil) (pss_cons (ps_if (pt_not (pt_val (pe_c c_are_deeds hr (by decide) rfl (pa_cons (pv 1) (pa_cons (pv 0) pa_nil))))) (pss_one ps_never) pss_nil) (pss_cons (ps_if (pt_not (pt_val (pe_c c_are_ways hr (by decide) rfl (pa_cons (pv 2) (pa_cons (pv 0) pa_nil))))) (pss_one ps_never) pss_nil) (pss_cons (ps_set (i := 3) sc_check_maker.nd rfl (Or.inl rfl) (pe_ifExp (pt_cmpR op_eq (pe_callB call_len_seq rfl (T.fr _ (by decide +kernel)) boot_len (pa_cons (pv 2) pa_nil)) pe_int (nomark _)) (pe_glob (v := .int 600) rfl h_MOST_DEEDS ⟨_, rfl⟩) (pe_glob (v := .int 24) rfl h_MOST_DEEDS_OF_SEVERAL ⟨_, rfl⟩))) (pss_one (ps_if (PW.pt (pw_or (pt_cmpR op_gt (pe_callB call_len_seq rfl (T.fr _ (by decide +kernel)) boot_len (pa_cons (pv 1) pa_nil)) (pe_glob (v := .int 600) rfl h_MOST_DEEDS ⟨_, rfl⟩) (nomark _)) (pw_or1 (pt_cmpR op_gt (pe_callB (cr_max rfl) rfl (T.fr _ (by decide +kernel)) (by decide +kernel) (pa_cons (pe_lc (own := [("way", 4)]) rfl sc_check_maker.nd (pi_row (pv 2)) (blkOk_by (N := ["inlets", "begin", "ways", "most", "way"]) (sc := defScope s_check_maker) (by decide +kernel)) (fun _ _ _ _ _ => by exact (pg_name (i := 4) sc_check_maker.nd rfl (Or.inl rfl))) (fun _ _ _ _ _ => by exact pts_nil) (fun _ _ _ _ _ => by exact (pe_callB (call_lenK (K := K)) rfl (T.fr _ (by decide +kernel)) boot_len (pa_cons (pv 4) pa_nil)))) pa_nil)) (pv 3) (nomark _))))) (pss_one ps_never) pss_nil)))))), ?_⟩
    refine ⟨_, rfl, (n : Int), rfl, true, rfl, iteF ?_⟩
    refine ⟨_, rfl, _, _, rfl, rfl, _, rfl, iteT' (decide_eq_true (by omega)) ⟨_, _, rfl, rfl, _, rfl, ?_⟩⟩
    rw [show decide ((n : Int) ≤ 3) = true from decide_eq_true (by omega)]
    refine iteF ?_
    refine ⟨_, rfl, _, rfl, pb, n, b, rfl, hb, g.bd, by omega, fun H1 s1 => ⟨true, rfl, iteF ?_⟩⟩
    refine ⟨_, rfl, _, rfl, pw, n, b, ws, rfl, hw.mono s1, g, fun H2 s2 => ⟨true, rfl, iteF ?_⟩⟩
    have s02 := Same.trans s1 s2
    obtain ⟨as, ha, hl, hws⟩ := hw.mono s02
    refine ⟨_, rfl, pw, _, rfl, ha, rfl, _, rfl, ite2 (fun _ => ?_) (fun _ => ?_)⟩
    all_goals
      refine ⟨_, rfl, pb, _, rfl, hb.mono s02, _, _, rfl, rfl, _, rfl, iteF' (decide_eq_false (by rw [List.length_map]; omega)) ?_⟩
      refine ⟨_, rfl, pw, rfl, ?_⟩
      refine lc_row ha (fun D j G => Same H2 G ∧ G D = some (.lst (vI ((ws.take j).map fun v => (v.length : Int))))) (fun D hD => ⟨NF.Same.new (Same.refl H2) hD, upd_same⟩) (fun D i G _ z => z.1) ?_ ?_
      · rintro D hD j v G hv ⟨hG, hD2⟩
        have hj := (List.getElem?_eq_some_iff.mp hv).1
        rw [List.length_map] at hj
        obtain rfl : V.ref (as[j]) = v := by
          rw [List.getElem?_map, List.getElem?_eq_getElem hj] at hv
          exact Option.some.inj hv
        have hjw : j < ws.length := by omega
        have hr1 := (hws j as[j] ws[j] (List.getElem?_eq_getElem hj) (List.getElem?_eq_getElem hjw)).mono hG
        refine ⟨rfl, _, rfl, as[j], _, rfl, hr1, ?_⟩
        rw [List.length_map]
        refine ⟨_, hD2, by rw [vI_len, List.length_map, List.length_take]; exact Nat.lt_of_le_of_lt (show min j ws.length ≤ 4 by omega) (by decide), NF.Same.mut hG hD, ?_⟩
        rw [upd_same, List.take_add_one, List.getElem?_eq_getElem hjw, List.map_append, ← vI_app]
        rfl
      · rintro D hD G ⟨hG, hD2⟩
        rw [List.length_map, hl, List.take_length] at hD2
        refine ⟨D, _, rfl, SqL.of hD2, by rw [List.length_map]; omega, fun m hm _ => ?_⟩
        have m24 : m ≤ 24 := by
          obtain ⟨v, hv, rfl⟩ := List.mem_map.mp hm
          have := (g.wy v hv).2.1
          omega
        refine ⟨_, rfl, _, _, rfl, rfl, _, rfl, iteF' (decide_eq_false (by omega)) ?_⟩
        exact q G (Same.trans s02 hG)
end
/-- a maker is made -/
def spMkInit (K : PySem.W.Frag) (C : Addr) : Sp := fun vs H Q _ => ∃ (x dx pb pw : Addr) (n : Nat) (b : List Deed) (ws : List (List Deed)), vs = [.ref x, .int (n : Int), .ref pb, .ref pw] ∧ H x = some (.ins C dx []) ∧ Row K (wo H x) pb (b.map dV) ∧ WaysR K (wo H x) pw ws ∧ GoodM n b ws ∧
  ∀ H', Same (wo H x) H' → MakAt K C H' x n b ws → Q .non H'
def spRoInit (K : PySem.W.Frag) (C : Addr) : Sp := fun vs H Q _ => ∃ (x dx a : Addr) (i : Nat) (ds : List Deed), vs = [.ref x, .ref a, .int (i : Int)] ∧ H x = some (.ins C dx []) ∧ Row K (wo H x) a (ds.map dV) ∧ ds.length ≤ 10000 ∧
  ∀ H', Same (wo H x) H' → RouAt K C H' x i ds → Q .non H'
theorem sc_Maker___init__ : FnScope ["self", "inlets", "begin", "ways", "way"] ["self", "inlets", "begin", "ways"] (defScope s_Maker_init) := ⟨rfl, rfl, rfl, by decide +kernel, rfl, by decide +kernel, by decide +kernel⟩
theorem sc_Round___init__ : FnScope ["self", "deeds", "inlet", "taken", "marks", "deed"] ["self", "deeds", "inlet"] (defScope s_Round_init) := ⟨rfl, rfl, rfl, by decide +kernel, rfl, by decide +kernel, by decide +kernel⟩
theorem mf_eq (n : Nat) (pb pw : Addr) : putF "ways" (.ref pw) (putF "begin" (.ref pb) (putF "inlets" (.int (n : Int)) [])) = mf n pb pw := by rfl
theorem rf_eq (i : Nat) (ds : List Deed) (m : Addr) : putF "marks" (.ref m) (putF "taken" (.int (took i ds : Int)) []) = rf i ds m := by rfl
section
variable {P : Program} {w : World} {K : PySem.W.Frag} {mg : Str → Option Value} {base : Heap} {gs fs : List Str} {C : Addr}
theorem ok_Maker_init {f : Addr} {fd : FuncData} (F : FunD K "__init__" "Maker.__init__" (defArgs s_Maker_init) (defBody s_Maker_init) (defScope s_Maker_init) [] [] f fd) (T : Txt K mg gs FS) (mc : MakC K C) (c_check_maker : Cal P w K mg base 6 "check_maker" (spCheckM K)) : FnOk P w K mg base CX0 7 f fd ["self", "inlets", "begin", "ways"] (spMkInit K C) := by
  refine F.ok sc_Maker___init__ (fun vs H Q E h => ?_) (fun cdv A outer s H vs Q E hr h => ?_)
  · obtain ⟨x, dx, pb, pw, n, b, ws, rfl, _⟩ := h
    rfl
  · obtain ⟨x, dx, pb, pw, n, b, ws, rfl, hx, hb, hw, g, q⟩ := h
    refine ⟨_, PSs.nox (pss_cons (ps_expr (pe_c c_check_maker hr (by decide) rfl (pa_cons (pv 1) (pa_cons (pv 2) (pa_cons (pv 3) pa_nil))))) (pss_cons (ps_fld (pv 0) (pv 1) rfl) (pss_cons (ps_fld (pv 0) (pe_callTy cr_tup rfl (T.fr _ (by decide +kernel)) (by decide +kernel) (pa_cons (pv 2) pa_nil)) rfl) (pss_one (ps_fld (pv 0) (pe_callTy cr_tup rfl (T.fr _ (by decide +kernel)) (by decide +kernel) (pa_cons (pe_lc (own := [("way", 4)]) rfl sc_Maker___init__.nd (pi_row (pv 3)) (blkOk_by (N := ["self", "inlets", "begin", "ways", "way"]) (sc := defScope s_Maker_init) (by decide +kernel)) (fun _ _ _ _ _ => by exact (pg_name (i := 4) sc_Maker___init__.nd rfl (Or.inl rfl))) (fun _ _ _ _ _ => by exact pts_nil) (fun _ _ _ _ _ => by exact (pe_callTy (cr_tupK (K := K)) rfl (T.fr _ (by decide +kernel)) (by decide +kernel) (pa_cons (pv 4) pa_nil)))) pa_nil)) rfl))))), ?_⟩
    have hb0 := hb.mono wo_same'
    have hw0 := hw.mono wo_same'
    refine ⟨_, rfl, _, rfl, _, rfl, pb, pw, n, b, ws, rfl, hb0, hw0, g, fun H1 s1 => ?_⟩
    have sw : Same (wo H x) H1 := Same.trans wo_same' s1
    have hx1 := s1 _ _ hx
    refine ⟨_, rfl, _, rfl, x, C, dx, _, rfl, hx1, mc.cl, mc.ni, (by decide), ?_⟩
    have sw2 := NF.Same.put (o := .ins C dx (putF "inlets" (.int (n : Int)) [])) sw wo_none
    have hx2 := upd_same (H := H1) (a := x) (o := .ins C dx (putF "inlets" (.int (n : Int)) []))
    generalize upd H1 x (.ins C dx (putF "inlets" (.int (n : Int)) [])) = H2 at sw2 hx2
    refine ⟨_, rfl, pb, _, rfl, hb.mono sw2, fun p1 H3 s3 t1 => ?_⟩
    have hx3 := s3 _ _ hx2
    have sw3 := Same.trans sw2 s3
    refine ⟨_, rfl, x, C, dx, _, rfl, hx3, mc.cl, mc.nb, (show 1 < 1000 by decide), ?_⟩
    have sw4 := NF.Same.put (o := .ins C dx (putF "begin" (.ref p1) (putF "inlets" (.int (n : Int)) []))) sw3 wo_none
    have hx4 := upd_same (H := H3) (a := x) (o := .ins C dx (putF "begin" (.ref p1) (putF "inlets" (.int (n : Int)) [])))
    have t1 := SqT.put (o := .ins C dx (putF "begin" (.ref p1) (putF "inlets" (.int (n : Int)) []))) t1 hx3 trivial
    generalize upd H3 x (.ins C dx (putF "begin" (.ref p1) (putF "inlets" (.int (n : Int)) []))) = H4 at sw4 hx4 t1
    obtain ⟨as, ha, hl, hws⟩ := hw.mono sw4
    have m4 := g.m4
    refine ⟨_, rfl, pw, rfl, ?_⟩
    refine lc_row ha (fun D j G => Same H4 G ∧ ∃ bs : List Addr, bs.length = j ∧ G D = some (.lst (bs.map V.ref)) ∧ ∀ (k : Nat) (c : Addr) (v : List Deed), bs[k]? = some c → ws[k]? = some v → SqT K G c (v.map dV)) (fun D hD => ⟨NF.Same.new (Same.refl H4) hD, [], rfl, upd_same, fun k c v e => by simp at e⟩) (fun D i G _ z => z.1) ?_ ?_
    · rintro D hD j v G hv ⟨hG, bs, hbs, hD2, hts⟩
      have hj := (List.getElem?_eq_some_iff.mp hv).1
      rw [List.length_map] at hj
      obtain rfl : V.ref (as[j]) = v := by
        rw [List.getElem?_map, List.getElem?_eq_getElem hj] at hv
        exact Option.some.inj hv
      have hjw : j < ws.length := by omega
      have hr1 := (hws j as[j] ws[j] (List.getElem?_eq_getElem hj) (List.getElem?_eq_getElem hjw)).mono hG
      refine ⟨rfl, _, rfl, as[j], _, rfl, hr1, fun p G2 s2 t2 => ?_⟩
      have hD3 := s2 _ _ hD2
      refine ⟨_, hD3, by rw [List.length_map, hbs]; exact Nat.lt_of_lt_of_le (show j < 10000 by omega) (by decide), NF.Same.mut (Same.trans hG s2) hD, bs ++ [p], by simp [hbs], ?_, fun k c v e1 e2 => ?_⟩
      · rw [upd_same, List.map_append]
        rfl
      · refine SqT.put ?_ hD3 trivial
        rcases Nat.lt_trichotomy k j with h | h | h
        · rw [List.getElem?_append_left (by omega)] at e1
          exact NF.Same.tup s2 (hts k c v e1 e2)
        · subst h
          rw [List.getElem?_append_right (by omega), hbs, Nat.sub_self] at e1
          rw [List.getElem?_eq_getElem hjw] at e2
          cases e1
          cases e2
          exact t2
        · rw [List.getElem?_eq_none (by simp [hbs]; omega)] at e1
          cases e1
    · rintro D hD G ⟨hG, bs, hbs, hD2, hts⟩
      rw [List.length_map, hl] at hbs
      refine ⟨D, _, rfl, .inl (SqL.of hD2), fun p2 G2 s2 t2 => ?_⟩
      have hx5 := s2 _ _ (hG _ _ hx4)
      refine ⟨_, rfl, x, C, dx, _, rfl, hx5, mc.cl, mc.nw, (show 2 < 1000 by decide), ?_⟩
      have sw5 := NF.Same.put (o := .ins C dx (putF "ways" (.ref p2) (putF "begin" (.ref p1) (putF "inlets" (.int (n : Int)) [])))) (Same.trans sw4 (Same.trans hG s2)) wo_none
      refine q _ sw5 ⟨dx, p1, p2, ?_, SqT.put (NF.Same.tup (Same.trans hG s2) t1) hx5 trivial, bs, SqT.put t2 hx5 trivial, hbs, fun k c v e1 e2 => SqT.put (NF.Same.tup s2 (hts k c v e1 e2)) hx5 trivial⟩
      rw [upd_same, ← mf_eq]
theorem ok_Round_init {f : Addr} {fd : FuncData} (F : FunD K "__init__" "Round.__init__" (defArgs s_Round_init) (defBody s_Round_init) (defScope s_Round_init) [] [] f fd) (T : Txt K mg gs FS) (rc : RouC K C) : FnOk P w K mg base CX0 1 f fd ["self", "deeds", "inlet"] (spRoInit K C) := by
  refine F.ok sc_Round___init__ (fun vs H Q E h => ?_) (fun cdv A outer s H vs Q E hr h => ?_)
  · obtain ⟨x, dx, a, i, ds, rfl, _⟩ := h
    rfl
  · obtain ⟨x, dx, a, i, ds, rfl, hx, ha, hl, q⟩ := h
    refine ⟨_, PSs.nox (pss_cons (ps_set (i := 3) sc_Round___init__.nd rfl (Or.inl rfl) pe_int) (pss_cons (ps_set (i := 4) sc_Round___init__.nd rfl (Or.inl rfl) (pe_lst pa_nil)) (pss_cons (ps_for PassesOwn.never rfl (pi_row (pv 1)) (pg_name (i := 5) sc_Round___init__.nd rfl (Or.inl rfl)) (pss_one (ps_if (pt_cmpR op_eq (pv 5) pe_str (nomark _)) (pss_one (ps_expr (pe_bm PySem.F.plainAttrs_list PySem.F.slot_list_append PySem.F.type_list_append mt_append (pv 4) (pa_cons (pv 3) pa_nil)))) (pss_one (ps_if (pt_cmpR op_eq (pv 5) (pv 2) (nomark _)) (pss_one (ps_set (i := 3) sc_Round___init__.nd rfl (Or.inl rfl) (pe_op op_add (pv 3) pe_int))) pss_nil))))) (pss_cons (ps_fld (pv 0) (pv 3) rfl) (pss_one (ps_fld (pv 0) (pe_callTy cr_tup rfl (T.fr _ (by decide +kernel)) (by decide +kernel) (pa_cons (pv 4) pa_nil)) rfl)))))), ?_⟩
    have ha0 := ha.mono wo_same'
    refine ⟨(by show 0 ≤ sizeLine; decide), fun D hD => ?_⟩
    have s1 := NF.Same.new (o := .lst []) (Same.refl H) hD
    have hD1 := upd_same (H := H) (a := D) (o := .lst [])
    have hx1 := s1 _ _ hx
    have hDx : D ≠ x := fun z => by rw [z, hx] at hD; cases hD
    generalize upd H D (.lst []) = H1 at s1 hD1 hx1
    refine ⟨_, rfl, a, rfl, ?_⟩
    refine for_rowM ha0 (fun j σ G => Same H G ∧ G D = some (.lst (vI (ahead i (ds.take j) 0))) ∧ ∃ v : Option V, σ = [some (.ref x), some (.ref a), some (.int (i : Int)), some (.int (took i (ds.take j) : Int)), some (.ref D), v]) ⟨s1, hD1, none, rfl⟩ (fun j σ G z => z.1) ?_ ?_
    · rintro j v σ G hv ⟨sG, hG, v5, rfl⟩
      have hj := (List.getElem?_eq_some_iff.mp hv).1
      rw [List.length_map] at hj
      obtain rfl : dV (ds[j]) = v := by
        rw [List.getElem?_map, List.getElem?_eq_getElem hj] at hv
        exact Option.some.inj hv
      have et : ds.take (j + 1) = ds.take j ++ [ds[j]] := by rw [List.take_add_one, List.getElem?_eq_getElem hj]; rfl
      have al := ahead_len (i := i) (a := ds.take j) (t := 0)
      rw [List.length_take] at al
      refine ⟨_, rfl, dV_scal, _, rfl, ?_⟩
      rw [dV_give]
      generalize ds[j] = d at et
      cases d with
      | none =>
        refine iteT ?_
        refine ⟨_, rfl, .inl ⟨rfl, _, SqL.of hG⟩, _, rfl, D, _, _, rfl, rfl, hG, by rw [vI_len]; exact Nat.lt_of_le_of_lt (show (ahead i (ds.take j) 0).length ≤ 10000 by omega) (by decide), ?_⟩
        refine ⟨NF.Same.mut sG hD, ?_, some (dV none), ?_⟩
        · rw [upd_same, et, ahead_snoc, ← vI_app]
          rfl
        · rw [et, took_snoc]
          rfl
      | some k =>
        refine iteF ?_
        refine ⟨_, rfl, _, rfl, dV_scalI, _, rfl, ?_⟩
        rw [dV_int]
        refine ite2 (fun h => ?_) (fun h => ?_)
        · have h := of_decide_eq_true h
          refine ⟨_, rfl, _, _, rfl, rfl, sG, ?_, some (dV (some k)), ?_⟩
          · rw [et, ahead_snoc]
            exact hG
          · rw [et, took_snoc]
            show _ = [_, _, _, some (V.int ((if k = i then took i (ds.take j) + 1 else took i (ds.take j) : Nat) : Int)), _, _]
            rw [if_pos h]
            rfl
        · have h : ¬ k = i := fun z => h (decide_eq_true z)
          refine ⟨sG, ?_, some (dV (some k)), ?_⟩
          · rw [et, ahead_snoc]
            exact hG
          · rw [et, took_snoc]
            show _ = [_, _, _, some (V.int ((if k = i then took i (ds.take j) + 1 else took i (ds.take j) : Nat) : Int)), _, _]
            rw [if_neg h]
            rfl
    · rintro σ G ⟨sG, hG, v5, rfl⟩
      rw [List.length_map, List.take_length] at hG
      have hx2 := sG _ _ hx
      rw [List.length_map, List.take_length]
      refine ⟨_, rfl, _, rfl, x, C, dx, _, rfl, hx2, rc.cl, rc.nt, (by decide), ?_⟩
      have sw : Same (wo H x) G := Same.trans wo_same' sG
      have sw2 := NF.Same.put (o := .ins C dx (putF "taken" (.int (took i ds : Int)) [])) sw wo_none
      have hx3 := upd_same (H := G) (a := x) (o := .ins C dx (putF "taken" (.int (took i ds : Int)) []))
      have hG3 := (upd_ne (o := .ins C dx (putF "taken" (.int (took i ds : Int)) [])) hDx).trans hG
      generalize upd G x (.ins C dx (putF "taken" (.int (took i ds : Int)) [])) = H3 at sw2 hx3 hG3
      refine ⟨_, rfl, D, _, rfl, .inl (SqL.of hG3), fun p1 H4 s4 t1 => ?_⟩
      have hx4 := s4 _ _ hx3
      refine ⟨_, rfl, x, C, dx, _, rfl, hx4, rc.cl, rc.nm, (show 1 < 1000 by decide), ?_⟩
      refine q _ (NF.Same.put (Same.trans sw2 s4) wo_none) ⟨dx, p1, ?_, SqT.put t1 hx4 trivial⟩
      rw [upd_same, ← rf_eq]
end
end K24
set_option Elab.async false
set_option linter.all false
set_option maxRecDepth 100000
set_option maxHeartbeats 4000000
/-! x != i: an instance of a class with an own == and no != of its own, and an int. -/
namespace NF
open PySem PySem.Spec PyProof.Rows L2 He RZ
section
variable {prog : Program} {w : World} {A : Around} {E : Value → Shared → Prop} {h : Heap} {g : Array GenState} {d : Drawn} {t : Nat} {os : OsState} {C x f : Addr} {b : Value} {B : String} {bm : List Value}
theorem ne_entry_any (X : h.OwnEqNoNe x C f B bm) (room : A.units < cLine) {Q : Fin → Shared → Prop} (run : wpAny (model prog w) A (call (.ref f) [.ref x, b]) (fun r z => ∃ k, r = .bool k ∧ Q (.done (.ret (.bool (!k)))) z) E ⟨h, g, d, t, os⟩) :
    wpAny (model prog w) A (Builtin.«object.__ne__» ⟨[.ref x, b], []⟩) Q E ⟨h, g, d, t, os⟩ := by
  have after : ∀ (r : Value) (z : Shared), (∃ k, r = .bool k ∧ Q (.done (.ret (.bool (!k)))) z) → ∃ k, r = .bool k ∧ Q (.done (.ret (.bool (!k)))) z := fun _ _ q => q
  unfold Builtin.«object.__ne__»
  repeat (first | with_reducible refine wpAny_cRoomFor room ?_ | (refine wpAny_bind (m := callSpecialIfBound? (.ref x) (Str.ofString "__eq__") [b]) (wpAny_callSpecialIfBound?_own X.ownEq (wpAny_mono run (fun r z hz => by
    obtain ⟨k, rfl, q⟩ := hz
    repeat (first | exact q | exact wpAny_pure q | exact wpAny_truthy_bool q | (refine wpAny_bind (m := truthy (.bool _)) (wpAny_truthy_bool ?_)) | wp_step)) fun _ _ e => e))) | wp_step)
theorem try_ne_any (FB : CmpFacts B bm) (X : h.OwnEqNoNe x C f B bm) (room : A.units + 1 < cLine) {Q : Option Value → Shared → Prop} (run : wpAny (model prog w) A.in1 (call (.ref f) [.ref x, b]) (fun r z => ∃ k, r = .bool k ∧ Q (some (.bool (!k))) z) E ⟨h, g, d, t, os⟩) :
    wpAny (model prog w) A (tryCompare (.ref x) "__ne__" b) Q E ⟨h, g, d, t, os⟩ := by
  obtain ⟨ox, of, nm, qn, N, bs, hd, sn, sub, ab, col, dd, k0, k1, k2, k3, k5, nid, mN, yv, e1, e2, e3, e4, _, _, _, _, _, e5⟩ := id X
  simp only [tryCompare]
  have run' := ne_entry_any (A := A.in1) (Q := fun z s' => ∃ k, z = .done (.ret (.bool (!k))) ∧ Q (some (.bool (!k))) s') X room (wpAny_mono run (fun r z hz => by
    obtain ⟨k, rfl, q⟩ := hz
    exact ⟨k, rfl, k, rfl, q⟩) fun _ _ e => e)
  refine wpAny_bind (wpAny_callSpecialIfBound?_inst e1 e2 e3 e4 e5 FB.mro FB.ne (wpAny_call (codeAny_call_builtin FB.ne.plain F.cmpEntry_ne (wpAny_check_slot_inst F.cmpKind_ne F.cmpSplit_ne (F.cmpArgs_ne _ _) FB.hasObject e1 e2 e3 (wpAny_mono run' (fun z s' hz => ?_) fun _ _ e => e)))))
  obtain ⟨k, rfl, q⟩ := hz
  first | exact wpAny_pure q | exact wpAny_pure (wpAny_pure q) | exact ⟨_, rfl, wpAny_pure q⟩ | exact ⟨_, rfl, wpAny_pure (wpAny_pure q)⟩
theorem rich_ne_any {K : PySem.W.Frag} {tb : Value} (FB : CmpFacts B bm) (X : h.OwnEqNoNe x C f B bm) (kin : K.In h) (tyb : PySem.W.Looks (model prog w) h (typeOf b) tb) (nsub : PySem.W.notFirst K C tb = true) (room : A.units + 1 < cLine) {Q : Value → Shared → Prop}
    (run : wpAny (model prog w) A.in1 (call (.ref f) [.ref x, b]) (fun r z => ∃ k, r = .bool k ∧ Q (.bool (!k)) z) E ⟨h, g, d, t, os⟩) : wpAny (model prog w) A (richCompare .NotEq (.ref x) b) Q E ⟨h, g, d, t, os⟩ := by
  have one : wpAny (model prog w) A (tryCompare (.ref x) "__ne__" b) (fun r z => ∃ v, r = some v ∧ Q v z) E ⟨h, g, d, t, os⟩ := try_ne_any FB X room (wpAny_mono run (fun r z hz => by
    obtain ⟨k, rfl, q⟩ := hz
    exact ⟨k, rfl, _, rfl, q⟩) fun _ _ e => e)
  obtain ⟨ox, _, _, _, _, _, _, _, _, _, _, _, _, _, _, _, _, _, _, _, e1, e2, _⟩ := id X
  unfold richCompare
  simp only [oneThing_ref]
  refine wpAny_holding (wpAny_bind (wpAny_cRoomFor (Nat.lt_of_succ_lt room) ?_))
  rw [cmpInfo_NotEq]
  dsimp only
  refine wpAny_bind (wpAny_typeOf_ref e1 ?_)
  rw [e2]
  refine wpAny_bind (tyb.here ?_)
  have fin : wpAny (model prog w) A (tryCompare (.ref x) "__ne__" b) (fun r z => ∃ v, r = some v ∧ Q v z) E ⟨h, g, d, t, os⟩ := one
  split
  · rename_i q
    have sf : PySem.W.subIn K tb (.ref C) = some false := by
      rcases Bool.or_eq_true_iff.mp nsub with z | z
      · rw [beq_iff_eq.mp z] at q
        simp at q
      · exact beq_iff_eq.mp z
    refine wpAny_bind ((PySem.W.looks_subIn kin sf).here ?_)
    simp only [Bool.false_eq_true, if_false]
    exact wpAny_bind (wpAny_mono fin (fun r z hz => by
      obtain ⟨v, rfl, q⟩ := hz
      exact wpAny_pure q) fun _ _ e => e)
  · refine wpAny_bind (wpAny_pure ?_)
    simp only [Bool.false_eq_true, if_false]
    exact wpAny_bind (wpAny_mono fin (fun r z hz => by
      obtain ⟨v, rfl, q⟩ := hz
      exact wpAny_pure q) fun _ _ e => e)
end
/-- x != i, x an instance of C -/
def rNeI (K : PySem.W.Frag) (C : Addr) (sp : Sp) : R2 := fun x y H Q => ∃ a dx fs i, x = .ref a ∧ H a = some (.ins C dx fs) ∧ y = .int i ∧ PySem.W.notFirst K C (.type "int") = true ∧ sp [.ref a, .int i] H (fun v H' => ∃ t, v = .bl t ∧ Q (.bl (!t)) H') E0
theorem op_neI {X : Cx} {k j : Nat} {C : Addr} {sp : Sp} (c : EqC X.prog X.w X.K X.mg X.base k C sp) (hr : Room j X.A) (hk : k + 1 ≤ j) : OpR X (compareOp .NotEq) (rNeI X.K C sp) := by
  obtain ⟨f, fd, ps, F, hs, hf, hp, hb⟩ := c.ex
  intro pins s σ H x y v u Q I rx ry h
  obtain ⟨a, dx, fs, i, rfl, ha, rfl, nf, q⟩ := h
  cases rx
  obtain ⟨mA, O, _⟩ := ins_get I.hok ha
  obtain ⟨od, J, _⟩ := O.look
  obtain ⟨P, Z, p, _⟩ := kit_of I ry (.base (.int i) : TyX X.K H (.int i) (.type "int"))
  obtain ⟨ti, rfl⟩ := id ry
  obtain ⟨nm, qn, N, bs, sn, sub, ab, col, dd, k0, k1, k2, k3, k5, hl, hok, he, hne⟩ := plObjB_ok hp
  have G : s.heap.Ns N (s.heap.nsMap N) := .of_isNs (PySem.W.isNs_of_in I.kIn hok)
  have hr1 := hr.mono hk
  have r2 : Vals [V.ref a, .int i] [Value.ref a, .int i ti] := .cons rfl (.cons ⟨ti, rfl⟩ .nil)
  have n2 := F.len _ _ _ _ q
  have bd := hb s [.ref a, .int i ti] I.kIn (by simpa using n2)
  have run : wpAny (model X.prog X.w) X.A.in1 (call (.ref f) [.ref a, .int i ti]) (fun v s' => ∃ t, v = .bool t ∧ EP X pins σ Q (.bool (!t)) s') X.xe s := by
    refine wpAny_call (codeAny_mono (F.run X.A.in1 X.stack s H ⟨[.ref a, .int i ti], []⟩ [.ref a, .int i ti] [.ref a, .int i] _ E0 hr1.in1 I.env0.in1 (by simpa using bd) r2 q) fun r s' hq => ?_)
    cases r with
    | error e => exact hq.elim
    | ok fl =>
      cases fl with
      | ret z' =>
        obtain ⟨z, H', I', rz, t, ez, q3⟩ := I.after hq
        subst ez
        cases rz
        exact ⟨t, rfl, .bl (!t), H', I', rfl, q3⟩
      | _ => exact hq.elim
  obtain ⟨j1, j2, _⟩ := J
  obtain ⟨of, hfo, hfc⟩ : ∃ of, s.heap.get? f = some of ∧ of.cls = .type "function" := by
    obtain ⟨o, ho, hc⟩ := Option.map_eq_some_iff.mp (beq_iff_eq.mp hf : (X.K.lookup f).map (·.cls) = some (.type "function"))
    exact ⟨o, I.kIn _ _ ho, hc⟩
  have ty : PySem.W.Looks (model X.prog X.w) s.heap (typeOf (.int i ti)) (.type "int") := Z.ty _ _ I.kIn p
  have kin := I.kIn
  have hu : X.A.units + 1 < cLine := by
    have := hr.un
    omega
  obtain ⟨hp', g, d, tk, os⟩ := s
  show wpAny (model X.prog X.w) X.A (richCompare .NotEq (.ref a) (.int i ti)) (EP X pins σ Q) X.xe _
  exact rich_ne_any (B := "object") (bm := [.type "object"]) PySem.F.cmp_object ⟨_, of, nm, qn, N, bs, true, sn, sub, ab, col, dd, k0, k1, k2, k3, k5, "object.__new__", _, _, j1, j2, kin _ _ hl, G, ns_some_of kin G he, hfo, hfc, PySem.F.cmp_object.mro, PySem.F.cmp_object.eq.lookup, PySem.W.ns_none_of kin G hne⟩ kin ty nf hu run
end NF
set_option Elab.async false
set_option linter.all false
set_option maxRecDepth 100000
set_option maxHeartbeats 4000000
namespace K24
open PySem PySem.Spec PyProof.Rows L2 He NF RZ NT
def vNs (ks : List Nat) : List V := ks.map fun k : Nat => V.int (k : Int)
/-- the deeds of these ways, one behind the other -/
def deedsOf (ws : List (List Deed)) (ks : List Nat) : List Deed := (ks.map fun k => ws.getD k []).flatten
def CrsR (K : PySem.W.Frag) (H : Hp) (a : Addr) (fs ts : List Nat) : Prop := ∃ p1 p2, Row K H a [.ref p1, .ref p2] ∧ Row K H p1 (vNs fs) ∧ Row K H p2 (vNs ts)
theorem CrsR.mono {K : PySem.W.Frag} {H H' : Hp} {a : Addr} {fs ts : List Nat} (h : CrsR K H a fs ts) (s : Same H H') : CrsR K H' a fs ts := by
  obtain ⟨p1, p2, h1, h2, h3⟩ := h
  exact ⟨p1, p2, h1.mono s, h2.mono s, h3.mono s⟩
structure CrsOk (m : Nat) (fs ts : List Nat) : Prop where
  f : ∀ k ∈ fs, k < m
  t : ∀ k ∈ ts, k < m
  fl : fs.length ≤ 200
  t1 : 1 ≤ ts.length
  tl : ts.length ≤ 40
def spPair (K : PySem.W.Frag) : Sp := fun vs H Q _ => ∃ (a : Addr) (xs : List V), vs = [.ref a] ∧ Row K H a xs ∧ xs.length = 2 ∧ ∀ H', Same H H' → Q (.bl true) H'
def spNums (K : PySem.W.Frag) : Sp := fun vs H Q _ => ∃ (a : Addr) (ks : List Nat) (lo hi m : Nat), vs = [.ref a, .int (lo : Int), .int (hi : Int), .int (m : Int)] ∧ Row K H a (vNs ks) ∧ lo ≤ ks.length ∧ ks.length ≤ hi ∧ hi ≤ 10000 ∧ (∀ k ∈ ks, k < m) ∧ ∀ H', Same H H' → Q (.bl true) H'
def spCrs (K : PySem.W.Frag) (C : Addr) : Sp := fun vs H Q _ => ∃ (a x : Addr) (n : Nat) (b : List Deed) (ws : List (List Deed)) (fs ts : List Nat), vs = [.ref a, .ref x] ∧ MakAt K C H x n b ws ∧ CrsR K H a fs ts ∧ CrsOk ws.length fs ts ∧ ∀ H', Same H H' → Q (.bl true) H'
def spChkI (K : PySem.W.Frag) (C : Addr) : Sp := fun vs H Q _ => ∃ (x : Addr) (n i : Nat) (b : List Deed) (ws : List (List Deed)), vs = [.ref x, .int (i : Int)] ∧ MakAt K C H x n b ws ∧ i < n ∧ Q .non H
def spMarks (K : PySem.W.Frag) (C : Addr) : Sp := fun vs H Q _ => ∃ (a : Addr) (t i : Nat) (xs : List Addr) (rs : List (List Deed)), vs = [.ref a, .int (t : Int)] ∧ SqL K H a (xs.map V.ref) ∧ xs.length = rs.length ∧ (∀ (j : Nat) (x : Addr) (r : List Deed), xs[j]? = some x → rs[j]? = some r → RouAt K C H x i r) ∧ rs.flatten.length ≤ 10000 ∧
  ∀ p q H', Same H H' → SqT K H' p [.ref q, .int ((t + took i rs.flatten : Nat) : Int)] → H' q = some (.lst (vI (ahead i rs.flatten (t : Int)))) → Q (.ref p) H'
theorem sc_is_pair : FnScope ["thing"] ["thing"] (defScope s_is_pair) := ⟨rfl, rfl, rfl, by decide +kernel, rfl, by decide +kernel, by decide +kernel⟩
theorem sc_are_numbers : FnScope ["thing", "least", "most", "many", "number"] ["thing", "least", "most", "many"] (defScope s_are_numbers) := ⟨rfl, rfl, rfl, by decide +kernel, rfl, by decide +kernel, by decide +kernel⟩
theorem sc_is_course : FnScope ["thing", "maker", "many"] ["thing", "maker"] (defScope s_is_course) := ⟨rfl, rfl, rfl, by decide +kernel, rfl, by decide +kernel, by decide +kernel⟩
theorem sc_check_inlet : FnScope ["maker", "inlet"] ["maker", "inlet"] (defScope s_check_inlet) := ⟨rfl, rfl, rfl, by decide +kernel, rfl, by decide +kernel, by decide +kernel⟩
theorem sc_marks_along : FnScope ["rounds", "taken", "found", "one", "mark"] ["rounds", "taken"] (defScope s_marks_along) := ⟨rfl, rfl, rfl, by decide +kernel, rfl, by decide +kernel, by decide +kernel⟩
section
variable {P : Program} {w : World} {K : PySem.W.Frag} {mg : Str → Option Value} {base : Heap} {gs fs : List Str} {C : Addr} {tok1 tok2 : Tok}
theorem ok_is_pair {f : Addr} {fd : FuncData} (F : FunD K "is_pair" "is_pair" (defArgs s_is_pair) (defBody s_is_pair) (defScope s_is_pair) [] [] f fd) (T : Txt K mg gs FS) (c_is_row : Cal P w K mg base 1 "is_row" (spIsRow K)) : FnOk P w K mg base CX0 2 f fd ["thing"] (spPair K) := by
  refine F.ok sc_is_pair (fun vs H Q E h => ?_) (fun cdv A outer s H vs Q E hr h => ?_)
  · obtain ⟨a, xs, rfl, _⟩ := h
    rfl
  · obtain ⟨a, xs, rfl, ha, hl, q⟩ := h
    refine ⟨_, PSs.nox (pss_one (ps_ret (pe_and (pe_c c_is_row hr (by decide) rfl (pa_cons (pv 0) pa_nil)) (pe_one (pe_cmpR op_eq (pe_callB call_len_seq rfl (T.fr _ (by decide +kernel)) boot_len (pa_cons (pv 0) pa_nil)) pe_int (nomark _)))))), ?_⟩
    refine ⟨_, rfl, a, _, rfl, ha, fun H1 s1 => ⟨true, rfl, iteT ?_⟩⟩
    refine ⟨_, rfl, a, _, rfl, ha.mono s1, rfl, ?_⟩
    rw [hl]
    exact q H1 s1
theorem ok_are_numbers {f : Addr} {fd : FuncData} (F : FunD K "are_numbers" "are_numbers" (defArgs s_are_numbers) (defBody s_are_numbers) (defScope s_are_numbers) [] [] f fd) (T : Txt K mg gs FS) (c_is_row : Cal P w K mg base 1 "is_row" (spIsRow K)) (c_is_count : Cal P w K mg base 2 "is_count" spIsCount) : FnOk P w K mg base CX0 3 f fd ["thing", "least", "most", "many"] (spNums K) := by
  refine F.ok sc_are_numbers (fun vs H Q E h => ?_) (fun cdv A outer s H vs Q E hr h => ?_)
  · obtain ⟨a, ks, lo, hi, m, rfl, _⟩ := h
    rfl
  · obtain ⟨a, ks, lo, hi, m, rfl, ha, h1, h2, h3, ok, q⟩ := h
    refine ⟨_, PSs.nox (pss_cons (ps_if (PW.pt (pw_or (pt_not (pt_val (pe_c c_is_row hr (by decide) rfl (pa_cons (pv 0) pa_nil)))) (pw_or1 (pt_not (pt_chain op_le op_le (pv 1) (pe_callB call_len_seq rfl (T.fr _ (by decide +kernel)) boot_len (pa_cons (pv 0) pa_nil)) (pv 2)))))) (pss_one (ps_ret pe_bl)) pss_nil) (pss_one (ps_ret (pe_callB (cr_all rfl) rfl (T.fr _ (by decide +kernel)) (by decide +kernel) (pa_cons (pe_lc (own := [("number", 4)]) rfl sc_are_numbers.nd (pi_row (pv 0)) (blkOk_by (N := ["thing", "least", "most", "many", "number"]) (sc := defScope s_are_numbers) (by decide +kernel)) (fun _ _ _ _ _ => by exact (pg_name (i := 4) sc_are_numbers.nd rfl (Or.inl rfl))) (fun _ _ _ _ _ => by exact pts_nil) (fun _ _ _ _ _ => by exact (pe_and (pe_c c_is_count hr (by decide) rfl (pa_cons (pv 4) pa_nil)) (pe_one (pe_cmpR op_lt (pv 4) (pv 3) (nomark _)))))) pa_nil))))), ?_⟩
    refine ⟨_, rfl, a, _, rfl, ha, fun H1 s1 => ⟨true, rfl, iteF ?_⟩⟩
    refine ⟨_, rfl, _, rfl, a, _, rfl, ha.mono s1, ?_⟩
    rw [show (vNs ks).length = ks.length from List.length_map ..]
    refine ⟨_, _, rfl, rfl, _, rfl, iteT' (decide_eq_true (by omega)) ⟨_, rfl, _, _, rfl, rfl, _, rfl, ?_⟩⟩
    rw [show decide ((ks.length : Int) ≤ (hi : Int)) = true from decide_eq_true (by omega)]
    refine iteF ?_
    refine ⟨_, rfl, a, rfl, ?_⟩
    refine lc_row (ha.mono s1) (fun D j G => Same H1 G ∧ G D = some (.lst ((List.replicate j true).map V.bl))) (fun D hD => ⟨NF.Same.new (Same.refl H1) hD, upd_same⟩) (fun D i G _ z => z.1) ?_ ?_
    · rintro D hD j v G hv ⟨hG, hD2⟩
      have hj := (List.getElem?_eq_some_iff.mp hv).1
      rw [show (vNs ks).length = ks.length from List.length_map ..] at hj
      obtain rfl : V.int ((ks[j] : Nat) : Int) = v := by
        unfold vNs at hv
        rw [List.getElem?_map, List.getElem?_eq_getElem hj] at hv
        exact Option.some.inj hv
      have km := ok ks[j] (List.getElem_mem hj)
      refine ⟨rfl, _, rfl, _, rfl, decide (0 ≤ ((ks[j] : Nat) : Int)), rfl, ?_⟩
      rw [decide_eq_true (show 0 ≤ ((ks[j] : Nat) : Int) by omega)]
      refine iteT ⟨_, rfl, _, rfl, _, _, rfl, rfl, ?_⟩
      refine ⟨_, hD2, by rw [List.length_map, List.length_replicate]; exact Nat.lt_of_lt_of_le (show j < 10000 by omega) (by decide), NF.Same.mut hG hD, ?_⟩
      rw [upd_same, List.replicate_succ', List.map_append]
      show some (HO.lst (_ ++ [V.bl (decide (((ks[j] : Nat) : Int) < (m : Int)))])) = _
      rw [decide_eq_true (by omega)]
      rfl
    · rintro D hD G ⟨hG, hD2⟩
      refine ⟨D, _, rfl, SqL.of hD2, ?_⟩
      have : (List.replicate ((vNs ks).length) true).all id = true := by
        rw [List.all_replicate]
        simp
      rw [this]
      exact q G (Same.trans s1 hG)
theorem ok_is_course {f : Addr} {fd : FuncData} (F : FunD K "is_course" "is_course" (defArgs s_is_course) (defBody s_is_course) (defScope s_is_course) [] [] f fd) (T : Txt K mg gs FS) (mc : MakC K C) (h_MOST_FIRST : mg "MOST_FIRST" = some (.int 200 tok1)) (h_MOST_THEN : mg "MOST_THEN" = some (.int 40 tok2)) (c_is_pair : Cal P w K mg base 2 "is_pair" (spPair K)) (c_are_numbers : Cal P w K mg base 3 "are_numbers" (spNums K)) : FnOk P w K mg base CX0 4 f fd ["thing", "maker"] (spCrs K C) := by
  refine F.ok sc_is_course (fun vs H Q E h => ?_) (fun cdv A outer s H vs Q E hr h => ?_)
  · obtain ⟨a, x, n, b, ws, fs, ts, rfl, _⟩ := h
    rfl
  · obtain ⟨a, x, n, b, ws, fs, ts, rfl, ⟨dx, pb, pw, hx, hb, as, hw, hl, _⟩, ⟨p1, p2, ha, hp1, hp2⟩, ok, q⟩ := h
    refine ⟨_, PSs.nox (pss_cons (ps_set (i := 2) sc_is_course.nd rfl (Or.inl rfl) (pe_callB call_len_seq rfl (T.fr _ (by decide +kernel)) boot_len (pa_cons (pe_fld (pv 1) rfl) pa_nil))) (pss_one (ps_ret (pe_and (pe_c c_is_pair hr (by decide) rfl (pa_cons (pv 0) pa_nil)) (pe_and (pe_c c_are_numbers hr (by decide) rfl (pa_cons (pe_ix (ixs (K := K)) (pv 0) pe_int fun _ _ => rfl) (pa_cons pe_int (pa_cons (pe_glob (v := .int 200) rfl h_MOST_FIRST ⟨_, rfl⟩) (pa_cons (pv 2) pa_nil))))) (pe_one (pe_c c_are_numbers hr (by decide) rfl (pa_cons (pe_ix (ixs (K := K)) (pv 0) pe_int fun _ _ => rfl) (pa_cons pe_int (pa_cons (pe_glob (v := .int 40) rfl h_MOST_THEN ⟨_, rfl⟩) (pa_cons (pv 2) pa_nil))))))))))), ?_⟩
    refine ⟨_, rfl, x, C, dx, _, _, rfl, hx, mc.cl, mc.nw, rfl, pw, _, rfl, .inr hw, ?_⟩
    rw [List.length_map, hl]
    refine ⟨_, rfl, a, _, rfl, ha, rfl, fun H1 s1 => ⟨true, rfl, iteT ?_⟩⟩
    refine ⟨_, rfl, ?_⟩
    refine ix_done (K := K) (ha.mono s1) (show atI [V.ref p1, V.ref p2] 0 = some (V.ref p1) from rfl) ?_
    refine ⟨_, rfl, p1, fs, 0, 200, ws.length, rfl, hp1.mono s1, Nat.zero_le _, ok.fl, by decide, ok.f, fun H2 s2 => ⟨true, rfl, iteT ?_⟩⟩
    refine ⟨_, rfl, ?_⟩
    have s12 := Same.trans s1 s2
    refine ix_done (K := K) (ha.mono s12) (show atI [V.ref p1, V.ref p2] 1 = some (V.ref p2) from rfl) ?_
    exact ⟨_, rfl, p2, ts, 1, 40, ws.length, rfl, hp2.mono s12, ok.t1, ok.tl, by decide, ok.t, fun H3 s3 => q H3 (Same.trans s12 s3)⟩
theorem ok_check_inlet {f : Addr} {fd : FuncData} (F : FunD K "check_inlet" "check_inlet" (defArgs s_check_inlet) (defBody s_check_inlet) (defScope s_check_inlet) [] [] f fd) (T : Txt K mg gs FS) (mc : MakC K C) (c_is_count : Cal P w K mg base 2 "is_count" spIsCount) : FnOk P w K mg base CX0 3 f fd ["maker", "inlet"] (spChkI K C) := by
  refine F.ok sc_check_inlet (fun vs H Q E h => ?_) (fun cdv A outer s H vs Q E hr h => ?_)
  · obtain ⟨x, n, i, b, ws, rfl, _⟩ := h
    rfl
  · obtain ⟨x, n, i, b, ws, rfl, ⟨dx, pb, pw, hx, hb, hw⟩, hi, q⟩ := h
    refine ⟨_, PSs.nox (pss_one (ps_if (PW.pt (pw_or (pt_not (pt_val (pe_c c_is_count hr (by decide) rfl (pa_cons (pv 1) pa_nil)))) (pw_or1 (pt_cmpR op_ge (pv 1) (pe_fld (pv 0) rfl) (nomark _))))) (pss_one ps_never) pss_nil)), ?_⟩
    refine ⟨_, rfl, (i : Int), rfl, decide (0 ≤ (i : Int)), rfl, ?_⟩
    rw [decide_eq_true (by omega)]
    refine iteF ⟨_, rfl, _, rfl, x, C, dx, _, _, rfl, hx, mc.cl, mc.ni, rfl, _, _, rfl, rfl, _, rfl, iteF' (decide_eq_false (by omega)) ?_⟩
    exact q
theorem ok_marks_along {f : Addr} {fd : FuncData} (F : FunD K "marks_along" "marks_along" (defArgs s_marks_along) (defBody s_marks_along) (defScope s_marks_along) [] [] f fd) (T : Txt K mg gs FS) (rc : RouC K C) : FnOk P w K mg base CX0 1 f fd ["rounds", "taken"] (spMarks K C) := by
  refine F.ok sc_marks_along (fun vs H Q E h => ?_) (fun cdv A outer s H vs Q E hr h => ?_)
  · obtain ⟨a, t, i, xs, rs, rfl, _⟩ := h
    rfl
  · obtain ⟨a, t, i, xs, rs, rfl, ha, hl, hrs, size, q⟩ := h
    refine ⟨_, PSs.nox (pss_cons (ps_set (i := 2) sc_marks_along.nd rfl (Or.inl rfl) (pe_lst pa_nil)) (pss_cons (ps_for PassesOwn.never rfl (pi_list (pv 0)) (pg_name (i := 3) sc_marks_along.nd rfl (Or.inl rfl)) (pss_cons (ps_expr (pe_bm PySem.F.plainAttrs_list PySem.F.slot_list_extend PySem.F.type_list_extend mt_extend (pv 2) (pa_cons (pe_lc (own := [("mark", 4)]) rfl sc_marks_along.nd (pi_tup (pe_fld (pv 3) rfl)) (blkOk_by (N := ["rounds", "taken", "found", "one", "mark"]) (sc := defScope s_marks_along) (by decide +kernel)) (fun _ _ _ _ _ => by exact (pg_name (i := 4) sc_marks_along.nd rfl (Or.inl rfl))) (fun _ _ _ _ _ => by exact pts_nil) (fun _ _ _ _ _ => by exact (pe_op op_add (pv 1) (pv 4)))) pa_nil))) (pss_one (ps_set (i := 1) sc_marks_along.nd rfl (Or.inr rfl) (pe_op op_add (pv 1) (pe_fld (pv 3) rfl)))))) (pss_one (ps_ret (pe_tup (pa_cons (pv 2) (pa_cons (pv 1) pa_nil))))))), ?_⟩
    refine ⟨(by show 0 ≤ sizeLine; decide), fun D hD => ?_⟩
    have s1 := NF.Same.new (o := .lst []) (Same.refl H) hD
    have hD1 := upd_same (H := H) (a := D) (o := .lst [])
    generalize upd H D (.lst []) = H1 at s1 hD1
    refine ⟨_, rfl, a, rfl, ⟨_, L2.Same.seq s1 ha⟩, ?_⟩
    refine for_list (xs := xs.map V.ref) (fun j σ G => Same H G ∧ G D = some (.lst (vI (ahead i (rs.take j).flatten (t : Int)))) ∧ ∃ v3 v4 : Option V, σ = [some (.ref a), some (.int ((t + took i (rs.take j).flatten : Nat) : Int)), some (.ref D), v3, v4]) ⟨s1, hD1, none, none, rfl⟩ (fun j σ G _ z => L2.Same.seq z.1 ha) ?_ ?_
    · rintro j v σ G hv ⟨sG, hG, v3, v4, rfl⟩
      have hj := (List.getElem?_eq_some_iff.mp hv).1
      rw [List.length_map] at hj
      obtain rfl : V.ref (xs[j]) = v := by
        rw [List.getElem?_map, List.getElem?_eq_getElem hj] at hv
        exact Option.some.inj hv
      have hjr : j < rs.length := by omega
      have ro := (hrs j xs[j] rs[j] (List.getElem?_eq_getElem hj) (List.getElem?_eq_getElem hjr)).mono sG
      generalize hr0 : rs[j] = r at ro
      generalize xs[j] = x at ro
      obtain ⟨dx, m, hx, hm⟩ := ro
      have et : (rs.take (j + 1)).flatten = (rs.take j).flatten ++ r := by
        rw [List.take_add_one, List.getElem?_eq_getElem hjr, List.flatten_append, hr0]
        simp
      have sz : (rs.take j).flatten.length + r.length ≤ 10000 := by
        have e : rs.flatten = (rs.take (j + 1)).flatten ++ (rs.drop (j + 1)).flatten := by rw [← List.flatten_append, List.take_append_drop]
        rw [e, et] at size
        rw [List.length_append, List.length_append] at size
        omega
      have a1 := ahead_len (i := i) (a := (rs.take j).flatten) (t := (t : Int))
      have a2 := ahead_len (i := i) (a := r) (t := 0)
      refine ⟨_, rfl, .inl ⟨rfl, _, SqL.of hG⟩, ?_⟩
      refine ⟨_, rfl, x, C, dx, _, _, rfl, hx, rc.cl, rc.nm, rfl, m, rfl, ⟨_, hm⟩, fun B hB => ?_⟩
      have hDB : D ≠ B := ne_of_none hG hB
      refine lc_tup (xs := vI (ahead i r 0)) (fun l G' => Same G G' ∧ G' B = some (.lst (vI (((ahead i r 0).take l).map (((t + took i (rs.take j).flatten : Nat) : Int) + ·))))) ⟨NF.Same.new (Same.refl G) hB, upd_same⟩ (fun l G' _ z => NF.Same.tup z.1 hm) ?_ ?_
      · rintro l v G' hv ⟨sG', hB'⟩
        have hl' := (List.getElem?_eq_some_iff.mp hv).1
        rw [vI_len] at hl'
        obtain rfl : V.int ((ahead i r 0)[l]) = v := by
          unfold vI at hv
          rw [List.getElem?_map, List.getElem?_eq_getElem hl'] at hv
          exact Option.some.inj hv
        refine ⟨rfl, _, rfl, _, rfl, _, _, rfl, rfl, ?_⟩
        refine ⟨_, hB', by rw [vI_len, List.length_map, List.length_take]; exact Nat.lt_of_le_of_lt (show min l (ahead i r 0).length ≤ 10000 by omega) (by decide), NF.Same.mut sG' hB, ?_⟩
        rw [upd_same, List.take_add_one, List.getElem?_eq_getElem hl', List.map_append, ← vI_app]
        rfl
      · rintro G' ⟨sG', hB'⟩
        rw [vI_len, List.take_length] at hB'
        have hG' := sG' _ _ hG
        refine ⟨D, B, _, _, rfl, rfl, hG', hB', ?_, ?_⟩
        · rw [vI_len, vI_len, List.length_map]
          exact Nat.le_trans (show (ahead i (rs.take j).flatten (t : Int)).length + (ahead i r 0).length ≤ 10000 by omega) (by decide)
        · have hx' := (upd_ne (o := .lst (vI (ahead i (rs.take j).flatten (t : Int)) ++ vI ((ahead i r 0).map (((t + took i (rs.take j).flatten : Nat) : Int) + ·)))) (show x ≠ D from fun z => by rw [z, hG] at hx; cases hx)).trans (sG' _ _ hx)
          refine ⟨_, rfl, _, rfl, x, C, dx, _, _, rfl, hx', rc.cl, rc.nt, rfl, _, _, rfl, rfl, ?_⟩
          refine ⟨NF.Same.mut (Same.trans sG sG') hD, ?_, some (.ref x), v4, ?_⟩
          · rw [upd_same, vI_app, et, ahead_app, ← ahead_off]
            rfl
          · rw [et, took_app, ← Nat.add_assoc]
            rfl
    · rintro σ G ⟨sG, hG, v3, v4, rfl⟩
      rw [List.length_map, hl, List.take_length] at hG ⊢
      refine ⟨_, rfl, _, rfl, (by show 2 ≤ sizeLine; decide), fun p hp => ?_⟩
      have s2 := NF.Same.new (o := .tup [V.ref D, V.int ((t + took i rs.flatten : Nat) : Int)]) (Same.refl G) hp
      exact q p D _ (Same.trans sG s2) (SqT.of upd_same) (s2 _ _ hG)
end
/-- the need at an inlet on a course -/
def spNeed (K : PySem.W.Frag) (CT C : Addr) : Sp := fun vs H Q _ => ∃ (x a : Addr) (n i : Nat) (b : List Deed) (ws : List (List Deed)) (fs ts : List Nat), vs = [.ref x, .int (i : Int), .ref a] ∧ MakAt K C H x n b ws ∧ GoodM n b ws ∧ i < n ∧ CrsR K H a fs ts ∧ CrsOk ws.length fs ts ∧
  ∀ y z H', IsPlain (needT i (b ++ deedsOf ws fs) (deedsOf ws ts)).1 (needT i (b ++ deedsOf ws fs) (deedsOf ws ts)).2.1 (needT i (b ++ deedsOf ws fs) (deedsOf ws ts)).2.2 z → Same H H' → TabAt K CT H' y z → Q (.ref y) H'
/-- ==: with another maker, with what is none -/
def spMEq (K : PySem.W.Frag) (C : Addr) : Sp := fun vs H Q _ => ∃ (x : Addr) (n : Nat) (b : List Deed) (ws : List (List Deed)) (v : V), vs = [.ref x, v] ∧ MakAt K C H x n b ws ∧
  ((∃ x2 n2 b2 ws2, v = .ref x2 ∧ MakAt K C H x2 n2 b2 ws2 ∧ Q (.bl (decide ((n, b, ws) = (n2, b2, ws2)))) H) ∨ (∃ t, TyX K H v t ∧ PySem.W.kitOne K t (.ref C) = some false ∧ Q (.bl false) H))
theorem sc_Maker_need : FnScope ["self", "inlet", "course", "rounds", "start", "head", "taken", "loop", "behind", "way", "number"] ["self", "inlet", "course"] (defScope s_Maker_need) := ⟨rfl, rfl, rfl, by decide +kernel, rfl, by decide +kernel, by decide +kernel⟩
theorem sc_Maker___eq__ : FnScope ["self", "other"] ["self", "other"] (defScope s_Maker_eq) := ⟨rfl, rfl, rfl, by decide +kernel, rfl, by decide +kernel, by decide +kernel⟩
theorem deeds_len {ws : List (List Deed)} {ks : List Nat} {B : Nat} (h : ∀ v ∈ ws, v.length ≤ B) : (deedsOf ws ks).length ≤ ks.length * B := by
  unfold deedsOf
  induction ks with
  | nil => simp
  | cons k ks ih =>
    rw [List.map_cons, List.flatten_cons, List.length_append, List.length_cons, Nat.succ_mul]
    have : (ws.getD k []).length ≤ B := by
      by_cases c : k < ws.length
      · rw [List.getD_eq_getElem?_getD, List.getElem?_eq_getElem c]
        exact h _ (List.getElem_mem c)
      · rw [List.getD_eq_getElem?_getD, List.getElem?_eq_none (by omega)]
        exact Nat.zero_le _
    omega
section
variable {P : Program} {w : World} {K : PySem.W.Frag} {mg : Str → Option Value} {base : Heap} {gs fs : List Str} {C CT CR : Addr}
theorem ok_Maker_eq {f : Addr} {fd : FuncData} (F : FunD K "__eq__" "Maker.__eq__" (defArgs s_Maker_eq) (defBody s_Maker_eq) (defScope s_Maker_eq) [] [] f fd) (T : Txt K mg gs FS) (hM : mg "Maker" = some (.ref C)) (mc : MakC K C) : FnOk P w K mg base CX0 1 f fd ["self", "other"] (spMEq K C) := by
  refine F.ok sc_Maker___eq__ (fun vs H Q E h => ?_) (fun cdv A outer s H vs Q E hr h => ?_)
  · obtain ⟨x, n, b, ws, v, rfl, _⟩ := h
    rfl
  · obtain ⟨x, n, b, ws, v, rfl, ⟨dx, pb, pw, hx, hb, hw⟩, q⟩ := h
    have hu : (A.deeper (envOfC "Maker.__eq__" (defScope s_Maker_eq) s.heap.objs.size f cdv)).units + 64 < cLine := by
      have := hr.un
      omega
    refine ⟨_, PSs.nox (pss_one (ps_ret (pe_and (pe_callB call_isi rfl (T.fr _ (by decide +kernel)) (by decide +kernel) (pa_cons (pv 1) (pa_cons (pe_gl hM) pa_nil))) (pe_and (pe_cmpR op_eq (pe_fld (pv 0) rfl) (pe_fld (pv 1) rfl) (nomark _)) (pe_and (pe_cmpR (op_eqD hu) (pe_fld (pv 0) rfl) (pe_fld (pv 1) rfl) (nomark _)) (pe_one (pe_cmpR (op_eqD hu) (pe_fld (pv 0) rfl) (pe_fld (pv 1) rfl) (nomark _)))))))), ?_⟩
    rcases q with ⟨x2, n2, b2, ws2, rfl, ⟨dx2, pb2, pw2, hx2, hb2, hw2⟩, q⟩ | ⟨t, ty, hk, q⟩
    · have tx := mc.ty hx2
      refine ⟨_, rfl, _, _, _, _, true, rfl, .own C, tx, mc.self, true, rfl, iteT ?_⟩
      refine ⟨_, rfl, x, C, dx, _, _, rfl, hx, mc.cl, mc.ni, rfl, _, rfl, x2, C, dx2, _, _, rfl, hx2, mc.cl, mc.ni, rfl, rfl, ?_⟩
      have e0 : decide (V.int (n : Int) = V.int (n2 : Int)) = decide (n = n2) := by
        by_cases z : n = n2
        · subst z
          rw [decide_eq_true rfl, decide_eq_true rfl]
        · rw [decide_eq_false z, decide_eq_false (fun h => z (by injection h with h; omega))]
      show ∃ c, V.bl (decide (V.int (n : Int) = V.int (n2 : Int))) = V.bl c ∧ _
      rw [e0]
      refine ⟨_, rfl, ite2 (fun h1 => ?_) (fun h1 => ?_)⟩
      · have h1 := of_decide_eq_true h1
        refine ⟨_, rfl, x, C, dx, _, _, rfl, hx, mc.cl, mc.nb, rfl, _, rfl, x2, C, dx2, _, _, rfl, hx2, mc.cl, mc.nb, rfl, ?_⟩
        refine eqD_deeds (K := K) hb hb2 ⟨_, rfl, ite2 (fun h2 => ?_) (fun h2 => ?_)⟩
        · have h2 := of_decide_eq_true h2
          refine ⟨_, rfl, x, C, dx, _, _, rfl, hx, mc.cl, mc.nw, rfl, _, rfl, x2, C, dx2, _, _, rfl, hx2, mc.cl, mc.nw, rfl, ?_⟩
          refine eqD_ways (K := K) hw hw2 ?_
          subst h1 h2
          have e : decide ((n, b, ws) = (n, b, ws2)) = decide (ws = ws2) := by
            by_cases z : ws = ws2
            · subst z
              rw [decide_eq_true rfl, decide_eq_true rfl]
            · rw [decide_eq_false z, decide_eq_false (fun h => z (by injection h with h h'; injection h' with h' h''))]
          rw [← e]
          exact q
        · have h2 : ¬ b = b2 := fun z => h2 (decide_eq_true z)
          rw [decide_eq_false (fun h => h2 (by injection h with h h'; injection h' with h' h''))] at q
          exact q
      · have h1 : ¬ n = n2 := fun z => h1 (decide_eq_true z)
        rw [decide_eq_false (fun h => h1 (by injection h with h h'))] at q
        exact q
    · refine ⟨_, rfl, _, _, _, _, false, rfl, .own C, ty, hk, false, rfl, iteF ?_⟩
      exact q
theorem same_made {H H' : Hp} {x dx : Addr} {o o' : HO} (nx : H x = none) (nd : H dx = none) (s : Same (wo (upd (upd H dx o) x o') x) H') : Same H H' := fun b u e =>
  s b u (by rw [wo_ne (ne_of_none e nx), upd_ne (ne_of_none e nx), upd_ne (ne_of_none e nd)]; exact e)
theorem row_made {K : PySem.W.Frag} {H : Hp} {x dx a : Addr} {o o' : HO} {xs : List V} (nx : H x = none) (nd : H dx = none) (h : Row K H a xs) : Row K (upd (upd H dx o) x o') a xs := h.mono fun b u e => by
  rw [upd_ne (ne_of_none e nx), upd_ne (ne_of_none e nd)]
  exact e
theorem same_woM {H : Hp} {x dx : Addr} {o o' : HO} (nx : H x = none) (nd : H dx = none) : Same H (wo (upd (upd H dx o) x o') x) := fun b u e => by
  rw [wo_ne (ne_of_none e nx), upd_ne (ne_of_none e nx), upd_ne (ne_of_none e nd)]
  exact e
theorem at_nat {ks : List Nat} {j : Nat} (h : j < ks.length) : (vNs ks)[j]? = some (V.int ((ks[j] : Nat) : Int)) := by
  unfold vNs
  rw [List.getElem?_map, List.getElem?_eq_getElem h]
  rfl
/-- what a list of chosen rounds is -/
def Chosen (K : PySem.W.Frag) (C : Addr) (G : Hp) (xs : List Addr) (i : Nat) (rs : List (List Deed)) : Prop := xs.length = rs.length ∧ ∀ (j : Nat) (x : Addr) (r : List Deed), xs[j]? = some x → rs[j]? = some r → RouAt K C G x i r
theorem Chosen.mono {G G' : Hp} {xs : List Addr} {i : Nat} {rs : List (List Deed)} (h : Chosen K C G xs i rs) (s : Same G G') : Chosen K C G' xs i rs := ⟨h.1, fun j x r e1 e2 => (h.2 j x r e1 e2).mono s⟩
theorem RouAt.put {G : Hp} {x D : Addr} {i : Nat} {r : List Deed} {l : List V} {o : HO} (h : RouAt K C G x i r) (hD : G D = some (.lst l)) : RouAt K C (upd G D o) x i r := by
  obtain ⟨dx, m, h1, h2⟩ := h
  refine ⟨dx, m, ?_, SqT.put h2 hD trivial⟩
  rw [upd_ne fun z => by rw [z, hD] at h1; cases h1]
  exact h1
theorem ok_Maker_need {f : Addr} {fd : FuncData} (F : FunD K "need" "Maker.need" (defArgs s_Maker_need) (defBody s_Maker_need) (defScope s_Maker_need) [] [] f fd) (T : Txt K mg gs FS) (mc : MakC K C) (rc : RouC K CR) (c_check_inlet : Cal P w K mg base 3 "check_inlet" (spChkI K C)) (c_is_course : Cal P w K mg base 4 "is_course" (spCrs K C)) (c_marks_along : Cal P w K mg base 1 "marks_along" (spMarks K CR)) (m_Round2 : Mak P w K mg base 1 0 "Round" CR (spRoInit K CR) []) (m_Table : Mak P w K mg base 4 0 "Table" CT (spInit K CT) []) : FnOk P w K mg base CX0 6 f fd ["self", "inlet", "course"] (spNeed K CT C) := by
  refine F.ok sc_Maker_need (fun vs H Q E h => ?_) (fun cdv A outer s H vs Q E hr h => ?_)
  · obtain ⟨x, a, n, i, b, ws, fs, ts, rfl, _⟩ := h
    rfl
  · obtain ⟨x, a, n, i, b, ws, fs, ts, rfl, mk, g, hi, cr, ok, q⟩ := h
    refine ⟨_, PSs.nox (pss_cons (ps_expr (pe_c c_check_inlet hr (by decide) rfl (pa_cons (pv 0) (pa_cons (pv 1) pa_nil)))) (pss_cons (ps_if (pt_not (pt_val (pe_c c_is_course hr (by decide) rfl (pa_cons (pv 2) (pa_cons (pv 0) pa_nil))))) (pss_one ps_never) pss_nil) (pss_cons (ps_set (i := 3) sc_Maker_need.nd rfl (Or.inr rfl) (pe_lc (own := [("way", 9)]) rfl sc_Maker_need.nd (pi_tup (pe_fld (pv 0) rfl)) (blkOk_by (N := ["self", "inlet", "course", "rounds", "start", "head", "taken", "loop", "behind", "way", "number"]) (sc := defScope s_Maker_need) (by decide +kernel)) (fun _ _ _ _ _ => by exact (pg_name (i := 9) sc_Maker_need.nd rfl (Or.inl rfl))) (fun _ _ _ _ _ => by exact pts_nil) (fun _ _ _ _ _ => by exact (pe_mk m_Round2 hr (by decide) rfl (pa_cons (pv 9) (pa_cons (pv 1) pa_nil)))))) (pss_cons (ps_set (i := 4) sc_Maker_need.nd rfl (Or.inl rfl) (pe_op op_cat (pe_lst (pa_cons (pe_mk m_Round2 hr (by decide) rfl (pa_cons (pe_fld (pv 0) rfl) (pa_cons (pv 1) pa_nil))) pa_nil)) (pe_lc (own := [("number", 10)]) rfl sc_Maker_need.nd (pi_row (pe_ix (ixs (K := K)) (pv 2) pe_int fun _ _ => rfl)) (blkOk_by (N := ["self", "inlet", "course", "rounds", "start", "head", "taken", "loop", "behind", "way", "number"]) (sc := defScope s_Maker_need) (by decide +kernel)) (fun _ _ _ _ _ => by exact (pg_name (i := 10) sc_Maker_need.nd rfl (Or.inl rfl))) (fun _ _ _ _ _ => by exact pts_nil) (fun _ _ _ _ _ => by exact (pe_ix (ixl (K := K)) (pv 3) (pv 10) fun _ _ => rfl))))) (pss_cons (ps_asg (pe_c c_marks_along hr (by decide) rfl (pa_cons (pv 4) (pa_cons pe_int pa_nil))) (pgt (K := K) (n := 2) rfl rfl (pgs_cons (pg_name (i := 5) sc_Maker_need.nd rfl (Or.inl rfl)) (pgs_cons (pg_name (i := 6) sc_Maker_need.nd rfl (Or.inl rfl)) pgs_nil)))) (pss_cons (ps_asg (pe_c c_marks_along hr (by decide) rfl (pa_cons (pe_lc (own := [("number", 10)]) rfl sc_Maker_need.nd (pi_row (pe_ix (ixs (K := K)) (pv 2) pe_int fun _ _ => rfl)) (blkOk_by (N := ["self", "inlet", "course", "rounds", "start", "head", "taken", "loop", "behind", "way", "number"]) (sc := defScope s_Maker_need) (by decide +kernel)) (fun _ _ _ _ _ => by exact (pg_name (i := 10) sc_Maker_need.nd rfl (Or.inl rfl))) (fun _ _ _ _ _ => by exact pts_nil) (fun _ _ _ _ _ => by exact (pe_ix (ixl (K := K)) (pv 3) (pv 10) fun _ _ => rfl))) (pa_cons (pv 6) pa_nil))) (pgt (K := K) (n := 2) rfl rfl (pgs_cons (pg_name (i := 7) sc_Maker_need.nd rfl (Or.inl rfl)) (pgs_cons (pg_name (i := 8) sc_Maker_need.nd rfl (Or.inl rfl)) pgs_nil)))) (pss_one (ps_ret (pe_mk m_Table hr (by decide) rfl (pa_cons (pv 5) (pa_cons (pv 7) (pa_cons (pe_ifExp (pt_truth (pv 7) (fun _ => rfl)) (pe_op op_sub (pv 8) (pv 6)) pe_int) pa_nil)))))))))))), ?_⟩
    refine ⟨_, rfl, _, rfl, x, n, i, b, ws, rfl, mk, hi, ?_⟩
    refine ⟨_, rfl, _, rfl, a, x, n, b, ws, fs, ts, rfl, mk, cr, ok, fun H1 s1 => ⟨true, rfl, iteF ?_⟩⟩
    have cr := cr.mono s1
    obtain ⟨dx, pb, pw, hx, hb, as, hw, hl, hws⟩ := mk.mono s1
    have m4 := g.m4
    -- the rounds
    refine ⟨_, rfl, x, C, dx, _, _, rfl, hx, mc.cl, mc.nw, rfl, pw, rfl, ⟨_, hw⟩, fun D hD => ?_⟩
    refine lc_tup (xs := as.map V.ref) (fun j G => Same H1 G ∧ ∃ xs : List Addr, G D = some (.lst (xs.map V.ref)) ∧ Chosen K CR G xs i (ws.take j)) ⟨NF.Same.new (Same.refl H1) hD, [], upd_same, rfl, fun j x r e => by simp at e⟩ (fun j G _ z => NF.Same.tup z.1 hw) ?_ ?_
    · rintro j v G hv ⟨sG, xs, hG, ch⟩
      have hj := (List.getElem?_eq_some_iff.mp hv).1
      rw [List.length_map] at hj
      obtain rfl : V.ref (as[j]) = v := by
        rw [List.getElem?_map, List.getElem?_eq_getElem hj] at hv
        exact Option.some.inj hv
      have hjw : j < ws.length := by omega
      have hr1 := NF.Same.tup sG (hws j as[j] ws[j] (List.getElem?_eq_getElem hj) (List.getElem?_eq_getElem hjw))
      obtain ⟨w1, w2, w3⟩ := g.wy ws[j] (List.getElem_mem hjw)
      have xl : xs.length = j := by
        rw [ch.1, List.length_take]
        omega
      refine ⟨rfl, _, rfl, _, rfl, ?_⟩
      intro y dy ny nd ne
      refine ⟨y, dy, as[j], i, ws[j], rfl, upd_same, .inr (NF.Same.tup (same_woM ny nd) hr1), by omega, fun G2 s2 ro => ⟨rfl, ?_⟩⟩
      have s3 : Same G G2 := Same.trans (same_woM ny nd) s2
      have hG2 := s3 _ _ hG
      refine ⟨_, hG2, by rw [List.length_map, xl]; exact Nat.lt_of_lt_of_le (show j < 10000 by omega) (by decide), NF.Same.mut (Same.trans sG s3) hD, xs ++ [y], ?_, ?_, fun k z r e1 e2 => ?_⟩
      · rw [upd_same, List.map_append]
        rfl
      · rw [List.length_append, xl, List.length_take]
        show j + 1 = _
        omega
      · refine RouAt.put ?_ hG2
        rw [List.getElem?_take] at e2
        rcases Nat.lt_trichotomy k j with h | h | h
        · rw [List.getElem?_append_left (by omega)] at e1
          rw [if_pos (by omega)] at e2
          exact (ch.2 k z r e1 (by rw [List.getElem?_take, if_pos h]; exact e2)).mono s3
        · subst h
          rw [List.getElem?_append_right (by omega), xl, Nat.sub_self] at e1
          rw [if_pos (by omega), List.getElem?_eq_getElem hjw] at e2
          cases e1
          cases e2
          exact ro
        · rw [if_neg (by omega)] at e2
          cases e2
    · rintro G ⟨sG, rs, hG, ch⟩
      rw [List.length_map, hl, List.take_length] at ch
      have hx2 := sG _ _ hx
      have hb2 := NF.Same.tup sG hb
      have gb := g.bl
      have w24 : ∀ v ∈ ws, v.length ≤ 24 := fun v hv => (g.wy v hv).2.1
      have l1 := deeds_len (ks := fs) w24
      have l2 := deeds_len (ks := ts) w24
      have okfl := ok.fl
      have oktl := ok.tl
      have l1 : (deedsOf ws fs).length ≤ 4800 := Nat.le_trans l1 (Nat.mul_le_mul_right 24 okfl)
      have l2 : (deedsOf ws ts).length ≤ 960 := Nat.le_trans l2 (Nat.mul_le_mul_right 24 oktl)
      -- the beginning
      refine ⟨_, rfl, x, C, dx, _, _, rfl, hx2, mc.cl, mc.nb, rfl, _, rfl, ?_⟩
      intro y dy ny nd ne
      refine ⟨y, dy, pb, i, b, rfl, upd_same, .inr (NF.Same.tup (same_woM ny nd) hb2), by omega, fun G2 s2 ro => ⟨rfl, ?_⟩⟩
      have s3 : Same G G2 := Same.trans (same_woM ny nd) s2
      refine ⟨(by show 1 ≤ sizeLine; decide), fun q1 hq1 => ?_⟩
      have s4 := NF.Same.new (o := .lst [V.ref y]) (Same.refl G2) hq1
      have hq1' := upd_same (H := G2) (a := q1) (o := .lst [V.ref y])
      have ro := ro.mono s4
      have sA := Same.trans s3 s4
      generalize upd G2 q1 (.lst [V.ref y]) = G3 at s4 hq1' ro sA
      have hD3 := sA _ _ hG
      have ch3 := ch.mono sA
      obtain ⟨p1, p2, ha, hp1, hp2⟩ := cr.mono (Same.trans sG sA)
      refine ⟨_, rfl, ?_⟩
      refine ix_done (K := K) ha (show atI [V.ref p1, V.ref p2] 0 = some (V.ref p1) from rfl) ?_
      refine ⟨p1, rfl, ?_⟩
      refine lc_row hp1 (fun B j G' => Same G3 G' ∧ ∃ ys : List Addr, G' B = some (.lst (ys.map V.ref)) ∧ Chosen K CR G' ys i ((fs.map fun k => ws.getD k []).take j)) (fun B hB => ⟨NF.Same.new (Same.refl G3) hB, [], upd_same, rfl, fun j x r e => by simp at e⟩) (fun B j G' _ z => z.1) ?_ ?_
      · rintro B hB j v G' hv ⟨sG', ys, hB', ch'⟩
        have hj := (List.getElem?_eq_some_iff.mp hv).1
        rw [show (vNs fs).length = fs.length from List.length_map ..] at hj
        rw [at_nat hj] at hv
        obtain rfl := Option.some.inj hv
        have km := ok.f fs[j] (List.getElem_mem hj)
        have rl : fs[j] < rs.length := by rw [ch.1]; exact km
        have yl : ys.length = j := by
          rw [ch'.1, List.length_take, List.length_map]
          omega
        have hD' := sG' _ _ hD3
        refine ⟨rfl, _, rfl, _, rfl, D, _, _, _, rfl, rfl, SqL.of hD', atI_nat (by rw [List.getElem?_map, List.getElem?_eq_getElem rl]; rfl), ?_⟩
        have ro := (ch3.2 fs[j] rs[fs[j]] ws[fs[j]] (List.getElem?_eq_getElem rl) (List.getElem?_eq_getElem km)).mono sG'
        refine ⟨_, hB', by rw [List.length_map, yl]; exact Nat.lt_of_lt_of_le (show j < 10000 by have := okfl; omega) (by decide), NF.Same.mut sG' hB, ys ++ [rs[fs[j]]], ?_, ?_, fun k z r e1 e2 => ?_⟩
        · rw [upd_same, List.map_append]
          rfl
        · rw [List.length_append, yl, List.length_take, List.length_map]
          show j + 1 = _
          omega
        · refine RouAt.put ?_ hB'
          rw [List.getElem?_take] at e2
          rcases Nat.lt_trichotomy k j with h | h | h
          · rw [List.getElem?_append_left (by omega)] at e1
            rw [if_pos (by omega)] at e2
            exact ch'.2 k z r e1 (by rw [List.getElem?_take, if_pos h]; exact e2)
          · subst h
            rw [List.getElem?_append_right (by omega), yl, Nat.sub_self] at e1
            rw [if_pos (by omega), List.getElem?_map, List.getElem?_eq_getElem hj] at e2
            cases e1
            cases e2
            show RouAt K CR G' _ i (ws.getD _ [])
            rw [List.getD_eq_getElem?_getD, List.getElem?_eq_getElem km]
            exact ro
          · rw [if_neg (by omega)] at e2
            cases e2
      rintro B hB G4 ⟨sB, ys, hB4, ch4⟩
      rw [show (vNs fs).length = fs.length from List.length_map .., show (fs.map fun k => ws.getD k []).take fs.length = fs.map fun k => ws.getD k [] by rw [List.take_of_length_le (by simp)]] at ch4
      have hq14 := sB _ _ hq1'
      have yl : ys.length = fs.length := by rw [ch4.1, List.length_map]
      refine ⟨q1, B, _, _, rfl, rfl, hq14, hB4, (by rw [List.length_map, yl]; exact Nat.le_trans (show 1 + fs.length ≤ 201 by omega) (by decide)), fun q3 hq3 => ?_⟩
      have s5 := NF.Same.new (o := .lst ([V.ref y] ++ ys.map V.ref)) (Same.refl G4) hq3
      have hq3' := upd_same (H := G4) (a := q3) (o := .lst ([V.ref y] ++ ys.map V.ref))
      generalize upd G4 q3 (.lst ([V.ref y] ++ ys.map V.ref)) = G5 at s5 hq3'
      have sC := Same.trans sB s5
      refine ⟨_, rfl, q3, 0, i, y :: ys, b :: (fs.map fun k => ws.getD k []), rfl, SqL.of hq3', by rw [List.length_cons, List.length_cons, ch4.1], fun j z r e1 e2 => ?_, ?_, fun p h1 G6 s6 tp hh => ?_⟩
      · cases j with
        | zero =>
          cases e1
          cases e2
          exact ro.mono sC
        | succ j => exact (ch4.2 j z r (by simpa using e1) (by simpa using e2)).mono s5
      · show (b ++ deedsOf ws fs).length ≤ 10000
        rw [List.length_append]
        omega
      have tp : SqT K G6 p [V.ref h1, V.int ((0 + took i (b ++ deedsOf ws fs) : Nat) : Int)] := tp
      have hh : G6 h1 = some (.lst (vI (ahead i (b ++ deedsOf ws fs) 0))) := hh
      refine ⟨p, _, rfl, tp, rfl, _, _, rfl, ?_⟩
      refine ⟨_, _, rfl, ?_⟩
      refine ⟨rfl, ?_⟩
      have sD := Same.trans sC s6
      have hD6 := sD _ _ hD3
      have ch6 := ch3.mono sD
      have ha6 := ha.mono sD
      have hp6 := hp2.mono sD
      refine ⟨_, rfl, ?_⟩
      refine ix_done (K := K) ha6 (show atI [V.ref p1, V.ref p2] 1 = some (V.ref p2) from rfl) ?_
      refine ⟨p2, rfl, ?_⟩
      refine lc_row hp6 (fun B j G' => Same G6 G' ∧ ∃ ys : List Addr, G' B = some (.lst (ys.map V.ref)) ∧ Chosen K CR G' ys i ((ts.map fun k => ws.getD k []).take j)) (fun B hB => ⟨NF.Same.new (Same.refl G6) hB, [], upd_same, rfl, fun j x r e => by simp at e⟩) (fun B j G' _ z => z.1) ?_ ?_
      · rintro B hB j v G' hv ⟨sG', ys, hB', ch'⟩
        have hj := (List.getElem?_eq_some_iff.mp hv).1
        rw [show (vNs ts).length = ts.length from List.length_map ..] at hj
        rw [at_nat hj] at hv
        obtain rfl := Option.some.inj hv
        have km := ok.t ts[j] (List.getElem_mem hj)
        have rl : ts[j] < rs.length := by rw [ch.1]; exact km
        have yl : ys.length = j := by
          rw [ch'.1, List.length_take, List.length_map]
          omega
        have hD' := sG' _ _ hD6
        refine ⟨rfl, _, rfl, _, rfl, D, _, _, _, rfl, rfl, SqL.of hD', atI_nat (by rw [List.getElem?_map, List.getElem?_eq_getElem rl]; rfl), ?_⟩
        have ro := (ch6.2 ts[j] rs[ts[j]] ws[ts[j]] (List.getElem?_eq_getElem rl) (List.getElem?_eq_getElem km)).mono sG'
        refine ⟨_, hB', by rw [List.length_map, yl]; exact Nat.lt_of_lt_of_le (show j < 10000 by have := oktl; omega) (by decide), NF.Same.mut sG' hB, ys ++ [rs[ts[j]]], ?_, ?_, fun k z r e1 e2 => ?_⟩
        · rw [upd_same, List.map_append]
          rfl
        · rw [List.length_append, yl, List.length_take, List.length_map]
          show j + 1 = _
          omega
        · refine RouAt.put ?_ hB'
          rw [List.getElem?_take] at e2
          rcases Nat.lt_trichotomy k j with h | h | h
          · rw [List.getElem?_append_left (by omega)] at e1
            rw [if_pos (by omega)] at e2
            exact ch'.2 k z r e1 (by rw [List.getElem?_take, if_pos h]; exact e2)
          · subst h
            rw [List.getElem?_append_right (by omega), yl, Nat.sub_self] at e1
            rw [if_pos (by omega), List.getElem?_map, List.getElem?_eq_getElem hj] at e2
            cases e1
            cases e2
            show RouAt K CR G' _ i (ws.getD _ [])
            rw [List.getD_eq_getElem?_getD, List.getElem?_eq_getElem km]
            exact ro
          · rw [if_neg (by omega)] at e2
            cases e2
      rintro B2 hB2 G7 ⟨sE, zs, hB7, ch7⟩
      rw [show (vNs ts).length = ts.length from List.length_map .., show (ts.map fun k => ws.getD k []).take ts.length = ts.map fun k => ws.getD k [] by rw [List.take_of_length_le (by simp)]] at ch7
      refine ⟨_, rfl, B2, 0 + took i (b ++ deedsOf ws fs), i, zs, ts.map fun k => ws.getD k [], rfl, SqL.of hB7, ch7.1, ch7.2, (by show (deedsOf ws ts).length ≤ 10000; omega), fun p7 h2 G8 s8 tp8 hh8 => ?_⟩
      have tp8 : SqT K G8 p7 [V.ref h2, V.int ((0 + took i (b ++ deedsOf ws fs) + took i (deedsOf ws ts) : Nat) : Int)] := tp8
      have hh8 : G8 h2 = some (.lst (vI (ahead i (deedsOf ws ts) ((0 + took i (b ++ deedsOf ws fs) : Nat) : Int)))) := hh8
      rw [Nat.zero_add] at tp8 hh8
      refine ⟨p7, _, rfl, tp8, rfl, _, _, rfl, ?_⟩
      refine ⟨_, _, rfl, ?_⟩
      refine ⟨rfl, ?_⟩
      have hh1 := s8 _ _ (sE _ _ hh)
      have sF : Same H G8 := Same.trans s1 (Same.trans sG (Same.trans sA (Same.trans sD (Same.trans sE s8))))
      have gd := needT_good i (b ++ deedsOf ws fs) (deedsOf ws ts)
      have n1 := ahead_len (i := i) (a := b ++ deedsOf ws fs) (t := 0)
      have n2 := ahead_len (i := i) (a := deedsOf ws ts) (t := (took i (b ++ deedsOf ws fs) : Int))
      rw [List.length_append] at n1
      have fin : ∀ r : Int, r = (needT i (b ++ deedsOf ws fs) (deedsOf ws ts)).2.2 → tMake CT (spInit K CT) [] E0 (fun _ G' R => R [V.ref h1, V.ref h2, V.int r] G') [] G8 fun v G' => Q v G' := fun r er => by
        intro y dy ny nd ne
        subst er
        exact ⟨y, dy, h1, h2, (needT i (b ++ deedsOf ws fs) (deedsOf ws ts)).1, (needT i (b ++ deedsOf ws fs) (deedsOf ws ts)).2.1, _, rfl, upd_same, row_made ny nd (.inl (SqL.of hh1)), row_made ny nd (.inl (SqL.of hh8)), gd, (by show (ahead i _ 0).length + (ahead i _ _).length ≤ 10000; omega), fun z H' hz s tb => ⟨rfl, q y z H' hz (Same.trans sF (same_made ny nd s)) tb⟩⟩
      refine ⟨_, rfl, _, rfl, _, rfl, _, tru_row (.inl (SqL.of hh8)), ?_⟩
      by_cases e : ahead i (deedsOf ws ts) (took i (b ++ deedsOf ws fs) : Int) = []
      · rw [show (!(ahead i (deedsOf ws ts) (took i (b ++ deedsOf ws fs) : Int)).isEmpty) = false by rw [e]; rfl]
        refine iteF ?_
        exact fin 0 (if_pos e).symm
      · rw [ne_nil e]
        refine iteT ?_
        refine ⟨_, rfl, _, rfl, _, _, rfl, rfl, ?_⟩
        refine fin _ ?_
        show _ = if _ then _ else _
        rw [if_neg e]
        omega
end
end K24
set_option Elab.async false
set_option linter.all false
set_option maxRecDepth 100000
set_option maxHeartbeats 4000000
namespace K24
open PySem PySem.Spec PyProof.Rows L2 He NF
section
variable {P : Program} {w : World} {K : PySem.W.Frag} {mg : Str → Option Value} {base : Heap}
theorem sc__law_pick : FnScope ["_law_source_here", "_law_many", "_law_value", "_law_digit"] ["_law_source_here", "_law_many"] (defScope s__law_pick) := ⟨rfl, rfl, rfl, by decide +kernel, rfl, by decide +kernel, by decide +kernel⟩
theorem ok_pick {f : Addr} {fd : FuncData} {gs fs : List Str} (F : FunD K "_law_pick" "_law_pick" (defArgs s__law_pick) (defBody s__law_pick) (defScope s__law_pick) [] [] f fd) (T : Txt K mg gs fs) (hi : ("int" : Str) ∈ fs) : FnOk P w K mg base CX0 1 f fd ["_law_source_here", "_law_many"] spPick := by
  refine F.ok sc__law_pick (fun vs H Q E h => ?_) (fun cdv A outer s H vs Q E hr h => ?_)
  · obtain ⟨H0, p, m, rfl, _⟩ := h
    rfl
  · obtain ⟨H0, p, m, rfl, hS, h0, ⟨a, sd, c, hp⟩, m0, m1, k⟩ := h
    refine ⟨_, PSs.nox (pss_cons (ps_if (pt_cmpR op_gt (pe_ix ix_list (pv 0) pe_int fun _ _ => rfl) pe_int (nomark _)) (pss_cons (ps_set (i := 3) sc__law_pick.nd rfl (Or.inl rfl) (pe_op op_mod (pe_callTy call_int1 rfl (T.fr _ hi) (by decide +kernel) (pa_cons (pe_ix ix_list (pv 0) pe_int fun _ _ => rfl) pa_nil)) (pv 1))) (pss_cons (ps_asg (pe_op op_fdiv (pe_ix ix_list (pv 0) pe_int fun _ _ => rfl) (pv 1)) (pg_sub (pv 0) pe_int set_list)) (pss_one (ps_ret (pv 3))))) pss_nil) (pss_cons (ps_asg (pe_op op_add (pe_ix ix_list (pv 0) pe_int fun _ _ => rfl) pe_int) (pg_sub (pv 0) pe_int set_list)) (pss_cons (ps_set (i := 2) sc__law_pick.nd rfl (Or.inl rfl) (pe_op op_mod (pe_callTy call_int1 rfl (T.fr _ hi) (by decide +kernel) (pa_cons (pe_op op_mul (pe_op op_add (pe_ix ix_list (pv 0) pe_int fun _ _ => rfl) (pe_op op_mul pe_int (pe_ix ix_list (pv 0) pe_int fun _ _ => rfl))) pe_int) pa_nil)) pe_int)) (pss_cons (ps_set (i := 2) sc__law_pick.nd rfl (Or.inl rfl) (pe_op op_mod (pe_callTy call_int1 rfl (T.fr _ hi) (by decide +kernel) (pa_cons (pe_op op_add (pe_op op_add (pe_op op_mul (pv 2) (pv 2)) (pe_op op_mul pe_int (pe_ix ix_list (pv 0) pe_int fun _ _ => rfl))) (pe_ix ix_list (pv 0) pe_int fun _ _ => rfl)) pa_nil)) pe_int)) (pss_cons (ps_set (i := 2) sc__law_pick.nd rfl (Or.inl rfl) (pe_op op_mod (pe_callTy call_int1 rfl (T.fr _ hi) (by decide +kernel) (pa_cons (pe_op op_add (pe_op op_mul (pv 2) pe_int) pe_int) pa_nil)) pe_int)) (pss_cons (ps_set (i := 2) sc__law_pick.nd rfl (Or.inl rfl) (pe_op op_mod (pe_callTy call_int1 rfl (T.fr _ hi) (by decide +kernel) (pa_cons (pe_op op_add (pe_op op_mul (pv 2) (pv 2)) (pv 2)) pa_nil)) pe_int)) (pss_one (ps_ret (pe_op op_mod (pe_callTy call_int1 rfl (T.fr _ hi) (by decide +kernel) (pa_cons (pe_op op_fdiv (pv 2) pe_int) pa_nil)) (pv 1)))))))))), ?_⟩
    refine ⟨_, rfl, p, _, _, _, rfl, rfl, SqL.of hp, at0, _, _, rfl, rfl, _, rfl, ?_⟩
    refine ite2 (fun _ => ?_) (fun _ => ?_)
    · refine ⟨_, rfl, p, _, _, _, rfl, rfl, SqL.of hp, at0, Or.inl ⟨_, rfl, _, rfl, _, _, rfl, rfl, m0, ?_⟩⟩
      refine ⟨_, rfl, p, _, _, _, rfl, rfl, SqL.of hp, at0, _, rfl, _, _, rfl, rfl, ⟨m0, m1⟩, ?_⟩
      refine ⟨_, rfl, p, _, _, 0, rfl, rfl, hp, rfl, ?_⟩
      refine ⟨_, rfl, k _ _ (Int.emod_nonneg _ (by omega)) (Int.emod_lt_of_pos _ m0) (NF.Same.put hS h0) ⟨_, _, _, upd_same⟩⟩
    · refine ⟨_, rfl, p, _, _, _, rfl, rfl, SqL.of hp, at2, _, _, rfl, rfl, ?_⟩
      refine ⟨_, rfl, p, _, _, 2, rfl, rfl, hp, rfl, ?_⟩
      have hp' : upd H p (.lst [.int a, .int sd, .int (c + 1)]) p = some (.lst [.int a, .int sd, .int (c + 1)]) := upd_same
      refine ⟨_, rfl, p, _, _, _, rfl, rfl, SqL.of hp', at1, ?_⟩
      refine ⟨_, rfl, p, _, _, _, rfl, rfl, SqL.of hp', at2, _, _, rfl, rfl, Or.inl (by decide), _, _, rfl, rfl, ?_⟩
      refine ⟨_, _, rfl, rfl, Or.inr (by decide), Or.inl ⟨_, rfl, _, _, rfl, rfl, (by first | exact (by decide : (0 : Int) < 2147483647) | exact (by decide : (0 : Int) < 2147483629) | exact (by decide : (0 : Int) < 2147483587)), ?_⟩⟩
      generalize hx : (sd + 104729 * (c + 1)) * 48271 % 2147483647 = x
      have x0 : 0 ≤ x ∧ x < 2147483647 := by omega
      refine ⟨_, rfl, _, rfl, _, _, rfl, rfl, Or.inl (by omega), ?_⟩
      refine ⟨_, rfl, p, _, _, _, rfl, rfl, SqL.of hp', at2, _, _, rfl, rfl, Or.inl (by decide), _, _, rfl, rfl, ?_⟩
      refine ⟨_, rfl, p, _, _, _, rfl, rfl, SqL.of hp', at1, _, _, rfl, rfl, Or.inl ⟨_, rfl, _, _, rfl, rfl, (by first | exact (by decide : (0 : Int) < 2147483647) | exact (by decide : (0 : Int) < 2147483629) | exact (by decide : (0 : Int) < 2147483587)), ?_⟩⟩
      generalize hy : (x * x + 7 * (c + 1) + sd) % 2147483629 = y
      have y0 : 0 ≤ y ∧ y < 2147483629 := by omega
      refine ⟨_, rfl, _, _, rfl, rfl, Or.inl (by omega), _, _, rfl, rfl, Or.inl ⟨_, rfl, _, _, rfl, rfl, (by first | exact (by decide : (0 : Int) < 2147483647) | exact (by decide : (0 : Int) < 2147483629) | exact (by decide : (0 : Int) < 2147483587)), ?_⟩⟩
      generalize hz : (y * 69621 + 5) % 2147483647 = z
      have z0 : 0 ≤ z ∧ z < 2147483647 := by omega
      refine ⟨_, rfl, _, rfl, _, _, rfl, rfl, Or.inl (by omega), ?_⟩
      refine ⟨_, rfl, _, _, rfl, rfl, Or.inl ⟨_, rfl, _, _, rfl, rfl, (by first | exact (by decide : (0 : Int) < 2147483647) | exact (by decide : (0 : Int) < 2147483629) | exact (by decide : (0 : Int) < 2147483587)), ?_⟩⟩
      refine ⟨_, rfl, _, _, rfl, rfl, ⟨by decide, by decide⟩, Or.inl ⟨_, rfl, _, rfl, _, _, rfl, rfl, m0, ?_⟩⟩
      exact k _ _ (Int.emod_nonneg _ (by omega)) (Int.emod_lt_of_pos _ m0) (NF.Same.put hS h0) ⟨_, _, _, hp'⟩
end
end K24
set_option Elab.async false
set_option linter.all false
set_option maxRecDepth 100000
set_option maxHeartbeats 4000000
namespace K24
open PySem PySem.Spec PyProof.Rows L2 He NF
theorem sc__law_source : FnScope ["_law_script", "_law_place", "_law_cell", "_law_seed", "_law_one", "_law_number"] ["_law_script", "_law_place"] (defScope s__law_source) := ⟨rfl, rfl, rfl, by decide +kernel, rfl, by decide +kernel, by decide +kernel⟩
theorem natAbs_bits {x : Int} {n : Nat} (h : x.natAbs < 2 ^ n) : Builtin.Int.intBits x ≤ n := by
  unfold Builtin.Int.intBits
  by_cases e : x = 0
  · rw [if_pos (by rw [e]; rfl)]
    exact Nat.zero_le _
  · rw [if_neg (by simpa using e)]
    exact (Nat.log2_lt (by omega)).mpr h
theorem bits_le {x y : Int} (h : x.natAbs ≤ y.natAbs) : Builtin.Int.intBits x ≤ Builtin.Int.intBits y := by
  refine natAbs_bits (Nat.lt_of_le_of_lt h ?_)
  unfold Builtin.Int.intBits
  by_cases e : y = 0
  · rw [if_pos (by rw [e]; rfl), e]
    decide
  · rw [if_neg (by simpa using e)]
    exact Nat.lt_log2_self
theorem bits_small {x : Int} (h0 : 0 ≤ x) (h : x < 1000000) : Builtin.Int.intBits x ≤ 1048576 := Nat.le_trans (natAbs_bits (n := 20) (by omega)) (by decide)
section
variable {P : Program} {w : World} {K : PySem.W.Frag} {mg : Str → Option Value} {base : Heap}
theorem ok_source {f : Addr} {fd : FuncData} {gs fs : List Str} (F : FunD K "_law_source" "_law_source" (defArgs s__law_source) (defBody s__law_source) (defScope s__law_source) [] [] f fd) (T : Txt K mg gs fs) (hl : ("len" : Str) ∈ fs) (hi : ("int" : Str) ∈ fs) (ha : ("abs" : Str) ∈ fs) : FnOk P w K mg base CX0 1 f fd ["_law_script", "_law_place"] (spSource K) := by
  refine F.ok sc__law_source (fun vs H Q E h => ?_) (fun cdv A outer s H vs Q E hr h => ?_)
  · obtain ⟨l, ns, i, rfl, _⟩ := h
    rfl
  · obtain ⟨l, ns, i, rfl, hS, hn, hb, hi', k⟩ := h
    refine ⟨_, PSs.nox (pss_cons (ps_set (i := 2) sc__law_source.nd rfl (Or.inl rfl) (pe_ifExp (pt_cmpR op_lt (pv 1) (pe_callB call_len_seq rfl (T.fr _ hl) boot_len (pa_cons (pv 0) pa_nil)) (nomark _)) (pe_ix ix_list (pv 0) (pv 1) fun _ _ => rfl) (pe_op op_add (pe_op op_mul pe_int (pv 1)) pe_int))) (pss_cons (ps_set (i := 3) sc__law_source.nd rfl (Or.inl rfl) (pe_op op_mod (pe_callTy call_int1 rfl (T.fr _ hi) (by decide +kernel) (pa_cons (pe_op op_add (pe_op op_mod (pe_callTy call_int1 rfl (T.fr _ hi) (by decide +kernel) (pa_cons (pv 2) pa_nil)) pe_int) (pe_op op_mul pe_int (pv 1))) pa_nil)) pe_int)) (pss_cons (ps_for PassesOwn.never rfl (pi_list (pe_slice sl_list (pv 0) po_none (po_some pe_int))) (pg_name (i := 4) sc__law_source.nd rfl (Or.inl rfl)) (pss_one (ps_set (i := 3) sc__law_source.nd rfl (Or.inl rfl) (pe_op op_mod (pe_callTy call_int1 rfl (T.fr _ hi) (by decide +kernel) (pa_cons (pe_op op_add (pe_op op_mul (pv 3) pe_int) (pe_op op_mod (pe_callTy call_int1 rfl (T.fr _ hi) (by decide +kernel) (pa_cons (pv 4) pa_nil)) pe_int)) pa_nil)) pe_int)))) (pss_cons (ps_set (i := 5) sc__law_source.nd rfl (Or.inl rfl) (pe_callB call_abs rfl (T.fr _ ha) (by decide +kernel) (pa_cons (pv 2) pa_nil))) (pss_cons (ps_if (pt_cmpR op_lt (pv 5) (pe_op op_pow pe_int pe_int) (nomark _)) (pss_one (ps_ret (pe_lst (pa_cons pe_int (pa_cons (pv 3) (pa_cons pe_int pa_nil)))))) pss_nil) (pss_cons (ps_if (pt_cmpR op_gt (pe_op op_shr (pv 5) pe_int) pe_int (nomark _)) (pss_one (ps_set (i := 5) sc__law_source.nd rfl (Or.inl rfl) (pe_op op_sub (pv 5) (pe_op op_shlW (pe_op op_shr (pv 5) pe_int) pe_int)))) pss_nil) (pss_one (ps_ret (pe_lst (pa_cons (pv 5) (pa_cons (pv 3) (pa_cons pe_int pa_nil)))))))))))), ?_⟩
    -- the cell: what stands at the place, or a number by the place
    have hcell : ∀ (Q1 : VK), (∀ c : Int, Builtin.Int.intBits c ≤ 1048576 → Q1 (.int c) H) →
        (if decide ((i : Int) < ((ns.map V.int).length : Int)) = true then tOp (rIxL K) (tVar 0) (tVar 1) (start ["_law_script", "_law_place", "_law_cell", "_law_seed", "_law_one", "_law_number"] [.ref l, .int (i : Int)]) H Q1
          else tOp (rI0 fun i j => .int (i + j)) (tOp (rI CMul fun i j => .int (i * j)) (tC (.int 3)) (tVar 1)) (tC (.int 1)) (start ["_law_script", "_law_place", "_law_cell", "_law_seed", "_law_one", "_law_number"] [.ref l, .int (i : Int)]) H Q1) := by
      intro Q1 q
      rw [List.length_map]
      by_cases hlt : i < ns.length
      · rw [decide_eq_true (show (i : Int) < (ns.length : Int) by omega), if_pos rfl]
        have e : (ns.map V.int)[i]? = some (V.int ns[i]) := by rw [List.getElem?_map, List.getElem?_eq_getElem hlt] <;> rfl
        exact ⟨_, rfl, _, rfl, l, _, _, _, rfl, rfl, hS, atI_nat e, q _ (hb _ (List.getElem_mem hlt))⟩
      · rw [decide_eq_false (show ¬ (i : Int) < (ns.length : Int) by omega), if_neg Bool.false_ne_true]
        refine ⟨_, rfl, _, _, rfl, rfl, Or.inl (by decide), _, _, rfl, rfl, q _ ?_⟩
        exact bits_small (by omega) (by omega)
    refine ⟨_, rfl, _, rfl, l, _, rfl, Or.inl hS, _, _, rfl, rfl, _, rfl, hcell _ fun c hc => ?_⟩
    refine ⟨_, rfl, Or.inl ⟨_, rfl, _, _, rfl, rfl, (by exact (by decide : (0 : Int) < 2147483629)), ?_⟩⟩
    refine ⟨_, rfl, _, _, rfl, rfl, Or.inl (by decide), _, _, rfl, rfl, Or.inl ⟨_, rfl, _, _, rfl, rfl, (by exact (by decide : (0 : Int) < 2147483629)), ?_⟩⟩
    refine ⟨_, rfl, _, rfl, l, _, rfl, hS, fun p hp => ⟨p, rfl, ⟨_, SqL.of upd_same⟩, ?_⟩⟩
    have hpl : H p = none := hp
    obtain ⟨cs, hcs⟩ : ∃ cs : List Int, cutV (ns.map V.int) none (some 2) = cs.map V.int := ⟨(ns.drop (HT.sIx (ns.map V.int).length 0 none)).take (HT.sIx (ns.map V.int).length (ns.map V.int).length (some 2) - HT.sIx (ns.map V.int).length 0 none), by unfold cutV; rw [List.map_take, List.map_drop]⟩
    refine for_list (K := K) (a := p) (xs := cs.map V.int) (fun j σ H' => H' = upd H p (.lst (cs.map V.int)) ∧ ∃ (sd : Int) (v : Option V), σ = [some (.ref l), some (.int (i : Int)), some (.int c), some (.int sd), v, none])
      ⟨by rw [hcs], _, _, rfl⟩ (fun j σ H' _ z => by rw [z.1]; exact SqL.of upd_same) ?_ ?_
    · rintro j y σ H' hj ⟨rfl, sd, v, rfl⟩
      obtain ⟨z, rfl⟩ : ∃ z, y = V.int z := by
        rw [List.getElem?_map] at hj
        cases e : cs[j]? with
        | none =>
          rw [e] at hj
          cases hj
        | some z =>
          rw [e] at hj
          exact ⟨z, (Option.some.inj hj).symm⟩
      refine ⟨_, rfl, _, _, rfl, rfl, Or.inr (by decide), _, rfl, Or.inl ⟨_, rfl, _, _, rfl, rfl, (by exact (by decide : (0 : Int) < 1000003)), ?_⟩⟩
      refine ⟨_, _, rfl, rfl, Or.inl ⟨_, rfl, _, _, rfl, rfl, (by exact (by decide : (0 : Int) < 2147483629)), ?_⟩⟩
      exact ⟨rfl, _, _, rfl⟩
    · rintro σ H' ⟨rfl, sd, v, rfl⟩
      have hS1 : Same H (upd H p (.lst (cs.map V.int))) := NF.Same.new (Same.refl H) hp
      have hend : ∀ (a sd : Int) (q : Addr), upd H p (.lst (cs.map V.int)) q = none → Q (.ref q) (upd (upd H p (.lst (cs.map V.int))) q (.lst [.int a, .int sd, .int 0])) := fun a sd q hq =>
        k q _ (NF.Same.new hS1 hq) (L2.Same.free hS1 hq) ⟨_, _, _, upd_same⟩
      refine ⟨_, rfl, _, rfl, ?_⟩
      have hab : Builtin.Int.intBits (if c < 0 then -c else c) ≤ 1048576 := Nat.le_trans (bits_le (by split <;> omega)) hc
      generalize hm : (if c < 0 then -c else c) = m at hab ⊢
      have m0 : 0 ≤ m := by rw [← hm]; split <;> omega
      refine ⟨_, rfl, _, _, rfl, rfl, ⟨by decide, by decide, by decide⟩, _, _, rfl, rfl, _, rfl, ?_⟩
      refine ite2 (fun _ => ?_) (fun _ => ?_)
      · exact ⟨_, rfl, (by show 3 ≤ sizeLine; decide), fun q hq => hend _ _ q hq⟩
      · refine ⟨_, rfl, _, _, rfl, rfl, (by exact (by decide : (0 : Int) ≤ 4000)), _, _, rfl, rfl, _, rfl, ?_⟩
        refine ite2 (fun _ => ?_) (fun _ => ?_)
        · refine ⟨_, rfl, _, rfl, _, _, rfl, rfl, (by exact (by decide : (0 : Int) ≤ 4000)), _, _, rfl, rfl, ⟨(by exact (by decide : (0 : Int) ≤ 4000)), ?_⟩, _, _, rfl, rfl, ?_⟩
          · have hd : Builtin.Int.intBits (m / 2 ^ (4000 : Int).toNat) ≤ Builtin.Int.intBits m := bits_le (by
              have h1 : 0 ≤ m / 2 ^ (4000 : Int).toNat := Int.ediv_nonneg m0 (Int.le_of_lt (Int.pow_pos (by decide)))
              have h2 : m / 2 ^ (4000 : Int).toNat ≤ m := Int.ediv_le_self _ m0
              omega)
            have h27 : (1048576 : Int) + 4000 ≤ 2 ^ 27 := by decide
            omega
          · exact ⟨_, rfl, _, rfl, (by show 3 ≤ sizeLine; decide), fun q hq => hend _ _ q hq⟩
        · exact ⟨_, rfl, _, rfl, (by show 3 ≤ sizeLine; decide), fun q hq => hend _ _ q hq⟩
end
end K24
set_option Elab.async false
set_option linter.all false
set_option maxRecDepth 100000
set_option maxHeartbeats 4000000
namespace K24
open PySem PySem.Spec PyProof.Rows L2 He NF RZ NT
theorem src_ne {H : Hp} {p q : Addr} {o : HO} (hs : Src H p) (hq : H q = none) : q ≠ p := fun z => by
  obtain ⟨_, _, _, h⟩ := hs
  rw [z, h] at hq
  cases hq
theorem src_put {H : Hp} {p q : Addr} {o : HO} (hs : Src H p) (n : q ≠ p) : Src (upd H q o) p := by
  obtain ⟨a, b, c, h⟩ := hs
  exact ⟨a, b, c, by rw [upd_ne (Ne.symm n)]; exact h⟩
theorem same_none {H0 H : Hp} {q : Addr} (s : Same H0 H) (h : H q = none) : H0 q = none := L2.Same.free s h
theorem idx_k {l : List Int} {d lo hi : Int} {n : Nat} (h0 : 0 ≤ d) (h1 : d < (n : Int)) (hl : l.length = n) (hb : ∀ k, k < n → lo ≤ l.getD k 0 ∧ l.getD k 0 ≤ hi) : ∃ v : Int, atI (vI l) d = some (.int v) ∧ lo ≤ v ∧ v ≤ hi :=
  ⟨l.getD d.toNat 0, at_int (by omega) (by omega), hb _ (by omega)⟩
theorem both1H {X : Prop} {R : Hp → Prop} (P : Hp → Prop) (h1 : (∀ G, P G → R G) → X) (h2 : ∀ G, P G → R G) : X := h1 h2
def spLDeeds : Sp := fun vs H Q _ => ∃ (H0 : Hp) (p : Addr) (n m : Nat) (g : Int), vs = [.ref p, .int (n : Int), .int (m : Int), .int g] ∧ Same H0 H ∧ H0 p = none ∧ Src H p ∧ 1 ≤ n ∧ n ≤ 3 ∧ m ≤ 10 ∧
  ∀ (q : Addr) (ds : List Deed) (H' : Hp), Same H0 H' → Src H' p → H' q = some (.lst (ds.map dV)) → H0 q = none → q ≠ p → ds.length = m → (∀ i, some i ∈ ds → i < n) → Q (.ref q) H'
def MkrT (K : PySem.W.Frag) (H : Hp) (q : Addr) (n : Nat) (b : List Deed) (ws : List (List Deed)) : Prop := ∃ pb pw, SqT K H q [.int (n : Int), .ref pb, .ref pw] ∧ SqT K H pb (b.map dV) ∧ WaysT K H pw ws
theorem MkrT.mono {K : PySem.W.Frag} {H H' : Hp} {q : Addr} {n : Nat} {b : List Deed} {ws : List (List Deed)} (h : MkrT K H q n b ws) (s : Same H H') : MkrT K H' q n b ws := by
  obtain ⟨pb, pw, h1, h2, h3⟩ := h
  exact ⟨pb, pw, NF.Same.tup s h1, NF.Same.tup s h2, h3.mono s⟩
theorem WaysT.wo {K : PySem.W.Frag} {H : Hp} {pw p : Addr} {ws : List (List Deed)} {u : HO} (h : WaysT K H pw ws) (hp : H p = some u) (n : match u with | .lst _ => True | .ins _ _ _ => True | _ => False) : WaysT K (NF.wo H p) pw ws := by
  obtain ⟨as, h1, h2, h3⟩ := h
  exact ⟨as, SqT.wo h1 hp n, h2, fun j a w e1 e2 => SqT.wo (h3 j a w e1 e2) hp n⟩
theorem MkrT.wo {K : PySem.W.Frag} {H : Hp} {q p : Addr} {n : Nat} {b : List Deed} {ws : List (List Deed)} (h : MkrT K H q n b ws) (hs : Src H p) : MkrT K (NF.wo H p) q n b ws := by
  obtain ⟨pb, pw, h1, h2, h3⟩ := h
  obtain ⟨_, _, _, e⟩ := hs
  exact ⟨pb, pw, SqT.wo h1 e trivial, SqT.wo h2 e trivial, WaysT.wo h3 e trivial⟩
/-- a maker as it is drawn -/
structure Drawn (n : Nat) (b : List Deed) (ws : List (List Deed)) : Prop where
  n1 : 1 ≤ n
  n3 : n ≤ 3
  bd : ∀ i, some i ∈ b → i < n
  wy : ∀ v ∈ ws, v ≠ [] ∧ v.length ≤ 4 ∧ ∀ i, some i ∈ v → i < n
  m1 : 1 ≤ ws.length
  m4 : ws.length ≤ 4
  bl : b.length ≤ 4
theorem Drawn.good {n : Nat} {b : List Deed} {ws : List (List Deed)} (d : Drawn n b ws) : GoodM n b ws :=
  ⟨d.n1, d.n3, d.bd, fun v hv => ⟨(d.wy v hv).1, by have := (d.wy v hv).2.1; omega, (d.wy v hv).2.2⟩, d.m1, d.m4, by have := d.bl; omega⟩
def spLMaker (K : PySem.W.Frag) : Sp := fun vs H Q _ => ∃ (H0 : Hp) (p : Addr) (n m : Nat) (st : Bool), vs = [.ref p, .int (n : Int), .int (m : Int), .bl st] ∧ Same H0 H ∧ H0 p = none ∧ Src H p ∧ 1 ≤ n ∧ n ≤ 3 ∧ 1 ≤ m ∧ m ≤ 4 ∧
  ∀ q b ws H', Same H0 H' → Src H' p → Drawn n b ws → MkrT K H' q n b ws → Q (.ref q) H'
def spLMade (K : PySem.W.Frag) (C : Addr) : Sp := fun vs H Q _ => ∃ (q : Addr) (n : Nat) (b : List Deed) (ws : List (List Deed)), vs = [.ref q] ∧ MkrT K H q n b ws ∧ GoodM n b ws ∧ ∀ x H', Same H H' → MakAt K C H' x n b ws → Q (.ref x) H'
theorem sc__law_deeds : FnScope ["_law_source_here", "_law_inlets", "_law_many", "_law_gives", "_law_told", "_law_k"] ["_law_source_here", "_law_inlets", "_law_many", "_law_gives"] (defScope s__law_deeds) := ⟨rfl, rfl, rfl, by decide +kernel, rfl, by decide +kernel, by decide +kernel⟩
theorem sc__law_maker : FnScope ["_law_source_here", "_law_inlets", "_law_most", "_law_stops", "_law_begin", "_law_found", "_law_k", "_law_way"] ["_law_source_here", "_law_inlets", "_law_most", "_law_stops"] (defScope s__law_maker) := ⟨rfl, rfl, rfl, by decide +kernel, rfl, by decide +kernel, by decide +kernel⟩
theorem sc__law_made : FnScope ["_law_maker_here"] ["_law_maker_here"] (defScope s__law_made) := ⟨rfl, rfl, rfl, by decide +kernel, rfl, by decide +kernel, by decide +kernel⟩
section
variable {P : Program} {w : World} {K : PySem.W.Frag} {mg : Str → Option Value} {base : Heap} {gs fs : List Str} {C : Addr}
theorem ok__law_deeds {f : Addr} {fd : FuncData} (F : FunD K "_law_deeds" "_law_deeds" (defArgs s__law_deeds) (defBody s__law_deeds) (defScope s__law_deeds) [] [] f fd) (T : Txt K mg gs FS) (c__law_pick : Cal P w K mg base 1 "_law_pick" spPick) : FnOk P w K mg base CX0 2 f fd ["_law_source_here", "_law_inlets", "_law_many", "_law_gives"] spLDeeds := by
  refine F.ok sc__law_deeds (fun vs H Q E h => ?_) (fun cdv A outer s H vs Q E hr h => ?_)
  · obtain ⟨H0, p, n, m, g, rfl, _⟩ := h
    rfl
  · obtain ⟨H0, p, n, m, g, rfl, s0, n0, hs, n1, n3, hm, q⟩ := h
    refine ⟨_, PSs.nox (pss_cons (ps_set (i := 4) sc__law_deeds.nd rfl (Or.inl rfl) (pe_lst pa_nil)) (pss_cons (ps_for PassesOwn.never rfl (pi_range1 rfl (T.fr _ (by decide +kernel)) (pa_cons (pv 2) pa_nil)) (pg_name (i := 5) sc__law_deeds.nd rfl (Or.inl rfl)) (pss_one (ps_if (pt_cmpR op_lt (pe_c c__law_pick hr (by decide) rfl (pa_cons (pv 0) (pa_cons pe_int pa_nil))) (pv 3) (nomark _)) (pss_one (ps_expr (pe_bm PySem.F.plainAttrs_list PySem.F.slot_list_append PySem.F.type_list_append mt_append (pv 4) (pa_cons pe_str pa_nil)))) (pss_one (ps_expr (pe_bm PySem.F.plainAttrs_list PySem.F.slot_list_append PySem.F.type_list_append mt_append (pv 4) (pa_cons (pe_c c__law_pick hr (by decide) rfl (pa_cons (pv 0) (pa_cons (pv 1) pa_nil))) pa_nil))))))) (pss_one (ps_ret (pv 4))))), ?_⟩
    refine ⟨(by show 0 ≤ sizeLine; decide), fun t ht => ?_⟩
    have htp : t ≠ p := src_ne (o := .lst []) hs ht
    have h0t := same_none s0 ht
    refine ⟨_, rfl, (m : Int), rfl, by omega, by omega, ?_⟩
    refine for_range (lo := 0) (n := m) (fun j σ G => Same H0 G ∧ Src G p ∧ ∃ ds : List Deed, G t = some (.lst (ds.map dV)) ∧ ds.length = j ∧ (∀ i, some i ∈ ds → i < n) ∧ ∃ k : Option V, σ = [some (.ref p), some (.int (n : Int)), some (.int (m : Int)), some (.int g), some (.ref t), k])
      ⟨NF.Same.put s0 h0t, src_put hs htp, [], upd_same, rfl, (fun i h => absurd h (by simp)), none, rfl⟩ ?_ ?_
    · rintro j σ G hj ⟨s1, hs1, ds, hl, hlen, hd, k, rfl⟩
      refine ⟨_, rfl, wo G p, p, 4, rfl, wo_same', wo_none, hs1, by decide, by decide, fun d G' d0 d1 s2 hs2 => ?_⟩
      have hl2 : G' t = some (.lst (ds.map dV)) := s2 _ _ ((wo_ne htp).trans hl)
      refine ⟨_, rfl, _, _, rfl, rfl, _, rfl, ite2 (fun _ => ?_) (fun _ => ?_)⟩
      · refine ⟨_, rfl, Or.inl ⟨rfl, _, SqL.of hl2⟩, t, _, _, rfl, rfl, hl2, ?_, ?_⟩
        · rw [List.length_map, hlen]
          exact Nat.lt_of_le_of_lt (show j ≤ 200 by omega) (by decide)
        refine ⟨NF.Same.put (wo_same s1 n0 s2) h0t, src_put hs2 htp, ds ++ [none], ?_, by simp [hlen], fun i h => ?_, some (.int ((0 : Int) + (j : Int))), rfl⟩
        · rw [upd_same, List.map_append]
          rfl
        · rcases List.mem_append.mp h with h | h
          · exact hd i h
          · simp at h
      · refine ⟨_, rfl, Or.inl ⟨rfl, _, SqL.of hl2⟩, ?_⟩
        refine ⟨_, rfl, _, rfl, wo G' p, p, (n : Int), rfl, wo_same', wo_none, hs2, by omega, by omega, fun e G3 e0 e1 s3 hs3 => ?_⟩
        have hl3 : G3 t = some (.lst (ds.map dV)) := s3 _ _ ((wo_ne htp).trans hl2)
        refine ⟨t, _, _, rfl, rfl, hl3, ?_, ?_⟩
        · rw [List.length_map, hlen]
          exact Nat.lt_of_le_of_lt (show j ≤ 200 by omega) (by decide)
        refine ⟨NF.Same.put (wo_same (wo_same s1 n0 s2) n0 s3) h0t, src_put hs3 htp, ds ++ [some e.toNat], ?_, by simp [hlen], fun i h => ?_, some (.int ((0 : Int) + (j : Int))), rfl⟩
        · rw [upd_same, List.map_append]
          show some (HO.lst (_ ++ [V.int e])) = some (HO.lst (_ ++ [V.int ((e.toNat : Nat) : Int)]))
          rw [Int.toNat_of_nonneg e0]
        · rcases List.mem_append.mp h with h | h
          · exact hd i h
          · have : i = e.toNat := by simpa using h
            omega
    · rintro σ G ⟨s1, hs1, ds, hl, hlen, hd, k, rfl⟩
      exact ⟨_, rfl, q t ds G s1 hs1 hl h0t htp hlen hd⟩
theorem in_give {ds : List Deed} : (inV (.str "give") (ds.map dV) = true) ↔ none ∈ ds := by
  unfold inV
  rw [List.any_map, List.any_eq_true]
  constructor
  · rintro ⟨d, hd, e⟩
    cases d with
    | none => exact hd
    | some i => cases e
  · exact fun h => ⟨none, h, by decide +kernel⟩
theorem flat_deeds (ds : List Deed) : (ds.map dV).all flatV = true := by
  rw [List.all_map, List.all_eq_true]
  intro d _
  cases d <;> rfl
theorem begins_le : ∀ k, k < 8 → 0 ≤ ([0, 1, 2, 0, 3, 1, 4, 2] : List Int).getD k 0 ∧ ([0, 1, 2, 0, 3, 1, 4, 2] : List Int).getD k 0 ≤ 4 := by decide
theorem gives_le : ∀ k, k < 4 → 1 ≤ ([2, 2, 1, 3] : List Int).getD k 0 ∧ ([2, 2, 1, 3] : List Int).getD k 0 ≤ 3 := by decide
theorem ok__law_maker {f : Addr} {fd : FuncData} (F : FunD K "_law_maker" "_law_maker" (defArgs s__law_maker) (defBody s__law_maker) (defScope s__law_maker) [] [] f fd) (T : Txt K mg gs FS) (c__law_pick : Cal P w K mg base 1 "_law_pick" spPick) (c__law_deeds : Cal P w K mg base 2 "_law_deeds" spLDeeds) : FnOk P w K mg base CX0 3 f fd ["_law_source_here", "_law_inlets", "_law_most", "_law_stops"] (spLMaker K) := by
  refine F.ok sc__law_maker (fun vs H Q E h => ?_) (fun cdv A outer s H vs Q E hr h => ?_)
  · obtain ⟨H0, p, n, m, st, rfl, _⟩ := h
    rfl
  · obtain ⟨H0, p, n, m, st, rfl, s0, n0, hs, n1, n3, m1, m4, q⟩ := h
    refine ⟨_, PSs.nox (pss_cons (ps_set (i := 4) sc__law_maker.nd rfl (Or.inl rfl) (pe_c c__law_deeds hr (by decide) rfl (pa_cons (pv 0) (pa_cons (pv 1) (pa_cons (pe_ix (ixl (K := K)) (pe_lst (pa_cons pe_int (pa_cons pe_int (pa_cons pe_int (pa_cons pe_int (pa_cons pe_int (pa_cons pe_int (pa_cons pe_int (pa_cons pe_int pa_nil))))))))) (pe_c c__law_pick hr (by decide) rfl (pa_cons (pv 0) (pa_cons pe_int pa_nil))) fun _ _ => rfl) (pa_cons pe_int pa_nil)))))) (pss_cons (ps_set (i := 5) sc__law_maker.nd rfl (Or.inl rfl) (pe_lst pa_nil)) (pss_cons (ps_for PassesOwn.never rfl (pi_range1 rfl (T.fr _ (by decide +kernel)) (pa_cons (pe_op op_add pe_int (pe_c c__law_pick hr (by decide) rfl (pa_cons (pv 0) (pa_cons (pv 2) pa_nil)))) pa_nil)) (pg_name (i := 6) sc__law_maker.nd rfl (Or.inl rfl)) (pss_cons (ps_set (i := 7) sc__law_maker.nd rfl (Or.inl rfl) (pe_c c__law_deeds hr (by decide) rfl (pa_cons (pv 0) (pa_cons (pv 1) (pa_cons (pe_op op_add pe_int (pe_c c__law_pick hr (by decide) rfl (pa_cons (pv 0) (pa_cons pe_int pa_nil)))) (pa_cons (pe_ix (ixl (K := K)) (pe_lst (pa_cons pe_int (pa_cons pe_int (pa_cons pe_int (pa_cons pe_int pa_nil))))) (pe_c c__law_pick hr (by decide) rfl (pa_cons (pv 0) (pa_cons pe_int pa_nil))) fun _ _ => rfl) pa_nil)))))) (pss_cons (ps_if (PW.pt (pw_and (pt_cmpR op_notIn_seq pe_str (pv 7) rfl) (pw_and1 (pt_not (PW.pt (pw_and (pt_val (pv 3)) (pw_and1 (pt_cmpR op_eq (pe_c c__law_pick hr (by decide) rfl (pa_cons (pv 0) (pa_cons pe_int pa_nil))) pe_int (nomark _))))))))) (pss_one (ps_expr (pe_bm PySem.F.plainAttrs_list PySem.F.slot_list_insert PySem.F.type_list_insert mt_insert (pv 7) (pa_cons (pe_c c__law_pick hr (by decide) rfl (pa_cons (pv 0) (pa_cons (pe_op op_add (pe_callB call_len_seq rfl (T.fr _ (by decide +kernel)) boot_len (pa_cons (pv 7) pa_nil)) pe_int) pa_nil))) (pa_cons pe_str pa_nil))))) pss_nil) (pss_one (ps_expr (pe_bm PySem.F.plainAttrs_list PySem.F.slot_list_append PySem.F.type_list_append mt_append (pv 5) (pa_cons (pe_callTy cr_tup rfl (T.fr _ (by decide +kernel)) (by decide +kernel) (pa_cons (pv 7) pa_nil)) pa_nil))))))) (pss_one (ps_ret (pe_tup (pa_cons (pv 1) (pa_cons (pe_callTy cr_tup rfl (T.fr _ (by decide +kernel)) (by decide +kernel) (pa_cons (pv 4) pa_nil)) (pa_cons (pe_callTy cr_tup rfl (T.fr _ (by decide +kernel)) (by decide +kernel) (pa_cons (pv 5) pa_nil)) pa_nil))))))))), ?_⟩
    -- the beginning
    refine ⟨_, rfl, _, rfl, (by show 8 ≤ sizeLine; decide), fun t ht => ?_⟩
    have htp : t ≠ p := src_ne (o := .lst []) hs ht
    have hs1 : Src (upd H t (.lst (vI [0, 1, 2, 0, 3, 1, 4, 2]))) p := src_put hs htp
    have s1 : Same H0 (upd H t (.lst (vI [0, 1, 2, 0, 3, 1, 4, 2]))) := NF.Same.put s0 (same_none s0 ht)
    have ht1 : upd H t (.lst (vI [0, 1, 2, 0, 3, 1, 4, 2])) t = some (.lst (vI [0, 1, 2, 0, 3, 1, 4, 2])) := upd_same
    refine ⟨_, rfl, wo _ p, p, 8, rfl, wo_same', wo_none, hs1, by decide, by decide, fun d G2 d0 d1 s2 hs2 => ?_⟩
    obtain ⟨v, hv, v0, v1⟩ := idx_k (l := [0, 1, 2, 0, 3, 1, 4, 2]) (n := 8) (lo := 0) (hi := 4) d0 d1 rfl begins_le
    have s02 := wo_same s1 n0 s2
    refine ⟨t, _, _, _, rfl, rfl, SqL.of (s2 _ _ ((wo_ne htp).trans ht1)), hv, ?_⟩
    refine ⟨wo G2 p, p, n, v.toNat, 2, by rw [Int.toNat_of_nonneg v0]; rfl, wo_same', wo_none, hs2, n1, n3, by omega, fun tb b G3 s3 hs3 hb hb0 hbp hbl hbd => ?_⟩
    have s03 := wo_same s02 n0 s3
    have hb03 : H0 tb = none := same_none s02 (by have z := hb0; rw [wo_ne hbp] at z; exact z)
    -- the ways
    refine ⟨(by show 0 ≤ sizeLine; decide), fun D hD => ?_⟩
    have hDp : D ≠ p := src_ne (o := .lst []) hs3 hD
    have hDb : tb ≠ D := ne_of_none hb hD
    have h0D := same_none s03 hD
    have hs4 : Src (upd G3 D (.lst [])) p := src_put hs3 hDp
    have s04 : Same H0 (upd G3 D (.lst [])) := NF.Same.put s03 h0D
    have hb4 := (upd_ne (o := .lst []) hDb).trans hb
    have hD4 := upd_same (H := G3) (a := D) (o := .lst [])
    generalize upd G3 D (.lst []) = G4 at hs4 s04 hb4 hD4
    refine ⟨_, rfl, _, rfl, wo G4 p, p, (m : Int), rfl, wo_same', wo_none, hs4, by omega, by omega, fun k G5 k0 k1 s5 hs5 => ?_⟩
    have s05 := wo_same s04 n0 s5
    have hb5 := s5 _ _ ((wo_ne hbp).trans hb4)
    have hD5 := s5 _ _ ((wo_ne hDp).trans hD4)
    refine ⟨_, _, rfl, rfl, 1 + k, rfl, by omega, by omega, ?_⟩
    rw [show (1 + k).toNat = k.toNat + 1 by omega]
    refine for_range (lo := 0) (n := k.toNat + 1) (fun j σ G => Same H0 G ∧ Src G p ∧ G tb = some (.lst (b.map dV)) ∧ (∃ (as : List Addr) (ws : List (List Deed)), G D = some (.lst (as.map V.ref)) ∧ as.length = j ∧ ws.length = j ∧ (∀ (j : Nat) (a : Addr) (w : List Deed), as[j]? = some a → ws[j]? = some w → SqT K G a (w.map dV)) ∧ ∀ v ∈ ws, v ≠ [] ∧ v.length ≤ 4 ∧ ∀ i, some i ∈ v → i < n) ∧ ∃ v6 v7 : Option V, σ = [some (.ref p), some (.int (n : Int)), some (.int (m : Int)), some (.bl st), some (.ref tb), some (.ref D), v6, v7])
      ⟨s05, hs5, hb5, ⟨[], [], hD5, rfl, rfl, fun j a w e => by simp at e, fun v h => absurd h (by simp)⟩, none, none, rfl⟩ ?_ ?_
    · rintro j σ G hj ⟨sG, hsG, hbG, ⟨as, ws, hDG, al, wl, hts, hok⟩, v6, v7, rfl⟩
      have h0D' : H0 D = none := h0D
      refine ⟨_, rfl, _, rfl, _, rfl, wo G p, p, 3, rfl, wo_same', wo_none, hsG, by decide, by decide, fun e Ga e0 e1 sa hsa => ?_⟩
      refine ⟨_, _, rfl, rfl, (by show 4 ≤ sizeLine; decide), fun u hu => ?_⟩
      have hup : u ≠ p := src_ne (o := .lst []) hsa hu
      have hsb : Src (upd Ga u (.lst (vI [2, 2, 1, 3]))) p := src_put hsa hup
      have sab : Same Ga (upd Ga u (.lst (vI [2, 2, 1, 3]))) := NF.Same.new (Same.refl _) hu
      have htb : upd Ga u (.lst (vI [2, 2, 1, 3])) u = some (.lst (vI [2, 2, 1, 3])) := upd_same
      have ek : upd Ga u (.lst [V.int 2, V.int 2, V.int 1, V.int 3]) = upd Ga u (.lst (vI [2, 2, 1, 3])) := rfl
      rw [ek]
      generalize upd Ga u (.lst (vI [2, 2, 1, 3])) = Gb at hsb sab htb
      refine ⟨_, rfl, wo Gb p, p, 4, rfl, wo_same', wo_none, hsb, by decide, by decide, fun x Gc x0 x1 sc hsc => ?_⟩
      obtain ⟨gv, hgv, gv0, gv1⟩ := idx_k (l := [2, 2, 1, 3]) (n := 4) (lo := 1) (hi := 3) x0 x1 rfl gives_le
      refine ⟨u, _, _, _, rfl, rfl, SqL.of (sc _ _ ((wo_ne hup).trans htb)), hgv, ?_⟩
      refine ⟨wo Gc p, p, n, (1 + e).toNat, gv, by rw [Int.toNat_of_nonneg (by omega)]; rfl, wo_same', wo_none, hsc, n1, n3, by omega, fun tw ds Gd sd hsd htw htw0 htwp hdl hdd => ?_⟩
      -- what stands
      have s0a := wo_same sG n0 sa
      have s0c := wo_same (Same.trans s0a sab) n0 sc
      have s0d := wo_same s0c n0 sd
      have keep : ∀ (a : Addr) (o : HO), a ≠ p → G a = some o → Gd a = some o := fun a o ne e => sd _ _ ((wo_ne ne).trans (sc _ _ ((wo_ne ne).trans (sab _ _ (sa _ _ ((wo_ne ne).trans e))))))
      have keepT : ∀ (a : Addr) (xs : List V), SqT K G a xs → SqT K Gd a xs := fun a xs h => by
        obtain ⟨_, _, _, e1⟩ := id hsG
        obtain ⟨_, _, _, e2⟩ := id hsb
        obtain ⟨_, _, _, e3⟩ := id hsc
        exact NF.Same.tup sd (SqT.wo (NF.Same.tup sc (SqT.wo (NF.Same.tup sab (NF.Same.tup sa (SqT.wo h e1 trivial))) e2 trivial)) e3 trivial)
      have hbd' := keep tb _ hbp hbG
      have hDd := keep D _ hDp hDG
      have htsd := fun j a w e1 e2 => keepT a _ (hts j a w e1 e2)
      have h0tw : H0 tw = none := same_none s0c (by have z := htw0; rw [wo_ne htwp] at z; exact z)
      have twD : tw ≠ D := fun z => by
        rw [z, wo_ne hDp] at htw0
        have := sc _ _ ((wo_ne hDp).trans (sab _ _ (sa _ _ ((wo_ne hDp).trans hDG))))
        rw [htw0] at this
        cases this
      have twb : tw ≠ tb := fun z => by
        rw [z, wo_ne hbp] at htw0
        have := sc _ _ ((wo_ne hbp).trans (sab _ _ (sa _ _ ((wo_ne hbp).trans hbG))))
        rw [htw0] at this
        cases this
      have dl1 : ds.length = 1 + e.toNat := by omega
      refine' both1H (fun G9 => Same H0 G9 ∧ Src G9 p ∧ G9 tb = some (.lst (b.map dV)) ∧ G9 D = some (.lst (as.map V.ref)) ∧ (∀ (j : Nat) (a : Addr) (w : List Deed), as[j]? = some a → ws[j]? = some w → SqT K G9 a (w.map dV)) ∧ ∃ w : List Deed, G9 tw = some (.lst (w.map dV)) ∧ w ≠ [] ∧ w.length ≤ 4 ∧ ∀ i, some i ∈ w → i < n) (fun kk => ?A) ?B
      case A =>
        have here := kk Gd ⟨s0d, hsd, hbd', hDd, htsd, ds, htw, fun z => by rw [z] at dl1; simp at dl1; omega, by omega, hdd⟩
        refine ⟨_, rfl, tw, _, rfl, .inl (SqL.of htw), rfl, flat_deeds ds, _, rfl, ?_⟩
        by_cases hin : inV (.str "give") (ds.map dV) = true
        · exact iteF' (by simp [hin]) (iteF here)
        · refine iteT' (by simp [hin]) ?_
          refine ⟨_, rfl, st, rfl, ?_⟩
          have nogive : none ∉ ds := fun z => by
            exact hin (in_give.mpr z)
          refine' @both1H _ _ (fun G9 : Hp => Same H0 G9 ∧ Src G9 p ∧ G9 tb = some (.lst (b.map dV)) ∧ G9 D = some (.lst (as.map V.ref)) ∧ (∀ (j : Nat) (a : Addr) (w : List Deed), as[j]? = some a → ws[j]? = some w → SqT K G9 a (w.map dV)) ∧ G9 tw = some (.lst (ds.map dV))) (fun k2 => ?A2) ?B2
          case A2 =>
            by_cases hst : st = true
            · refine iteT' hst ⟨_, rfl, wo Gd p, p, 3, rfl, wo_same', wo_none, hsd, by decide, by decide, fun y Ge y0 y1 se hse => ⟨rfl, _, rfl, ?_⟩⟩
              have hbe := se _ _ ((wo_ne hbp).trans hbd')
              have hDe := se _ _ ((wo_ne hDp).trans hDd)
              have hte := se _ _ ((wo_ne htwp).trans htw)
              have htse : ∀ (j : Nat) (a : Addr) (w : List Deed), as[j]? = some a → ws[j]? = some w → SqT K Ge a (w.map dV) := fun j a w e1 e2 => by
                obtain ⟨_, _, _, e3⟩ := id hsd
                exact NF.Same.tup se (SqT.wo (htsd j a w e1 e2) e3 trivial)
              have s0e := wo_same s0d n0 se
              by_cases c : (V.int y : V) = V.int 1
              · rw [decide_eq_true c]
                exact iteF (kk Ge ⟨s0e, hse, hbe, hDe, htse, ds, hte, fun z => by rw [z] at dl1; simp at dl1; omega, by omega, hdd⟩)
              · rw [decide_eq_false c]
                have h0 := k2 Ge ⟨s0e, hse, hbe, hDe, htse, hte⟩
                refine iteT ?_
                have hq : ∀ (R : Hp → Prop), R Ge → True := fun _ _ => trivial
                revert h0
                generalize Ge = Gz
                intro h0
                exact h0
            · have h0 := k2 Gd ⟨s0d, hsd, hbd', hDd, htsd, htw⟩
              exact iteF' (by simpa using hst) (iteT h0)
          case B2 =>
            rintro Ge ⟨s0e, hse, hbe, hDe, htse, hte⟩
            refine ⟨_, rfl, .inl ⟨rfl, _, SqL.of hte⟩, ?_⟩
            refine ⟨_, rfl, _, rfl, tw, _, rfl, .inl (SqL.of hte), _, _, rfl, rfl, ?_⟩
            rw [List.length_map]
            refine ⟨wo Ge p, p, (ds.length : Int) + 1, rfl, wo_same', wo_none, hse, by omega, by omega, fun z Gf z0 z1 sf hsf => ?_⟩
            have hbf := sf _ _ ((wo_ne hbp).trans hbe)
            have hDf := sf _ _ ((wo_ne hDp).trans hDe)
            have htf := sf _ _ ((wo_ne htwp).trans hte)
            have htsf : ∀ (j : Nat) (a : Addr) (w : List Deed), as[j]? = some a → ws[j]? = some w → SqT K Gf a (w.map dV) := fun j a w e1 e2 => by
              obtain ⟨_, _, _, e3⟩ := id hse
              exact NF.Same.tup sf (SqT.wo (htse j a w e1 e2) e3 trivial)
            have s0f := wo_same s0e n0 sf
            refine ⟨tw, _, z, _, rfl, rfl, htf, by rw [List.length_map]; exact Nat.lt_of_lt_of_le (show ds.length < 10000 by omega) (by decide), z0, by omega, ?_⟩
            have ei : (ds.map dV).take z.toNat ++ [V.str "give"] ++ (ds.map dV).drop z.toNat = (ds.take z.toNat ++ [none] ++ ds.drop z.toNat).map dV := by
              rw [List.map_append, List.map_append, List.map_take, List.map_drop]
              rfl
            rw [ei]
            generalize hG9 : upd Gf tw (.lst ((ds.take z.toNat ++ [none] ++ ds.drop z.toNat).map dV)) = G9
            refine kk G9 ⟨?_, ?_, ?_, ?_, ?_, ds.take z.toNat ++ [none] ++ ds.drop z.toNat, ?_, by simp, ?_, fun i h => ?_⟩
            · rw [← hG9]; exact NF.Same.put s0f h0tw
            · rw [← hG9]; exact src_put hsf htwp
            · rw [← hG9, upd_ne twb.symm]; exact hbf
            · rw [← hG9, upd_ne twD.symm]; exact hDf
            · intro j a w e1 e2
              rw [← hG9]
              exact SqT.put (htsf j a w e1 e2) htf trivial
            · rw [← hG9, upd_same]
            · rw [List.length_append, List.length_append, List.length_take, List.length_drop, List.length_singleton]
              omega
            · refine hdd i ?_
              rcases List.mem_append.mp h with h | h
              · rcases List.mem_append.mp h with h | h
                · exact List.mem_of_mem_take h
                · simp at h
              · exact List.mem_of_mem_drop h
      case B =>
        rintro Ge ⟨s0e, hse, hbe, hDe, htse, w, hte, wn, wl4, wd⟩
        refine ⟨_, rfl, .inl ⟨rfl, _, SqL.of hDe⟩, _, rfl, tw, _, rfl, .inl (SqL.of hte), fun pt Gf sf tf => ?_⟩
        have hDf := sf _ _ hDe
        refine ⟨D, _, _, rfl, rfl, hDf, by rw [List.length_map]; exact Nat.lt_of_lt_of_le (show as.length < 10000 by omega) (by decide), ?_⟩
        refine ⟨NF.Same.put (Same.trans s0e sf) h0D, src_put (Src.mono hse sf) hDp, ?_, ⟨as ++ [pt], ws ++ [w], ?_, by simp [al], by simp [wl], fun k a v e1 e2 => ?_, fun v hv => ?_⟩, _, _, rfl⟩
        · rw [upd_ne hDb]; exact sf _ _ hbe
        · rw [upd_same, List.map_append]; rfl
        · refine SqT.put ?_ hDf trivial
          rcases Nat.lt_trichotomy k j with h | h | h
          · rw [List.getElem?_append_left (by omega)] at e1 e2
            exact NF.Same.tup sf (htse k a v e1 e2)
          · subst h
            rw [List.getElem?_append_right (by omega), al, Nat.sub_self] at e1
            rw [List.getElem?_append_right (by omega), wl, Nat.sub_self] at e2
            cases e1
            cases e2
            exact tf
          · rw [List.getElem?_eq_none (by simp [al]; omega)] at e1
            cases e1
        · rcases List.mem_append.mp hv with hv | hv
          · exact hok v hv
          · rw [List.mem_singleton.mp hv]
            exact ⟨wn, wl4, wd⟩
    · rintro σ G ⟨sG, hsG, hbG, ⟨as, ws, hDG, al, wl, hts, hok⟩, v6, v7, rfl⟩
      refine ⟨_, rfl, _, rfl, tb, _, rfl, .inl (SqL.of hbG), fun p1 G1 s1 t1 => ?_⟩
      refine ⟨_, rfl, D, _, rfl, .inl (SqL.of (s1 _ _ hDG)), fun p2 G2' s2' t2 => ?_⟩
      refine ⟨(by show 3 ≤ sizeLine; decide), fun p3 hp3 => ?_⟩
      have s3' := NF.Same.new (o := .tup [V.int (n : Int), V.ref p1, V.ref p2]) (Same.refl G2') hp3
      have s13 := Same.trans s1 (Same.trans s2' s3')
      refine q p3 b ws _ (Same.trans sG s13) (Src.mono hsG s13) ⟨n1, n3, hbd, hok, by omega, by omega, by omega⟩ ⟨p1, p2, SqT.of upd_same, NF.Same.tup (Same.trans s2' s3') t1, as, NF.Same.tup s3' t2, by omega, fun j a w e1 e2 => NF.Same.tup s13 (hts j a w e1 e2)⟩
theorem ok__law_made {f : Addr} {fd : FuncData} (F : FunD K "_law_made" "_law_made" (defArgs s__law_made) (defBody s__law_made) (defScope s__law_made) [] [] f fd) (T : Txt K mg gs FS) (m_Maker : Mak P w K mg base 7 0 "Maker" C (spMkInit K C) []) : FnOk P w K mg base CX0 9 f fd ["_law_maker_here"] (spLMade K C) := by
  refine F.ok sc__law_made (fun vs H Q E h => ?_) (fun cdv A outer s H vs Q E hr h => ?_)
  · obtain ⟨q, n, b, ws, rfl, _⟩ := h
    rfl
  · obtain ⟨q, n, b, ws, rfl, ⟨pb, pw, hq, hb, hw⟩, g, k⟩ := h
    refine ⟨_, PSs.nox (pss_one (ps_ret (pe_mk m_Maker hr (by decide) rfl (pa_cons (pe_ix (ixt (K := K)) (pv 0) pe_int fun _ _ => rfl) (pa_cons (pe_ix (ixt (K := K)) (pv 0) pe_int fun _ _ => rfl) (pa_cons (pe_ix (ixt (K := K)) (pv 0) pe_int fun _ _ => rfl) pa_nil)))))), ?_⟩
    refine ⟨_, rfl, q, _, _, _, rfl, rfl, hq, at0, _, rfl, q, _, _, _, rfl, rfl, hq, at1, _, rfl, q, _, _, _, rfl, rfl, hq, at2, ?_⟩
    intro x dx nx nd ne
    exact ⟨x, dx, pb, pw, n, b, ws, rfl, upd_same, .inr (NF.Same.tup (same_woM nx nd) hb), (hw.mono (same_woM nx nd)).r, g, fun H' s mk => ⟨rfl, k x H' (Same.trans (same_woM nx nd) s) mk⟩⟩
end
end K24
set_option Elab.async false
set_option linter.all false
set_option maxRecDepth 100000
set_option maxHeartbeats 4000000
namespace K24
open PySem PySem.Spec PyProof.Rows L2 He NF RZ NT
theorem sc__law_plain : FnScope ["_law_head", "_law_loop", "_law_rise", "_law_size", "_law_many", "_law_row", "_law_turns", "_law_step", "_law_k"] ["_law_head", "_law_loop", "_law_rise"] (defScope s__law_plain) := ⟨rfl, rfl, rfl, by decide +kernel, rfl, by decide +kernel, by decide +kernel⟩
theorem all_range {n : Nat} {f : Nat → Bool} : ((List.range n).map f).all id = true ↔ ∀ k, k < n → f k = true := by
  rw [List.all_eq_true]
  constructor
  · intro h k hk
    exact h _ (List.mem_map.mpr ⟨k, List.mem_range.mpr hk, rfl⟩)
  · intro h x hx
    obtain ⟨k, hk, rfl⟩ := List.mem_map.mp hx
    exact h k (List.mem_range.mp hk)
theorem at_neg {l : List Int} {i : Int} {n : Nat} (e : i + (l.length : Int) = (n : Int)) (h0 : i < 0) (h : n < l.length) : atI (vI l) i = some (V.int (l.getD n 0)) := by
  unfold atI ixN
  rw [if_neg (by omega), List.length_map, if_pos (by omega)]
  show (vI l)[(i + (l.length : Int)).toNat]? = _
  rw [show (i + (l.length : Int)).toNat = n by omega, List.getElem?_map, List.getElem?_eq_getElem h, List.getD_eq_getElem?_getD, List.getElem?_eq_getElem h] <;> rfl
section
variable {P : Program} {w : World} {K : PySem.W.Frag} {mg : Str → Option Value} {base : Heap} {gs : List Str}
end
end K24
set_option Elab.async false
set_option linter.all false
set_option maxRecDepth 100000
set_option maxHeartbeats 4000000
namespace K24
open PySem PySem.Spec PyProof.Rows L2 He NF RZ NT
def spPlainL (K : PySem.W.Frag) : Sp := fun vs H Q _ => ∃ (a b : Addr) (h l : List Int) (r : Int), vs = [.ref a, .ref b, .int r] ∧ SqL K H a (vI h) ∧ SqL K H b (vI l) ∧ h.length ≤ 10000 ∧ l.length ≤ 10000 ∧ ∀ p x H', IsPlain h l r x → Same H H' → FormAt K H' p x → Q (.ref p) H'
section
variable {P : Program} {w : World} {K : PySem.W.Frag} {mg : Str → Option Value} {base : Heap} {gs : List Str}
theorem ok__law_plainL {f : Addr} {fd : FuncData} (F : FunD K "_law_plain" "_law_plain" (defArgs s__law_plain) (defBody s__law_plain) (defScope s__law_plain) [] [] f fd) (T : Txt K mg gs FS) : FnOk P w K mg base CX0 1 f fd ["_law_head", "_law_loop", "_law_rise"] (spPlainL K) := by
  refine F.ok sc__law_plain (fun vs H Q E h => ?_) (fun cdv A outer s H vs Q E hr h => ?_)
  · obtain ⟨a, b, h, l, r, rfl, _⟩ := h
    rfl
  · obtain ⟨a, b, h, l, r, rfl, ha, hb, hh, hll, q⟩ := h
    refine ⟨_, PSs.nox (pss_cons (ps_if (pt_cmpR op_eq (pe_callB call_len_seq rfl (T.fr _ (by decide +kernel)) boot_len (pa_cons (pv 1) pa_nil)) pe_int (nomark _)) (pss_one (ps_ret (pe_tup (pa_cons (pe_callTy cr_tup rfl (T.fr _ (by decide +kernel)) (by decide +kernel) (pa_cons (pv 0) pa_nil)) (pa_cons (pe_tup pa_nil) (pa_cons pe_int pa_nil)))))) pss_nil) (pss_cons (ps_set (i := 3) sc__law_plain.nd rfl (Or.inl rfl) (pe_callB call_len_seq rfl (T.fr _ (by decide +kernel)) boot_len (pa_cons (pv 1) pa_nil))) (pss_cons (ps_for PassesOwn.never rfl (pi_range3 rfl (T.fr _ (by decide +kernel)) (pa_cons (pe_callB call_len_seq rfl (T.fr _ (by decide +kernel)) boot_len (pa_cons (pv 1) pa_nil)) (pa_cons pe_int (pa_cons (pe_un un_neg pe_int) pa_nil)))) (pg_name (i := 4) sc__law_plain.nd rfl (Or.inr rfl)) (pss_cons (ps_set (i := 6) sc__law_plain.nd rfl (Or.inl rfl) (pe_op op_fdiv (pe_callB call_len_seq rfl (T.fr _ (by decide +kernel)) boot_len (pa_cons (pv 1) pa_nil)) (pv 4))) (pss_cons (ps_if (PW.pt (pw_or (pt_cmpR op_ne (pe_op op_mul (pv 6) (pv 4)) (pe_callB call_len_seq rfl (T.fr _ (by decide +kernel)) boot_len (pa_cons (pv 1) pa_nil)) (nomark _)) (pw_or1 (pt_cmpR op_ne (pe_op op_mod (pe_callTy call_int1 rfl (T.fr _ (by decide +kernel)) (by decide +kernel) (pa_cons (pv 2) pa_nil)) (pv 6)) pe_int (nomark _))))) (pss_one ps_continue) pss_nil) (pss_cons (ps_set (i := 7) sc__law_plain.nd rfl (Or.inr rfl) (pe_op op_fdiv (pv 2) (pv 6))) (pss_one (ps_if (pt_val (pe_callB (cr_all rfl) rfl (T.fr _ (by decide +kernel)) (by decide +kernel) (pa_cons (pe_lc (own := [("_law_k", 8)]) rfl sc__law_plain.nd (pi_range1 rfl (T.fr _ (by decide +kernel)) (pa_cons (pe_op op_sub (pe_callB call_len_seq rfl (T.fr _ (by decide +kernel)) boot_len (pa_cons (pv 1) pa_nil)) (pv 4)) pa_nil)) (blkOk_by (N := ["_law_head", "_law_loop", "_law_rise", "_law_size", "_law_many", "_law_row", "_law_turns", "_law_step", "_law_k"]) (sc := defScope s__law_plain) (by decide +kernel)) (fun _ _ _ _ _ => by exact (pg_name (i := 8) sc__law_plain.nd rfl (Or.inl rfl))) (fun _ _ _ _ _ => by exact pts_nil) (fun _ _ _ _ _ => by exact (pe_cmpR op_eq (pe_ix (ixl (K := K)) (pv 1) (pe_op op_add (pv 8) (pv 4)) fun _ _ => rfl) (pe_op op_add (pe_ix (ixl (K := K)) (pv 1) (pv 8) fun _ _ => rfl) (pv 7)) (nomark _)))) pa_nil))) (pss_one (ps_set (i := 3) sc__law_plain.nd rfl (Or.inl rfl) (pv 4))) pss_nil)))))) (pss_cons (ps_set (i := 2) sc__law_plain.nd rfl (Or.inl rfl) (pe_op op_fdiv (pv 2) (pe_op op_fdiv (pe_callB call_len_seq rfl (T.fr _ (by decide +kernel)) boot_len (pa_cons (pv 1) pa_nil)) (pv 3)))) (pss_cons (ps_set (i := 5) sc__law_plain.nd rfl (Or.inl rfl) (pe_op op_cat (pe_callTy call_list_of rfl (T.fr _ (by decide +kernel)) (by decide +kernel) (pa_cons (pv 0) pa_nil)) (pe_callTy call_list_of rfl (T.fr _ (by decide +kernel)) (by decide +kernel) (pa_cons (pe_slice sl_list (pv 1) po_none (po_some (pv 3))) pa_nil)))) (pss_cons (ps_while PassesOwn.never (PW.pt (pw_and (pt_cmpR op_gt (pe_callB call_len_seq rfl (T.fr _ (by decide +kernel)) boot_len (pa_cons (pv 5) pa_nil)) (pv 3) (nomark _)) (pw_and1 (pt_cmpR op_eq (pe_ix (ixl (K := K)) (pv 5) (pe_op op_sub (pe_un un_neg pe_int) (pv 3)) fun _ _ => rfl) (pe_op op_sub (pe_ix (ixl (K := K)) (pv 5) (pe_un un_neg pe_int) fun _ _ => rfl) (pv 2)) (nomark _))))) (pss_one (ps_set (i := 5) sc__law_plain.nd rfl (Or.inl rfl) (pe_slice sl_list (pv 5) po_none (po_some (pe_un un_neg pe_int)))))) (pss_one (ps_ret (pe_tup (pa_cons (pe_callTy cr_tup rfl (T.fr _ (by decide +kernel)) (by decide +kernel) (pa_cons (pe_slice sl_list (pv 5) po_none (po_some (pe_op op_sub (pe_callB call_len_seq rfl (T.fr _ (by decide +kernel)) boot_len (pa_cons (pv 5) pa_nil)) (pv 3)))) pa_nil)) (pa_cons (pe_callTy cr_tup rfl (T.fr _ (by decide +kernel)) (by decide +kernel) (pa_cons (pe_slice sl_list (pv 5) (po_some (pe_op op_sub (pe_callB call_len_seq rfl (T.fr _ (by decide +kernel)) boot_len (pa_cons (pv 5) pa_nil)) (pv 3))) po_none) pa_nil)) (pa_cons (pv 2) pa_nil)))))))))))), ?_⟩
    refine ⟨_, rfl, b, _, rfl, Or.inl hb, rfl, _, rfl, ?_⟩
    by_cases hl : l = []
    · refine (iteT' (decide_eq_true (by rw [hl]; rfl)) ?_)
      subst hl
      refine ⟨_, rfl, a, _, rfl, Or.inl ha, fun p1 G1 s1 t1 => ?_⟩
      refine ⟨(by show 0 ≤ sizeLine; decide), fun p2 hp2 => ?_⟩
      refine ⟨(by show 3 ≤ sizeLine; decide), fun p3 hp3 => ?_⟩
      have s6 := NF.Same.new (o := .tup []) (Same.refl G1) hp2
      have s7 := NF.Same.new (o := .tup [V.ref p1, V.ref p2, V.int 0]) s6 hp3
      exact q p3 (h, [], 0) _ (.inl ⟨rfl, rfl⟩) (Same.trans s1 s7) ⟨p1, p2, SqT.of upd_same, NF.Same.tup s7 t1, SqT.of (by rw [upd_ne (ne_of_none upd_same hp3)]; exact upd_same)⟩
    refine (iteF' (decide_eq_false (fun z => hl ?_)) ?_)
    · injection z with z
      rw [vI_len] at z
      exact List.eq_nil_of_length_eq_zero (by omega)
    have hp := len_pos hl
    refine ⟨_, rfl, b, _, rfl, Or.inl hb, ?_⟩
    refine ⟨_, rfl, b, _, rfl, Or.inl hb, _, rfl, _, _, _, l.length, rfl, ?_, ?_⟩
    · have := RgC.neg (i := ((vI l).length : Int)) (j := 0) (by rw [vI_len]; omega) (by rw [vI_len]; omega) (by omega) (by omega)
      rw [vI_len, Int.sub_zero, Int.toNat_natCast] at this
      rw [vI_len]
      exact this
    -- the shortest lap
    refine for_rangeC (n := l.length) (fun i σ G => Same H G ∧ ∃ s : Nat, (0 < s ∧ s ∣ l.length ∧ Per (walk l r) s ∧ ∀ m', l.length - i < m' → m' ∣ l.length → Per (walk l r) m' → s ≤ m') ∧ ∃ v1 v2 v3 : Option V, σ = [some (.ref a), some (.ref b), some (.int r), some (.int (s : Int)), v1, none, v2, v3, none])
      ⟨Same.refl _, l.length, ⟨hp, Nat.dvd_refl _, per_self hl, fun m' h1 _ _ => by omega⟩, none, none, none, ?_⟩ ?_ ?_
    · rw [vI_len]
      rfl
    · rintro i σ G hi ⟨s1, sz, ⟨z0, z1, z2, z3⟩, v1, v2, v3, rfl⟩
      have hb1 := L2.Same.seq s1 hb
      obtain ⟨m, hm⟩ : ∃ m : Nat, m = l.length - i := ⟨_, rfl⟩
      have m0 : 0 < m := by omega
      have mle : m ≤ l.length := by omega
      have e1 : ((vI l).length : Int) + (i : Int) * (-1) = (m : Int) := by rw [vI_len]; omega
      rw [e1]
      obtain ⟨t, htt⟩ : ∃ t : Nat, t = l.length / m := ⟨_, rfl⟩
      have t0 : 0 < t := by rw [htt]; exact Nat.div_pos mle m0
      have tle : t ≤ l.length := by rw [htt]; exact Nat.div_le_self _ _
      have e2 : ((vI l).length : Int) / (m : Int) = (t : Int) := by rw [vI_len, htt]; rfl
      refine ⟨_, rfl, b, _, rfl, Or.inl hb1, _, rfl, _, _, rfl, rfl, ⟨by omega, by omega⟩, ?_⟩
      show gName 6 (V.int (((vI l).length : Int) / (m : Int))) _ _ _
      rw [e2]
      have hnext : ∀ {v3' : Option V}, ¬ (m ∣ l.length ∧ Per (walk l r) m) → (fun σ G => Same H G ∧ ∃ s : Nat, (0 < s ∧ s ∣ l.length ∧ Per (walk l r) s ∧ ∀ m', l.length - (i + 1) < m' → m' ∣ l.length → Per (walk l r) m' → s ≤ m') ∧ ∃ v1 v2 v3 : Option V, σ = [some (.ref a), some (.ref b), some (.int r), some (.int (s : Int)), v1, none, v2, v3, none])
          [some (.ref a), some (.ref b), some (.int r), some (.int (sz : Int)), some (.int (m : Int)), none, some (.int (t : Int)), v3', none] G := fun hn => by
        refine ⟨s1, sz, ⟨z0, z1, z2, fun m' h1 h2 h3 => ?_⟩, _, _, _, rfl⟩
        by_cases c : m' = m
        · subst c
          exact absurd ⟨h2, h3⟩ hn
        · exact z3 m' (by omega) h2 h3
      refine ⟨_, rfl, _, rfl, _, _, rfl, rfl, Or.inr ⟨by omega, by omega⟩, _, rfl, b, _, rfl, Or.inl hb1, rfl, _, rfl, ?_⟩
      by_cases hd : ¬ m ∣ l.length
      · refine iteT' ?_ (iteT (hnext fun z => hd z.1))
        rw [decide_eq_false (fun z => hd ?_)]
        · rfl
        injection z with z
        rw [vI_len] at z
        have z' : t * m = l.length := Int.ofNat.inj (by rw [← Int.natCast_mul] at z; exact z)
        exact ⟨t, by rw [Nat.mul_comm]; exact z'.symm⟩
      have hd := Classical.not_not.mp hd
      have hmt : m * t = l.length := by rw [htt]; exact Nat.mul_div_cancel' hd
      refine iteF' ?_ ?_
      · rw [decide_eq_true]
        · rfl
        rw [vI_len, ← hmt, Int.natCast_mul, Int.mul_comm]
      have hiff := law_iff (r := r) hl m0 hmt
      refine ⟨_, rfl, Or.inl ⟨_, rfl, _, rfl, _, _, rfl, rfl, (by show (0 : Int) < (t : Int); omega), rfl, _, rfl, ?_⟩⟩
      by_cases hrt : ¬ r % (t : Int) = 0
      · refine iteT' ?_ (hnext fun z => hrt (hiff.mpr z.2).1)
        rw [decide_eq_false (fun z => hrt (by injection z))]
        rfl
      have hrt := Classical.not_not.mp hrt
      refine iteF' ?_ ?_
      · rw [decide_eq_true (congrArg V.int hrt)]
        rfl
      refine ⟨_, rfl, _, rfl, _, _, rfl, rfl, ⟨by omega, by omega⟩, ?_⟩
      -- all
      refine ⟨_, rfl, b, _, rfl, Or.inl hb1, _, rfl, _, _, rfl, rfl, _, rfl, ?_⟩
      rw [vI_len]
      refine ⟨by omega, by omega, fun D hD => ?_⟩
      have en : ((l.length : Int) - (m : Int)).toNat = l.length - m := by omega
      rw [en]
      refine lc_range (lo := 0) (n := l.length - m) (fun j G' => Same G G' ∧ G' D = some (.lst (((List.range j).map fun k => decide (V.int (l.getD (k + m) 0) = V.int (l.getD k 0 + r / (t : Int)))).map V.bl))) ⟨NF.Same.new (Same.refl G) hD, upd_same⟩ ?_ ?_
      · rintro j G' hj ⟨hG, hD2⟩
        have e1 : (0 : Int) + (j : Int) = (j : Int) := Int.zero_add _
        rw [e1]
        have hb2 := L2.Same.seq hG hb1
        refine ⟨rfl, _, rfl, _, rfl, _, rfl, _, _, rfl, rfl, b, _, _, _, rfl, rfl, hb2, at_int (k := j + m) (by omega) (by omega), ?_⟩
        refine ⟨_, rfl, _, rfl, b, _, _, _, rfl, rfl, hb2, at_int (k := j) rfl (by omega), _, rfl, _, _, rfl, rfl, rfl, ?_⟩
        refine ⟨_, hD2, by rw [List.length_map, List.length_map, List.length_range]; exact Nat.lt_of_lt_of_le (show j < 10000 by omega) (by decide), NF.Same.mut hG hD, ?_⟩
        rw [upd_same, List.range_succ, List.map_append, List.map_append]
        rfl
      · rintro G' ⟨hG, hD2⟩
        refine ⟨D, _, rfl, SqL.of hD2, _, rfl, ?_⟩
        have s2 := Same.trans s1 hG
        have hcond : ((List.range (l.length - m)).map fun k => decide (V.int (l.getD (k + m) 0) = V.int (l.getD k 0 + r / (t : Int)))).all id = true ↔ ∀ k, k + m < l.length → l.getD (k + m) 0 = l.getD k 0 + r / (t : Int) := by
          rw [all_range]
          constructor
          · intro hk k hk2
            have := of_decide_eq_true (hk k (by omega))
            injection this
          · intro hk k hk2
            exact decide_eq_true (congrArg V.int (hk k (by omega)))
        refine ite2 (fun hc => ?_) (fun hc => ?_)
        · have hper := hiff.mp ⟨hrt, hcond.mp hc⟩
          refine ⟨_, rfl, s2, m, ⟨m0, hd, hper, fun m' h1 _ _ => by omega⟩, _, _, _, rfl⟩
        · refine ⟨s2, sz, ⟨z0, z1, z2, fun m' h1 h2 h3 => ?_⟩, _, _, _, rfl⟩
          by_cases c : m' = m
          · subst c
            exact absurd (hcond.mpr (hiff.mpr h3).2) hc
          · exact z3 m' (by omega) h2 h3
    · rintro σ G ⟨s1, m, ⟨z0, z1, z2, z3⟩, v1, v2, v3, rfl⟩
      have hm : LapIs l r m := ⟨z0, z1, z2, fun m' h1 h2 h3 => z3 m' (by omega) h2 h3⟩
      have hle : m ≤ l.length := Nat.le_of_dvd hp z1
      obtain ⟨t, ht⟩ := z1
      have t0 : 0 < t := Nat.pos_of_ne_zero fun z => by rw [z, Nat.mul_zero] at ht; omega
      have hc := per_at hl z0 z2 ht.symm
      have ha1 := L2.Same.seq s1 ha
      have hb1 := L2.Same.seq s1 hb
      have e2 : ((vI l).length : Int) / (m : Int) = (t : Int) := by
        rw [vI_len, ht, Int.natCast_mul, Int.mul_ediv_cancel_left _ (by omega)]
      have tle : t ≤ l.length := by rw [ht]; exact Nat.le_mul_of_pos_left _ z0
      refine ⟨_, rfl, _, rfl, b, _, rfl, Or.inl hb1, _, rfl, _, _, rfl, rfl, ⟨by omega, by omega⟩, ?_⟩
      show rI CDiv _ (V.int r) (V.int (((vI l).length : Int) / (m : Int))) _ _
      rw [e2]
      refine ⟨_, _, rfl, rfl, ⟨by omega, by omega⟩, ?_⟩
      show gName 2 (V.int (r / (t : Int))) _ _ _
      generalize hcc : r / (t : Int) = cc at hc
      refine ⟨_, rfl, a, _, rfl, Or.inl ha1, fun q1 hq1 => ?_⟩
      have s2 := NF.Same.new (o := .lst (vI h)) s1 hq1
      refine ⟨_, rfl, _, rfl, _, rfl, ?_⟩
      have hb2 := L2.Same.seq (NF.Same.new (o := .lst (vI h)) (Same.refl G) hq1) hb1
      refine ⟨b, _, rfl, hb2, fun p2 hp2 => ?_⟩
      rw [cut_to, vI_take]
      have s3 := NF.Same.new (o := .lst (vI (l.take m))) (Same.refl (upd G q1 (.lst (vI h)))) hp2
      refine ⟨p2, _, rfl, Or.inl (SqL.of upd_same), fun q2 hq2 => ?_⟩
      generalize hG2 : upd (upd G q1 (.lst (vI h))) p2 (.lst (vI (l.take m))) = G2 at s3 hq2 ⊢
      have hq1' : upd G2 q2 (.lst (vI (l.take m))) q1 = some (.lst (vI h)) := by
        have := s3 _ _ (upd_same (H := G) (a := q1) (o := .lst (vI h)))
        rw [upd_ne (ne_of_none this hq2)]
        exact this
      have hel : (h ++ l.take m).length = h.length + m := by rw [List.length_append, List.length_take, Nat.min_eq_left hle]
      refine ⟨q1, q2, _, _, rfl, rfl, hq1', upd_same, ?_, fun q3 hq3 => ?_⟩
      · rw [vI_len, vI_len, List.length_take]
        exact Nat.le_trans (show h.length + min m l.length ≤ 20000 by omega) (by decide)
      rw [vI_app]
      have s4 : Same H (upd (upd G2 q2 (.lst (vI (l.take m)))) q3 (.lst (vI (h ++ l.take m)))) := NF.Same.new (NF.Same.new (Same.trans s2 s3) hq2) hq3
      refine ⟨fun k σ G' => Same H G' ∧ k ≤ h.length ∧ cut (h ++ l.take m) m cc h.length = cut (h ++ l.take m) m cc k ∧ ∃ pr, G' pr = some (.lst (vI ((h ++ l.take m).take (k + m)))) ∧ σ = [some (.ref a), some (.ref b), some (.int cc), some (.int (m : Int)), v1, some (.ref pr), v2, v3, none],
        ⟨h.length, s4, Nat.le_refl _, rfl, q3, by rw [upd_same, show (h ++ l.take m).take (h.length + m) = h ++ l.take m from List.take_of_length_le (by omega)], rfl⟩, ?_⟩
      rintro k σ G' ⟨s5, hk, hcut, pr, hpr, rfl⟩
      have hlen : ((h ++ l.take m).take (k + m)).length = k + m := by rw [List.length_take, hel]; omega
      -- what is handed back
      have hdone : cut (h ++ l.take m) m cc k = k → (tRet (tTup (tCons (tCB (rTupOf K) (tCons (tSl (rSlL K) (tVar 5) tNoPart (tPart (tOp (rI0 fun i j => .int (i - j)) (tCB (fun xs H Q => ∃ a ys, xs = [.ref a] ∧ (SqL K H a ys ∨ SqT K H a ys) ∧ Q (.int (ys.length : Int)) H) (tCons (tVar 5) tNil)) (tVar 3)))) tNil))
          (tCons (tCB (rTupOf K) (tCons (tSl (rSlL K) (tVar 5) (tPart (tOp (rI0 fun i j => .int (i - j)) (tCB (fun xs H Q => ∃ a ys, xs = [.ref a] ∧ (SqL K H a ys ∨ SqT K H a ys) ∧ Q (.int (ys.length : Int)) H) (tCons (tVar 5) tNil)) (tVar 3))) tNoPart) tNil)) (tCons (tVar 2) tNil))))) { nx := fun _ H' => Q .non H', rt := Q }
          [some (.ref a), some (.ref b), some (.int cc), some (.int (m : Int)), v1, some (.ref pr), v2, v3, none] G' := fun hk2 => by
        have e5 : ((vI ((h ++ l.take m).take (k + m))).length : Int) - (m : Int) = (k : Int) := by rw [vI_len, hlen]; omega
        refine ⟨_, rfl, _, rfl, pr, _, rfl, Or.inl (SqL.of hpr), _, rfl, _, _, rfl, rfl, _, rfl, ?_⟩
        rw [e5]
        refine ⟨pr, _, rfl, SqL.of hpr, fun q1 hq1 => ?_⟩
        rw [cut_to, vI_take, List.take_take, Nat.min_eq_left (by omega)]
        refine ⟨q1, _, rfl, Or.inl (SqL.of upd_same), fun p1 G1 s6 t1 => ?_⟩
        have s06 : Same G' G1 := Same.trans (NF.Same.new (Same.refl G') hq1) s6
        have hpr1 := s06 _ _ hpr
        refine ⟨_, rfl, _, rfl, pr, _, rfl, Or.inl (SqL.of hpr1), _, rfl, _, _, rfl, rfl, _, rfl, ?_⟩
        rw [e5]
        refine ⟨pr, _, rfl, SqL.of hpr1, fun q2 hq2 => ?_⟩
        rw [cut_from, vI_drop]
        refine ⟨q2, _, rfl, Or.inl (SqL.of upd_same), fun p2 G2 s7 t2 => ?_⟩
        have s17 : Same G1 G2 := Same.trans (NF.Same.new (Same.refl G1) hq2) s7
        refine ⟨_, rfl, (by show 3 ≤ sizeLine; decide), fun p6 hp6 => ?_⟩
        have s8 := NF.Same.new (o := .tup [V.ref p1, V.ref p2, V.int cc]) (Same.refl G2) hp6
        have hx := plain_is (h := h) hl hm hc
        rw [hcut, hk2] at hx
        have ew : ((h ++ l.take m).take (k + m)).drop k = win (h ++ l.take m) k m := by
          unfold win
          rw [List.drop_take, Nat.add_sub_cancel_left]
        rw [ew] at t2
        exact q p6 _ _ hx (Same.trans s5 (Same.trans s06 (Same.trans s17 s8))) ⟨p1, p2, SqT.of upd_same, NF.Same.tup (Same.trans s17 s8) t1, NF.Same.tup s8 t2⟩
      refine ⟨_, rfl, pr, _, rfl, Or.inl (SqL.of hpr), _, rfl, _, _, rfl, rfl, _, rfl, ?_⟩
      refine ite2 (fun h1 => ?_) (fun h1 => ?_)
      · have k0 : 0 < k := by
          have := of_decide_eq_true h1
          rw [vI_len, hlen] at this
          omega
        obtain ⟨j, rfl⟩ : ∃ j, k = j + 1 := ⟨k - 1, by omega⟩
        have g1 : ((h ++ l.take m).take (j + 1 + m)).getD j 0 = (h ++ l.take m).getD j 0 := getD_take (by omega)
        have g2 : ((h ++ l.take m).take (j + 1 + m)).getD (j + m) 0 = (h ++ l.take m).getD (j + m) 0 := getD_take (by omega)
        refine ⟨_, rfl, _, rfl, _, rfl, _, _, rfl, rfl, pr, _, _, _, rfl, rfl, SqL.of hpr, at_neg (n := j) (by rw [hlen]; omega) (by omega) (by rw [hlen]; omega), ?_⟩
        refine ⟨_, rfl, _, rfl, pr, _, _, _, rfl, rfl, SqL.of hpr, at_neg (n := j + m) (by rw [hlen]; omega) (by omega) (by rw [hlen]; omega), _, rfl, _, _, rfl, rfl, rfl, _, rfl, ?_⟩
        rw [g1, g2]
        refine ite2 (fun h2 => ?_) (fun h2 => ?_)
        · have h2' : (h ++ l.take m).getD j 0 + cc = (h ++ l.take m).getD (j + m) 0 := by
            have := of_decide_eq_true h2
            injection this
            omega
          refine ⟨fun σ' G2 => Same H G2 ∧ ∃ pr', G2 pr' = some (.lst (vI ((h ++ l.take m).take (j + m)))) ∧ σ' = [some (.ref a), some (.ref b), some (.int cc), some (.int (m : Int)), v1, some (.ref pr'), v2, v3, none], fun σ' G2 ⟨z1, pr', z2, z3⟩ => ⟨j, Nat.lt_succ_self j, z1, by omega, ?_, pr', z2, z3⟩, ?_⟩
          · rw [hcut]
            show (if (h ++ l.take m).getD j 0 + cc = (h ++ l.take m).getD (j + m) 0 then _ else _) = _
            rw [if_pos h2']
          · refine ⟨_, rfl, _, rfl, _, rfl, pr, _, rfl, SqL.of hpr, fun q4 hq4 => ?_⟩
            refine ⟨NF.Same.new s5 hq4, q4, ?_, rfl⟩
            rw [upd_same]
            show some (HO.lst (cutV _ none (some (-((1 : Nat) : Int))))) = _
            rw [cut_toN (by decide), vI_len, hlen, vI_take, List.take_take, Nat.min_eq_left (by omega)]
            congr 4
            omega
        · refine hdone ?_
          show (if (h ++ l.take m).getD j 0 + cc = (h ++ l.take m).getD (j + m) 0 then _ else _) = _
          rw [if_neg fun z => h2 (decide_eq_true (congrArg V.int (by omega)))]
      · have k0 : k = 0 := by
          have : ¬ (m : Int) < ((vI ((h ++ l.take m).take (k + m))).length : Int) := fun z => h1 (decide_eq_true z)
          rw [vI_len, hlen] at this
          omega
        subst k0
        exact hdone rfl
end
end K24
set_option Elab.async false
set_option linter.all false
set_option maxRecDepth 100000
set_option maxHeartbeats 4000000
namespace NT
theorem deedsOf_app {ws : List (List Deed)} {a b : List Nat} : K24.deedsOf ws (a ++ b) = K24.deedsOf ws a ++ K24.deedsOf ws b := by
  unfold K24.deedsOf
  rw [List.map_append, List.flatten_append]
theorem deedsOf_rep {ws : List (List Deed)} {ts : List Nat} : ∀ {k : Nat}, K24.deedsOf ws (List.replicate k ts).flatten = rep (K24.deedsOf ws ts) k
  | 0 => rfl
  | k + 1 => by
    rw [List.replicate_succ, List.flatten_cons, deedsOf_app, deedsOf_rep]
    rfl
end NT
namespace K24
open PySem PySem.Spec PyProof.Rows L2 He NF RZ NT
def CrsT (K : PySem.W.Frag) (H : Hp) (a : Addr) (fs ts : List Nat) : Prop := ∃ p1 p2, SqT K H a [.ref p1, .ref p2] ∧ SqT K H p1 (vNs fs) ∧ SqT K H p2 (vNs ts)
theorem CrsT.mono {K : PySem.W.Frag} {H H' : Hp} {a : Addr} {fs ts : List Nat} (h : CrsT K H a fs ts) (s : Same H H') : CrsT K H' a fs ts := by
  obtain ⟨p1, p2, h1, h2, h3⟩ := h
  exact ⟨p1, p2, NF.Same.tup s h1, NF.Same.tup s h2, NF.Same.tup s h3⟩
theorem CrsT.r {K : PySem.W.Frag} {H : Hp} {a : Addr} {fs ts : List Nat} (h : CrsT K H a fs ts) : CrsR K H a fs ts := by
  obtain ⟨p1, p2, h1, h2, h3⟩ := h
  exact ⟨p1, p2, .inr h1, .inr h2, .inr h3⟩
theorem CrsT.wo {K : PySem.W.Frag} {H : Hp} {a p : Addr} {fs ts : List Nat} (h : CrsT K H a fs ts) (hs : Src H p) : CrsT K (NF.wo H p) a fs ts := by
  obtain ⟨p1, p2, h1, h2, h3⟩ := h
  obtain ⟨_, _, _, e⟩ := hs
  exact ⟨p1, p2, SqT.wo h1 e trivial, SqT.wo h2 e trivial, SqT.wo h3 e trivial⟩
def spLAhead (K : PySem.W.Frag) : Sp := fun vs H Q _ => ∃ (a : Addr) (i : Nat) (ds : List Deed), vs = [.ref a, .int (i : Int)] ∧ SqL K H a (ds.map dV) ∧ ds.length ≤ 20000 ∧
  ∀ (p q : Addr) (H' : Hp), Same H H' → SqT K H' p [.ref q, .int (took i ds : Int)] → H' q = some (.lst (vI (ahead i ds 0))) → Q (.ref p) H'
def spLOn (K : PySem.W.Frag) : Sp := fun vs H Q _ => ∃ (q a : Addr) (n i : Nat) (b : List Deed) (ws : List (List Deed)) (fs ts : List Nat), vs = [.ref q, .int (i : Int), .ref a] ∧ MkrT K H q n b ws ∧ Drawn n b ws ∧ CrsT K H a fs ts ∧ CrsOk ws.length fs ts ∧
  ∀ p z H', IsPlain (needT i (b ++ deedsOf ws fs) (deedsOf ws ts)).1 (needT i (b ++ deedsOf ws fs) (deedsOf ws ts)).2.1 (needT i (b ++ deedsOf ws fs) (deedsOf ws ts)).2.2 z → Same H H' → FormAt K H' p z → Q (.ref p) H'
theorem sc__law_ahead : FnScope ["_law_deeds_here", "_law_inlet", "_law_told", "_law_taken", "_law_deed"] ["_law_deeds_here", "_law_inlet"] (defScope s__law_ahead) := ⟨rfl, rfl, rfl, by decide +kernel, rfl, by decide +kernel, by decide +kernel⟩
theorem sc__law_on : FnScope ["_law_maker_here", "_law_inlet", "_law_course_here", "_law_deeds_here", "_law_number", "_law_again", "_law_head", "_law_taken", "_law_loop", "_law_rise", "_law_more"] ["_law_maker_here", "_law_inlet", "_law_course_here"] (defScope s__law_on) := ⟨rfl, rfl, rfl, by decide +kernel, rfl, by decide +kernel, by decide +kernel⟩
section
variable {P : Program} {w : World} {K : PySem.W.Frag} {mg : Str → Option Value} {base : Heap} {gs fs : List Str} {C : Addr}
theorem ok__law_ahead {f : Addr} {fd : FuncData} (F : FunD K "_law_ahead" "_law_ahead" (defArgs s__law_ahead) (defBody s__law_ahead) (defScope s__law_ahead) [] [] f fd) (T : Txt K mg gs FS) : FnOk P w K mg base CX0 1 f fd ["_law_deeds_here", "_law_inlet"] (spLAhead K) := by
  refine F.ok sc__law_ahead (fun vs H Q E h => ?_) (fun cdv A outer s H vs Q E hr h => ?_)
  · obtain ⟨a, i, ds, rfl, _⟩ := h
    rfl
  · obtain ⟨a, i, ds, rfl, ha, hl, q⟩ := h
    refine ⟨_, PSs.nox (pss_cons (ps_set (i := 2) sc__law_ahead.nd rfl (Or.inl rfl) (pe_lst pa_nil)) (pss_cons (ps_set (i := 3) sc__law_ahead.nd rfl (Or.inl rfl) pe_int) (pss_cons (ps_for PassesOwn.never rfl (pi_list (pv 0)) (pg_name (i := 4) sc__law_ahead.nd rfl (Or.inl rfl)) (pss_one (ps_if (pt_cmpR op_eq (pv 4) pe_str (nomark _)) (pss_one (ps_expr (pe_bm PySem.F.plainAttrs_list PySem.F.slot_list_append PySem.F.type_list_append mt_append (pv 2) (pa_cons (pv 3) pa_nil)))) (pss_one (ps_if (pt_cmpR op_eq (pv 4) (pv 1) (nomark _)) (pss_one (ps_set (i := 3) sc__law_ahead.nd rfl (Or.inl rfl) (pe_op op_add (pv 3) pe_int))) pss_nil))))) (pss_one (ps_ret (pe_tup (pa_cons (pv 2) (pa_cons (pv 3) pa_nil)))))))), ?_⟩
    refine ⟨(by show 0 ≤ sizeLine; decide), fun D hD => ?_⟩
    have s1 := NF.Same.new (o := .lst []) (Same.refl H) hD
    have hD1 := upd_same (H := H) (a := D) (o := .lst [])
    generalize upd H D (.lst []) = H1 at s1 hD1
    refine ⟨_, rfl, a, rfl, ⟨_, L2.Same.seq s1 ha⟩, ?_⟩
    refine for_list (xs := ds.map dV) (fun j σ G => Same H G ∧ G D = some (.lst (vI (ahead i (ds.take j) 0))) ∧ ∃ v : Option V, σ = [some (.ref a), some (.int (i : Int)), some (.ref D), some (.int (took i (ds.take j) : Int)), v]) ⟨s1, hD1, none, rfl⟩ (fun j σ G _ z => L2.Same.seq z.1 ha) ?_ ?_
    · rintro j v σ G hv ⟨sG, hG, v5, rfl⟩
      have hj := (List.getElem?_eq_some_iff.mp hv).1
      rw [List.length_map] at hj
      obtain rfl : dV (ds[j]) = v := by
        rw [List.getElem?_map, List.getElem?_eq_getElem hj] at hv
        exact Option.some.inj hv
      have et : ds.take (j + 1) = ds.take j ++ [ds[j]] := by rw [List.take_add_one, List.getElem?_eq_getElem hj]; rfl
      have al := ahead_len (i := i) (a := ds.take j) (t := 0)
      rw [List.length_take] at al
      refine ⟨_, rfl, dV_scal, _, rfl, ?_⟩
      rw [dV_give]
      generalize ds[j] = d at et
      cases d with
      | none =>
        refine iteT ?_
        refine ⟨_, rfl, .inl ⟨rfl, _, SqL.of hG⟩, _, rfl, D, _, _, rfl, rfl, hG, by rw [vI_len]; exact Nat.lt_of_le_of_lt (show (ahead i (ds.take j) 0).length ≤ 20000 by omega) (by decide), ?_⟩
        refine ⟨NF.Same.mut sG hD, ?_, some (dV none), ?_⟩
        · rw [upd_same, et, ahead_snoc, ← vI_app]
          rfl
        · rw [et, took_snoc]
          rfl
      | some k =>
        refine iteF ?_
        refine ⟨_, rfl, _, rfl, dV_scalI, _, rfl, ?_⟩
        rw [dV_int]
        refine ite2 (fun h => ?_) (fun h => ?_)
        · have h := of_decide_eq_true h
          refine ⟨_, rfl, _, _, rfl, rfl, sG, ?_, some (dV (some k)), ?_⟩
          · rw [et, ahead_snoc]
            exact hG
          · rw [et, took_snoc]
            show _ = [_, _, _, some (V.int ((if k = i then took i (ds.take j) + 1 else took i (ds.take j) : Nat) : Int)), _]
            rw [if_pos h]
            rfl
        · have h : ¬ k = i := fun z => h (decide_eq_true z)
          refine ⟨sG, ?_, some (dV (some k)), ?_⟩
          · rw [et, ahead_snoc]
            exact hG
          · rw [et, took_snoc]
            show _ = [_, _, _, some (V.int ((if k = i then took i (ds.take j) + 1 else took i (ds.take j) : Nat) : Int)), _]
            rw [if_neg h]
            rfl
    · rintro σ G ⟨sG, hG, v5, rfl⟩
      rw [List.length_map, List.take_length] at hG ⊢
      refine ⟨_, rfl, _, rfl, (by show 2 ≤ sizeLine; decide), fun p hp => ?_⟩
      have s2 := NF.Same.new (o := .tup [V.ref D, V.int (took i ds : Int)]) (Same.refl G) hp
      exact q p D _ (Same.trans sG s2) (SqT.of upd_same) (s2 _ _ hG)
theorem ok__law_on {f : Addr} {fd : FuncData} (F : FunD K "_law_on" "_law_on" (defArgs s__law_on) (defBody s__law_on) (defScope s__law_on) [] [] f fd) (T : Txt K mg gs FS) (c__law_ahead : Cal P w K mg base 1 "_law_ahead" (spLAhead K)) (c__law_plain : Cal P w K mg base 1 "_law_plain" (spPlainL K)) : FnOk P w K mg base CX0 2 f fd ["_law_maker_here", "_law_inlet", "_law_course_here"] (spLOn K) := by
  refine F.ok sc__law_on (fun vs H Q E h => ?_) (fun cdv A outer s H vs Q E hr h => ?_)
  · obtain ⟨q, a, n, i, b, ws, fs, ts, rfl, _⟩ := h
    rfl
  · obtain ⟨q, a, n, i, b, ws, fs, ts, rfl, ⟨pb, pw, hq, hb, as, hw, hl, hws⟩, dr, ⟨p1, p2, ha, hp1, hp2⟩, ok, k⟩ := h
    have m4 := dr.m4
    have bl := dr.bl
    have okfl := ok.fl
    have oktl := ok.tl
    have w4 : ∀ v ∈ ws, v.length ≤ 4 := fun v hv => (dr.wy v hv).2.1
    have lk : ∀ ks : List Nat, ks.length ≤ 200 → (deedsOf ws ks).length ≤ 800 := fun ks h => Nat.le_trans (deeds_len (ks := ks) w4) (Nat.mul_le_mul_right 4 h)
    refine ⟨_, PSs.nox (pss_cons (ps_set (i := 3) sc__law_on.nd rfl (Or.inl rfl) (pe_callTy call_list_of rfl (T.fr _ (by decide +kernel)) (by decide +kernel) (pa_cons (pe_ix (ixt (K := K)) (pv 0) pe_int fun _ _ => rfl) pa_nil))) (pss_cons (ps_for PassesOwn.never rfl (pi_tup (pe_ix (ixt (K := K)) (pv 2) pe_int fun _ _ => rfl)) (pg_name (i := 4) sc__law_on.nd rfl (Or.inl rfl)) (pss_one (ps_set (i := 3) sc__law_on.nd rfl (Or.inl rfl) (pe_op op_cat (pv 3) (pe_callTy call_list_of rfl (T.fr _ (by decide +kernel)) (by decide +kernel) (pa_cons (pe_ix (ixt (K := K)) (pe_ix (ixt (K := K)) (pv 0) pe_int fun _ _ => rfl) (pv 4) fun _ _ => rfl) pa_nil)))))) (pss_cons (ps_asg (pe_c c__law_ahead hr (by decide) rfl (pa_cons (pv 3) (pa_cons (pv 1) pa_nil))) (pgt (K := K) (n := 2) rfl rfl (pgs_cons (pg_name (i := 6) sc__law_on.nd rfl (Or.inl rfl)) (pgs_cons (pg_name (i := 7) sc__law_on.nd rfl (Or.inr rfl)) pgs_nil)))) (pss_cons (ps_set (i := 5) sc__law_on.nd rfl (Or.inl rfl) (pe_lst pa_nil)) (pss_cons (ps_for PassesOwn.never rfl (pi_tup (pe_ix (ixt (K := K)) (pv 2) pe_int fun _ _ => rfl)) (pg_name (i := 4) sc__law_on.nd rfl (Or.inl rfl)) (pss_one (ps_set (i := 5) sc__law_on.nd rfl (Or.inl rfl) (pe_op op_cat (pv 5) (pe_callTy call_list_of rfl (T.fr _ (by decide +kernel)) (by decide +kernel) (pa_cons (pe_ix (ixt (K := K)) (pe_ix (ixt (K := K)) (pv 0) pe_int fun _ _ => rfl) (pv 4) fun _ _ => rfl) pa_nil)))))) (pss_cons (ps_asg (pe_c c__law_ahead hr (by decide) rfl (pa_cons (pv 5) (pa_cons (pv 1) pa_nil))) (pgt (K := K) (n := 2) rfl rfl (pgs_cons (pg_name (i := 8) sc__law_on.nd rfl (Or.inl rfl)) (pgs_cons (pg_name (i := 9) sc__law_on.nd rfl (Or.inl rfl)) pgs_nil)))) (pss_one (ps_ret (pe_c c__law_plain hr (by decide) rfl (pa_cons (pv 6) (pa_cons (pe_lc (own := [("_law_more", 10)]) rfl sc__law_on.nd (pi_list (pv 8)) (blkOk_by (N := ["_law_maker_here", "_law_inlet", "_law_course_here", "_law_deeds_here", "_law_number", "_law_again", "_law_head", "_law_taken", "_law_loop", "_law_rise", "_law_more"]) (sc := defScope s__law_on) (by decide +kernel)) (fun _ _ _ _ _ => by exact (pg_name (i := 10) sc__law_on.nd rfl (Or.inl rfl))) (fun _ _ _ _ _ => by exact pts_nil) (fun _ _ _ _ _ => by exact (pe_op op_add (pv 7) (pv 10)))) (pa_cons (pe_ifExp (pt_cmpR op_gt (pe_callB call_len_seq rfl (T.fr _ (by decide +kernel)) boot_len (pa_cons (pv 8) pa_nil)) pe_int (nomark _)) (pv 9) pe_int) pa_nil)))))))))))), ?_⟩
    refine ⟨_, rfl, q, _, _, _, rfl, rfl, hq, at1, pb, _, rfl, .inr hb, fun D hD => ?_⟩
    have s1 := NF.Same.new (o := .lst (b.map dV)) (Same.refl H) hD
    have hD1 := upd_same (H := H) (a := D) (o := .lst (b.map dV))
    generalize upd H D (.lst (b.map dV)) = H1 at s1 hD1
    -- one more way
    have more : ∀ (G : Hp) (X : Addr) (ks : List Nat) (j : Nat) (hj : j < ks.length) (d0 : List Deed) (R : VK), Same H G → (∀ x ∈ ks, x < ws.length) → ks.length ≤ 200 → d0.length ≤ 4 → G X = some (.lst ((d0 ++ deedsOf ws (ks.take j)).map dV)) → (∀ Y G', Same H G' → G' Y = some (.lst ((d0 ++ deedsOf ws (ks.take (j + 1))).map dV)) → R (.ref Y) G') →
        ∀ a2, as[ks[j]]? = some a2 → ∀ l, G l = none → rCat (.ref X) (.ref l) (upd G l (.lst ((ws.getD ks[j] []).map dV))) R := fun G X ks j hj d0 R sG okk k200 d4 hX done a2 e2 l hl0 => by
      have km := okk ks[j] (List.getElem_mem hj)
      have e : deedsOf ws (ks.take (j + 1)) = deedsOf ws (ks.take j) ++ ws.getD ks[j] [] := by
        rw [List.take_add_one, List.getElem?_eq_getElem hj, deedsOf_app]
        unfold deedsOf
        simp
      have l1 := lk (ks.take j) (by rw [List.length_take]; omega)
      have l2 : (ws.getD ks[j] []).length ≤ 4 := by
        rw [List.getD_eq_getElem?_getD, List.getElem?_eq_getElem km]
        exact w4 _ (List.getElem_mem km)
      have hX' := (upd_ne (o := .lst ((ws.getD ks[j] []).map dV)) (ne_of_none hX hl0)).trans hX
      refine ⟨X, l, _, _, rfl, rfl, hX', upd_same, ?_, fun Y hY => ?_⟩
      · rw [List.length_map, List.length_map, List.length_append]
        exact Nat.le_trans (show d0.length + (deedsOf ws (ks.take j)).length + (ws.getD ks[j] []).length ≤ 10000 by omega) (by decide)
      · refine done Y _ (NF.Same.new (NF.Same.new sG hl0) hY) ?_
        rw [upd_same, e, ← List.map_append, List.append_assoc]
    have wayAt : ∀ (G : Hp) (ks : List Nat) (j : Nat) (hj : j < ks.length), Same H G → (∀ x ∈ ks, x < ws.length) → ∃ a2, as[ks[j]]? = some a2 ∧ atI (as.map V.ref) ((ks[j] : Nat) : Int) = some (.ref a2) ∧ SqT K G a2 ((ws.getD ks[j] []).map dV) := fun G ks j hj sG okk => by
      have km := okk ks[j] (List.getElem_mem hj)
      have ka : ks[j] < as.length := by omega
      refine ⟨as[ks[j]], List.getElem?_eq_getElem ka, atI_nat (by rw [List.getElem?_map, List.getElem?_eq_getElem ka]; rfl), ?_⟩
      rw [List.getD_eq_getElem?_getD, List.getElem?_eq_getElem km]
      exact NF.Same.tup sG (hws _ _ _ (List.getElem?_eq_getElem ka) (List.getElem?_eq_getElem km))
    refine ⟨_, rfl, a, _, _, _, rfl, rfl, NF.Same.tup s1 ha, (show atI [V.ref p1, V.ref p2] 0 = some (V.ref p1) from rfl), p1, rfl, ⟨_, NF.Same.tup s1 hp1⟩, ?_⟩
    refine for_tup (xs := vNs fs) (fun j σ G => Same H G ∧ ∃ (X : Addr) (v4 : Option V), G X = some (.lst ((b ++ deedsOf ws (fs.take j)).map dV)) ∧ σ = [some (.ref q), some (.int (i : Int)), some (.ref a), some (.ref X), v4, none, none, none, none, none, none]) ⟨s1, D, none, by rw [hD1]; simp [deedsOf], rfl⟩ (fun j σ G _ z => NF.Same.tup z.1 hp1) ?_ ?_
    · rintro j v σ G hv ⟨sG, X, v4, hX, rfl⟩
      have hj := (List.getElem?_eq_some_iff.mp hv).1
      rw [show (vNs fs).length = fs.length from List.length_map ..] at hj
      rw [at_nat hj] at hv
      obtain rfl := Option.some.inj hv
      obtain ⟨a2, e2, ea, t2⟩ := wayAt G fs j hj sG ok.f
      refine ⟨_, rfl, _, rfl, q, _, _, _, rfl, rfl, NF.Same.tup sG hq, at2, _, rfl, pw, _, _, _, rfl, rfl, NF.Same.tup sG hw, ea, a2, _, rfl, .inr t2, fun l hl0 => ?_⟩
      exact more G X fs j hj b _ sG ok.f okfl bl hX (fun Y G' s' hY => ⟨s', Y, _, hY, rfl⟩) a2 e2 l hl0
    · rintro σ G ⟨sG, X', v4, hX, rfl⟩
      rw [show (vNs fs).length = fs.length from List.length_map .., List.take_length] at hX
      have lf := lk fs okfl
      have lt := lk ts (by omega)
      refine ⟨_, rfl, _, rfl, X', i, b ++ deedsOf ws fs, rfl, SqL.of hX, by rw [List.length_append]; omega, fun p3 q3 G3 s3 t3 h3 => ?_⟩
      have s03 := Same.trans sG s3
      refine ⟨p3, _, rfl, t3, rfl, _, _, rfl, ?_⟩
      refine ⟨_, _, rfl, ?_⟩
      refine ⟨rfl, ?_⟩
      -- again
      refine ⟨(by show 0 ≤ sizeLine; decide), fun B hB => ?_⟩
      have s4 := NF.Same.new (o := .lst []) (Same.refl G3) hB
      have hB4 := upd_same (H := G3) (a := B) (o := .lst [])
      have h34 := s4 _ _ h3
      have s04 := Same.trans s03 s4
      generalize upd G3 B (.lst []) = G4 at s4 hB4 h34 s04
      refine ⟨_, rfl, a, _, _, _, rfl, rfl, NF.Same.tup s04 ha, (show atI [V.ref p1, V.ref p2] 1 = some (V.ref p2) from rfl), p2, rfl, ⟨_, NF.Same.tup s04 hp2⟩, ?_⟩
      refine for_tup (xs := vNs ts) (fun j σ G => Same G4 G ∧ ∃ (X : Addr) (v4 : Option V), G X = some (.lst (([] ++ deedsOf ws (ts.take j)).map dV)) ∧ σ = [some (.ref q), some (.int (i : Int)), some (.ref a), some (.ref X'), v4, some (.ref X), some (.ref q3), some (.int (took i (b ++ deedsOf ws fs) : Int)), none, none, none]) ⟨Same.refl _, B, v4, by rw [hB4]; simp [deedsOf], rfl⟩ (fun j σ G _ z => NF.Same.tup (Same.trans s04 z.1) hp2) ?_ ?_
      · rintro j v σ G5 hv ⟨s5, Y, v5, hY, rfl⟩
        have hj := (List.getElem?_eq_some_iff.mp hv).1
        rw [show (vNs ts).length = ts.length from List.length_map ..] at hj
        rw [at_nat hj] at hv
        obtain rfl := Option.some.inj hv
        have s05 := Same.trans s04 s5
        obtain ⟨a2, e2, ea, t2⟩ := wayAt G5 ts j hj s05 ok.t
        refine ⟨_, rfl, _, rfl, q, _, _, _, rfl, rfl, NF.Same.tup s05 hq, at2, _, rfl, pw, _, _, _, rfl, rfl, NF.Same.tup s05 hw, ea, a2, _, rfl, .inr t2, fun l hl0 => ?_⟩
        have hY' := (upd_ne (o := .lst ((ws.getD ts[j] []).map dV)) (ne_of_none hY hl0)).trans hY
        have km := ok.t ts[j] (List.getElem_mem hj)
        have e : deedsOf ws (ts.take (j + 1)) = deedsOf ws (ts.take j) ++ ws.getD ts[j] [] := by
          rw [List.take_add_one, List.getElem?_eq_getElem hj, deedsOf_app]
          unfold deedsOf
          simp
        have l1 := lk (ts.take j) (by rw [List.length_take]; omega)
        have l2 : (ws.getD ts[j] []).length ≤ 4 := by
          rw [List.getD_eq_getElem?_getD, List.getElem?_eq_getElem km]
          exact w4 _ (List.getElem_mem km)
        refine ⟨Y, l, _, _, rfl, rfl, hY', upd_same, ?_, fun Z hZ => ?_⟩
        · rw [List.length_map, List.length_map, List.nil_append]
          exact Nat.le_trans (show (deedsOf ws (ts.take j)).length + (ws.getD ts[j] []).length ≤ 10000 by omega) (by decide)
        · refine ⟨NF.Same.new (NF.Same.new s5 hl0) hZ, Z, _, ?_, rfl⟩
          rw [upd_same, e, ← List.map_append, List.append_assoc]
      · rintro σ G5 ⟨s5, Y, v5, hY, rfl⟩
        rw [show (vNs ts).length = ts.length from List.length_map .., List.take_length, List.nil_append] at hY
        have h35 := s5 _ _ h34
        refine ⟨_, rfl, _, rfl, Y, i, deedsOf ws ts, rfl, SqL.of hY, by omega, fun p6 q6 G6 s6 t6 h6 => ?_⟩
        refine ⟨p6, _, rfl, t6, rfl, _, _, rfl, ?_⟩
        refine ⟨_, _, rfl, ?_⟩
        refine ⟨rfl, ?_⟩
        have h36 := s6 _ _ h35
        have s06 := Same.trans s04 (Same.trans s5 s6)
        -- the loop from what is taken on
        refine ⟨_, rfl, _, rfl, q6, rfl, ⟨_, SqL.of h6⟩, fun Z hZ => ?_⟩
        obtain ⟨t, ht⟩ : ∃ t : Int, t = (took i (b ++ deedsOf ws fs) : Int) := ⟨_, rfl⟩
        rw [← ht]
        refine lc_list (xs := vI (ahead i (deedsOf ws ts) 0)) (fun j G => Same G6 G ∧ G Z = some (.lst (vI (((ahead i (deedsOf ws ts) 0).take j).map (t + ·))))) ⟨NF.Same.new (Same.refl G6) hZ, upd_same⟩ (fun j G _ z => SqL.of (z.1 _ _ h6)) ?_ ?_
        · rintro j v G hv ⟨sG, hG⟩
          have hj := (List.getElem?_eq_some_iff.mp hv).1
          rw [vI_len] at hj
          obtain rfl : V.int ((ahead i (deedsOf ws ts) 0)[j]) = v := by
            unfold vI at hv
            rw [List.getElem?_map, List.getElem?_eq_getElem hj] at hv
            exact Option.some.inj hv
          have al := ahead_len (i := i) (a := deedsOf ws ts) (t := 0)
          refine ⟨rfl, _, rfl, _, rfl, _, _, rfl, rfl, ?_⟩
          refine ⟨_, hG, by rw [vI_len, List.length_map, List.length_take]; exact Nat.lt_of_le_of_lt (show min j (ahead i (deedsOf ws ts) 0).length ≤ 10000 by omega) (by decide), NF.Same.mut sG hZ, ?_⟩
          rw [upd_same, List.take_add_one, List.getElem?_eq_getElem hj, List.map_append, ← vI_app]
          rfl
        · rintro G7 ⟨s7, hZ7⟩
          rw [vI_len, List.take_length, ← ahead_off] at hZ7
          have h37 := s7 _ _ h36
          have h67 := s7 _ _ h6
          have n1 := ahead_len (i := i) (a := b ++ deedsOf ws fs) (t := 0)
          have n2 := ahead_len (i := i) (a := deedsOf ws ts) (t := t)
          rw [List.length_append] at n1
          have fin : ∀ r : Int, r = (needT i (b ++ deedsOf ws fs) (deedsOf ws ts)).2.2 → spPlainL K [.ref q3, .ref Z, .int r] G7 (fun v G' => Q v G') E0 := fun r er => by
            subst er
            refine ⟨q3, Z, _, ahead i (deedsOf ws ts) (took i (b ++ deedsOf ws fs) : Int), _, rfl, SqL.of h37, ?_, by omega, by rw [← ht]; omega, fun p z H' hz s fo => k p z H' hz (Same.trans s06 (Same.trans s7 s)) fo⟩
            rw [← ht]
            exact SqL.of hZ7
          refine ⟨_, rfl, q6, _, rfl, .inl (SqL.of h67), _, _, rfl, rfl, _, rfl, ?_⟩
          have el : (ahead i (deedsOf ws ts) (took i (b ++ deedsOf ws fs) : Int)).length = (ahead i (deedsOf ws ts) 0).length := by rw [ahead_off, List.length_map]
          rw [vI_len]
          refine ite2 (fun c => ?_) (fun c => ?_)
          · have c := of_decide_eq_true c
            refine ⟨_, rfl, fin _ ?_⟩
            show _ = if _ then _ else _
            rw [if_neg fun z => by rw [z] at el; simp at el; omega]
          · have c : ¬ (0 : Int) < ((ahead i (deedsOf ws ts) 0).length : Int) := fun z => c (decide_eq_true z)
            refine fin 0 ?_
            show _ = if _ then _ else _
            rw [if_pos (List.eq_nil_of_length_eq_zero (by omega))]
end
end K24
set_option Elab.async false
set_option linter.all false
set_option maxRecDepth 100000
set_option maxHeartbeats 4000000
namespace K24
open PySem PySem.Spec PyProof.Rows L2 He NF RZ NT
def spLCourse (K : PySem.W.Frag) : Sp := fun vs H Q _ => ∃ (H0 : Hp) (p q : Addr) (n R : Nat) (b : List Deed) (ws : List (List Deed)), vs = [.ref p, .ref q, .int (R : Int)] ∧ Same H0 H ∧ H0 p = none ∧ Src H p ∧ MkrT K H0 q n b ws ∧ 1 ≤ ws.length ∧ ws.length ≤ 4 ∧ R ≤ 200 ∧
  ∀ (a : Addr) (fs ts : List Nat) (H' : Hp), Same H0 H' → Src H' p → CrsT K H' a fs ts → CrsOk ws.length fs ts → ts.length ≤ 2 → Q (.ref a) H'
def spLWalked (K : PySem.W.Frag) : Sp := fun vs H Q _ => ∃ (q a : Addr) (n i : Nat) (b : List Deed) (ws : List (List Deed)) (fs ts : List Nat), vs = [.ref q, .int (i : Int), .ref a, .int 30] ∧ MkrT K H q n b ws ∧ Drawn n b ws ∧ CrsT K H a fs ts ∧ CrsOk ws.length fs ts ∧ ts.length ≤ 2 ∧
  ∀ (p : Addr) (H' : Hp), Same H H' → H' p = some (.lst ((List.range 30).map fun k => vO ((ahead i (b ++ deedsOf ws fs ++ rep (deedsOf ws ts) (30 + ts.length)) 0)[k]?))) → Q (.ref p) H'
theorem sc__law_course : FnScope ["_law_source_here", "_law_maker_here", "_law_rounds", "_law_many", "_law_first", "_law_then", "_law_k"] ["_law_source_here", "_law_maker_here", "_law_rounds"] (defScope s__law_course) := ⟨rfl, rfl, rfl, by decide +kernel, rfl, by decide +kernel, by decide +kernel⟩
theorem sc__law_walked : FnScope ["_law_maker_here", "_law_inlet", "_law_course_here", "_law_gives", "_law_told", "_law_taken", "_law_deed", "_law_rounds", "_law_turn", "_law_number"] ["_law_maker_here", "_law_inlet", "_law_course_here", "_law_gives"] (defScope s__law_walked) := ⟨rfl, rfl, rfl, by decide +kernel, rfl, by decide +kernel, by decide +kernel⟩
theorem vNs_snoc {ks : List Nat} {e : Nat} : vNs (ks ++ [e]) = vNs ks ++ [V.int (e : Int)] := by
  unfold vNs
  rw [List.map_append]
  rfl
theorem rep_len {ts : List Nat} : ∀ {j : Nat}, (List.replicate j ts).flatten.length = j * ts.length
  | 0 => by simp
  | j + 1 => by
    rw [List.replicate_succ, List.flatten_cons, List.length_append, rep_len, Nat.succ_mul]
    omega
theorem rep_mem {ts : List Nat} {j x : Nat} (h : x ∈ (List.replicate j ts).flatten) : x ∈ ts := by
  obtain ⟨l, hl, hx⟩ := List.mem_flatten.mp h
  rw [List.eq_of_mem_replicate hl] at hx
  exact hx
theorem first_thirty {ms : List Int} : (vI ms ++ (List.replicate 30 [V.non]).flatten).take 30 = (List.range 30).map fun k => vO (ms[k]?) := by
  apply List.ext_getElem?
  intro k
  rw [List.getElem?_take, List.getElem?_map]
  by_cases h : k < 30
  · rw [if_pos h, List.getElem?_range h]
    show _ = some (vO (ms[k]?))
    have e : (List.replicate 30 [V.non]).flatten = List.replicate 30 V.non := by decide
    rw [e]
    by_cases c : k < ms.length
    · rw [List.getElem?_append_left (by rw [vI_len]; exact c), List.getElem?_eq_getElem c]
      unfold vI
      rw [List.getElem?_map, List.getElem?_eq_getElem c]
      rfl
    · rw [List.getElem?_append_right (by rw [vI_len]; omega), show ms[k]? = none from List.getElem?_eq_none (by omega), List.getElem?_replicate, if_pos (by rw [vI_len]; omega)]
      rfl
  · rw [if_neg h, List.getElem?_eq_none (by simp; omega)]
    rfl
theorem vNs_len {ks : List Nat} : (vNs ks).length = ks.length := List.length_map ..
section
variable {P : Program} {w : World} {K : PySem.W.Frag} {mg : Str → Option Value} {base : Heap} {gs fs : List Str} {C : Addr}
theorem ok__law_course {f : Addr} {fd : FuncData} (F : FunD K "_law_course" "_law_course" (defArgs s__law_course) (defBody s__law_course) (defScope s__law_course) [] [] f fd) (T : Txt K mg gs FS) (c__law_pick : Cal P w K mg base 1 "_law_pick" spPick) : FnOk P w K mg base CX0 2 f fd ["_law_source_here", "_law_maker_here", "_law_rounds"] (spLCourse K) := by
  refine F.ok sc__law_course (fun vs H Q E h => ?_) (fun cdv A outer s H vs Q E hr h => ?_)
  · obtain ⟨H0, p, q, n, R, b, ws, rfl, _⟩ := h
    rfl
  · obtain ⟨H0, p, q, n, R, b, ws, rfl, s0, n0, hs, mk, m1, m4, hR, k⟩ := h
    obtain ⟨pb, pw, hq, hb, as, hw, hl, hws⟩ := mk.mono s0
    refine ⟨_, PSs.nox (pss_cons (ps_set (i := 3) sc__law_course.nd rfl (Or.inr rfl) (pe_callB call_len_seq rfl (T.fr _ (by decide +kernel)) boot_len (pa_cons (pe_ix (ixt (K := K)) (pv 1) pe_int fun _ _ => rfl) pa_nil))) (pss_cons (ps_setLc (i := 4) (own := [("_law_k", 6)]) rfl sc__law_course.nd rfl rfl (sw_true rfl rfl rfl (by decide +kernel)) (pi_range1 rfl (T.fr _ (by decide +kernel)) (pa_cons (pe_c c__law_pick hr (by decide) rfl (pa_cons (pv 0) (pa_cons (pe_op op_add (pv 2) pe_int) pa_nil))) pa_nil)) (blkOk_by (N := ["_law_source_here", "_law_maker_here", "_law_rounds", "_law_many", "_law_first", "_law_then", "_law_k"]) (sc := defScope s__law_course) (by decide +kernel)) (fun _ _ _ _ _ => by exact (pg_name (i := 6) sc__law_course.nd rfl (Or.inl rfl))) (fun _ _ _ _ _ => by exact pts_nil) (fun _ _ _ _ _ => by exact (pe_c c__law_pick hr (by decide) rfl (pa_cons (pv 0) (pa_cons (pv 3) pa_nil))))) (pss_cons (ps_setLc (i := 5) (own := [("_law_k", 6)]) rfl sc__law_course.nd rfl rfl (sw_true rfl rfl rfl (by decide +kernel)) (pi_range1 rfl (T.fr _ (by decide +kernel)) (pa_cons (pe_op op_add pe_int (pe_c c__law_pick hr (by decide) rfl (pa_cons (pv 0) (pa_cons pe_int pa_nil)))) pa_nil)) (blkOk_by (N := ["_law_source_here", "_law_maker_here", "_law_rounds", "_law_many", "_law_first", "_law_then", "_law_k"]) (sc := defScope s__law_course) (by decide +kernel)) (fun _ _ _ _ _ => by exact (pg_name (i := 6) sc__law_course.nd rfl (Or.inl rfl))) (fun _ _ _ _ _ => by exact pts_nil) (fun _ _ _ _ _ => by exact (pe_c c__law_pick hr (by decide) rfl (pa_cons (pv 0) (pa_cons (pv 3) pa_nil))))) (pss_one (ps_ret (pe_tup (pa_cons (pe_callTy cr_tup rfl (T.fr _ (by decide +kernel)) (by decide +kernel) (pa_cons (pv 4) pa_nil)) (pa_cons (pe_callTy cr_tup rfl (T.fr _ (by decide +kernel)) (by decide +kernel) (pa_cons (pv 5) pa_nil)) pa_nil)))))))), ?_⟩
    refine ⟨_, rfl, q, _, _, _, rfl, rfl, hq, at2, pw, _, rfl, .inr hw, ?_⟩
    rw [List.length_map, hl]
    refine ⟨_, rfl, _, rfl, _, _, rfl, rfl, wo H p, p, (R : Int) + 1, rfl, wo_same', wo_none, hs, by omega, by omega, fun d G1 d0 d1 s1 hs1 => ?_⟩
    have s01 := wo_same s0 n0 s1
    refine ⟨d, rfl, by omega, by omega, fun D hD => ?_⟩
    have hDp : D ≠ p := src_ne (o := .lst []) hs1 hD
    have h0D := same_none s01 hD
    refine lc_range (lo := 0) (n := d.toNat) (fun j G => Same H0 G ∧ Src G p ∧ ∃ ks : List Nat, ks.length = j ∧ (∀ x ∈ ks, x < ws.length) ∧ G D = some (.lst (vNs ks))) ⟨NF.Same.put s01 h0D, src_put hs1 hDp, [], rfl, (fun x h => absurd h (by simp)), upd_same⟩ ?_ ?_
    · rintro j G hj ⟨sG, hsG, ks, kl, kok, hG⟩
      refine ⟨rfl, _, rfl, _, rfl, wo G p, p, (ws.length : Int), rfl, wo_same', wo_none, hsG, by omega, by omega, fun e G2 e0 e1 s2 hs2 => ?_⟩
      have hG2 := s2 _ _ ((wo_ne hDp).trans hG)
      refine ⟨_, hG2, by rw [vNs_len, kl]; exact Nat.lt_of_lt_of_le (show j < 10000 by omega) (by decide), NF.Same.put (wo_same sG n0 s2) h0D, src_put hs2 hDp, ks ++ [e.toNat], by simp [kl], fun x h => ?_, ?_⟩
      · rcases List.mem_append.mp h with h | h
        · exact kok x h
        · rw [List.mem_singleton.mp h]; omega
      · rw [upd_same, vNs_snoc, Int.toNat_of_nonneg e0]
    · rintro G ⟨sG, hsG, ks, kl, kok, hG⟩
      refine ⟨_, rfl, wo G p, p, 2, rfl, wo_same', wo_none, hsG, by decide, by decide, fun d' G3 d0' d1' s3 hs3 => ?_⟩
      have s03 := wo_same sG n0 s3
      have hD3 := s3 _ _ ((wo_ne hDp).trans hG)
      refine ⟨_, _, rfl, rfl, 1 + d', rfl, by omega, by omega, fun B hB => ?_⟩
      have hBp : B ≠ p := src_ne (o := .lst []) hs3 hB
      have h0B := same_none s03 hB
      have hDB : D ≠ B := ne_of_none hD3 hB
      refine lc_range (lo := 0) (n := (1 + d').toNat) (fun j G => Same H0 G ∧ Src G p ∧ G D = some (.lst (vNs ks)) ∧ ∃ ls : List Nat, ls.length = j ∧ (∀ x ∈ ls, x < ws.length) ∧ G B = some (.lst (vNs ls))) ⟨NF.Same.put s03 h0B, src_put hs3 hBp, (upd_ne hDB).trans hD3, [], rfl, (fun x h => absurd h (by simp)), upd_same⟩ ?_ ?_
      · rintro j G hj ⟨sG, hsG, hG1, ls, ll, lok, hG⟩
        refine ⟨rfl, _, rfl, _, rfl, wo G p, p, (ws.length : Int), rfl, wo_same', wo_none, hsG, by omega, by omega, fun e G2 e0 e1 s2 hs2 => ?_⟩
        have hG2 := s2 _ _ ((wo_ne hBp).trans hG)
        have hG3 := s2 _ _ ((wo_ne hDp).trans hG1)
        refine ⟨_, hG2, by rw [vNs_len, ll]; exact Nat.lt_of_lt_of_le (show j < 10000 by omega) (by decide), NF.Same.put (wo_same sG n0 s2) h0B, src_put hs2 hBp, (upd_ne hDB).trans hG3, ls ++ [e.toNat], by simp [ll], fun x h => ?_, ?_⟩
        · rcases List.mem_append.mp h with h | h
          · exact lok x h
          · rw [List.mem_singleton.mp h]; omega
        · rw [upd_same, vNs_snoc, Int.toNat_of_nonneg e0]
      · rintro G ⟨sG, hsG, hG1, ls, ll, lok, hG⟩
        refine ⟨_, rfl, D, _, rfl, .inl (SqL.of hG1), fun p1 G4 s4 t1 => ?_⟩
        refine ⟨_, rfl, B, _, rfl, .inl (SqL.of (s4 _ _ hG)), fun p2 G5 s5 t2 => ?_⟩
        refine ⟨(by show 2 ≤ sizeLine; decide), fun p3 hp3 => ?_⟩
        have s6 := NF.Same.new (o := .tup [V.ref p1, V.ref p2]) (Same.refl G5) hp3
        have s46 := Same.trans s4 (Same.trans s5 s6)
        exact k p3 ks ls _ (Same.trans sG s46) (Src.mono hsG s46) ⟨p1, p2, SqT.of upd_same, NF.Same.tup (Same.trans s5 s6) t1, NF.Same.tup s6 t2⟩ ⟨kok, lok, by omega, by omega, by omega⟩ (by omega)
theorem ok__law_walked {f : Addr} {fd : FuncData} (F : FunD K "_law_walked" "_law_walked" (defArgs s__law_walked) (defBody s__law_walked) (defScope s__law_walked) [] [] f fd) (T : Txt K mg gs FS) : FnOk P w K mg base CX0 1 f fd ["_law_maker_here", "_law_inlet", "_law_course_here", "_law_gives"] (spLWalked K) := by
  refine F.ok sc__law_walked (fun vs H Q E h => ?_) (fun cdv A outer s H vs Q E hr h => ?_)
  · obtain ⟨q, a, n, i, b, ws, fs, ts, rfl, _⟩ := h
    rfl
  · obtain ⟨q, a, n, i, b, ws, fs, ts, rfl, ⟨pb, pw, hq, hb, as, hw, hl, hws⟩, dr, ⟨p1, p2, ha, hp1, hp2⟩, ok, t2, k⟩ := h
    have bl := dr.bl
    have okfl := ok.fl
    have w4 : ∀ v ∈ ws, v.length ≤ 4 := fun v hv => (dr.wy v hv).2.1
    refine ⟨_, PSs.nox (pss_cons (ps_set (i := 4) sc__law_walked.nd rfl (Or.inl rfl) (pe_lst pa_nil)) (pss_cons (ps_set (i := 5) sc__law_walked.nd rfl (Or.inl rfl) pe_int) (pss_cons (ps_for PassesOwn.never rfl (pi_tup (pe_ix (ixt (K := K)) (pv 0) pe_int fun _ _ => rfl)) (pg_name (i := 6) sc__law_walked.nd rfl (Or.inl rfl)) (pss_one (ps_if (pt_cmpR op_eq (pv 6) pe_str (nomark _)) (pss_one (ps_expr (pe_bm PySem.F.plainAttrs_list PySem.F.slot_list_append PySem.F.type_list_append mt_append (pv 4) (pa_cons (pv 5) pa_nil)))) (pss_one (ps_if (pt_cmpR op_eq (pv 6) (pv 1) (nomark _)) (pss_one (ps_set (i := 5) sc__law_walked.nd rfl (Or.inl rfl) (pe_op op_add (pv 5) pe_int))) pss_nil))))) (pss_cons (ps_set (i := 7) sc__law_walked.nd rfl (Or.inl rfl) (pe_callTy call_list_of rfl (T.fr _ (by decide +kernel)) (by decide +kernel) (pa_cons (pe_ix (ixt (K := K)) (pv 2) pe_int fun _ _ => rfl) pa_nil))) (pss_cons (ps_for PassesOwn.never rfl (pi_range1 rfl (T.fr _ (by decide +kernel)) (pa_cons (pe_op op_add (pv 3) (pe_callB call_len_seq rfl (T.fr _ (by decide +kernel)) boot_len (pa_cons (pe_ix (ixt (K := K)) (pv 2) pe_int fun _ _ => rfl) pa_nil))) pa_nil)) (pg_name (i := 8) sc__law_walked.nd rfl (Or.inl rfl)) (pss_one (ps_set (i := 7) sc__law_walked.nd rfl (Or.inl rfl) (pe_op op_cat (pv 7) (pe_callTy call_list_of rfl (T.fr _ (by decide +kernel)) (by decide +kernel) (pa_cons (pe_ix (ixt (K := K)) (pv 2) pe_int fun _ _ => rfl) pa_nil)))))) (pss_cons (ps_for PassesOwn.never rfl (pi_list (pv 7)) (pg_name (i := 9) sc__law_walked.nd rfl (Or.inl rfl)) (pss_one (ps_for PassesOwn.never rfl (pi_tup (pe_ix (ixt (K := K)) (pe_ix (ixt (K := K)) (pv 0) pe_int fun _ _ => rfl) (pv 9) fun _ _ => rfl)) (pg_name (i := 6) sc__law_walked.nd rfl (Or.inl rfl)) (pss_one (ps_if (pt_cmpR op_eq (pv 6) pe_str (nomark _)) (pss_one (ps_expr (pe_bm PySem.F.plainAttrs_list PySem.F.slot_list_append PySem.F.type_list_append mt_append (pv 4) (pa_cons (pv 5) pa_nil)))) (pss_one (ps_if (pt_cmpR op_eq (pv 6) (pv 1) (nomark _)) (pss_one (ps_set (i := 5) sc__law_walked.nd rfl (Or.inl rfl) (pe_op op_add (pv 5) pe_int))) pss_nil))))))) (pss_one (ps_ret (pe_slice sl_list (pe_op op_cat (pv 4) (pe_op op_rep (pe_lst (pa_cons pe_non pa_nil)) (pv 3))) po_none (po_some (pv 3))))))))))), ?_⟩
    refine ⟨(by show 0 ≤ sizeLine; decide), fun D hD => ?_⟩
    have s1 := NF.Same.new (o := .lst []) (Same.refl H) hD
    have hD1 := upd_same (H := H) (a := D) (o := .lst [])
    generalize upd H D (.lst []) = H1 at s1 hD1
    refine ⟨_, rfl, q, _, _, _, rfl, rfl, NF.Same.tup s1 hq, at1, pb, rfl, ⟨_, NF.Same.tup s1 hb⟩, ?_⟩
    refine for_tup (xs := b.map dV) (fun j σ G => Same H G ∧ G D = some (.lst (vI (ahead i (b.take j) 0))) ∧ ∃ v : Option V, σ = [some (.ref q), some (.int (i : Int)), some (.ref a), some (.int 30), some (.ref D), some (.int (took i (b.take j) : Int)), v, none, none, none]) ⟨s1, hD1, none, rfl⟩ (fun j σ G _ z => NF.Same.tup z.1 hb) ?_ ?_
    · rintro j v σ G hv ⟨sG, hG, v5, rfl⟩
      have hj := (List.getElem?_eq_some_iff.mp hv).1
      rw [List.length_map] at hj
      obtain rfl : dV (b[j]) = v := by
        rw [List.getElem?_map, List.getElem?_eq_getElem hj] at hv
        exact Option.some.inj hv
      have et : b.take (j + 1) = b.take j ++ [b[j]] := by rw [List.take_add_one, List.getElem?_eq_getElem hj]; rfl
      have al := ahead_len (i := i) (a := b.take j) (t := 0)
      rw [List.length_take] at al
      refine ⟨_, rfl, dV_scal, _, rfl, ?_⟩
      rw [dV_give]
      generalize b[j] = d at et
      cases d with
      | none =>
        refine iteT ?_
        refine ⟨_, rfl, .inl ⟨rfl, _, SqL.of hG⟩, _, rfl, D, _, _, rfl, rfl, hG, by rw [vI_len]; exact Nat.lt_of_le_of_lt (show (ahead i (b.take j) 0).length ≤ 20000 by omega) (by decide), ?_⟩
        refine ⟨NF.Same.mut sG hD, ?_, some (dV none), ?_⟩
        · rw [upd_same, et, ahead_snoc, ← vI_app]
          rfl
        · rw [et, took_snoc]
          rfl
      | some k =>
        refine iteF ?_
        refine ⟨_, rfl, _, rfl, dV_scalI, _, rfl, ?_⟩
        rw [dV_int]
        refine ite2 (fun h => ?_) (fun h => ?_)
        · have h := of_decide_eq_true h
          refine ⟨_, rfl, _, _, rfl, rfl, sG, ?_, some (dV (some k)), ?_⟩
          · rw [et, ahead_snoc]
            exact hG
          · rw [et, took_snoc]
            show _ = [_, _, _, _, _, some (V.int ((if k = i then took i (b.take j) + 1 else took i (b.take j) : Nat) : Int)), _, _, _, _]
            rw [if_pos h]
            rfl
        · have h : ¬ k = i := fun z => h (decide_eq_true z)
          refine ⟨sG, ?_, some (dV (some k)), ?_⟩
          · rw [et, ahead_snoc]
            exact hG
          · rw [et, took_snoc]
            show _ = [_, _, _, _, _, some (V.int ((if k = i then took i (b.take j) + 1 else took i (b.take j) : Nat) : Int)), _, _, _, _]
            rw [if_neg h]
            rfl
    · rintro σ G ⟨sG, hG, v6, rfl⟩
      rw [List.length_map, List.take_length] at hG ⊢
      -- the rounds
      refine ⟨_, rfl, a, _, _, _, rfl, rfl, NF.Same.tup sG ha, (show atI [V.ref p1, V.ref p2] 0 = some (V.ref p1) from rfl), p1, _, rfl, .inr (NF.Same.tup sG hp1), fun R hR => ?_⟩
      have s2 := NF.Same.new (o := .lst (vNs fs)) (Same.refl G) hR
      have hR1 := upd_same (H := G) (a := R) (o := .lst (vNs fs))
      have hG1 := s2 _ _ hG
      have s02 := Same.trans sG s2
      generalize upd G R (.lst (vNs fs)) = G1 at s2 hR1 hG1 s02
      refine ⟨_, rfl, _, rfl, a, _, _, _, rfl, rfl, NF.Same.tup s02 ha, (show atI [V.ref p1, V.ref p2] 1 = some (V.ref p2) from rfl), p2, _, rfl, .inr (NF.Same.tup s02 hp2), _, _, rfl, rfl, ?_⟩
      rw [vNs_len]
      refine ⟨(30 : Int) + (ts.length : Int), rfl, by omega, by omega, ?_⟩
      rw [show ((30 : Int) + (ts.length : Int)).toNat = 30 + ts.length by omega]
      refine for_range (lo := 0) (n := 30 + ts.length) (fun j σ G2 => Same G1 G2 ∧ ∃ (X : Addr) (v8 : Option V), D ≠ X ∧ G2 X = some (.lst (vNs (fs ++ (List.replicate j ts).flatten))) ∧ σ = [some (.ref q), some (.int (i : Int)), some (.ref a), some (.int 30), some (.ref D), some (.int (took i b : Int)), v6, some (.ref X), v8, none]) ⟨Same.refl _, R, none, ne_of_none hG hR, by rw [hR1]; simp, rfl⟩ ?_ ?_
      · rintro j σ G2 hj ⟨s3, X, v8, nX, hX, rfl⟩
        have s03 := Same.trans s02 s3
        refine ⟨_, rfl, _, rfl, a, _, _, _, rfl, rfl, NF.Same.tup s03 ha, (show atI [V.ref p1, V.ref p2] 1 = some (V.ref p2) from rfl), p2, _, rfl, .inr (NF.Same.tup s03 hp2), fun l hl0 => ?_⟩
        have hX' := (upd_ne (o := .lst (vNs ts)) (ne_of_none hX hl0)).trans hX
        have lj : (List.replicate j ts).flatten.length ≤ 64 := by
          rw [rep_len]
          exact Nat.le_trans (Nat.mul_le_mul (show j ≤ 32 by omega) t2) (by decide)
        refine ⟨X, l, _, _, rfl, rfl, hX', upd_same, ?_, fun Y hY => ?_⟩
        · rw [vNs_len, vNs_len, List.length_append]
          exact Nat.le_trans (show fs.length + (List.replicate j ts).flatten.length + ts.length ≤ 10000 by omega) (by decide)
        · refine ⟨NF.Same.new (NF.Same.new s3 hl0) hY, Y, _, ne_of_none ((NF.Same.new s3 hl0) _ _ hG1) hY, ?_, rfl⟩
          rw [upd_same, List.replicate_succ', List.flatten_append]
          simp [vNs, List.append_assoc]
      · rintro σ G2 ⟨s3, X, v8, nX, hX, rfl⟩
        have s03 := Same.trans s02 s3
        have hD3 := s3 _ _ hG1
        obtain ⟨rs, hrs⟩ : ∃ rs, rs = fs ++ (List.replicate (30 + ts.length) ts).flatten := ⟨_, rfl⟩
        rw [← hrs] at hX
        have rok : ∀ x ∈ rs, x < ws.length := fun x h => by
          rw [hrs] at h
          rcases List.mem_append.mp h with h | h
          · exact ok.f x h
          · exact ok.t x (rep_mem h)
        have rl : rs.length ≤ 264 := by
          rw [hrs, List.length_append, rep_len]
          have : (30 + ts.length) * ts.length ≤ 32 * 2 := Nat.mul_le_mul (by omega) t2
          omega
        have lk : ∀ ks : List Nat, ks.length ≤ 264 → (deedsOf ws ks).length ≤ 1056 := fun ks h => Nat.le_trans (deeds_len (ks := ks) w4) (Nat.mul_le_mul_right 4 h)
        refine ⟨_, rfl, X, rfl, ⟨_, SqL.of hX⟩, ?_⟩
        refine for_list (xs := vNs rs) (fun j σ G => Same H G ∧ G X = some (.lst (vNs rs)) ∧ G D = some (.lst (vI (ahead i (b ++ deedsOf ws (rs.take j)) 0))) ∧ ∃ v6 v9 : Option V, σ = [some (.ref q), some (.int (i : Int)), some (.ref a), some (.int 30), some (.ref D), some (.int (took i (b ++ deedsOf ws (rs.take j)) : Int)), v6, some (.ref X), v8, v9]) ⟨s03, hX, by rw [hD3]; simp [deedsOf], v6, none, by simp [deedsOf]⟩ (fun j σ G _ z => SqL.of z.2.1) ?_ ?_
        · rintro j v σ G3 hv ⟨s5, hX5, hD5, v6, v9, rfl⟩
          have hj := (List.getElem?_eq_some_iff.mp hv).1
          rw [vNs_len] at hj
          rw [at_nat hj] at hv
          obtain rfl := Option.some.inj hv
          have km := rok rs[j] (List.getElem_mem hj)
          have ka : rs[j] < as.length := by omega
          have e : deedsOf ws (rs.take (j + 1)) = deedsOf ws (rs.take j) ++ ws.getD rs[j] [] := by
            rw [List.take_add_one, List.getElem?_eq_getElem hj, deedsOf_app]
            unfold deedsOf
            simp
          have ew : ws.getD rs[j] [] = ws[rs[j]] := by rw [List.getD_eq_getElem?_getD, List.getElem?_eq_getElem km]; rfl
          rw [ew] at e
          have tw := hws rs[j] as[rs[j]] ws[rs[j]] (List.getElem?_eq_getElem ka) (List.getElem?_eq_getElem km)
          have wl := w4 _ (List.getElem_mem km)
          have l1 := lk (rs.take j) (by rw [List.length_take]; omega)
          generalize ws[rs[j]] = wy at e tw wl
          generalize hB0 : b ++ deedsOf ws (rs.take j) = B0 at hD5
          have lB : B0.length ≤ 1060 := by rw [← hB0, List.length_append]; omega
          refine ⟨_, rfl, q, _, _, _, rfl, rfl, NF.Same.tup s5 hq, at2, _, rfl, pw, _, _, _, rfl, rfl, NF.Same.tup s5 hw, atI_nat (by rw [List.getElem?_map, List.getElem?_eq_getElem ka]; rfl), as[rs[j]], rfl, ⟨_, NF.Same.tup s5 tw⟩, ?_⟩
          refine for_tup (xs := wy.map dV) (fun m σ G => Same H G ∧ G X = some (.lst (vNs rs)) ∧ G D = some (.lst (vI (ahead i (B0 ++ wy.take m) 0))) ∧ ∃ v6 : Option V, σ = [some (.ref q), some (.int (i : Int)), some (.ref a), some (.int 30), some (.ref D), some (.int (took i (B0 ++ wy.take m) : Int)), v6, some (.ref X), v8, some (.int ((rs[j] : Nat) : Int))]) ⟨s5, hX5, by rw [hD5]; simp, v6, by rw [List.take_zero, List.append_nil]; rfl⟩ (fun m σ G _ z => NF.Same.tup z.1 tw) ?_ ?_
          · rintro m v σ G hv ⟨sG, hXG, hG, v5, rfl⟩
            have hm := (List.getElem?_eq_some_iff.mp hv).1
            rw [List.length_map] at hm
            obtain rfl : dV (wy[m]) = v := by
              rw [List.getElem?_map, List.getElem?_eq_getElem hm] at hv
              exact Option.some.inj hv
            have et : B0 ++ wy.take (m + 1) = (B0 ++ wy.take m) ++ [wy[m]] := by rw [List.take_add_one, List.getElem?_eq_getElem hm, List.append_assoc]; rfl
            have al := ahead_len (i := i) (a := B0 ++ wy.take m) (t := 0)
            rw [List.length_append, List.length_take] at al
            refine ⟨_, rfl, dV_scal, _, rfl, ?_⟩
            rw [dV_give]
            generalize wy[m] = d at et
            cases d with
            | none =>
              refine iteT ?_
              refine ⟨_, rfl, .inl ⟨rfl, _, SqL.of hG⟩, _, rfl, D, _, _, rfl, rfl, hG, by rw [vI_len]; exact Nat.lt_of_le_of_lt (show (ahead i (B0 ++ wy.take m) 0).length ≤ 20000 by omega) (by decide), ?_⟩
              refine ⟨NF.Same.mut sG hD, (upd_ne nX.symm).trans hXG, ?_, some (dV none), ?_⟩
              · rw [upd_same, et, ahead_snoc, ← vI_app]
                rfl
              · rw [et, took_snoc]
                rfl
            | some k =>
              refine iteF ?_
              refine ⟨_, rfl, _, rfl, dV_scalI, _, rfl, ?_⟩
              rw [dV_int]
              refine ite2 (fun h => ?_) (fun h => ?_)
              · have h := of_decide_eq_true h
                refine ⟨_, rfl, _, _, rfl, rfl, sG, hXG, ?_, some (dV (some k)), ?_⟩
                · rw [et, ahead_snoc]
                  exact hG
                · rw [et, took_snoc]
                  show _ = [_, _, _, _, _, some (V.int ((if k = i then took i (B0 ++ wy.take m) + 1 else took i (B0 ++ wy.take m) : Nat) : Int)), _, _, _, _]
                  rw [if_pos h]
                  rfl
              · have h : ¬ k = i := fun z => h (decide_eq_true z)
                refine ⟨sG, hXG, ?_, some (dV (some k)), ?_⟩
                · rw [et, ahead_snoc]
                  exact hG
                · rw [et, took_snoc]
                  show _ = [_, _, _, _, _, some (V.int ((if k = i then took i (B0 ++ wy.take m) + 1 else took i (B0 ++ wy.take m) : Nat) : Int)), _, _, _, _]
                  rw [if_neg h]
                  rfl
          · rintro σ G ⟨sG, hXG, hG, v5, rfl⟩
            rw [List.length_map, List.take_length] at hG ⊢
            refine ⟨sG, hXG, ?_, v5, some (V.int ((rs[j] : Nat) : Int)), ?_⟩
            · rw [e, ← List.append_assoc, hB0]
              exact hG
            · rw [e, ← List.append_assoc, hB0]
        · rintro σ G ⟨s5, hX5, hD5, v6, v9, rfl⟩
          rw [vNs_len, List.take_length] at hD5
          have er : deedsOf ws rs = deedsOf ws fs ++ rep (deedsOf ws ts) (30 + ts.length) := by rw [hrs, deedsOf_app, deedsOf_rep]
          rw [er, ← List.append_assoc] at hD5
          have lm := ahead_len (i := i) (a := b ++ deedsOf ws fs ++ rep (deedsOf ws ts) (30 + ts.length)) (t := 0)
          have lr := lk rs rl
          rw [er, List.length_append] at lr
          rw [List.length_append, List.length_append] at lm
          generalize hms : ahead i (b ++ deedsOf ws fs ++ rep (deedsOf ws ts) (30 + ts.length)) 0 = ms at hD5 lm
          refine ⟨_, rfl, (by show 1 ≤ sizeLine; decide), fun q1 hq1 => ?_⟩
          have hq1' := upd_same (H := G) (a := q1) (o := .lst [V.non])
          have hD6 := (upd_ne (o := .lst [V.non]) (ne_of_none hD5 hq1)).trans hD5
          have s6 := NF.Same.new (o := .lst [V.non]) s5 hq1
          generalize upd G q1 (.lst [V.non]) = G6 at hq1' hD6 s6
          refine ⟨_, rfl, q1, _, _, rfl, rfl, hq1', by omega, by omega, (by show 1 * 30 ≤ sizeLine; decide), fun q2 hq2 => ?_⟩
          have hq2' := upd_same (H := G6) (a := q2) (o := .lst (List.replicate 30 [V.non]).flatten)
          have hD7 := (upd_ne (o := .lst (List.replicate 30 [V.non]).flatten) (ne_of_none hD6 hq2)).trans hD6
          have s7 := NF.Same.new (o := .lst (List.replicate 30 [V.non]).flatten) s6 hq2
          refine ⟨D, q2, _, _, rfl, rfl, hD7, hq2', ?_, fun q3 hq3 => ?_⟩
          · rw [vI_len]
            exact Nat.le_trans (show ms.length + 30 ≤ 10000 by omega) (by decide)
          have hq3' := upd_same (H := upd G6 q2 (.lst (List.replicate 30 [V.non]).flatten)) (a := q3) (o := .lst (vI ms ++ (List.replicate 30 [V.non]).flatten))
          have s8 := NF.Same.new (o := .lst (vI ms ++ (List.replicate 30 [V.non]).flatten)) s7 hq3
          refine ⟨_, rfl, (30 : Int), rfl, q3, _, rfl, SqL.of hq3', fun p hp => ?_⟩
          refine k p _ (NF.Same.new s8 hp) ?_
          rw [upd_same, show cutV (vI ms ++ (List.replicate 30 [V.non]).flatten) none (some (30 : Int)) = _ from cut_to (n := 30), first_thirty, ← hms]
end
end K24
set_option Elab.async false
set_option linter.all false
set_option maxRecDepth 100000
set_option maxHeartbeats 4000000
namespace K24
open PySem PySem.Spec PyProof.Rows L2 He NF RZ NT
def Counts (y : List Int × List Int × Int) : Prop := (∀ i, i ∈ y.1 ++ y.2.1 → 0 ≤ i) ∧ 0 ≤ y.2.2
def spSame (K : PySem.W.Frag) (C : Addr) : Sp := fun vs H Q _ => ∃ x p y, vs = [.ref x, .ref p] ∧ TabAt K C H x y ∧ FormAt K H p y ∧ Small y ∧ Counts y ∧ ∀ H', Same H H' → Q (.bl true) H'
theorem sc__law_same : FnScope ["_law_table", "_law_raw", "_law_one"] ["_law_table", "_law_raw"] (defScope s__law_same) := ⟨rfl, rfl, rfl, by decide +kernel, rfl, by decide +kernel, by decide +kernel⟩
theorem sc__law_is_integer : FnScope ["_law_thing"] ["_law_thing"] (defScope s__law_is_integer) := ⟨rfl, rfl, rfl, by decide +kernel, rfl, by decide +kernel, by decide +kernel⟩
theorem sc__law_is_count : FnScope ["_law_thing"] ["_law_thing"] (defScope s__law_is_count) := ⟨rfl, rfl, rfl, by decide +kernel, rfl, by decide +kernel, by decide +kernel⟩
section
variable {P : Program} {w : World} {K : PySem.W.Frag} {mg : Str → Option Value} {base : Heap} {gs : List Str} {C : Addr}
theorem ok__law_is_integer {f : Addr} {fd : FuncData} (F : FunD K "_law_is_integer" "_law_is_integer" (defArgs s__law_is_integer) (defBody s__law_is_integer) (defScope s__law_is_integer) [] [] f fd) (T : Txt K mg gs FS) : FnOk P w K mg base CX0 1 f fd ["_law_thing"] spIsInt := by
  refine F.ok sc__law_is_integer (fun vs H Q E h => ?_) (fun cdv A outer s H vs Q E hr h => ?_)
  · obtain ⟨i, rfl, _⟩ := h
    rfl
  · obtain ⟨i, rfl, q⟩ := h
    refine ⟨_, PSs.nox (pss_one (ps_ret (pe_and (pe_callB call_isi rfl (T.fr _ (by decide +kernel)) (by decide +kernel) (pa_cons (pv 0) (pa_cons (pe_bltn (v := .ty "int") rfl (T.fr _ (by decide +kernel)) (by decide +kernel) rfl) pa_nil))) (pe_one (pe_not (pe_callB call_isi rfl (T.fr _ (by decide +kernel)) (by decide +kernel) (pa_cons (pv 0) (pa_cons (pe_bltn (v := .ty "bool") rfl (T.fr _ (by decide +kernel)) (by decide +kernel) rfl) pa_nil)))))))), ?_⟩
    exact ⟨_, rfl, _, _, _, _, true, rfl, .ty "int", .base (.int i), kit_i_i K, true, rfl, _, rfl, _, _, _, _, false, rfl, .ty "bool", .base (.int i), kit_i_b K, false, rfl, q⟩
theorem ok__law_is_count {f : Addr} {fd : FuncData} (F : FunD K "_law_is_count" "_law_is_count" (defArgs s__law_is_count) (defBody s__law_is_count) (defScope s__law_is_count) [] [] f fd) (T : Txt K mg gs FS) (c__law_is_integer : Cal P w K mg base 1 "_law_is_integer" spIsInt) : FnOk P w K mg base CX0 2 f fd ["_law_thing"] spIsCount := by
  refine F.ok sc__law_is_count (fun vs H Q E h => ?_) (fun cdv A outer s H vs Q E hr h => ?_)
  · obtain ⟨i, rfl, _⟩ := h
    rfl
  · obtain ⟨i, rfl, q⟩ := h
    refine ⟨_, PSs.nox (pss_one (ps_ret (pe_and (pe_c c__law_is_integer hr (by decide) rfl (pa_cons (pv 0) pa_nil)) (pe_one (pe_cmpR op_ge (pv 0) pe_int (nomark _)))))), ?_⟩
    exact ⟨_, rfl, i, rfl, true, rfl, _, rfl, _, _, rfl, rfl, q⟩
theorem ok__law_same {f : Addr} {fd : FuncData} (F : FunD K "_law_same" "_law_same" (defArgs s__law_same) (defBody s__law_same) (defScope s__law_same) [] [] f fd) (T : Txt K mg gs FS) (hT : mg "Table" = some (.ref C)) (tc : TabC K C) (c__law_is_count : Cal P w K mg base 2 "_law_is_count" spIsCount) : FnOk P w K mg base CX0 3 f fd ["_law_table", "_law_raw"] (spSame K C) := by
  refine F.ok sc__law_same (fun vs H Q E h => ?_) (fun cdv A outer s H vs Q E hr h => ?_)
  · obtain ⟨x, p, y, rfl, _⟩ := h
    rfl
  · obtain ⟨x, p, ⟨h, l, r⟩, rfl, ⟨dx, a, b, hx, ha, hb⟩, ⟨a2, b2, hp, ha2, hb2⟩, sm, ⟨ct, c0⟩, q⟩ := h
    have hu : (A.deeper (envOfC "_law_same" (defScope s__law_same) s.heap.objs.size f cdv)).units + 64 < cLine := by
      have := hr.un
      omega
    have sm1 := sm.h
    have sm2 := sm.l
    dsimp only at hx ha hb hp ha2 hb2 sm1 sm2 ct c0
    refine ⟨_, PSs.nox (pss_cons (ps_if (PW.pt (pw_or (pt_not (pt_val (pe_callB call_isi rfl (T.fr _ (by decide +kernel)) (by decide +kernel) (pa_cons (pv 0) (pa_cons (pe_gl hT) pa_nil))))) (pw_or (pt_cmpR (op_neD hu) (pe_fld (pv 0) rfl) (pe_ix (ixt (K := K)) (pv 1) pe_int fun _ _ => rfl) (nomark _)) (pw_or1 (pt_cmpR (op_neD hu) (pe_fld (pv 0) rfl) (pe_ix (ixt (K := K)) (pv 1) pe_int fun _ _ => rfl) (nomark _)))))) (pss_one (ps_ret pe_bl)) pss_nil) (pss_cons (ps_if (PW.pt (pw_or (pt_not (pt_val (pe_callB call_isi rfl (T.fr _ (by decide +kernel)) (by decide +kernel) (pa_cons (pe_fld (pv 0) rfl) (pa_cons (pe_bltn (v := .ty "tuple") rfl (T.fr _ (by decide +kernel)) (by decide +kernel) rfl) pa_nil))))) (pw_or1 (pt_not (pt_val (pe_callB call_isi rfl (T.fr _ (by decide +kernel)) (by decide +kernel) (pa_cons (pe_fld (pv 0) rfl) (pa_cons (pe_bltn (v := .ty "tuple") rfl (T.fr _ (by decide +kernel)) (by decide +kernel) rfl) pa_nil)))))))) (pss_one (ps_ret pe_bl)) pss_nil) (pss_cons (ps_if (pt_not (pt_val (pe_callB (cr_all rfl) rfl (T.fr _ (by decide +kernel)) (by decide +kernel) (pa_cons (pe_lc (own := [("_law_one", 2)]) rfl sc__law_same.nd (pi_tup (pe_op op_catA (pe_fld (pv 0) rfl) (pe_fld (pv 0) rfl))) (blkOk_by (N := ["_law_table", "_law_raw", "_law_one"]) (sc := defScope s__law_same) (by decide +kernel)) (fun _ _ _ _ _ => by exact (pg_name (i := 2) sc__law_same.nd rfl (Or.inl rfl))) (fun _ _ _ _ _ => by exact pts_nil) (fun _ _ _ _ _ => by exact (pe_c c__law_is_count hr (by decide) rfl (pa_cons (pv 2) pa_nil)))) pa_nil)))) (pss_one (ps_ret pe_bl)) pss_nil) (pss_one (ps_ret (pe_and (pe_c c__law_is_count hr (by decide) rfl (pa_cons (pe_fld (pv 0) rfl) pa_nil)) (pe_one (pe_cmpR op_eq (pe_fld (pv 0) rfl) (pe_ix (ixt (K := K)) (pv 1) pe_int fun _ _ => rfl) (nomark _))))))))), ?_⟩
    refine ⟨_, rfl, _, _, _, _, true, rfl, .own C, tc.ty hx, tc.self, true, rfl, iteF ?_⟩
    refine ⟨_, rfl, x, C, dx, _, _, rfl, hx, tc.cl, tc.hd, rfl, _, rfl, p, _, _, _, rfl, rfl, hp, at0, ?_⟩
    refine neT_done (K := K) ha ha2 ⟨_, rfl, iteF' (by simp) ?_⟩
    refine ⟨_, rfl, x, C, dx, _, _, rfl, hx, tc.cl, tc.lp, rfl, _, rfl, p, _, _, _, rfl, rfl, hp, at1, ?_⟩
    refine neT_done (K := K) hb hb2 ⟨_, rfl, iteF' (by simp) ?_⟩
    refine ⟨_, rfl, x, C, dx, _, _, rfl, hx, tc.cl, tc.hd, rfl, _, _, _, _, true, rfl, .ty "tuple", tyx_tup ha, kit_t_t K, true, rfl, iteF ?_⟩
    refine ⟨_, rfl, x, C, dx, _, _, rfl, hx, tc.cl, tc.lp, rfl, _, _, _, _, true, rfl, .ty "tuple", tyx_tup hb, kit_t_t K, true, rfl, iteF ?_⟩
    refine ⟨_, rfl, x, C, dx, _, _, rfl, hx, tc.cl, tc.hd, rfl, _, rfl, x, C, dx, _, _, rfl, hx, tc.cl, tc.lp, rfl, ?_⟩
    refine catA_done (K := K) ha hb (by rw [vI_len, vI_len]; exact Nat.le_trans (show h.length + l.length ≤ 20000 by omega) (by decide)) fun p3 G1 s1 t1 => ?_
    rw [vI_app] at t1
    refine ⟨p3, rfl, ⟨_, t1⟩, fun D hD => ?_⟩
    refine lc_tup (xs := vI (h ++ l)) (fun j G => Same G1 G ∧ G D = some (.lst ((List.replicate j true).map V.bl))) ⟨NF.Same.new (Same.refl G1) hD, upd_same⟩ (fun i G _ z => NF.Same.tup z.1 t1) ?_ ?_
    · rintro j v G hv ⟨hG, hD2⟩
      have hj := (List.getElem?_eq_some_iff.mp hv).1
      rw [vI_len] at hj
      obtain rfl : V.int ((h ++ l)[j]) = v := by
        rw [List.getElem?_map, List.getElem?_eq_getElem hj] at hv
        exact Option.some.inj hv
      refine ⟨rfl, _, rfl, _, rfl, ?_⟩
      have hc := ct _ (List.getElem_mem hj)
      have hjl : j < 20000 := by
        rw [List.length_append] at hj
        omega
      rw [decide_eq_true hc]
      refine ⟨_, hD2, by rw [List.length_map, List.length_replicate]; exact Nat.lt_of_lt_of_le hjl (by decide), NF.Same.mut hG hD, ?_⟩
      rw [upd_same, List.replicate_succ', List.map_append] <;> rfl
    · rintro G ⟨hG, hD2⟩
      refine ⟨D, _, rfl, SqL.of hD2, true, ?_, iteF ?_⟩
      · rw [List.all_replicate]
        simp
      have s2 := Same.trans s1 hG
      have hx2 := s2 _ _ hx
      have hp2 := NF.Same.tup s2 hp
      refine ⟨_, rfl, x, C, dx, _, _, rfl, hx2, tc.cl, tc.ri, rfl, r, rfl, ?_⟩
      rw [decide_eq_true c0]
      refine ⟨true, rfl, iteT ⟨_, rfl, x, C, dx, _, _, rfl, hx2, tc.cl, tc.ri, rfl, _, rfl, p, _, _, _, rfl, rfl, hp2, at2, rfl, ?_⟩⟩
      show Q (V.bl (decide (V.int r = V.int r))) G
      rw [decide_eq_true rfl]
      exact q _ s2
end
end K24
set_option linter.all false
/-! Where one walk leads another one: ladders of least values, lanes, leads. Plain Lean. -/
namespace NT
/-- Python's min of two -/
def mn (a b : Int) : Int := if b < a then b else a
/-- v is the least of f on the w places from i on -/
structure IsLo (f : Nat → Int) (i w : Nat) (v : Int) : Prop where
  le : ∀ j, i ≤ j → j < i + w → v ≤ f j
  at_ : ∃ j, i ≤ j ∧ j < i + w ∧ f j = v
theorem IsLo.one (f : Nat → Int) (i : Nat) : IsLo f i 1 (f i) := ⟨fun j h1 h2 => by rw [show j = i by omega]; exact Int.le_refl _, i, Nat.le_refl _, by omega, rfl⟩
theorem IsLo.join {f : Nat → Int} {i w d : Nat} {a b : Int} (h1 : IsLo f i w a) (h2 : IsLo f (i + d) w b) (hd : d ≤ w) : IsLo f i (w + d) (mn a b) := by
  have ha : mn a b ≤ a := by unfold mn; split <;> omega
  have hb : mn a b ≤ b := by unfold mn; split <;> omega
  refine ⟨fun j j1 j2 => ?_, ?_⟩
  · by_cases c : j < i + w
    · exact Int.le_trans ha (h1.le j j1 c)
    · exact Int.le_trans hb (h2.le j (by omega) (by omega))
  · unfold mn
    by_cases c : b < a
    · rw [if_pos c]
      obtain ⟨j, j1, j2, j3⟩ := h2.at_
      exact ⟨j, by omega, by omega, j3⟩
    · rw [if_neg c]
      obtain ⟨j, j1, j2, j3⟩ := h1.at_
      exact ⟨j, by omega, by omega, j3⟩
/-- a rung: the least values of f, window w, over the first n places -/
structure Rung (f : Nat → Int) (n w : Nat) (m : List Int) : Prop where
  w0 : 0 < w
  wn : w ≤ n
  len : m.length = n + 1 - w
  lo : ∀ i, i + w ≤ n → IsLo f i w (m.getD i 0)
theorem Rung.base {f : Nat → Int} {m : List Int} (h0 : 0 < m.length) (h : ∀ i, i < m.length → m.getD i 0 = f i) : Rung f m.length 1 m :=
  ⟨by decide, h0, by omega, fun i hi => by rw [h i (by omega)]; exact IsLo.one f i⟩
/-- the next rung -/
def nextRow (m : List Int) (w : Nat) : List Int := List.zipWith mn m (m.drop w)
theorem Rung.next {f : Nat → Int} {n w : Nat} {m : List Int} (h : Rung f n w m) (h2 : 2 * w ≤ n) : Rung f n (2 * w) (nextRow m w) := by
  have hl := h.len
  have w0 := h.w0
  have hz : (nextRow m w).length = n + 1 - 2 * w := by
    unfold nextRow
    rw [List.length_zipWith, List.length_drop]
    omega
  refine ⟨by omega, h2, hz, fun i hi => ?_⟩
  have e : (nextRow m w).getD i 0 = mn (m.getD i 0) (m.getD (i + w) 0) := by
    have h1 : i < m.length := by omega
    have h2 : w + i < m.length := by omega
    unfold nextRow
    rw [List.getD_eq_getElem?_getD, List.getD_eq_getElem?_getD, List.getD_eq_getElem?_getD, List.getElem?_zipWith, List.getElem?_drop, show i + w = w + i by omega, List.getElem?_eq_getElem h1, List.getElem?_eq_getElem h2]
    rfl
  rw [e, show 2 * w = w + w by omega]
  exact (h.lo i (by omega)).join (h.lo (i + w) (by omega)) (Nat.le_refl _)
/-- a ladder, the widest rung first -/
inductive Lad (f : Nat → Int) (n : Nat) : Nat → List (Nat × List Int) → Prop where
  | one {m : List Int} (h : Rung f n 1 m) : Lad f n 1 [(1, m)]
  | two {w : Nat} {m : List Int} {L : List (Nat × List Int)} (h : Rung f n (2 * w) m) (r : Lad f n w L) : Lad f n (2 * w) ((2 * w, m) :: L)
theorem Lad.head {f : Nat → Int} {n w : Nat} {L : List (Nat × List Int)} (h : Lad f n w L) : ∃ m L', L = (w, m) :: L' ∧ Rung f n w m := by
  cases h with
  | one h => exact ⟨_, _, rfl, h⟩
  | two h r => exact ⟨_, _, rfl, h⟩
theorem Lad.step {f : Nat → Int} {n w : Nat} {L : List (Nat × List Int)} (h : Lad f n w L) (h2 : 2 * w ≤ n) : ∃ m, L.head? = some (w, m) ∧ Lad f n (2 * w) ((2 * w, nextRow m w) :: L) := by
  obtain ⟨m, L', rfl, hm⟩ := h.head
  exact ⟨m, rfl, .two (hm.next h2) h⟩
theorem Lad.least {f : Nat → Int} {n w W i : Nat} {L : List (Nat × List Int)} (h : Lad f n w L) (h1 : w ≤ W) (h2 : W < 2 * w) (hi : i + W ≤ n) : ∃ m L', L = (w, m) :: L' ∧ i < m.length ∧ i + (W - w) < m.length ∧ IsLo f i W (mn (m.getD i 0) (m.getD (i + (W - w)) 0)) := by
  obtain ⟨m, L', rfl, hm⟩ := h.head
  have hl := hm.len
  refine ⟨m, L', rfl, by omega, by omega, ?_⟩
  have := (hm.lo i (by omega)).join (hm.lo (i + (W - w)) (by omega)) (by omega)
  rw [show w + (W - w) = W by omega] at this
  exact this
/-- the descent to the first place under a limit -/
def under (lim : Int) : Nat → List (Nat × List Int) → Nat
  | a, [] => a
  | a, (w, m) :: L => under lim (if a < m.length ∧ lim ≤ m.getD a 0 then a + w else a) L
/-- the first place from i on with f under the limit -/
structure First (f : Nat → Int) (lim : Int) (i t : Nat) : Prop where
  le : i ≤ t
  at_ : f t < lim
  no : ∀ j, i ≤ j → j < t → lim ≤ f j
theorem under_ok {f : Nat → Int} {n : Nat} {lim : Int} : ∀ {w : Nat} {L : List (Nat × List Int)}, Lad f n w L → ∀ {a t : Nat}, First f lim a t → t < a + 2 * w → t < n → under lim a L = t := by
  intro w L h
  induction h with
  | @one m h =>
    intro a t F h1 h2
    have hl := h.len
    show (if a < m.length ∧ lim ≤ m.getD a 0 then a + 1 else a) = t
    have han : a < n := Nat.lt_of_le_of_lt F.le h2
    have e : m.getD a 0 = f a := by
      obtain ⟨j, j1, j2, j3⟩ := (h.lo a (by omega)).at_
      rw [← j3, show j = a by omega]
    by_cases c : a < m.length ∧ lim ≤ m.getD a 0
    · rw [if_pos c]
      have hne : a ≠ t := fun z => by
        have := F.at_
        rw [← z, ← e] at this
        omega
      have := F.le
      omega
    · rw [if_neg c]
      have hlt : f a < lim := by
        rw [← e]
        refine Int.lt_of_not_ge fun z => c ⟨by omega, z⟩
      refine Classical.byContradiction fun z => ?_
      have := F.no a (Nat.le_refl _) (by have := F.le; omega)
      omega
  | @two w m L h r ih =>
    intro a t F h1 h2
    have hl := h.len
    show under lim (if a < m.length ∧ lim ≤ m.getD a 0 then a + 2 * w else a) L = t
    have w0 := h.w0
    by_cases c : a < m.length ∧ lim ≤ m.getD a 0
    · rw [if_pos c]
      have lo := h.lo a (by omega)
      have ht : a + 2 * w ≤ t := Nat.le_of_not_lt fun z => by
        have := lo.le t F.le z
        have := F.at_
        omega
      exact ih ⟨ht, F.at_, fun j j1 j2 => F.no j (by omega) j2⟩ (by omega) h2
    · rw [if_neg c]
      refine ih F ?_ h2
      by_cases hm : a < m.length
      · have hlt : m.getD a 0 < lim := Int.lt_of_not_ge fun z => c ⟨hm, z⟩
        have lo := h.lo a (by omega)
        obtain ⟨j, j1, j2, j3⟩ := lo.at_
        refine Classical.byContradiction fun z => ?_
        have := F.no j j1 (by omega)
        omega
      · omega
/-- the descent from behind to the last place under a limit; e: the place behind the last one looked at -/
def underB (lim : Int) (s : Nat) : Nat → List (Nat × List Int) → Nat
  | e, [] => e
  | e, (w, m) :: L => underB lim s (if s + w ≤ e ∧ lim ≤ m.getD (e - w) 0 then e - w else e) L
/-- the last place ahead of e, not ahead of s, with f under the limit -/
structure Last (f : Nat → Int) (lim : Int) (s e t : Nat) : Prop where
  ge : s ≤ t
  lt : t < e
  at_ : f t < lim
  no : ∀ j, t < j → j < e → lim ≤ f j
theorem underB_ok {f : Nat → Int} {n : Nat} {lim : Int} {s : Nat} : ∀ {w : Nat} {L : List (Nat × List Int)}, Lad f n w L → ∀ {e t : Nat}, Last f lim s e t → e ≤ t + 2 * w → e ≤ n → underB lim s e L = t + 1 := by
  intro w L h
  induction h with
  | @one m h =>
    intro e t F h1 h2
    have hl := h.len
    have f1 := F.ge
    have f2 := F.lt
    show (if s + 1 ≤ e ∧ lim ≤ m.getD (e - 1) 0 then e - 1 else e) = t + 1
    have e1 : m.getD (e - 1) 0 = f (e - 1) := by
      obtain ⟨j, j1, j2, j3⟩ := (h.lo (e - 1) (by omega)).at_
      rw [← j3, show j = e - 1 by omega]
    by_cases c : s + 1 ≤ e ∧ lim ≤ m.getD (e - 1) 0
    · rw [if_pos c]
      have hne : e - 1 ≠ t := fun z => by
        have := F.at_
        rw [← z, ← e1] at this
        omega
      omega
    · rw [if_neg c]
      have hlt : f (e - 1) < lim := by
        rw [← e1]
        refine Int.lt_of_not_ge fun z => c ⟨by omega, z⟩
      refine Classical.byContradiction fun z => ?_
      have := F.no (e - 1) (by omega) (by omega)
      omega
  | @two w m L h r ih =>
    intro e t F h1 h2
    have hl := h.len
    have w0 := h.w0
    have f1 := F.ge
    have f2 := F.lt
    show underB lim s (if s + 2 * w ≤ e ∧ lim ≤ m.getD (e - 2 * w) 0 then e - 2 * w else e) L = t + 1
    by_cases c : s + 2 * w ≤ e ∧ lim ≤ m.getD (e - 2 * w) 0
    · rw [if_pos c]
      have lo := h.lo (e - 2 * w) (by omega)
      have ht : t < e - 2 * w := Nat.lt_of_not_le fun z => by
        have := lo.le t z (by omega)
        have := F.at_
        omega
      exact ih ⟨f1, ht, F.at_, fun j j1 j2 => F.no j j1 (by omega)⟩ (by omega) (by omega)
    · rw [if_neg c]
      refine ih F ?_ h2
      by_cases hm : s + 2 * w ≤ e
      · have hlt : m.getD (e - 2 * w) 0 < lim := Int.lt_of_not_ge fun z => c ⟨hm, z⟩
        have lo := h.lo (e - 2 * w) (by omega)
        obtain ⟨j, j1, j2, j3⟩ := lo.at_
        refine Classical.byContradiction fun z => ?_
        have := F.no j (by omega) (by omega)
        omega
      · omega
end NT
set_option linter.all false
/-! Leads of one walk over another one: lanes, runners, the first and the last lead. Plain Lean. -/
namespace NT
/-- the numbers of two laps -/
structure Ln (L M g W V : Nat) : Prop where
  l0 : 0 < L
  m0 : 0 < M
  g0 : 0 < g
  w0 : 0 < W
  eL : L = g * V
  eM : M = g * W
  co : ∃ x y : Int, (L : Int) * x + (M : Int) * y = (g : Int)
theorem bez : ∀ m n : Nat, ∃ x y : Int, (m : Int) * x + (n : Int) * y = ((Nat.gcd m n : Nat) : Int) := by
  intro m
  induction m using Nat.strongRecOn with
  | _ m ih =>
    intro n
    cases m with
    | zero => exact ⟨0, 1, by rw [Nat.gcd_zero_left]; simp⟩
    | succ m =>
      obtain ⟨x, y, e⟩ := ih (n % (m + 1)) (Nat.mod_lt _ (Nat.succ_pos m)) (m + 1)
      refine ⟨y - ((n / (m + 1) : Nat) : Int) * x, x, ?_⟩
      rw [Nat.gcd_rec, ← e]
      have h : (n : Int) = ((n % (m + 1) : Nat) : Int) + ((m + 1 : Nat) : Int) * ((n / (m + 1) : Nat) : Int) := by
        rw [← Int.natCast_mul, ← Int.natCast_add, Nat.mod_add_div]
      generalize ((n % (m + 1) : Nat) : Int) = r at *
      generalize ((n / (m + 1) : Nat) : Int) = q at *
      generalize ((m + 1 : Nat) : Int) = k at *
      rw [h, Int.mul_sub, Int.add_mul]
      have : k * (q * x) = k * q * x := (Int.mul_assoc _ _ _).symm
      omega
theorem ln_of {L M : Nat} (hl : 0 < L) (hm : 0 < M) : Ln L M (Nat.gcd L M) (M / Nat.gcd L M) (L / Nat.gcd L M) := by
  have g0 : 0 < Nat.gcd L M := Nat.gcd_pos_of_pos_left _ hl
  have eL : L = Nat.gcd L M * (L / Nat.gcd L M) := (Nat.mul_div_cancel' (Nat.gcd_dvd_left L M)).symm
  have eM : M = Nat.gcd L M * (M / Nat.gcd L M) := (Nat.mul_div_cancel' (Nat.gcd_dvd_right L M)).symm
  exact ⟨hl, hm, g0, Nat.pos_of_ne_zero fun z => by rw [z, Nat.mul_zero] at eM; omega, eL, eM, bez L M⟩
section
variable {L M g W V : Nat}
theorem Ln.lap (h : Ln L M g W V) : L * W = M * V := by
  rw [h.eL, h.eM, Nat.mul_assoc, Nat.mul_assoc, Nat.mul_comm V W]
/-- each residue is that of a step in its lane -/
theorem Ln.reach (h : Ln L M g W V) (r : Nat) (hr : r < M) : ∃ s, s < W ∧ (r % g + L * s) % M = r := by
  obtain ⟨x, y, e⟩ := h.co
  have g0 := h.g0
  have W0 : (0 : Int) < (W : Int) := by have := h.w0; omega
  obtain ⟨c, hc⟩ : ∃ c : Nat, c = r / g := ⟨_, rfl⟩
  have er : r = r % g + g * c := by rw [hc]; exact (Nat.mod_add_div r g).symm
  obtain ⟨z, hz⟩ : ∃ z : Int, z = (x * (c : Int)) % (W : Int) := ⟨_, rfl⟩
  have z0 : 0 ≤ z := by rw [hz]; exact Int.emod_nonneg _ (by omega)
  have z1 : z < (W : Int) := by rw [hz]; exact Int.emod_lt_of_pos _ W0
  have ez : x * (c : Int) = z + (W : Int) * (x * (c : Int) / (W : Int)) := by rw [hz]; exact (Int.emod_add_mul_ediv _ _).symm
  generalize x * (c : Int) / (W : Int) = q at ez
  refine ⟨z.toNat, by omega, ?_⟩
  have hlap : (L : Int) * (W : Int) = (M : Int) * (V : Int) := by
    have := h.lap
    rw [← Int.natCast_mul, ← Int.natCast_mul, this]
  have key : ((r % g + L * z.toNat : Nat) : Int) = (r : Int) + (M : Int) * (- (y * (c : Int)) - (V : Int) * q) := by
    have h1 : (L : Int) * (x * (c : Int)) = (g : Int) * (c : Int) - (M : Int) * (y * (c : Int)) := by
      have : ((L : Int) * x + (M : Int) * y) * (c : Int) = (g : Int) * (c : Int) := by rw [e]
      rw [Int.add_mul, Int.mul_assoc, Int.mul_assoc] at this
      omega
    have h2 : (L : Int) * z = (L : Int) * (x * (c : Int)) - (M : Int) * ((V : Int) * q) := by
      rw [ez, Int.mul_add, ← Int.mul_assoc (L : Int) (W : Int) q, hlap, Int.mul_assoc]
      omega
    have h3 : (z.toNat : Int) = z := Int.toNat_of_nonneg z0
    have h4 : (r : Int) = ((r % g : Nat) : Int) + (g : Int) * (c : Int) := by
      rw [← Int.natCast_mul, ← Int.natCast_add, ← er]
    rw [Int.natCast_add, Int.natCast_mul, h3, h2, h1, Int.mul_sub, Int.mul_neg]
    omega
  have := congrArg (fun k : Int => k % (M : Int)) key
  simp only [Int.add_mul_emod_self_left] at this
  rw [← Int.natCast_emod, ← Int.natCast_emod, Nat.mod_eq_of_lt hr] at this
  exact Int.ofNat.inj this
/-- a step whose residue is that of a place lies in the place's lane -/
theorem Ln.lane (h : Ln L M g W V) {l s at_ : Nat} (hl : l < g) (e : (l + L * s) % M = at_ % M) : l = at_ % g := by
  have h1 := congrArg (fun k => k % g) e
  have d1 : g ∣ M := ⟨W, h.eM⟩
  have d2 : g ∣ L * s := ⟨V * s, by rw [h.eL, Nat.mul_assoc]⟩
  simp only [Nat.mod_mod_of_dvd _ d1] at h1
  obtain ⟨k, hk⟩ := d2
  rw [hk, Nat.add_mul_mod_self_left, Nat.mod_eq_of_lt hl] at h1
  exact h1
/-- how many whole laps lie between -/
theorem turns_of {x y M : Nat} (hM : 0 < M) (e : x % M = y % M) : (x : Int) - (y : Int) = (M : Int) * (((x : Int) - (y : Int)) / (M : Int)) := by
  have h1 : ((x : Int) - (y : Int)) % (M : Int) = 0 := by
    rw [Int.emod_eq_emod_iff_emod_sub_eq_zero.symm]
    rw [← Int.natCast_emod, ← Int.natCast_emod, e]
  have := Int.emod_add_mul_ediv ((x : Int) - (y : Int)) (M : Int)
  omega
end
/-- a row of a lane: the other walk at each step, less what the first one climbs -/
def rowR (B : List Int) (b : Int) (L : Nat) (a : Int) (lane s : Nat) : Int := walk B b (lane + L * s) - (s : Int) * a
/-- how far the first walk leads -/
def leadD (A : List Int) (a : Int) (B : List Int) (b : Int) (k : Nat) : Int := walk A a k - walk B b k
section
variable {A B : List Int} {a b : Int} {g W V : Nat}
theorem walk_int {l : List Int} {r : Int} (hl : 0 < l.length) {x y : Nat} {t : Int} (e : (x : Int) - (y : Int) = (l.length : Int) * t) : walk l r x = walk l r y + r * t := by
  by_cases h : 0 ≤ t
  · obtain ⟨n, rfl⟩ := Int.eq_ofNat_of_zero_le h
    rw [← walk_add_mul hl]
    congr 1
    have : ((y + l.length * n : Nat) : Int) = (x : Int) := by rw [Int.natCast_add, Int.natCast_mul]; omega
    omega
  · obtain ⟨n, hn⟩ := Int.eq_ofNat_of_zero_le (show 0 ≤ -t by omega)
    have et : t = -(n : Int) := by omega
    have := walk_add_mul (r := r) hl x n
    have e2 : x + l.length * n = y := by
      have : ((x + l.length * n : Nat) : Int) = (y : Int) := by
        rw [Int.natCast_add, Int.natCast_mul]
        rw [et, Int.mul_neg] at e
        omega
      omega
    rw [e2] at this
    rw [this, et, Int.mul_neg]
    omega
theorem rowR_per (h : Ln A.length B.length g W V) (lane s : Nat) : rowR B b A.length a lane (s + W) = rowR B b A.length a lane s - (a * (W : Int) - b * (V : Int)) := by
  unfold rowR
  have e : lane + A.length * (s + W) = lane + A.length * s + B.length * V := by rw [Nat.mul_add, h.lap]; omega
  rw [e, walk_add_mul h.m0, Int.natCast_add, Int.add_mul, Int.mul_comm (W : Int) a]
  omega
theorem drift_is (h : Ln A.length B.length g W V) : (a * (B.length : Int) - b * (A.length : Int)) / (g : Int) = a * (W : Int) - b * (V : Int) := by
  have e : a * (B.length : Int) - b * (A.length : Int) = (g : Int) * (a * (W : Int) - b * (V : Int)) := by
    rw [h.eM, h.eL, Int.natCast_mul, Int.natCast_mul, Int.mul_sub, Int.mul_left_comm, Int.mul_left_comm b]
  rw [e]
  exact Int.mul_ediv_cancel_left _ (by have := h.g0; omega)
/-- the lead at a step of a runner -/
theorem lead_at (h : Ln A.length B.length g W V) {at_ lane step s : Nat} {t : Int} (ha : at_ < A.length) (ht : ((lane + A.length * step : Nat) : Int) - (at_ : Int) = (B.length : Int) * t) :
    leadD A a B b (at_ + A.length * s) = (A.getD at_ 0 - (step : Int) * a + t * b) - rowR B b A.length a lane (step + s) := by
  unfold leadD rowR
  rw [walk_add_mul h.l0, walk_lt ha]
  have e : ((lane + A.length * (step + s) : Nat) : Int) - ((at_ + A.length * s : Nat) : Int) = (B.length : Int) * t := by
    rw [← ht, Nat.mul_add]
    omega
  have e2 := walk_int (r := b) h.m0 e
  rw [e2, Int.natCast_add, Int.add_mul, Int.mul_comm (s : Int) a, Int.mul_comm t b]
  omega
end
/-! ### the first step under a limit of a row that repeats with a drift -/
section
variable {f : Nat → Int} {W : Nat} {dr lim v : Int} {i : Nat}
theorem per_drift (hp : ∀ s, f (s + W) = f s - dr) (s : Nat) : ∀ u, f (s + W * u) = f s - dr * (u : Int)
  | 0 => by simp
  | u + 1 => by
    rw [Nat.mul_succ, ← Nat.add_assoc, hp, per_drift hp s u, Int.natCast_add, Int.mul_add]
    omega
theorem first_ex (lo : IsLo f i W v) (h : v < lim) : ∃ t, First f lim i t ∧ t < i + W := by
  obtain ⟨j, j1, j2, j3⟩ := lo.at_
  obtain ⟨t, ⟨t1, t2⟩, t3, t4⟩ := least_of (p := fun t => i ≤ t ∧ f t < lim) j ⟨j1, by rw [j3]; exact h⟩
  refine ⟨t, ⟨t1, t2, fun k k1 k2 => ?_⟩, by omega⟩
  refine Int.le_of_not_gt fun z => ?_
  have := t4 k ⟨k1, z⟩
  omega
theorem lapOf (hw : 0 < W) (k : Nat) : ∃ o u, k = o + W * u ∧ o < W := ⟨k % W, k / W, (Nat.mod_add_div k W).symm, Nat.mod_lt _ hw⟩
theorem lead_now (F : First f lim i (i + s)) : f (i + s) < lim ∧ ∀ s', s' < s → lim ≤ f (i + s') := ⟨F.at_, fun s' h => F.no _ (by omega) (by omega)⟩
theorem lead_later (hw : 0 < W) (hp : ∀ s, f (s + W) = f s - dr) (lo : IsLo f i W v) (hv : lim ≤ v) (hd : 0 < dr) {t : Nat} {n : Nat} (hn : (n : Int) = (v - lim) / dr + 1) (F : First f (lim + (n : Int) * dr) i (i + t)) (ht : t < W) :
    f (i + (t + W * n)) < lim ∧ ∀ s', s' < t + W * n → lim ≤ f (i + s') := by
  refine ⟨?_, fun s' hs => ?_⟩
  · rw [← Nat.add_assoc, per_drift hp]
    have := F.at_
    rw [Int.mul_comm (n : Int) dr] at this
    omega
  · obtain ⟨o, u, rfl, ho⟩ := lapOf hw s'
    rw [← Nat.add_assoc, per_drift hp]
    by_cases hu : u < n
    · have h1 := lo.le (i + o) (by omega) (by omega)
      have h2 : dr * (u : Int) ≤ dr * ((n : Int) - 1) := Int.mul_le_mul_of_nonneg_left (by omega) (by omega)
      have h3 : dr * ((v - lim) / dr) ≤ v - lim := Int.mul_ediv_self_le (by omega)
      have h4 : (n : Int) - 1 = (v - lim) / dr := by omega
      rw [h4] at h2
      omega
    · have hu2 : u = n := by
        refine Nat.le_antisymm (Nat.le_of_not_lt fun z => ?_) (by omega)
        have : W * (n + 1) ≤ W * u := Nat.mul_le_mul_left _ z
        rw [Nat.mul_succ] at this
        omega
      subst hu2
      have := F.no (i + o) (by omega) (by omega)
      rw [Int.mul_comm (u : Int) dr] at this
      omega
theorem lead_never (hw : 0 < W) (hp : ∀ s, f (s + W) = f s - dr) (lo : IsLo f i W v) (hv : lim ≤ v) (hd : dr ≤ 0) (s' : Nat) : lim ≤ f (i + s') := by
  obtain ⟨o, u, rfl, ho⟩ := lapOf hw s'
  rw [← Nat.add_assoc, per_drift hp]
  have h1 := lo.le (i + o) (by omega) (by omega)
  have h2 : dr * (u : Int) ≤ 0 * (u : Int) := Int.mul_le_mul_of_nonneg_right hd (by omega)
  omega
end
/-! ### all runners together -/
/-- the least number with P, or none -/
def LeastP (P : Nat → Prop) : Option Nat → Prop
  | some s => P s ∧ ∀ s', s' < s → ¬ P s'
  | none => ∀ s, ¬ P s
theorem least_runner {P : Nat → Prop} {L : Nat} (hL : 0 < L) {st : Nat → Option Nat} (h : ∀ at_, at_ < L → LeastP (fun s => P (at_ + L * s)) (st at_)) :
    (∀ r, (∃ at_ s, at_ < L ∧ st at_ = some s ∧ r = at_ + L * s) → (∀ at_ s, at_ < L → st at_ = some s → r ≤ at_ + L * s) → LeastP P (some r)) ∧ ((∀ at_, at_ < L → st at_ = none) → LeastP P none) := by
  refine ⟨fun r ⟨at_, s, h1, h2, h3⟩ hmin => ⟨?_, fun k hk hP => ?_⟩, fun hn k hP => ?_⟩
  · have := h at_ h1
    rw [h2] at this
    rw [h3]
    exact this.1
  · obtain ⟨o, u, rfl, ho⟩ := lapOf hL k
    have := h o ho
    cases e : st o with
    | none =>
      rw [e] at this
      exact this u hP
    | some s2 =>
      rw [e] at this
      have h4 := hmin o s2 ho e
      have h5 : u < s2 := Nat.lt_of_mul_lt_mul_left (a := L) (by omega)
      exact this.2 u h5 hP
  · obtain ⟨o, u, rfl, ho⟩ := lapOf hL k
    have := h o ho
    rw [hn o ho] at this
    exact this u hP
end NT
set_option linter.all false
set_option maxHeartbeats 4000000
/-! The last lead: of a row that repeats with a drift upwards, the last step under a limit. -/
namespace NT
section
variable {f : Nat → Int} {W : Nat} {dr lim v : Int} {i : Nat}
theorem last_ex (lo : IsLo f i W v) (h : v < lim) : ∃ t, Last f lim i (i + W) (i + t) ∧ t < W := by
  obtain ⟨j, j1, j2, j3⟩ := lo.at_
  obtain ⟨m, ⟨m1, m2⟩, _, m4⟩ := least_of (p := fun m => m < W ∧ f (i + (W - 1 - m)) < lim) (W - 1 - (j - i)) ⟨by omega, by
    rw [show i + (W - 1 - (W - 1 - (j - i))) = j by omega, j3]
    exact h⟩
  refine ⟨W - 1 - m, ⟨by omega, by omega, m2, fun k k1 k2 => ?_⟩, by omega⟩
  refine Int.le_of_not_gt fun z => ?_
  have := m4 (W - 1 - (k - i)) ⟨by omega, by
    rw [show i + (W - 1 - (W - 1 - (k - i))) = k by omega]
    exact z⟩
  omega
theorem last_later (hw : 0 < W) (hp : ∀ s, f (s + W) = f s - dr) (lo : IsLo f i W v) (hv : v < lim) (hd : dr < 0) {t n : Nat} (hn : (n : Int) = (lim - v - 1) / -dr) (F : Last f (lim + (n : Int) * dr) i (i + W) (i + t)) :
    f (i + (t + W * n)) < lim ∧ ∀ s', t + W * n < s' → lim ≤ f (i + s') := by
  refine ⟨?_, fun s' hs => ?_⟩
  · rw [← Nat.add_assoc, per_drift hp]
    have := F.at_
    rw [Int.mul_comm (n : Int) dr] at this
    omega
  · obtain ⟨o, u, rfl, ho⟩ := lapOf hw s'
    rw [← Nat.add_assoc, per_drift hp]
    have h1 := lo.le (i + o) (by omega) (by omega)
    by_cases hu : n < u
    · have h2 : -dr * ((n : Int) + 1) ≤ -dr * (u : Int) := Int.mul_le_mul_of_nonneg_left (by omega) (by omega)
      have h3 : lim - v - 1 < -dr * ((lim - v - 1) / -dr) + -dr := Int.lt_mul_ediv_self_add (by omega)
      rw [← hn] at h3
      rw [Int.mul_add, Int.mul_one] at h2
      rw [Int.neg_mul, Int.neg_mul] at h2
      rw [Int.neg_mul] at h3
      omega
    · have hu2 : u = n := by
        refine Nat.le_antisymm (by omega) (Nat.le_of_not_lt fun z => ?_)
        have : W * (u + 1) ≤ W * n := Nat.mul_le_mul_left _ z
        rw [Nat.mul_succ] at this
        have := F.ge
        omega
      subst hu2
      have := F.no (i + o) (by omega) (by omega)
      rw [Int.mul_comm (u : Int) dr] at this
      omega
/-- no step is under the limit -/
theorem last_never (hw : 0 < W) (hp : ∀ s, f (s + W) = f s - dr) (lo : IsLo f i W v) (hv : lim ≤ v) (hd : dr ≤ 0) (s' : Nat) : lim ≤ f (i + s') := lead_never hw hp lo hv hd s'
end
/-- the greatest number with P, or none -/
def GreatP (P : Nat → Prop) : Option Nat → Prop
  | some s => P s ∧ ∀ s', s < s' → ¬ P s'
  | none => ∀ s, ¬ P s
theorem great_runner {P : Nat → Prop} {L : Nat} (hL : 0 < L) {st : Nat → Option Nat} (h : ∀ at_, at_ < L → GreatP (fun s => P (at_ + L * s)) (st at_)) :
    (∀ r, (∃ at_ s, at_ < L ∧ st at_ = some s ∧ r = at_ + L * s) → (∀ at_ s, at_ < L → st at_ = some s → at_ + L * s ≤ r) → GreatP P (some r)) ∧ ((∀ at_, at_ < L → st at_ = none) → GreatP P none) := by
  refine ⟨fun r ⟨at_, s, h1, h2, h3⟩ hmax => ⟨?_, fun k hk hP => ?_⟩, fun hn k hP => ?_⟩
  · have := h at_ h1
    rw [h2] at this
    rw [h3]
    exact this.1
  · obtain ⟨o, u, rfl, ho⟩ := lapOf hL k
    have := h o ho
    cases e : st o with
    | none =>
      rw [e] at this
      exact this u hP
    | some s2 =>
      rw [e] at this
      have h4 := hmax o s2 ho e
      have h5 : s2 < u := Nat.lt_of_mul_lt_mul_left (a := L) (by omega)
      exact this.2 u h5 hP
  · obtain ⟨o, u, rfl, ho⟩ := lapOf hL k
    have := h o ho
    rw [hn o ho] at this
    exact this u hP
end NT
set_option linter.all false
set_option maxHeartbeats 4000000
/-! The least and the greatest place with a lead, gathered from the runners' own. Plain Lean. -/
namespace NT
theorem first_all {P : Nat → Prop} {L st : Nat} (hL : 0 < L) {ps : List Int} (h1 : ∀ y ∈ ps, ∃ o s, o < L ∧ P (o + L * s) ∧ y = ((st + 1 + (o + L * s) : Nat) : Int)) (h2 : ∀ o, o < L → (∀ s, ¬ P (o + L * s)) ∨ ∃ s, (∀ s', s' < s → ¬ P (o + L * s')) ∧ ((st + 1 + (o + L * s) : Nat) : Int) ∈ ps) :
    (ps = [] → LeastP P none) ∧ ∀ m ∈ ps, (∀ y ∈ ps, m ≤ y) → ∃ s, LeastP P (some s) ∧ m = ((st + 1 + s : Nat) : Int) := by
  refine ⟨fun e k hP => ?_, fun m hm hmin => ?_⟩
  · obtain ⟨o, u, rfl, ho⟩ := lapOf hL k
    rcases h2 o ho with h | ⟨s, _, h⟩
    · exact h u hP
    · rw [e] at h
      cases h
  · obtain ⟨o, s, ho, hP, rfl⟩ := h1 m hm
    refine ⟨_, ⟨hP, fun k hk hk2 => ?_⟩, rfl⟩
    obtain ⟨o2, u, rfl, ho2⟩ := lapOf hL k
    rcases h2 o2 ho2 with h | ⟨s2, h3, h4⟩
    · exact h u hk2
    · have h5 := hmin _ h4
      refine h3 u (Nat.lt_of_mul_lt_mul_left (a := L) ?_) hk2
      omega
theorem last_all {P : Nat → Prop} {L st : Nat} (hL : 0 < L) {ps : List Int} (h1 : ∀ y ∈ ps, ∃ o s, o < L ∧ P (o + L * s) ∧ y = ((st + 1 + (o + L * s) : Nat) : Int)) (h2 : ∀ o, o < L → (∀ s, ¬ P (o + L * s)) ∨ ∃ s, (∀ s', s < s' → ¬ P (o + L * s')) ∧ ((st + 1 + (o + L * s) : Nat) : Int) ∈ ps) :
    (ps = [] → GreatP P none) ∧ ∀ m ∈ ps, (∀ y ∈ ps, y ≤ m) → ∃ s, GreatP P (some s) ∧ m = ((st + 1 + s : Nat) : Int) := by
  refine ⟨fun e k hP => ?_, fun m hm hmin => ?_⟩
  · obtain ⟨o, u, rfl, ho⟩ := lapOf hL k
    rcases h2 o ho with h | ⟨s, _, h⟩
    · exact h u hP
    · rw [e] at h
      cases h
  · obtain ⟨o, s, ho, hP, rfl⟩ := h1 m hm
    refine ⟨_, ⟨hP, fun k hk hk2 => ?_⟩, rfl⟩
    obtain ⟨o2, u, rfl, ho2⟩ := lapOf hL k
    rcases h2 o2 ho2 with h | ⟨s2, h3, h4⟩
    · exact h u hk2
    · have h5 := hmin _ h4
      refine h3 u (Nat.lt_of_mul_lt_mul_left (a := L) ?_) hk2
      omega
/-- what the runners so far have: their own best steps -/
structure Got (R : Nat → Nat → Prop) (P : Nat → Prop) (L st j : Nat) (ps : List Int) : Prop where
  len : ps.length ≤ j
  some : ∀ y ∈ ps, ∃ o s, o < j ∧ P (o + L * s) ∧ y = ((st + 1 + (o + L * s) : Nat) : Int)
  all : ∀ o, o < j → (∀ s, ¬ P (o + L * s)) ∨ ∃ s, (∀ s', R s' s → ¬ P (o + L * s')) ∧ ((st + 1 + (o + L * s) : Nat) : Int) ∈ ps
section
variable {R : Nat → Nat → Prop} {P : Nat → Prop} {L st j : Nat} {ps : List Int}
theorem Got.nil : Got R P L st 0 [] := ⟨Nat.le_refl _, (fun y hy => nomatch hy), fun o ho => absurd ho (Nat.not_lt_zero _)⟩
theorem Got.skip (h : Got R P L st j ps) (n : ∀ s, ¬ P (j + L * s)) : Got R P L st (j + 1) ps := by
  refine ⟨by have := h.len; omega, fun y hy => ?_, fun o ho => ?_⟩
  · obtain ⟨o, s, h1, h2⟩ := h.some y hy
    exact ⟨o, s, by omega, h2⟩
  · by_cases c : o < j
    · exact h.all o c
    · rw [show o = j by omega]
      exact .inl n
theorem Got.add (h : Got R P L st j ps) {s : Nat} {y : Int} (hP : P (j + L * s)) (n : ∀ s', R s' s → ¬ P (j + L * s')) (e : y = ((st + 1 + (j + L * s) : Nat) : Int)) : Got R P L st (j + 1) (ps ++ [y]) := by
  subst e
  refine ⟨by rw [List.length_append]; exact Nat.succ_le_succ h.len, fun y hy => ?_, fun o ho => ?_⟩
  · rcases List.mem_append.mp hy with hy | hy
    · obtain ⟨o, s, h1, h2⟩ := h.some y hy
      exact ⟨o, s, by omega, h2⟩
    · rw [List.mem_singleton.mp hy]
      exact ⟨j, s, by omega, hP, rfl⟩
  · by_cases c : o < j
    · rcases h.all o c with h | ⟨s2, h1, h2⟩
      · exact .inl h
      · exact .inr ⟨s2, h1, List.mem_append.mpr (.inl h2)⟩
    · rw [show o = j by omega]
      exact .inr ⟨s, n, List.mem_append.mpr (.inr (List.mem_singleton.mpr rfl))⟩
end
end NT
set_option linter.all false
set_option maxHeartbeats 4000000
/-! The greater and the lesser one of two rows of values, never on top. Plain Lean. -/
namespace NT
/-- the greater, or the lesser, of two -/
def cho (g : Bool) (x y : Int) : Int := if g then (if x < y then y else x) else (if x < y then x else y)
def chO : Bool → Option Int → Option Int → Option Int
  | true, some x, some y => some (cho true x y)
  | true, _, _ => none
  | false, some x, some y => some (cho false x y)
  | false, some x, none => some x
  | false, none, o => o
def leO (a b : Option Int) : Prop := b = none ∨ ∃ x y, a = some x ∧ b = some y ∧ x ≤ y
theorem leO.refl (a : Option Int) : leO a a := by
  cases a with
  | none => exact .inl rfl
  | some x => exact .inr ⟨x, x, rfl, rfl, Int.le_refl _⟩
theorem leO.trans {a b c : Option Int} (h : leO a b) (k : leO b c) : leO a c := by
  rcases k with rfl | ⟨x, y, rfl, rfl, k⟩
  · exact .inl rfl
  · rcases h with h | ⟨u, v, rfl, e, h⟩
    · cases h
    · injection e with e
      exact .inr ⟨u, y, rfl, rfl, by omega⟩
theorem leO.total (a b : Option Int) : leO a b ∨ leO b a := by
  cases b with
  | none => exact .inl (.inl rfl)
  | some y =>
    cases a with
    | none => exact .inr (.inl rfl)
    | some x =>
      rcases Int.le_total x y with h | h
      · exact .inl (.inr ⟨x, y, rfl, rfl, h⟩)
      · exact .inr (.inr ⟨y, x, rfl, rfl, h⟩)
theorem cho_le {x y : Int} (h : x ≤ y) : cho true x y = y ∧ cho false x y = x := by
  show (if x < y then y else x) = y ∧ (if x < y then x else y) = x
  split <;> exact ⟨by omega, by omega⟩
theorem cho_comm (g : Bool) (x y : Int) : cho g x y = cho g y x := by
  cases g
  · show (if x < y then x else y) = (if y < x then y else x)
    split <;> split <;> omega
  · show (if x < y then y else x) = (if y < x then x else y)
    split <;> split <;> omega
theorem chO_le {a b : Option Int} (h : leO a b) : chO true a b = b ∧ chO false a b = a := by
  rcases h with rfl | ⟨x, y, rfl, rfl, h⟩
  · cases a <;> exact ⟨rfl, rfl⟩
  · exact ⟨congrArg some (cho_le h).1, congrArg some (cho_le h).2⟩
theorem chO_comm (g : Bool) (a b : Option Int) : chO g a b = chO g b a := by
  cases g <;> cases a <;> cases b <;> first | rfl | exact congrArg some (cho_comm ..)
theorem chO_ge {a b : Option Int} (h : leO b a) : chO true a b = a ∧ chO false a b = b := by
  rw [chO_comm, chO_comm false]
  exact chO_le h
theorem chO_some {g : Bool} {x y : Int} : chO g (some x) (some y) = some (cho g x y) := by cases g <;> rfl
theorem cho_add {g : Bool} {x y c : Int} : cho g (x + c) (y + c) = cho g x y + c := by
  cases g
  · show (if x + c < y + c then x + c else y + c) = (if x < y then x else y) + c
    split <;> split <;> omega
  · show (if x + c < y + c then y + c else x + c) = (if x < y then y else x) + c
    split <;> split <;> omega
theorem asc_cho {F G : Nat → Option Int} (A : Asc F) (B : Asc G) (g : Bool) : Asc fun n => chO g (F n) (G n) := by
  have lw : ∀ {x y : Int}, cho true x y = x ∧ y ≤ x ∧ cho false x y = y ∨ cho true x y = y ∧ x ≤ y ∧ cho false x y = x := fun {x y} => by
    rcases Int.le_total x y with h | h
    · exact .inr ⟨(cho_le h).1, h, (cho_le h).2⟩
    · have := cho_le h
      rw [cho_comm true, cho_comm false]
      exact .inl ⟨this.1, h, this.2⟩
  refine ⟨fun n v hn e => ?_, fun n v hn e => ?_⟩
  · cases ef : F n with
    | none =>
      rw [ef] at e
      cases eg : G n with
      | none => rw [eg] at e; cases g <;> cases e
      | some y =>
        rw [eg] at e
        cases g
        · injection e with e
          exact e ▸ B.ge n y hn eg
        · cases e
    | some x =>
      rw [ef] at e
      have x0 := A.ge n x hn ef
      cases eg : G n with
      | none =>
        rw [eg] at e
        cases g
        · injection e with e
          omega
        · cases e
      | some y =>
        rw [eg, chO_some] at e
        injection e with e
        have y0 := B.ge n y hn eg
        cases g <;> rcases @lw x y with ⟨h1, _, h2⟩ | ⟨h1, _, h2⟩ <;> omega
  · have up := fun (u : Int) (h : F (n + 1) = some u) => A.up n u hn h
    have vp := fun (u : Int) (h : G (n + 1) = some u) => B.up n u hn h
    show ∃ u, chO g (F n) (G n) = some u ∧ u ≤ v
    have e : chO g (F (n + 1)) (G (n + 1)) = some v := e
    cases ef : F (n + 1) with
    | none =>
      rw [ef] at e
      cases eg : G (n + 1) with
      | none => rw [eg] at e; cases g <;> cases e
      | some y =>
        rw [eg] at e
        obtain ⟨w, hw, le⟩ := vp y eg
        rw [hw]
        cases g
        · injection e with e
          subst e
          cases F n with
          | none => exact ⟨w, rfl, le⟩
          | some z =>
            refine ⟨_, rfl, ?_⟩
            rcases @lw z w with ⟨h1, _, h2⟩ | ⟨h1, _, h2⟩ <;> omega
        · cases e
    | some x =>
      rw [ef] at e
      obtain ⟨u, hu, lx⟩ := up x ef
      rw [hu]
      cases eg : G (n + 1) with
      | none =>
        rw [eg] at e
        cases g
        · injection e with e
          subst e
          cases G n with
          | none => exact ⟨u, rfl, lx⟩
          | some z =>
            refine ⟨_, rfl, ?_⟩
            rcases @lw u z with ⟨h1, _, h2⟩ | ⟨h1, _, h2⟩ <;> omega
        · cases e
      | some y =>
        rw [eg, chO_some] at e
        obtain ⟨w, hw, ly⟩ := vp y eg
        rw [hw, chO_some]
        injection e with e
        subst e
        refine ⟨_, rfl, ?_⟩
        cases g <;> rcases @lw x y with ⟨h1, _, h2⟩ | ⟨h1, _, h2⟩ <;> rcases @lw u w with ⟨k1, _, k2⟩ | ⟨k1, _, k2⟩ <;> omega
/-- behind N one of two rows is nowhere above the other one, or they go side by side -/
def Dom (F G : Nat → Option Int) (N : Nat) : Prop := (∀ n, N < n → leO (F n) (G n)) ∨ (∀ n, N < n → leO (G n) (F n)) ∨
  ∃ (m : Nat) (c : Int), 0 < m ∧ ∀ n, N < n → ∃ u v, F n = some u ∧ G n = some v ∧ F (n + m) = some (u + c) ∧ G (n + m) = some (v + c)
theorem Dom.symm {F G : Nat → Option Int} {N : Nat} (h : Dom F G N) : Dom G F N := by
  rcases h with h | h | ⟨m, c, hm, h⟩
  · exact .inr (.inl h)
  · exact .inl h
  · exact .inr (.inr ⟨m, c, hm, fun n hn => by obtain ⟨u, v, a, b, d, e⟩ := h n hn; exact ⟨v, u, b, a, e, d⟩⟩)
theorem Dom.self (F : Nat → Option Int) (N : Nat) : Dom F F N := .inl fun n _ => leO.refl _
theorem Dom.congr {F G F' : Nat → Option Int} {N : Nat} (h : Dom F G N) (e : ∀ n, N < n → F' n = F n) : Dom F' G N := by
  rcases h with h | h | ⟨m, c, hm, h⟩
  · exact .inl fun n hn => by rw [e n hn]; exact h n hn
  · exact .inr (.inl fun n hn => by rw [e n hn]; exact h n hn)
  · exact .inr (.inr ⟨m, c, hm, fun n hn => by rw [e n hn, e (n + m) (by omega)]; exact h n hn⟩)
theorem par_mul {F : Nat → Option Int} {N m : Nat} {c : Int} (h : ∀ n, N < n → ∃ u, F n = some u ∧ F (n + m) = some (u + c)) (j : Nat) : ∀ n, N < n → ∃ u, F n = some u ∧ F (n + m * j) = some (u + c * (j : Int)) := by
  induction j with
  | zero =>
    intro n hn
    obtain ⟨u, a, _⟩ := h n hn
    exact ⟨u, a, by simpa using a⟩
  | succ j ih =>
    intro n hn
    obtain ⟨u, a, b⟩ := ih n hn
    obtain ⟨v, a2, b2⟩ := h (n + m * j) (by omega)
    rw [b] at a2
    injection a2 with a2
    refine ⟨u, a, ?_⟩
    rw [Nat.mul_succ, ← Nat.add_assoc, b2, ← a2, Int.natCast_succ, Int.mul_add]
    congr 1
    omega
/-- side by side with one that goes side by side with a third one -/
theorem par_three {F G H : Nat → Option Int} {N m m' : Nat} {c c' : Int} (hm : 0 < m) (hm' : 0 < m') (h : ∀ n, N < n → ∃ u v, F n = some u ∧ G n = some v ∧ F (n + m) = some (u + c) ∧ G (n + m) = some (v + c)) (h' : ∀ n, N < n → ∃ u v, G n = some u ∧ H n = some v ∧ G (n + m') = some (u + c') ∧ H (n + m') = some (v + c')) :
    ∃ (k : Nat) (d : Int), 0 < k ∧ ∀ n, N < n → ∃ u v w, F n = some u ∧ G n = some v ∧ H n = some w ∧ F (n + k) = some (u + d) ∧ G (n + k) = some (v + d) ∧ H (n + k) = some (w + d) := by
  have pF := par_mul (F := F) (N := N) (m := m) (c := c) (fun n hn => by obtain ⟨u, v, a, b, x, y⟩ := h n hn; exact ⟨u, a, x⟩) m'
  have pG := par_mul (F := G) (N := N) (m := m) (c := c) (fun n hn => by obtain ⟨u, v, a, b, x, y⟩ := h n hn; exact ⟨v, b, y⟩) m'
  have pG' := par_mul (F := G) (N := N) (m := m') (c := c') (fun n hn => by obtain ⟨u, v, a, b, x, y⟩ := h' n hn; exact ⟨u, a, x⟩) m
  have pH := par_mul (F := H) (N := N) (m := m') (c := c') (fun n hn => by obtain ⟨u, v, a, b, x, y⟩ := h' n hn; exact ⟨v, b, y⟩) m
  refine ⟨m * m', c * (m' : Int), Nat.mul_pos hm hm', fun n hn => ?_⟩
  obtain ⟨u, a1, a2⟩ := pF n hn
  obtain ⟨v, b1, b2⟩ := pG n hn
  obtain ⟨v', b1', b2'⟩ := pG' n hn
  obtain ⟨w, d1, d2⟩ := pH n hn
  rw [b1] at b1'
  injection b1' with b1'
  subst b1'
  rw [Nat.mul_comm m' m] at b2' d2
  rw [b2] at b2'
  injection b2' with b2'
  have e : c' * (m : Int) = c * (m' : Int) := by omega
  rw [e] at d2
  exact ⟨u, v, w, a1, b1, d1, a2, b2, d2⟩
theorem dom_cho {F G H : Nat → Option Int} {N : Nat} (g : Bool) (fg : Dom F G N) (fh : Dom F H N) (gh : Dom G H N) : Dom (fun n => chO g (F n) (G n)) H N := by
  rcases fg with h | h | ⟨m, c, hm, h⟩
  · cases g
    · exact fh.congr fun n hn => (chO_le (h n hn)).2
    · exact gh.congr fun n hn => (chO_le (h n hn)).1
  · cases g
    · exact gh.congr fun n hn => (chO_ge (h n hn)).2
    · exact fh.congr fun n hn => (chO_ge (h n hn)).1
  · -- side by side
    have side : ∀ {m' : Nat} {c' : Int}, 0 < m' → (∀ n, N < n → ∃ u v, G n = some u ∧ H n = some v ∧ G (n + m') = some (u + c') ∧ H (n + m') = some (v + c')) → Dom (fun n => chO g (F n) (G n)) H N := fun {m' c'} hm' h' => by
      obtain ⟨k, d, hk, p⟩ := par_three hm hm' h h'
      refine .inr (.inr ⟨k, d, hk, fun n hn => ?_⟩)
      obtain ⟨u, v, w, a1, a2, a3, b1, b2, b3⟩ := p n hn
      refine ⟨cho g u v, w, ?_, a3, ?_, b3⟩
      · show chO g (F n) (G n) = _
        rw [a1, a2, chO_some]
      · show chO g (F (n + k)) (G (n + k)) = _
        rw [b1, b2, chO_some, cho_add]
    have side2 : ∀ {m' : Nat} {c' : Int}, 0 < m' → (∀ n, N < n → ∃ u v, F n = some u ∧ H n = some v ∧ F (n + m') = some (u + c') ∧ H (n + m') = some (v + c')) → Dom (fun n => chO g (F n) (G n)) H N := fun {m' c'} hm' h' => by
      obtain ⟨k, d, hk, p⟩ := par_three (F := G) (G := F) hm hm' (fun n hn => by obtain ⟨u, v, a, b, x, y⟩ := h n hn; exact ⟨v, u, b, a, y, x⟩) h'
      refine .inr (.inr ⟨k, d, hk, fun n hn => ?_⟩)
      obtain ⟨u, v, w, a1, a2, a3, b1, b2, b3⟩ := p n hn
      refine ⟨cho g v u, w, ?_, a3, ?_, b3⟩
      · show chO g (F n) (G n) = _
        rw [a1, a2, chO_some]
      · show chO g (F (n + k)) (G (n + k)) = _
        rw [b1, b2, chO_some, cho_add]
    rcases gh with gh | gh | ⟨m', c', hm', gh⟩
    · rcases fh with fh | fh | ⟨m', c', hm', fh⟩
      · -- both below H
        refine .inl fun n hn => ?_
        show leO (chO _ (F n) (G n)) (H n)
        rcases leO.total (F n) (G n) with q | q
        · cases g
          · rw [(chO_le q).2]; exact fh n hn
          · rw [(chO_le q).1]; exact gh n hn
        · cases g
          · rw [(chO_ge q).2]; exact gh n hn
          · rw [(chO_ge q).1]; exact fh n hn
      · cases g
        · -- the lesser one is below H
          refine .inl fun n hn => ?_
          show leO (chO _ (F n) (G n)) (H n)
          rcases leO.total (F n) (G n) with q | q
          · rw [(chO_le q).2]; exact q.trans (gh n hn)
          · rw [(chO_ge q).2]; exact gh n hn
        · refine .inr (.inl fun n hn => ?_)
          show leO (H n) (chO _ (F n) (G n))
          rcases leO.total (F n) (G n) with q | q
          · rw [(chO_le q).1]; exact (fh n hn).trans q
          · rw [(chO_ge q).1]; exact fh n hn
      · exact side2 hm' fh
    · rcases fh with fh | fh | ⟨m', c', hm', fh⟩
      · cases g
        · refine .inl fun n hn => ?_
          show leO (chO _ (F n) (G n)) (H n)
          rcases leO.total (F n) (G n) with q | q
          · rw [(chO_le q).2]; exact fh n hn
          · rw [(chO_ge q).2]; exact q.trans (fh n hn)
        · refine .inr (.inl fun n hn => ?_)
          show leO (H n) (chO _ (F n) (G n))
          rcases leO.total (F n) (G n) with q | q
          · rw [(chO_le q).1]; exact gh n hn
          · rw [(chO_ge q).1]; exact (gh n hn).trans q
      · refine .inr (.inl fun n hn => ?_)
        show leO (H n) (chO _ (F n) (G n))
        rcases leO.total (F n) (G n) with q | q
        · cases g
          · rw [(chO_le q).2]; exact fh n hn
          · rw [(chO_le q).1]; exact gh n hn
        · cases g
          · rw [(chO_ge q).2]; exact gh n hn
          · rw [(chO_ge q).1]; exact fh n hn
      · exact side2 hm' fh
    · exact side hm' gh
end NT
set_option linter.all false
set_option maxHeartbeats 4000000
/-! Which of two loops climbs faster; the tellings of the greater and of the lesser one. Plain Lean. -/
namespace NT
/-- the shared rest of two ways -/
theorem shr {X R : Prop} (h1 : R → X) (h2 : R) : X := h1 h2
section
variable {h l h1 l1 h2 l2 : List Int} {r r1 r2 : Int}
theorem num_walk (hl : l ≠ []) {n : Nat} (hn : h.length < n) : num h l r n = walk l r (n - h.length - 1) := by
  unfold num
  rw [at_loop hl hn]
  rfl
theorem num_per (hl : l ≠ []) {n : Nat} (hn : h.length < n) (j : Nat) : num h l r (n + l.length * j) = num h l r n + r * (j : Int) := by
  rw [num_walk hl hn, num_walk hl (by omega), show n + l.length * j - h.length - 1 = (n - h.length - 1) + l.length * j by omega, walk_add_mul (len_pos hl)]
theorem walk_seg (hl : l ≠ []) {st : Nat} (hs : h.length ≤ st) (s : Nat) : walk (segN (at_ h l r) st l.length) r s = num h l r (st + 1 + s) := by
  have l0 := len_pos hl
  have e : st + 1 + s = (st + s % l.length + 1) + l.length * (s / l.length) := by
    have := Nat.mod_add_div s l.length
    omega
  rw [e, num_per hl (by omega)]
  unfold walk
  rw [segN_len, segN_get (Nat.mod_lt _ l0)]
  rfl
theorem leO_num (n1 : l1 ≠ []) (n2 : l2 ≠ []) (n : Nat) : leO (at_ h1 l1 r1 n) (at_ h2 l2 r2 n) ↔ num h1 l1 r1 n ≤ num h2 l2 r2 n := by
  rw [at_some n (.inr n1), at_some n (.inr n2)]
  constructor
  · intro h
    rcases h with h | ⟨x, y, e1, e2, h⟩
    · cases h
    · injection e1 with e1
      injection e2 with e2
      omega
  · intro h
    exact .inr ⟨_, _, rfl, rfl, h⟩
theorem two_laps (n1 : l1 ≠ []) (n2 : l2 ≠ []) {n : Nat} (b1 : h1.length < n) (b2 : h2.length < n) (t : Nat) :
    num h1 l1 r1 (n + l1.length * l2.length * t) - num h2 l2 r2 (n + l1.length * l2.length * t) = num h1 l1 r1 n - num h2 l2 r2 n + (r1 * (l2.length : Int) - r2 * (l1.length : Int)) * (t : Int) := by
  have e1 := num_per (h := h1) (r := r1) n1 b1 (l2.length * t)
  have e2 := num_per (h := h2) (r := r2) n2 b2 (l1.length * t)
  rw [← Nat.mul_assoc] at e1 e2
  rw [Nat.mul_comm l2.length l1.length] at e2
  rw [e1, e2, Int.natCast_mul, Int.natCast_mul, ← Int.mul_assoc, ← Int.mul_assoc, Int.sub_mul]
  omega
theorem dom_drift (n1 : l1 ≠ []) (n2 : l2 ≠ []) {N : Nat} (b1 : h1.length ≤ N) (b2 : h2.length ≤ N) (d : Dom (at_ h1 l1 r1) (at_ h2 l2 r2) N) (hd : 0 < r1 * (l2.length : Int) - r2 * (l1.length : Int)) {n : Nat} (hn : N < n) : num h2 l2 r2 n ≤ num h1 l1 r1 n := by
  rcases d with d | d | ⟨m, c, hm, d⟩
  · exfalso
    have e := two_laps (h1 := h1) (h2 := h2) (r1 := r1) (r2 := r2) (n := n) n1 n2 (by omega) (by omega) ((num h2 l2 r2 n - num h1 l1 r1 n).toNat + 1)
    have k := (leO_num n1 n2 _).mp (d (n + l1.length * l2.length * ((num h2 l2 r2 n - num h1 l1 r1 n).toNat + 1)) (by omega))
    have k0 := (leO_num n1 n2 _).mp (d n hn)
    generalize r1 * (l2.length : Int) - r2 * (l1.length : Int) = D at e hd
    generalize ht : (num h2 l2 r2 n - num h1 l1 r1 n).toNat + 1 = t at e k
    have h3 : 1 * (t : Int) ≤ D * (t : Int) := Int.mul_le_mul_of_nonneg_right (by omega) (by omega)
    omega
  · exact (leO_num n2 n1 _).mp (d n hn)
  · exfalso
    have p1 := par_mul (F := at_ h1 l1 r1) (N := N) (m := m) (c := c) (fun n hn => by obtain ⟨u, v, a, b, x, y⟩ := d n hn; exact ⟨u, a, x⟩) (l1.length * l2.length) n hn
    have p2 := par_mul (F := at_ h2 l2 r2) (N := N) (m := m) (c := c) (fun n hn => by obtain ⟨u, v, a, b, x, y⟩ := d n hn; exact ⟨v, b, y⟩) (l1.length * l2.length) n hn
    obtain ⟨u, a1, a2⟩ := p1
    obtain ⟨v, c1, c2⟩ := p2
    rw [at_some _ (.inr n1)] at a1 a2
    rw [at_some _ (.inr n2)] at c1 c2
    injection a1 with a1
    injection a2 with a2
    injection c1 with c1
    injection c2 with c2
    have e := two_laps (h1 := h1) (h2 := h2) (r1 := r1) (r2 := r2) (n := n) n1 n2 (by omega) (by omega) m
    rw [show l1.length * l2.length * m = m * (l1.length * l2.length) by rw [Nat.mul_comm]] at e
    generalize r1 * (l2.length : Int) - r2 * (l1.length : Int) = D at e hd
    have h3 : 0 < D * (m : Int) := Int.mul_pos hd (by omega)
    omega
/-! ### tellings of both, of either -/
theorem zip_seg {F G : Nat → Option Int} {g : Bool} {a m : Nat} (hF : ∀ n, a < n → n ≤ a + m → F n ≠ none) (hG : ∀ n, a < n → n ≤ a + m → G n ≠ none) : List.zipWith (cho g) (segN F a m) (segN G a m) = segN (fun n => chO g (F n) (G n)) a m := by
  induction m with
  | zero => rfl
  | succ m ih =>
    rw [segN_succ, segN_succ, segN_succ, List.zipWith_append (by rw [segN_len, segN_len]), ih (fun n h k => hF n h (by omega)) fun n h k => hG n h (by omega)]
    congr 1
    show [cho g (numF F (a + m + 1)) (numF G (a + m + 1))] = [numF (fun n => chO g (F n) (G n)) (a + m + 1)]
    have e : chO g (F (a + m + 1)) (G (a + m + 1)) = some (cho g (numF F (a + m + 1)) (numF G (a + m + 1))) := by
      rw [numF_some (hF (a + m + 1) (by omega) (by omega)), numF_some (hG (a + m + 1) (by omega) (by omega)), chO_some]
    congr 1
    show _ = (chO g (F (a + m + 1)) (G (a + m + 1))).getD 0
    rw [e]
    rfl
/-- a row that goes on as a loop goes on -/
theorem tail_form {F : Nat → Option Int} (A : Asc F) (hl : l ≠ []) {N : Nat} (hN : h.length ≤ N) (s : ∀ n, 1 ≤ n → F n ≠ none) (e : ∀ n, N < n → F n = at_ h l r n) :
    Good (segN F 0 N) (segN (at_ h l r) N l.length) r ∧ ∀ n, 1 ≤ n → at_ (segN F 0 N) (segN (at_ h l r) N l.length) r n = F n := by
  have es : segN (at_ h l r) N l.length = segN F N l.length := by
    unfold segN
    refine List.map_congr_left fun k hk => ?_
    unfold numF
    rw [e (N + k + 1) (by omega)]
  rw [es]
  refine looped A (len_pos hl) s fun n hn => ?_
  unfold numF
  rw [e n hn, e (n + l.length) (by omega)]
  have := num_per (h := h) (r := r) hl (show h.length < n by omega) 1
  rw [Nat.mul_one] at this
  unfold num at this
  rw [this]
  omega
theorem lcm_laps (n1 : l1 ≠ []) (n2 : l2 ≠ []) (e : r1 * (l2.length : Int) = r2 * (l1.length : Int)) {n : Nat} (b1 : h1.length < n) (b2 : h2.length < n) :
    num h1 l1 r1 (n + Nat.lcm l1.length l2.length) = num h1 l1 r1 n + r1 * ((Nat.lcm l1.length l2.length : Nat) : Int) / (l1.length : Int) ∧ num h2 l2 r2 (n + Nat.lcm l1.length l2.length) = num h2 l2 r2 n + r1 * ((Nat.lcm l1.length l2.length : Nat) : Int) / (l1.length : Int) := by
  obtain ⟨p, hp⟩ := Nat.dvd_lcm_left l1.length l2.length
  obtain ⟨q, hq⟩ := Nat.dvd_lcm_right l1.length l2.length
  have l10 := len_pos n1
  have l20 := len_pos n2
  have c1 : r1 * ((Nat.lcm l1.length l2.length : Nat) : Int) / (l1.length : Int) = r1 * (p : Int) := by
    rw [hp, Int.natCast_mul, Int.mul_left_comm]
    exact Int.mul_ediv_cancel_left _ (by omega)
  have c2 : r1 * (p : Int) = r2 * (q : Int) := by
    have h3 : (l1.length : Int) * (p : Int) = (l2.length : Int) * (q : Int) := by rw [← Int.natCast_mul, ← Int.natCast_mul, ← hp, ← hq]
    refine Int.eq_of_mul_eq_mul_left (a := (l1.length : Int)) (by omega) ?_
    calc (l1.length : Int) * (r1 * (p : Int)) = r1 * ((l1.length : Int) * (p : Int)) := Int.mul_left_comm ..
      _ = r1 * ((l2.length : Int) * (q : Int)) := by rw [h3]
      _ = r1 * (l2.length : Int) * (q : Int) := (Int.mul_assoc ..).symm
      _ = r2 * (l1.length : Int) * (q : Int) := by rw [e]
      _ = (l1.length : Int) * (r2 * (q : Int)) := by rw [Int.mul_comm r2, Int.mul_assoc]
  refine ⟨?_, ?_⟩
  · rw [c1, hp, num_per n1 b1]
  · rw [c1, c2]
    conv => lhs; rw [hq]
    rw [num_per n2 b2]
/-- two rows side by side: the lap is the least common one -/
theorem side_form {g : Bool} (g1 : Good h1 l1 r1) (g2 : Good h2 l2 r2) (n1 : l1 ≠ []) (n2 : l2 ≠ []) (e : r1 * (l2.length : Int) = r2 * (l1.length : Int)) {N : Nat} (b1 : h1.length ≤ N) (b2 : h2.length ≤ N) :
    Good (segN (fun n => chO g (at_ h1 l1 r1 n) (at_ h2 l2 r2 n)) 0 N) (segN (fun n => chO g (at_ h1 l1 r1 n) (at_ h2 l2 r2 n)) N (Nat.lcm l1.length l2.length)) (r1 * ((Nat.lcm l1.length l2.length : Nat) : Int) / (l1.length : Int)) ∧
    ∀ n, 1 ≤ n → at_ (segN (fun n => chO g (at_ h1 l1 r1 n) (at_ h2 l2 r2 n)) 0 N) (segN (fun n => chO g (at_ h1 l1 r1 n) (at_ h2 l2 r2 n)) N (Nat.lcm l1.length l2.length)) (r1 * ((Nat.lcm l1.length l2.length : Nat) : Int) / (l1.length : Int)) n = chO g (at_ h1 l1 r1 n) (at_ h2 l2 r2 n) := by
  have A := asc_cho (asc_at g1) (asc_at g2) g
  have eq : ∀ n, chO g (at_ h1 l1 r1 n) (at_ h2 l2 r2 n) = some (cho g (num h1 l1 r1 n) (num h2 l2 r2 n)) := fun n => by rw [at_some n (.inr n1), at_some n (.inr n2), chO_some]
  refine looped A (Nat.lcm_pos (len_pos n1) (len_pos n2)) (fun n _ => by show chO g _ _ ≠ none; rw [eq]; exact fun z => by cases z) fun n hn => ?_
  unfold numF
  dsimp only
  rw [eq, eq]
  obtain ⟨x1, x2⟩ := lcm_laps (h1 := h1) (h2 := h2) n1 n2 e (n := n) (by omega) (by omega)
  show cho g _ _ = cho g _ _ + _
  rw [x1, x2, cho_add]
end
end NT
set_option linter.all false
set_option maxHeartbeats 4000000
/-! The greater and the lesser one: what both do together. Plain Lean. -/
namespace NT
theorem chO_idem (g : Bool) (a : Option Int) : chO g a a = a := by
  cases g
  · exact (chO_le (leO.refl a)).2
  · exact (chO_le (leO.refl a)).1
theorem leO_max {a b c : Option Int} : leO (chO true a b) c ↔ leO a c ∧ leO b c := by
  rcases leO.total a b with h | h
  · rw [(chO_le h).1]
    exact ⟨fun k => ⟨h.trans k, k⟩, fun k => k.2⟩
  · rw [(chO_ge h).1]
    exact ⟨fun k => ⟨k, h.trans k⟩, fun k => k.1⟩
theorem leO_min {a b c : Option Int} : leO c (chO false a b) ↔ leO c a ∧ leO c b := by
  rcases leO.total a b with h | h
  · rw [(chO_le h).2]
    exact ⟨fun k => ⟨k, k.trans h⟩, fun k => k.1⟩
  · rw [(chO_ge h).2]
    exact ⟨fun k => ⟨k.trans h, k⟩, fun k => k.2⟩
theorem leO.anti {a b : Option Int} (h : leO a b) (k : leO b a) : a = b := by
  rcases h with rfl | ⟨x, y, rfl, rfl, h⟩
  · rcases k with k | ⟨_, _, k, _⟩
    · exact k
    · cases k
  · rcases k with k | ⟨u, v, e1, e2, k⟩
    · cases k
    · injection e1 with e1
      injection e2 with e2
      congr 1
      omega
theorem up_eq {a b : Option Int} (h : ∀ c, leO a c ↔ leO b c) : a = b := ((h b).mpr (leO.refl b)).anti ((h a).mp (leO.refl a))
theorem dn_eq {a b : Option Int} (h : ∀ c, leO c a ↔ leO c b) : a = b := ((h a).mp (leO.refl a)).anti ((h b).mpr (leO.refl b))
theorem chO_assoc (g : Bool) (a b c : Option Int) : chO g (chO g a b) c = chO g a (chO g b c) := by
  cases g
  · exact dn_eq fun d => by rw [leO_min, leO_min, leO_min, leO_min, and_assoc]
  · exact up_eq fun d => by rw [leO_max, leO_max, leO_max, leO_max, and_assoc]
theorem chO_absorb (g : Bool) (a b : Option Int) : chO g a (chO (!g) a b) = a := by
  rcases leO.total a b with h | h <;> cases g
  · show chO false a (chO true a b) = a
    rw [(chO_le h).1, (chO_le h).2]
  · show chO true a (chO false a b) = a
    rw [(chO_le h).2, chO_idem]
  · show chO false a (chO true a b) = a
    rw [(chO_ge h).1, chO_idem]
  · show chO true a (chO false a b) = a
    rw [(chO_ge h).2, (chO_ge h).1]
theorem chO_distr (g : Bool) (a b c : Option Int) : chO g a (chO (!g) b c) = chO (!g) (chO g a b) (chO g a c) := by
  have mono : ∀ {g : Bool} {x y : Option Int}, leO x y → leO (chO g a x) (chO g a y) := fun {g x y} h => by
    cases g
    · exact leO_min.mpr ⟨(leO_min.mp (leO.refl _)).1, (leO_min.mp (leO.refl _)).2.trans h⟩
    · exact leO_max.mpr ⟨(leO_max.mp (leO.refl _)).1, h.trans (leO_max.mp (leO.refl _)).2⟩
  rcases leO.total b c with h | h <;> cases g
  · show chO false a (chO true b c) = chO true (chO false a b) (chO false a c)
    rw [(chO_le h).1, (chO_le (mono h)).1]
  · show chO true a (chO false b c) = chO false (chO true a b) (chO true a c)
    rw [(chO_le h).2, (chO_le (mono h)).2]
  · show chO false a (chO true b c) = chO true (chO false a b) (chO false a c)
    rw [(chO_ge h).1, (chO_ge (mono h)).1]
  · show chO true a (chO false b c) = chO false (chO true a b) (chO true a c)
    rw [(chO_ge h).2, (chO_ge (mono h)).2]
theorem low_arith {Ls Lf rs rf As Af vs vf n : Int} (h1 : Ls = 1 ∨ Ls = 2 ∨ Ls = 3 ∨ Ls = 4) (h2 : Lf = 1 ∨ Lf = 2 ∨ Lf = 3 ∨ Lf = 4) (a1 : Ls * As ≤ rs * n) (a2 : rf * n - 88 ≤ Lf * Af) (v1 : vs ≤ 41) (v2 : 0 ≤ vf) (n0 : 0 ≤ n) (hD : rs * Lf < rf * Ls) :
    Lf * (vs + As - (vf + Af) - 41) ≤ 88 ∧ (844 < n → vs + As ≤ vf + Af) := by
  have hm : n ≤ Ls * (rf * n) - Lf * (rs * n) := by
    have : 1 * n ≤ (rf * Ls - rs * Lf) * n := Int.mul_le_mul_of_nonneg_right (by omega) n0
    rw [Int.sub_mul, Int.mul_comm rf Ls, Int.mul_comm rs Lf, Int.mul_assoc, Int.mul_assoc] at this
    omega
  have he : Ls = Lf → n ≤ rf * n - rs * n := fun e => by
    have k : rs < rf := by
      rw [e] at hD
      rcases h2 with rfl | rfl | rfl | rfl <;> omega
    have : 1 * n ≤ (rf - rs) * n := Int.mul_le_mul_of_nonneg_right (by omega) n0
    rw [Int.sub_mul] at this
    omega
  generalize rs * n = P at *
  generalize rf * n = Q at *
  rcases h1 with rfl | rfl | rfl | rfl <;> rcases h2 with rfl | rfl | rfl | rfl <;> (try have he := he rfl) <;> exact ⟨by omega, fun _ => by omega⟩
theorem lcm12 {a b : Nat} (ha : a ≤ 4) (hb : b ≤ 4) : Nat.lcm a b ≤ 12 := by
  have : ∀ a b : Fin 5, Nat.lcm a.val b.val ≤ 12 := by decide
  exact this ⟨a, by omega⟩ ⟨b, by omega⟩
theorem lcm_le (a b : Nat) : Nat.lcm a b ≤ a * b := Nat.div_le_self _ _
end NT
set_option linter.all false
set_option maxHeartbeats 4000000
/-! One table behind another one: monotonic, grouped, through the greater and the lesser one. Plain Lean. -/
namespace NT
/-- told by its upper bounds that are counts -/
theorem up_some {a b : Option Int} (h : ∀ c : Int, leO a (some c) ↔ leO b (some c)) : a = b := by
  refine up_eq fun c => ?_
  cases c with
  | none => exact ⟨fun _ => .inl rfl, fun _ => .inl rfl⟩
  | some c => exact h c
theorem leO_some {a : Option Int} {c : Int} : leO a (some c) ↔ ∃ v, a = some v ∧ v ≤ c := by
  constructor
  · rintro (z | ⟨x, y, e1, e2, h⟩)
    · cases z
    · injection e2 with e2
      exact ⟨x, e1, by omega⟩
  · rintro ⟨v, e, h⟩
    exact .inr ⟨v, c, e, rfl, h⟩
section
variable {h l : List Int} {r : Int}
theorem asc_le {F : Nat → Option Int} (A : Asc F) {m n : Nat} (hm : 1 ≤ m) (le : m ≤ n) : leO (F m) (F n) := by
  cases e : F n with
  | none => exact .inl rfl
  | some v =>
    obtain ⟨d, rfl⟩ : ∃ d, n = m + d := ⟨n - m, by omega⟩
    obtain ⟨u, hu, le2⟩ := A.below hm e
    exact .inr ⟨u, v, hu, rfl, le2⟩
/-- the end is at most c if all values are -/
theorem fin_le (g : Good h l r) (c : Int) : leO (fin_ l r) (some c) ↔ ∀ n, 1 ≤ n → leO (at_ h l r n) (some c) := by
  constructor
  · intro z n hn
    obtain ⟨v, e, le⟩ := leO_some.mp z
    obtain ⟨u, hu, le2, _⟩ := val_fin g e n
    unfold val_ at hu
    dsimp only at hu
    rw [if_neg (by omega)] at hu
    exact leO_some.mpr ⟨u, hu, by omega⟩
  · intro z
    by_cases q : l = [] ∨ r = 0
    · have := z (h.length + 1) (by omega)
      rw [at_fin g q (by omega)] at this
      exact this
    · exfalso
      have hl : l ≠ [] := fun e => q (.inl e)
      have r0 : r ≠ 0 := fun e => q (.inr e)
      have rp := g.r0
      have l0 := len_pos hl
      obtain ⟨v, e, le⟩ := leO_some.mp (z (h.length + 1 + l.length * (c.toNat + 1)) (by omega))
      rw [at_loop hl (by omega), show h.length + 1 + l.length * (c.toNat + 1) - h.length - 1 = 0 + l.length * (c.toNat + 1) by omega, walk_add_mul l0, walk_lt l0] at e
      injection e with e
      have c0 : 0 ≤ l.getD 0 0 := climbs_lo g.lp l0
      have c1 : 1 * ((c.toNat + 1 : Nat) : Int) ≤ r * ((c.toNat + 1 : Nat) : Int) := Int.mul_le_mul_of_nonneg_right (by omega) (by omega)
      omega
end
/-- less or alike, never the greatest -/
def leE : Option Nat → Option Nat → Prop
  | _, none => True
  | none, some _ => False
  | some a, some b => a ≤ b
theorem toE {a b : Option Int} (h : leO a b) : leE (a.map Int.toNat) (b.map Int.toNat) := by
  rcases h with rfl | ⟨x, y, rfl, rfl, h⟩
  · cases a <;> trivial
  · exact Int.toNat_le_toNat h
theorem val_leE {h l : List Int} {r : Int} (g : Good h l r) {o o' : Option Nat} (e : leE o o') : leO (val_ h l r o) (val_ h l r o') := by
  cases q : val_ h l r o' with
  | none => exact .inl rfl
  | some v =>
    cases o' with
    | none =>
      cases o with
      | none => rw [q]; exact leO.refl _
      | some a =>
        obtain ⟨u, hu, le, _⟩ := val_fin g q a
        exact .inr ⟨u, v, hu, rfl, le⟩
    | some b =>
      cases o with
      | none => exact e.elim
      | some a =>
        obtain ⟨u, hu, le, _⟩ := val_mono g e q
        exact .inr ⟨u, v, hu, rfl, le⟩
theorem mono_chO {f : Option Int → Option Int} (m : ∀ a b, leO a b → leO (f a) (f b)) (g : Bool) (a b : Option Int) : f (chO g a b) = chO g (f a) (f b) := by
  rcases leO.total a b with h | h
  · have k := m _ _ h
    cases g
    · rw [(chO_le h).2, (chO_le k).2]
    · rw [(chO_le h).1, (chO_le k).1]
  · have k := m _ _ h
    cases g
    · rw [(chO_ge h).2, (chO_ge k).2]
    · rw [(chO_ge h).1, (chO_ge k).1]
/-- tables as triples -/
abbrev T3 := List Int × List Int × Int
abbrev vl (y : T3) : Option Nat → Option Int := val_ y.1 y.2.1 y.2.2
abbrev av (y : T3) : Nat → Option Int := at_ y.1 y.2.1 y.2.2
theorem vl_pos {y : T3} {n : Nat} (h : 1 ≤ n) : vl y (some n) = av y n := by
  show (if n = 0 then some 0 else _) = _
  rw [if_neg (by omega)]
theorem vl_zero {y : T3} : vl y (some 0) = some 0 := rfl
theorem chO_zero (g : Bool) : chO g (some 0) (some 0) = some 0 := chO_idem g _
/-- what is told by the greater or the lesser one, everywhere -/
theorem val_chO {g : Bool} {a b u : T3} (ga : Good a.1 a.2.1 a.2.2) (gb : Good b.1 b.2.1 b.2.2) (gu : Good u.1 u.2.1 u.2.2) (e : ∀ n, 1 ≤ n → av u n = chO g (av a n) (av b n)) (o : Option Nat) : vl u o = chO g (vl a o) (vl b o) := by
  cases o with
  | some n =>
    by_cases h : n = 0
    · subst h
      exact (chO_zero g).symm
    · rw [vl_pos (by omega), vl_pos (by omega), vl_pos (by omega), e n (by omega)]
  | none =>
    refine up_some fun c => ?_
    show leO (fin_ u.2.1 u.2.2) (some c) ↔ leO (chO g (fin_ a.2.1 a.2.2) (fin_ b.2.1 b.2.2)) (some c)
    rw [fin_le gu]
    cases g with
    | true =>
      rw [leO_max, fin_le ga, fin_le gb]
      constructor
      · intro z
        exact ⟨fun n hn => (leO_max.mp (by have := z n hn; rw [show at_ u.1 u.2.1 u.2.2 n = _ from e n hn] at this; exact this)).1, fun n hn => (leO_max.mp (by have := z n hn; rw [show at_ u.1 u.2.1 u.2.2 n = _ from e n hn] at this; exact this)).2⟩
      · rintro ⟨z1, z2⟩ n hn
        rw [show at_ u.1 u.2.1 u.2.2 n = _ from e n hn]
        exact leO_max.mpr ⟨z1 n hn, z2 n hn⟩
    | false =>
      constructor
      · intro z
        -- one of the two stays below
        by_cases q : ∀ n, 1 ≤ n → leO (at_ a.1 a.2.1 a.2.2 n) (some c)
        · have k := (fin_le ga c).mpr q
          rcases leO.total (fin_ a.2.1 a.2.2) (fin_ b.2.1 b.2.2) with t | t
          · rw [(chO_le t).2]; exact k
          · rw [(chO_ge t).2]; exact t.trans k
        · have q2 : ∀ n, 1 ≤ n → leO (at_ b.1 b.2.1 b.2.2 n) (some c) := fun n hn => Classical.byContradiction fun y => q fun m hm => Classical.byContradiction fun x => by
            have zz := z (max n m) (by omega)
            rw [show at_ u.1 u.2.1 u.2.2 (max n m) = _ from e _ (by omega)] at zz
            have u1 := asc_le (asc_at ga) hm (show m ≤ max n m by omega)
            have u2 := asc_le (asc_at gb) hn (show n ≤ max n m by omega)
            rcases leO.total (av a (max n m)) (av b (max n m)) with t | t
            · rw [(chO_le t).2] at zz; exact x (u1.trans zz)
            · rw [(chO_ge t).2] at zz; exact y (u2.trans zz)
          have k := (fin_le gb c).mpr q2
          rcases leO.total (fin_ a.2.1 a.2.2) (fin_ b.2.1 b.2.2) with t | t
          · rw [(chO_le t).2]; exact t.trans k
          · rw [(chO_ge t).2]; exact k
      · intro z n hn
        rw [show at_ u.1 u.2.1 u.2.2 n = _ from e n hn]
        rcases leO.total (fin_ a.2.1 a.2.2) (fin_ b.2.1 b.2.2) with t | t
        · rw [(chO_le t).2] at z
          have k := (fin_le ga c).mp z n hn
          rcases leO.total (av a n) (av b n) with s | s
          · rw [(chO_le s).2]; exact k
          · rw [(chO_ge s).2]; exact s.trans k
        · rw [(chO_ge t).2] at z
          have k := (fin_le gb c).mp z n hn
          rcases leO.total (av a n) (av b n) with s | s
          · rw [(chO_le s).2]; exact s.trans k
          · rw [(chO_ge s).2]; exact k
/-- the values of a at those of b -/
def cmp (a b : T3) (o : Option Nat) : Option Int := vl a ((vl b o).map Int.toNat)
theorem beh_cmp {a b : T3} {n : Nat} (h : 1 ≤ n) : beh a.1 a.2.1 a.2.2 b.1 b.2.1 b.2.2 n = cmp a b (some n) := by
  unfold cmp beh
  rw [vl_pos h]
/-- what is told by one table behind another one, everywhere -/
theorem val_cmp {a b u : T3} (ga : Good a.1 a.2.1 a.2.2) (gb : Good b.1 b.2.1 b.2.2) (gu : Good u.1 u.2.1 u.2.2) (e : ∀ n, 1 ≤ n → av u n = cmp a b (some n)) (o : Option Nat) : vl u o = cmp a b o := by
  cases o with
  | some n =>
    by_cases h : n = 0
    · subst h
      rfl
    · rw [vl_pos (by omega), e n (by omega)]
  | none =>
    refine up_some fun c => ?_
    show leO (fin_ u.2.1 u.2.2) (some c) ↔ leO (vl a ((fin_ b.2.1 b.2.2).map Int.toNat)) (some c)
    rw [fin_le gu]
    cases q : fin_ b.2.1 b.2.2 with
    | some v =>
      have qc : b.2.1 = [] ∨ b.2.2 = 0 := by
        by_cases z : b.2.1 = []
        · exact .inl z
        · right
          have := gb.r0
          unfold fin_ at q
          by_cases w : b.2.1 = [] ∨ 0 < b.2.2
          · rw [if_pos w] at q; cases q
          · have : ¬ 0 < b.2.2 := fun y => w (.inr y)
            omega
      constructor
      · intro z
        have := z (b.1.length + 1) (by omega)
        rw [show at_ u.1 u.2.1 u.2.2 _ = _ from e _ (by omega)] at this
        unfold cmp at this
        rw [vl_pos (by omega), show av b (b.1.length + 1) = fin_ b.2.1 b.2.2 from at_fin gb qc (by omega), q] at this
        exact this
      · intro z n hn
        rw [show at_ u.1 u.2.1 u.2.2 n = _ from e n hn]
        refine leO.trans (val_leE ga (toE ?_)) z
        rw [vl_pos hn]
        exact (fin_le gb v).mp (by rw [q]; exact leO.refl _) n hn
    | none =>
      show _ ↔ leO (fin_ a.2.1 a.2.2) (some c)
      rw [fin_le ga]
      constructor
      · intro z m hm
        -- b goes beyond m somewhere
        have : ¬ ∀ n, 1 ≤ n → leO (at_ b.1 b.2.1 b.2.2 n) (some (m : Int)) := fun y => by
          have := (fin_le gb (m : Int)).mpr y
          rw [q] at this
          obtain ⟨v, w, _⟩ := leO_some.mp this
          cases w
        obtain ⟨n, y⟩ := Classical.not_forall.mp this
        obtain ⟨hn, y⟩ := Classical.not_imp.mp y
        have zz := z n hn
        rw [show at_ u.1 u.2.1 u.2.2 n = _ from e n hn] at zz
        unfold cmp at zz
        rw [vl_pos hn] at zz
        have : leO (vl a (some m)) (vl a ((av b n).map Int.toNat)) := val_leE ga (by
          cases w : av b n with
          | none => trivial
          | some v =>
            show m ≤ v.toNat
            have : ¬ v ≤ (m : Int) := fun x => y (leO_some.mpr ⟨v, w, x⟩)
            omega)
        rw [vl_pos hm] at this
        exact this.trans zz
      · intro z n hn
        rw [show at_ u.1 u.2.1 u.2.2 n = _ from e n hn]
        unfold cmp
        cases w : (vl b (some n)).map Int.toNat with
        | none => exact (fin_le ga c).mpr z
        | some k =>
          by_cases k0 : k = 0
          · subst k0
            have := z 1 (Nat.le_refl _)
            refine leO.trans ?_ this
            have := val_leE ga (show leE (some 0) (some 1) from Nat.zero_le _)
            rw [show val_ a.1 a.2.1 a.2.2 (some 1) = at_ a.1 a.2.1 a.2.2 1 from vl_pos (y := a) (Nat.le_refl _)] at this
            exact this
          · rw [vl_pos (by omega)]
            exact z k (by omega)
end NT
namespace NT
theorem cmp_group {a b c ab bc : T3} (h1 : ∀ o, vl ab o = cmp a b o) (h2 : ∀ o, vl bc o = cmp b c o) (o : Option Nat) : cmp ab c o = cmp a bc o := by
  unfold cmp
  rw [h1, h2]
  rfl
theorem cmp_left {g : Bool} {a b c u : T3} (h : ∀ o, vl u o = chO g (vl a o) (vl b o)) (o : Option Nat) : cmp u c o = chO g (cmp a c o) (cmp b c o) := h _
theorem cmp_right {g : Bool} {a b c u : T3} (gc : Good c.1 c.2.1 c.2.2) (h : ∀ o, vl u o = chO g (vl a o) (vl b o)) (o : Option Nat) : cmp c u o = chO g (cmp c a o) (cmp c b o) := by
  unfold cmp
  rw [h]
  exact mono_chO (f := fun x => vl c (x.map Int.toNat)) (fun x y k => val_leE gc (toE k)) g _ _
theorem cmp_mono_left {a b c : T3} (h : ∀ o, leO (vl a o) (vl b o)) (o : Option Nat) : leO (cmp a c o) (cmp b c o) := h _
theorem cmp_mono_right {a b c : T3} (gc : Good c.1 c.2.1 c.2.2) (h : ∀ o, leO (vl a o) (vl b o)) (o : Option Nat) : leO (cmp c a o) (cmp c b o) := val_leE gc (toE (h o))
end NT
set_option linter.all false
set_option maxHeartbeats 4000000
/-! The turn of a row: the greatest count with a value less than n. Plain Lean. -/
namespace NT
/-- so many of each, from a first number on -/
def spr (M : Nat → Int) (lo : Int) (k : Nat) : List Int := (List.range k).flatMap fun j => List.replicate (M (j + 1) - M j).toNat (lo + (j : Int))
theorem spr_succ {M : Nat → Int} {lo : Int} {k : Nat} : spr M lo (k + 1) = spr M lo k ++ List.replicate (M (k + 1) - M k).toNat (lo + (k : Int)) := by
  unfold spr
  rw [List.range_succ, List.flatMap_append]
  simp
theorem up_all {M : Nat → Int} {k : Nat} (u : ∀ j, j < k → M j ≤ M (j + 1)) : ∀ {j : Nat}, j ≤ k → M 0 ≤ M j := by
  intro j
  induction j with
  | zero => exact fun _ => Int.le_refl _
  | succ j ih =>
    intro h
    have := ih (by omega)
    have := u j (by omega)
    omega
theorem spr_len {M : Nat → Int} {lo : Int} : ∀ {k : Nat}, (∀ j, j < k → M j ≤ M (j + 1)) → (spr M lo k).length = (M k - M 0).toNat
  | 0, _ => by show 0 = _; omega
  | k + 1, u => by
    rw [spr_succ, List.length_append, List.length_replicate, spr_len fun j h => u j (by omega)]
    have := u k (by omega)
    have := up_all (k := k) (fun j h => u j (by omega)) (Nat.le_refl k)
    omega
theorem spr_get {M : Nat → Int} {lo : Int} : ∀ {k : Nat}, (∀ j, j < k → M j ≤ M (j + 1)) → ∀ {p : Nat}, (p : Int) < M k - M 0 → ∃ j, j < k ∧ (spr M lo k).getD p 0 = lo + (j : Int) ∧ M j ≤ M 0 + (p : Int) ∧ M 0 + (p : Int) < M (j + 1)
  | 0, _, p, hp => by omega
  | k + 1, u, p, hp => by
    have u' : ∀ j, j < k → M j ≤ M (j + 1) := fun j h => u j (by omega)
    have uk := u k (by omega)
    have u0 := up_all (k := k) u' (Nat.le_refl k)
    have ln := spr_len (lo := lo) u'
    rw [spr_succ]
    by_cases c : (p : Int) < M k - M 0
    · obtain ⟨j, h1, h2, h3⟩ := spr_get (lo := lo) u' c
      exact ⟨j, by omega, by rw [getD_app1 (by omega)]; exact h2, h3⟩
    · refine ⟨k, by omega, ?_, by omega, by omega⟩
      rw [List.getD_eq_getElem?_getD, List.getElem?_append_right (by omega), List.getElem?_replicate, if_pos (by omega)]
      rfl
/-- t is the greatest count with a value less than n, or never -/
def TurnAt (G : Nat → Option Int) (n : Nat) : Option Int → Prop
  | none => ∀ c, ¬ leO (some (n : Int)) (G c)
  | some v => ∃ j : Nat, v = (j : Int) ∧ ¬ leO (some (n : Int)) (G j) ∧ leO (some (n : Int)) (G (j + 1))
/-- each one tells the other one -/
def Conj (F T : Nat → Option Int) : Prop := ∀ c n : Nat, 1 ≤ c → 1 ≤ n → (leO (some (n : Int)) (F c) ↔ ¬ leO (some (c : Int)) (T n))
theorem leO_nat {a b : Int} : leO (some a) (some b) ↔ a ≤ b := by
  constructor
  · rintro (z | ⟨x, y, e1, e2, z⟩)
    · cases z
    · injection e1 with e1
      injection e2 with e2
      omega
  · exact fun z => .inr ⟨a, b, rfl, rfl, z⟩
theorem leO_none {a : Option Int} : leO a none := .inl rfl
theorem Conj.symm {F T : Nat → Option Int} (h : Conj F T) : Conj T F := fun c n hc hn => by
  rw [h n c hn hc]
  exact Classical.not_not.symm
/-- what is at least each count that another one is at least -/
theorem eq_of_low {a b : Option Int} (ha : ∀ v, a = some v → 0 ≤ v) (hb : ∀ v, b = some v → 0 ≤ v) (e : ∀ c : Nat, 1 ≤ c → (leO (some (c : Int)) a ↔ leO (some (c : Int)) b)) : a = b := by
  cases a with
  | none =>
    cases b with
    | none => rfl
    | some v =>
      have := leO_nat.mp ((e (v.toNat + 1) (by omega)).mp leO_none)
      have := hb v rfl
      omega
  | some u =>
    have u0 := ha u rfl
    cases b with
    | none =>
      have := leO_nat.mp ((e (u.toNat + 1) (by omega)).mpr leO_none)
      omega
    | some v =>
      have v0 := hb v rfl
      congr 1
      by_cases c1 : u = 0
      · by_cases c2 : v = 0
        · omega
        · have := leO_nat.mp ((e v.toNat (by omega)).mpr (leO_nat.mpr (by omega)))
          omega
      · have h1 := leO_nat.mp ((e u.toNat (by omega)).mp (leO_nat.mpr (by omega)))
        by_cases c2 : v = 0
        · omega
        · have h2 := leO_nat.mp ((e v.toNat (by omega)).mpr (leO_nat.mpr (by omega)))
          omega
theorem Conj.one {F T T' : Nat → Option Int} (h : Conj F T) (h' : Conj F T') {n : Nat} (hn : 1 ≤ n) (g : ∀ v, T n = some v → 0 ≤ v) (g' : ∀ v, T' n = some v → 0 ≤ v) : T n = T' n :=
  eq_of_low g g' fun c hc => by
    have a := h c n hc hn
    have b := h' c n hc hn
    rw [a] at b
    exact ⟨fun z => Classical.byContradiction fun y => (b.mpr y) z, fun z => Classical.byContradiction fun y => (b.mp y) z⟩
theorem Conj.max {F G T S : Nat → Option Int} (h : Conj F T) (k : Conj G S) : Conj (fun n => chO true (F n) (G n)) fun n => chO false (T n) (S n) := fun c n hc hn => by
  show leO _ (chO true (F c) (G c)) ↔ ¬ leO _ (chO false (T n) (S n))
  have a := h c n hc hn
  have b := k c n hc hn
  have l : leO (some (c : Int)) (chO false (T n) (S n)) ↔ leO (some (c : Int)) (T n) ∧ leO (some (c : Int)) (S n) := by
    rcases leO.total (T n) (S n) with q | q
    · rw [(chO_le q).2]
      exact ⟨fun z => ⟨z, z.trans q⟩, fun z => z.1⟩
    · rw [(chO_ge q).2]
      exact ⟨fun z => ⟨z.trans q, z⟩, fun z => z.2⟩
  have g : leO (some (n : Int)) (chO true (F c) (G c)) ↔ leO (some (n : Int)) (F c) ∨ leO (some (n : Int)) (G c) := by
    rcases leO.total (F c) (G c) with q | q
    · rw [(chO_le q).1]
      exact ⟨fun z => .inr z, fun z => z.elim (fun z => z.trans q) id⟩
    · rw [(chO_ge q).1]
      exact ⟨fun z => .inl z, fun z => z.elim id (fun z => z.trans q)⟩
  rw [l, g, a, b]
  constructor
  · rintro (z | z) ⟨x, y⟩
    · exact z x
    · exact z y
  · intro z
    by_cases x : leO (some (c : Int)) (T n)
    · exact .inr fun y => z ⟨x, y⟩
    · exact .inl x
theorem Conj.asc {F T : Nat → Option Int} (h : Conj F T) (g : ∀ n v, 1 ≤ n → T n = some v → 0 ≤ v) : Asc T := by
  refine ⟨g, fun n v hn e => ?_⟩
  have up : ∀ c : Nat, 1 ≤ c → leO (some (c : Int)) (T n) → leO (some (c : Int)) (T (n + 1)) := fun c hc z => Classical.byContradiction fun y => by
    have := (h c (n + 1) hc (by omega)).mpr y
    have t : leO (some (n : Int)) (some ((n + 1 : Nat) : Int)) := leO_nat.mpr (by omega)
    exact (h c n hc hn).mp (t.trans this) z
  have v0 := g (n + 1) v (by omega) e
  cases q : T n with
  | none =>
    have := up (v.toNat + 1) (by omega) (by rw [q]; exact leO_none)
    rw [e] at this
    have := leO_nat.mp this
    omega
  | some u =>
    have u0 := g n u hn q
    refine ⟨u, rfl, ?_⟩
    by_cases z : u = 0
    · omega
    · have := up u.toNat (by omega) (by rw [q]; exact leO_nat.mpr (by omega))
      rw [e] at this
      have := leO_nat.mp this
      omega
/-- a row that climbs from 0 on, with what is found of each place -/
theorem conj_of {G T : Nat → Option Int} (up : ∀ a b, a ≤ b → leO (G a) (G b)) (t : ∀ n, 1 ≤ n → TurnAt G n (T n)) : Conj G T := fun c n hc hn => by
  have := t n hn
  cases e : T n with
  | none =>
    rw [e] at this
    exact ⟨fun z => absurd z (this c), fun z => absurd leO_none z⟩
  | some v =>
    rw [e] at this
    obtain ⟨j, rfl, h1, h2⟩ := this
    rw [leO_nat]
    constructor
    · intro z y
      exact h1 (z.trans (up c j (by omega)))
    · intro z
      exact h2.trans (up (j + 1) c (by omega))
end NT
set_option linter.all false
set_option maxHeartbeats 4000000
/-! The form of the turn. Plain Lean. -/
namespace NT
def vN0 (y : T3) (j : Nat) : Int := (vl y (some j)).getD 0
def tform (y : T3) : T3 :=
  if y.2.1 = [] then (spr (vN0 y) 0 y.1.length, [(y.1.length : Int)], 0)
  else if y.2.2 = 0 then (spr (vN0 y) 0 (y.1.length + 1), [], 0)
  else (spr (vN0 y) 0 (y.1.length + 1), spr (fun j => vN0 y (y.1.length + 1 + j)) ((y.1.length + 1 : Nat) : Int) y.2.1.length, (y.2.1.length : Int))
section
variable {y : T3}
theorem vl_num (j : Nat) (h : j ≤ y.1.length ∨ y.2.1 ≠ []) : vl y (some j) = some (vN0 y j) := by
  unfold vN0
  by_cases z : j = 0
  · subst z
    rfl
  · rw [vl_pos (by omega)]
    obtain ⟨v, e⟩ : ∃ v, av y j = some v := ⟨_, at_some j h⟩
    rw [e]
    rfl
theorem vl_up (g : Good y.1 y.2.1 y.2.2) {a b : Nat} (h : a ≤ b) : leO (vl y (some a)) (vl y (some b)) := val_leE g (show leE (some a) (some b) from h)
theorem vN0_up (g : Good y.1 y.2.1 y.2.2) {a b : Nat} (h : a ≤ b) (k : b ≤ y.1.length ∨ y.2.1 ≠ []) : vN0 y a ≤ vN0 y b := by
  have := vl_up g h
  rw [vl_num a (k.imp (fun z => by omega) id), vl_num b k] at this
  exact leO_nat.mp this
theorem vN0_loop (nl : y.2.1 ≠ []) (x k : Nat) (h : y.1.length < x) : vN0 y (x + y.2.1.length * k) = vN0 y x + y.2.2 * (k : Int) := by
  unfold vN0
  rw [vl_pos (by omega), vl_pos (by omega), show av y x = some (num y.1 y.2.1 y.2.2 x) from at_some x (.inr nl), show av y _ = some (num y.1 y.2.1 y.2.2 (x + y.2.1.length * k)) from at_some _ (.inr nl)]
  exact num_per nl h k
theorem tform_at (g : Good y.1 y.2.1 y.2.2) {n : Nat} (hn : 1 ≤ n) : TurnAt (fun j => vl y (some j)) n (av (tform y) n) := by
  have z0 : vN0 y 0 = 0 := rfl
  -- within the marks
  have within : ∀ (k : Nat) (lo l : List Int) (r : Int), (k ≤ y.1.length ∨ y.2.1 ≠ []) → lo = spr (vN0 y) 0 k → (n : Int) ≤ vN0 y k → TurnAt (fun j => vl y (some j)) n (at_ lo l r n) := fun k lo l r hk e hB => by
    have mo : ∀ j, j < k → vN0 y j ≤ vN0 y (j + 1) := fun j hj => vN0_up g (by omega) (hk.imp (fun z => by omega) id)
    have ln := spr_len (lo := 0) mo
    obtain ⟨j, hj, ev, a, b⟩ := spr_get (lo := 0) (p := n - 1) mo (by rw [z0]; omega)
    rw [z0] at a b
    have : at_ lo l r n = some ((j : Nat) : Int) := by
      unfold at_
      rw [if_pos (by rw [e, ln]; omega), e, ev, Int.zero_add]
    rw [this]
    refine ⟨j, rfl, ?_, ?_⟩
    · show ¬ leO _ (vl y (some j))
      rw [vl_num j (hk.imp (fun z => by omega) id), leO_nat]
      omega
    · show leO _ (vl y (some (j + 1)))
      rw [vl_num (j + 1) (hk.imp (fun z => by omega) id), leO_nat]
      omega
  by_cases e1 : y.2.1 = []
  · have et : tform y = (spr (vN0 y) 0 y.1.length, [(y.1.length : Int)], 0) := if_pos e1
    rw [et]
    by_cases c : (n : Int) ≤ vN0 y y.1.length
    · exact within y.1.length _ _ _ (.inl (Nat.le_refl _)) rfl c
    · have mo : ∀ j, j < y.1.length → vN0 y j ≤ vN0 y (j + 1) := fun j hj => vN0_up g (by omega) (.inl (by omega))
      have ln := spr_len (lo := 0) mo
      have : av (spr (vN0 y) 0 y.1.length, [(y.1.length : Int)], 0) n = some ((y.1.length : Nat) : Int) := by
        show at_ _ _ _ n = _
        rw [at_loop (by simp) (by rw [ln, z0]; omega)]
        unfold walk
        show some ([(y.1.length : Int)].getD (_ % 1) 0 + 0 * _) = _
        rw [Nat.mod_one, Int.zero_mul, Int.add_zero]
        rfl
      rw [this]
      refine ⟨y.1.length, rfl, ?_, ?_⟩
      · show ¬ leO _ (vl y (some y.1.length))
        rw [vl_num _ (.inl (Nat.le_refl _)), leO_nat]
        exact c
      · show leO _ (vl y (some (y.1.length + 1)))
        rw [vl_pos (by omega)]
        refine .inl ?_
        unfold av at_
        rw [if_neg (by omega), if_pos e1]
  · have mo : ∀ j, j < y.1.length + 1 → vN0 y j ≤ vN0 y (j + 1) := fun j hj => vN0_up g (by omega) (.inr e1)
    have ln := spr_len (lo := 0) mo
    by_cases e2 : y.2.2 = 0
    · have et : tform y = (spr (vN0 y) 0 (y.1.length + 1), [], 0) := (if_neg e1).trans (if_pos e2)
      rw [et]
      by_cases c : (n : Int) ≤ vN0 y (y.1.length + 1)
      · exact within _ _ _ _ (.inr e1) rfl c
      · have : av (spr (vN0 y) 0 (y.1.length + 1), [], 0) n = none := by
          show at_ _ _ _ n = _
          unfold at_
          rw [if_neg (by rw [ln, z0]; omega), if_pos rfl]
        rw [this]
        intro q z
        have up := vl_up g (show q ≤ q + (y.1.length + 1) by omega)
        have t1 : leO (some (n : Int)) (vl y (some (q + (y.1.length + 1)))) := z.trans up
        rw [vl_pos (by omega), show av y (q + (y.1.length + 1)) = fin_ y.2.1 y.2.2 from at_fin g (.inr e2) (by omega), ← show av y (y.1.length + 1) = fin_ y.2.1 y.2.2 from at_fin g (.inr e2) (by omega), ← vl_pos (y := y) (show 1 ≤ y.1.length + 1 by omega), vl_num _ (.inr e1), leO_nat] at t1
        omega
    · have r0 : 0 < y.2.2 := by
        have := g.r0
        omega
      have et : tform y = (spr (vN0 y) 0 (y.1.length + 1), spr (fun j => vN0 y (y.1.length + 1 + j)) ((y.1.length + 1 : Nat) : Int) y.2.1.length, (y.2.1.length : Int)) := (if_neg e1).trans (if_neg e2)
      rw [et]
      by_cases c : (n : Int) ≤ vN0 y (y.1.length + 1)
      · exact within _ _ _ _ (.inr e1) rfl c
      · have l0 := len_pos e1
        have mo2 : ∀ j, j < y.2.1.length → vN0 y (y.1.length + 1 + j) ≤ vN0 y (y.1.length + 1 + (j + 1)) := fun j hj => vN0_up g (by omega) (.inr e1)
        have ln2 := spr_len (M := fun j => vN0 y (y.1.length + 1 + j)) (lo := ((y.1.length + 1 : Nat) : Int)) mo2
        have one := vN0_loop (y := y) e1 (y.1.length + 1) 1 (by omega)
        rw [Nat.mul_one] at one
        have rr : vN0 y (y.1.length + 1 + y.2.1.length) = vN0 y (y.1.length + 1) + y.2.2 := by rw [one]; simp
        rw [rr, Nat.add_zero] at ln2
        obtain ⟨B, hB⟩ : ∃ B, B = vN0 y (y.1.length + 1) := ⟨_, rfl⟩
        have B0 : 0 ≤ B := by
          rw [hB]
          exact vN0_up (a := 0) g (by omega) (.inr e1)
        rw [← hB] at rr c ln ln2
        rw [z0] at ln
        obtain ⟨R, hR⟩ : ∃ R : Nat, (R : Int) = y.2.2 := ⟨y.2.2.toNat, by omega⟩
        have L : (spr (fun j => vN0 y (y.1.length + 1 + j)) ((y.1.length + 1 : Nat) : Int) y.2.1.length).length = R := by omega
        have hne : spr (fun j => vN0 y (y.1.length + 1 + j)) ((y.1.length + 1 : Nat) : Int) y.2.1.length ≠ [] := fun z => by
          rw [z] at L
          have : (0 : Nat) = R := L
          omega
        obtain ⟨i, k, hi, en⟩ : ∃ i k : Nat, i < R ∧ n - B.toNat - 1 = i + R * k := ⟨(n - B.toNat - 1) % R, (n - B.toNat - 1) / R, Nat.mod_lt _ (by omega), (Nat.mod_add_div _ _).symm⟩
        obtain ⟨j, hj, ev, a, b⟩ := spr_get (M := fun j => vN0 y (y.1.length + 1 + j)) (lo := ((y.1.length + 1 : Nat) : Int)) (p := i) mo2 (by show (i : Int) < vN0 y (y.1.length + 1 + y.2.1.length) - vN0 y (y.1.length + 1 + 0); rw [rr, Nat.add_zero, ← hB]; omega)
        rw [Nat.add_zero, ← hB] at a b
        have at1 : av (spr (vN0 y) 0 (y.1.length + 1), spr (fun j => vN0 y (y.1.length + 1 + j)) ((y.1.length + 1 : Nat) : Int) y.2.1.length, (y.2.1.length : Int)) n = some ((y.1.length + 1 + j + y.2.1.length * k : Nat) : Int) := by
          show at_ _ _ _ n = _
          rw [at_loop hne (by rw [ln]; omega), ln, show n - (B - 0).toNat - 1 = n - B.toNat - 1 by omega, en]
          unfold walk
          rw [L, Nat.add_mul_mod_self_left, Nat.mod_eq_of_lt hi, Nat.add_mul_div_left _ _ (show 0 < R by omega), Nat.div_eq_of_lt hi, Nat.zero_add, ev]
          congr 1
        rw [at1]
        have f1 := vN0_loop (y := y) e1 (y.1.length + 1 + j) k (by omega)
        have f2 := vN0_loop (y := y) e1 (y.1.length + 1 + (j + 1)) k (by omega)
        have eR : y.2.2 * (k : Int) = ((R * k : Nat) : Int) := by rw [Int.natCast_mul, hR]
        rw [eR] at f1 f2
        have hn2 : (n : Int) = B + 1 + (i : Int) + ((R * k : Nat) : Int) := by omega
        refine ⟨_, rfl, ?_, ?_⟩
        · show ¬ leO _ (vl y (some (y.1.length + 1 + j + y.2.1.length * k)))
          rw [vl_num _ (.inr e1), leO_nat, f1]
          omega
        · show leO _ (vl y (some (y.1.length + 1 + j + y.2.1.length * k + 1)))
          rw [vl_num _ (.inr e1), leO_nat, show y.1.length + 1 + j + y.2.1.length * k + 1 = y.1.length + 1 + (j + 1) + y.2.1.length * k by omega, f2]
          omega
theorem conj_vl {T : Nat → Option Int} (g : Good y.1 y.2.1 y.2.2) (t : ∀ n, 1 ≤ n → TurnAt (fun j => vl y (some j)) n (T n)) : Conj (av y) T := fun c n hc hn => by
  have := conj_of (G := fun j => vl y (some j)) (fun a b h => vl_up g h) t c n hc hn
  rw [show (fun j => vl y (some j)) c = av y c from vl_pos hc] at this
  exact this
theorem turn_ge {G : Nat → Option Int} {n : Nat} {t : Option Int} (h : TurnAt G n t) : ∀ v, t = some v → 0 ≤ v := by
  rintro v rfl
  obtain ⟨j, rfl, _⟩ := h
  exact Int.natCast_nonneg j
theorem tform_conj (g : Good y.1 y.2.1 y.2.2) : Conj (av y) (av (tform y)) := conj_vl g fun n hn => tform_at g hn
theorem tform_good (g : Good y.1 y.2.1 y.2.2) : Good (tform y).1 (tform y).2.1 (tform y).2.2 := by
  refine good_of ((tform_conj g).asc fun n v hn e => turn_ge (tform_at g hn) v e) ?_ ?_
  · unfold tform
    split
    · exact Int.le_refl _
    · split
      · exact Int.le_refl _
      · exact Int.natCast_nonneg _
  · unfold tform
    split
    · intro z; cases z
    · rename_i e1
      split
      · exact fun _ => rfl
      · rename_i e2
        intro z
        exfalso
        have l0 := len_pos e1
        have mo2 : ∀ j, j < y.2.1.length → vN0 y (y.1.length + 1 + j) ≤ vN0 y (y.1.length + 1 + (j + 1)) := fun j hj => vN0_up g (by omega) (.inr e1)
        have ln2 := spr_len (M := fun j => vN0 y (y.1.length + 1 + j)) (lo := ((y.1.length + 1 : Nat) : Int)) mo2
        have one := vN0_loop (y := y) e1 (y.1.length + 1) 1 (by omega)
        rw [Nat.mul_one] at one
        dsimp only at z
        rw [z, one, Nat.add_zero] at ln2
        have := g.r0
        have t : (0 : Nat) = (vN0 y (y.1.length + 1) + y.2.2 * ((1 : Nat) : Int) - vN0 y (y.1.length + 1)).toNat := ln2
        omega
/-- how long the turn is -/
theorem tform_size (g : Good y.1 y.2.1 y.2.2) : (tform y).1.length = (vN0 y (if y.2.1 = [] then y.1.length else y.1.length + 1)).toNat ∧ (tform y).2.1.length ≤ max 1 y.2.2.toNat ∧ (tform y).2.2 ≤ (y.2.1.length : Int) := by
  have z0 : vN0 y 0 = 0 := rfl
  unfold tform
  by_cases e1 : y.2.1 = []
  · rw [if_pos e1, if_pos e1]
    have mo : ∀ j, j < y.1.length → vN0 y j ≤ vN0 y (j + 1) := fun j hj => vN0_up g (by omega) (.inl (by omega))
    have ln := spr_len (lo := 0) mo
    refine ⟨by dsimp only; rw [ln, z0]; omega, by show 1 ≤ _; omega, Int.natCast_nonneg _⟩
  · rw [if_neg e1, if_neg e1]
    have mo : ∀ j, j < y.1.length + 1 → vN0 y j ≤ vN0 y (j + 1) := fun j hj => vN0_up g (by omega) (.inr e1)
    have ln := spr_len (lo := 0) mo
    by_cases e2 : y.2.2 = 0
    · rw [if_pos e2]
      exact ⟨by dsimp only; rw [ln, z0]; omega, Nat.zero_le _, Int.natCast_nonneg _⟩
    · rw [if_neg e2]
      have mo2 : ∀ j, j < y.2.1.length → vN0 y (y.1.length + 1 + j) ≤ vN0 y (y.1.length + 1 + (j + 1)) := fun j hj => vN0_up g (by omega) (.inr e1)
      have ln2 := spr_len (M := fun j => vN0 y (y.1.length + 1 + j)) (lo := ((y.1.length + 1 : Nat) : Int)) mo2
      have one := vN0_loop (y := y) e1 (y.1.length + 1) 1 (by omega)
      rw [Nat.mul_one] at one
      rw [one, Nat.add_zero] at ln2
      exact ⟨by dsimp only; rw [ln, z0]; omega, by dsimp only; rw [ln2]; have := g.r0; omega, Int.le_refl _⟩
end
end NT
set_option Elab.async false
set_option linter.all false
set_option maxRecDepth 100000
set_option maxHeartbeats 4000000
namespace K24
open PySem PySem.Spec PyProof.Rows L2 He NF RZ NT
def spLAsked (K : PySem.W.Frag) : Sp := fun vs H Q _ => ∃ (p q a : Addr) (n : Nat) (b : List Deed) (ws : List (List Deed)) (fs ts : List Nat), vs = [.ref p, .ref q, .ref a] ∧ MkrT K H q n b ws ∧ Drawn n b ws ∧ CrsT K H a fs ts ∧ CrsOk ws.length fs ts ∧ ts.length ≤ 2 ∧ ∀ H', Same H H' → Q (.bl true) H'
def spLOther (K : PySem.W.Frag) : Sp := fun vs H Q _ => ∃ (H0 : Hp) (p q : Addr) (n : Nat) (b : List Deed) (ws : List (List Deed)), vs = [.ref p, .ref q] ∧ Same H0 H ∧ H0 p = none ∧ Src H p ∧ MkrT K H0 q n b ws ∧ Drawn n b ws ∧
  ∀ (q' : Addr) (n' : Nat) (b' : List Deed) (ws' : List (List Deed)) (H' : Hp), Same H0 H' → Src H' p → MkrT K H' q' n' b' ws' → GoodM n' b' ws' → (n', b', ws') ≠ (n, b, ws) → Q (.ref q') H'
theorem sc__law_asked : FnScope ["_law_source_here", "_law_maker_here", "_law_course_here", "_law_made_here", "_law_inlet", "_law_told", "_law_row", "_law_n"] ["_law_source_here", "_law_maker_here", "_law_course_here"] (defScope s__law_asked) := ⟨rfl, rfl, rfl, by decide +kernel, rfl, by decide +kernel, by decide +kernel⟩
theorem sc__law_other : FnScope ["_law_source_here", "_law_maker_here", "_law_way"] ["_law_source_here", "_law_maker_here"] (defScope s__law_other) := ⟨rfl, rfl, rfl, by decide +kernel, rfl, by decide +kernel, by decide +kernel⟩
theorem climbs_memT : ∀ {l : List Int} {lo : Int}, climbs lo l → ∀ i ∈ l, lo ≤ i
  | [], _, _, _, h => nomatch h
  | x :: l, lo, c, i, h => by
    rcases List.mem_cons.mp h with rfl | h
    · exact c.1
    · exact Int.le_trans c.1 (climbs_memT c.2 i h)
/-- sizes of a need, in plain form -/
theorem need_small {i n : Nat} {b : List Deed} {ws : List (List Deed)} {fs ts : List Nat} {z : List Int × List Int × Int} (g : GoodM n b ws) (ok : CrsOk ws.length fs ts) (p : IsPlain (needT i (b ++ deedsOf ws fs) (deedsOf ws ts)).1 (needT i (b ++ deedsOf ws fs) (deedsOf ws ts)).2.1 (needT i (b ++ deedsOf ws fs) (deedsOf ws ts)).2.2 z) : Small z ∧ Counts z := by
  have gd := needT_good i (b ++ deedsOf ws fs) (deedsOf ws ts)
  have w24 : ∀ v ∈ ws, v.length ≤ 24 := fun v hv => (g.wy v hv).2.1
  have l1 : (deedsOf ws fs).length ≤ 4800 := Nat.le_trans (deeds_len (ks := fs) w24) (Nat.mul_le_mul_right 24 ok.fl)
  have l2 : (deedsOf ws ts).length ≤ 960 := Nat.le_trans (deeds_len (ks := ts) w24) (Nat.mul_le_mul_right 24 ok.tl)
  have q := plain_size p
  have q5 := q.2.2.2.2.1 gd.r0
  have n1 := ahead_len (i := i) (a := b ++ deedsOf ws fs) (t := 0)
  have n2 := ahead_len (i := i) (a := deedsOf ws ts) (t := (took i (b ++ deedsOf ws fs) : Int))
  have n3 := took_len (i := i) (a := deedsOf ws ts)
  rw [List.length_append] at n1
  have gb := g.bl
  have gz := (plain_fin gd p).1
  have e1 : (needT i (b ++ deedsOf ws fs) (deedsOf ws ts)).1.length ≤ 5400 := by show (ahead i _ 0).length ≤ _; omega
  have e2 : (needT i (b ++ deedsOf ws fs) (deedsOf ws ts)).2.1.length ≤ 960 := by show (ahead i _ _).length ≤ _; omega
  have e3 : (needT i (b ++ deedsOf ws fs) (deedsOf ws ts)).2.2 ≤ 960 := by
    show (if _ then _ else _) ≤ _
    split <;> omega
  refine ⟨⟨by omega, by omega, gz.r0, by omega⟩, fun x hx => ?_, gz.r0⟩
  rcases List.mem_append.mp hx with hx | hx
  · exact climbs_memT gz.hd x hx
  · exact climbs_memT gz.lp x hx
section
variable {P : Program} {w : World} {K : PySem.W.Frag} {mg : Str → Option Value} {base : Heap} {gs : List Str} {C CT : Addr}
theorem ok__law_asked {f : Addr} {fd : FuncData} (F : FunD K "_law_asked" "_law_asked" (defArgs s__law_asked) (defBody s__law_asked) (defScope s__law_asked) [] [] f fd) (T : Txt K mg gs FS) (mc : MakC K C) (tc : TabC K CT) (c__law_made : Cal P w K mg base 9 "_law_made" (spLMade K C)) (o_need : MetC P w K mg base 6 C "need" (spNeed K CT C)) (c__law_same : Cal P w K mg base 3 "_law_same" (spSame K CT)) (c__law_on : Cal P w K mg base 2 "_law_on" (spLOn K)) (c__law_walked : Cal P w K mg base 1 "_law_walked" (spLWalked K)) (o_call : CalO P w K mg base 3 CT (spAt K CT)) : FnOk P w K mg base CX0 10 f fd ["_law_source_here", "_law_maker_here", "_law_course_here"] (spLAsked K) := by
  refine F.ok sc__law_asked (fun vs H Q E h => ?_) (fun cdv A outer s H vs Q E hr h => ?_)
  · obtain ⟨p, q, a, n, b, ws, fs, ts, rfl, _⟩ := h
    rfl
  · obtain ⟨p, q, a, n, b, ws, fs, ts, rfl, mk, dr, cr, ok, t2, k⟩ := h
    have hu : (A.deeper (envOfC "_law_asked" (defScope s__law_asked) s.heap.objs.size f cdv)).units + 64 < cLine := by
      have := hr.un
      omega
    refine ⟨_, PSs.nox (pss_cons (ps_set (i := 3) sc__law_asked.nd rfl (Or.inl rfl) (pe_c c__law_made hr (by decide) rfl (pa_cons (pv 1) pa_nil))) (pss_cons (ps_for PassesOwn.never rfl (pi_range1 rfl (T.fr _ (by decide +kernel)) (pa_cons (pe_ix (ixt (K := K)) (pv 1) pe_int fun _ _ => rfl) pa_nil)) (pg_name (i := 4) sc__law_asked.nd rfl (Or.inl rfl)) (pss_cons (ps_set (i := 5) sc__law_asked.nd rfl (Or.inl rfl) (pe_mt (pv 3) o_need hr (by decide) (pa_cons (pv 4) (pa_cons (pv 2) pa_nil)))) (pss_cons (ps_if (pt_not (pt_val (pe_c c__law_same hr (by decide) rfl (pa_cons (pv 5) (pa_cons (pe_c c__law_on hr (by decide) rfl (pa_cons (pv 1) (pa_cons (pv 4) (pa_cons (pv 2) pa_nil)))) pa_nil))))) (pss_one (ps_ret pe_bl)) pss_nil) (pss_cons (ps_set (i := 6) sc__law_asked.nd rfl (Or.inl rfl) (pe_c c__law_walked hr (by decide) rfl (pa_cons (pv 1) (pa_cons (pv 4) (pa_cons (pv 2) (pa_cons pe_int pa_nil)))))) (pss_one (ps_for PassesOwn.never rfl (pi_range2 rfl (T.fr _ (by decide +kernel)) (pa_cons pe_int (pa_cons pe_int pa_nil))) (pg_name (i := 7) sc__law_asked.nd rfl (Or.inl rfl)) (pss_one (ps_if (pt_cmpR op_ne (pe_co (pv 5) o_call hr (by decide) (pa_cons (pv 7) pa_nil)) (pe_ix (ixl (K := K)) (pv 6) (pe_op op_sub (pv 7) pe_int) fun _ _ => rfl) (nomark _)) (pss_one (ps_ret pe_bl)) pss_nil)))))))) (pss_one (ps_ret (pe_and (pe_cmpR op_eq (pe_fld (pv 3) rfl) (pe_ix (ixt (K := K)) (pv 1) pe_int fun _ _ => rfl) (nomark _)) (pe_and (pe_cmpR (op_eqD hu) (pe_fld (pv 3) rfl) (pe_ix (ixt (K := K)) (pv 1) pe_int fun _ _ => rfl) (nomark _)) (pe_one (pe_cmpR (op_eqD hu) (pe_fld (pv 3) rfl) (pe_ix (ixt (K := K)) (pv 1) pe_int fun _ _ => rfl) (nomark _))))))))), ?_⟩
    refine ⟨_, rfl, q, n, b, ws, rfl, mk, dr.good, fun x H1 s1 ma => ?_⟩
    have mk := mk.mono s1
    have cr := cr.mono s1
    obtain ⟨pb, pw, hq, hb, hw⟩ := id mk
    refine ⟨_, rfl, q, _, _, _, rfl, rfl, hq, at0, (n : Int), rfl, by omega, by have := dr.n3; omega, ?_⟩
    rw [show ((n : Int)).toNat = n by omega]
    refine for_range (lo := 0) (n := n) (fun j σ G => Same H1 G ∧ ∃ v4 v5 v6 v7 : Option V, σ = [some (.ref p), some (.ref q), some (.ref a), some (.ref x), v4, v5, v6, v7]) ⟨Same.refl _, none, none, none, none, rfl⟩ ?_ ?_
    · rintro j σ G hj ⟨sG, v4, v5, v6, v7, rfl⟩
      have ej : V.int ((0 : Int) + (j : Int)) = V.int (j : Int) := by rw [Int.zero_add]
      have ma := ma.mono sG
      have mk := mk.mono sG
      have cr := cr.mono sG
      obtain ⟨dx, pb', pw', hx, _, _⟩ := id ma
      refine ⟨_, rfl, x, dx, _, rfl, hx, rfl, ?_⟩
      refine ⟨_, rfl, _, rfl, x, a, n, j, b, ws, fs, ts, by rw [Int.zero_add]; rfl, ma, dr.good, hj, cr.r, ok, fun y z H2 hz s2 tb => ?_⟩
      obtain ⟨smz, ctz⟩ := need_small dr.good ok hz
      refine ⟨_, rfl, _, rfl, _, rfl, _, rfl, q, a, n, j, b, ws, fs, ts, by rw [Int.zero_add]; rfl, mk.mono s2, dr, cr.mono s2, ok, fun p3 z' H3 hz' s3 fo => ?_⟩
      obtain rfl : z = z' := plain_one hz hz' fun n _ => rfl
      refine ⟨y, p3, z, rfl, tb.mono s3, fo, smz, ctz, fun H4 s4 => ⟨true, rfl, iteF ?_⟩⟩
      have s24 := Same.trans s2 (Same.trans s3 s4)
      refine ⟨_, rfl, _, rfl, _, rfl, q, a, n, j, b, ws, fs, ts, by rw [Int.zero_add]; rfl, mk.mono s24, dr, cr.mono s24, ok, t2, fun r H5 s5 hr5 => ?_⟩
      have tb5 := tb.mono (Same.trans s3 (Same.trans s4 s5))
      refine ⟨1, 31, rfl, ⟨by decide, by decide, by decide, by decide⟩, ?_⟩
      refine for_range (lo := 1) (n := 30) (fun l σ G => Same H5 G ∧ ∃ v7 : Option V, σ = [some (.ref p), some (.ref q), some (.ref a), some (.ref x), some (.int ((0 : Int) + (j : Int))), some (.ref y), some (.ref r), v7]) ⟨Same.refl _, v7, rfl⟩ ?_ ?_
      · rintro l σ G' hl ⟨sG', v7, rfl⟩
        have tbG := tb5.mono sG'
        obtain ⟨dy, _, _, hy, _, _⟩ := id tbG
        refine ⟨_, rfl, y, rfl, _, rfl, Or.inr ⟨dy, _, hy⟩, y, z, some (l + 1), by rw [show (1 : Int) + (l : Int) = ((l + 1 : Nat) : Int) by omega]; rfl, tbG, smz, fun G6 s6 => ?_⟩
        have hr6 := s6 _ _ (sG' _ _ hr5)
        refine ⟨_, rfl, _, rfl, _, _, rfl, rfl, r, _, _, vO ((ahead j (b ++ deedsOf ws fs ++ rep (deedsOf ws ts) (30 + ts.length)) 0)[l]?), rfl, rfl, SqL.of hr6, ?_, ?_⟩
        · rw [show (1 : Int) + (l : Int) - 1 = (l : Int) by omega]
          exact atI_nat (by rw [List.getElem?_map, List.getElem?_range hl]; rfl)
        have ez : val_ z.1 z.2.1 z.2.2 (some (l + 1)) = (ahead j (b ++ deedsOf ws fs ++ rep (deedsOf ws ts) (30 + ts.length)) 0)[l]? := by
          rw [show val_ z.1 z.2.1 z.2.2 (some (l + 1)) = av z (l + 1) from vl_pos (by omega), show av z (l + 1) = _ from plain_at hz (l + 1) (by omega), needT_at (k := 30 + ts.length) (by omega) (by omega), Nat.add_sub_cancel]
        rw [ez]
        generalize (ahead j (b ++ deedsOf ws fs ++ rep (deedsOf ws ts) (30 + ts.length)) 0)[l]? = o
        refine ⟨by cases o <;> rfl, _, rfl, iteF' (by rw [decide_eq_true rfl]; rfl) ?_⟩
        exact ⟨Same.trans sG' s6, _, rfl⟩
      · rintro σ G' ⟨sG', v7, rfl⟩
        exact ⟨Same.trans sG (Same.trans s24 (Same.trans s5 sG')), _, _, _, _, rfl⟩
    · rintro σ G ⟨sG, v4, v5, v6, v7, rfl⟩
      have ma := ma.mono sG
      have mk := mk.mono sG
      obtain ⟨dx, pb', pw', hx, hb', hw'⟩ := id ma
      obtain ⟨pb, pw, hq, hb, hw⟩ := id mk
      refine ⟨_, rfl, x, C, dx, _, _, rfl, hx, mc.cl, mc.ni, rfl, _, rfl, q, _, _, _, rfl, rfl, hq, at0, rfl, _, ?_, iteT ?_⟩
      · exact congrArg V.bl (decide_eq_true rfl)
      refine ⟨_, rfl, x, C, dx, _, _, rfl, hx, mc.cl, mc.nb, rfl, _, rfl, q, _, _, _, rfl, rfl, hq, at1, ?_⟩
      refine eqD_deeds (K := K) hb' hb ⟨_, rfl, iteT' (decide_eq_true rfl) ?_⟩
      refine ⟨_, rfl, x, C, dx, _, _, rfl, hx, mc.cl, mc.nw, rfl, _, rfl, q, _, _, _, rfl, rfl, hq, at2, ?_⟩
      refine eqD_ways (K := K) hw' hw ?_
      rw [decide_eq_true rfl]
      exact k G (Same.trans s1 sG)
theorem at_lastR {xs : List V} (h : 0 < xs.length) : atI xs (-1) = some xs[xs.length - 1] := by
  unfold atI ixN
  rw [if_neg (by omega), if_pos (by omega)]
  show xs[((-1 : Int) + (xs.length : Int)).toNat]? = _
  rw [show ((-1 : Int) + (xs.length : Int)).toNat = xs.length - 1 by omega, List.getElem?_eq_getElem (by omega)]
theorem ok__law_other {f : Addr} {fd : FuncData} (F : FunD K "_law_other" "_law_other" (defArgs s__law_other) (defBody s__law_other) (defScope s__law_other) [] [] f fd) (T : Txt K mg gs FS) (c__law_pick : Cal P w K mg base 1 "_law_pick" spPick) : FnOk P w K mg base CX0 2 f fd ["_law_source_here", "_law_maker_here"] (spLOther K) := by
  refine F.ok sc__law_other (fun vs H Q E h => ?_) (fun cdv A outer s H vs Q E hr h => ?_)
  · obtain ⟨H0, p, q, n, b, ws, rfl, _⟩ := h
    rfl
  · obtain ⟨H0, p, q, n, b, ws, rfl, s0, n0, hs, mk, dr, k⟩ := h
    have n1 := dr.n1
    have n3 := dr.n3
    have m1 := dr.m1
    have m4 := dr.m4
    have bl := dr.bl
    have gd := dr.good
    refine ⟨_, PSs.nox (pss_cons (ps_set (i := 2) sc__law_other.nd rfl (Or.inl rfl) (pe_c c__law_pick hr (by decide) rfl (pa_cons (pv 0) (pa_cons pe_int pa_nil)))) (pss_cons (ps_if (pt_cmpR op_eq (pv 2) pe_int (nomark _)) (pss_one (ps_ret (pe_tup (pa_cons (pe_ix (ixt (K := K)) (pv 1) pe_int fun _ _ => rfl) (pa_cons (pe_op op_catA (pe_ix (ixt (K := K)) (pv 1) pe_int fun _ _ => rfl) (pe_tup (pa_cons pe_str pa_nil))) (pa_cons (pe_ix (ixt (K := K)) (pv 1) pe_int fun _ _ => rfl) pa_nil)))))) pss_nil) (pss_cons (ps_if (pt_cmpR op_eq (pv 2) pe_int (nomark _)) (pss_one (ps_ret (pe_tup (pa_cons (pe_ix (ixt (K := K)) (pv 1) pe_int fun _ _ => rfl) (pa_cons (pe_ix (ixt (K := K)) (pv 1) pe_int fun _ _ => rfl) (pa_cons (pe_op op_catA (pe_slice sl_tupA (pe_ix (ixt (K := K)) (pv 1) pe_int fun _ _ => rfl) po_none (po_some (pe_un un_neg pe_int))) (pe_tup (pa_cons (pe_op op_catA (pe_ix (ixt (K := K)) (pe_ix (ixt (K := K)) (pv 1) pe_int fun _ _ => rfl) (pe_un un_neg pe_int) fun _ _ => rfl) (pe_tup (pa_cons pe_int pa_nil))) pa_nil))) pa_nil)))))) pss_nil) (pss_one (ps_ret (pe_tup (pa_cons (pe_ix (ixt (K := K)) (pv 1) pe_int fun _ _ => rfl) (pa_cons (pe_ix (ixt (K := K)) (pv 1) pe_int fun _ _ => rfl) (pa_cons (pe_ifExp (pt_cmpR op_lt (pe_callB call_len_seq rfl (T.fr _ (by decide +kernel)) boot_len (pa_cons (pe_ix (ixt (K := K)) (pv 1) pe_int fun _ _ => rfl) pa_nil)) pe_int (nomark _)) (pe_op op_catA (pe_ix (ixt (K := K)) (pv 1) pe_int fun _ _ => rfl) (pe_tup (pa_cons (pe_tup (pa_cons pe_str pa_nil)) pa_nil))) (pe_slice sl_tupA (pe_ix (ixt (K := K)) (pv 1) pe_int fun _ _ => rfl) po_none (po_some (pe_un un_neg pe_int)))) pa_nil))))))))), ?_⟩
    refine ⟨_, rfl, H0, p, 3, rfl, s0, n0, hs, by decide, by decide, fun d G1 d0 d1 s1 hs1 => ?_⟩
    obtain ⟨pb, pw, hq, hb, as, hw, hl, hws⟩ := mk.mono s1
    have al : 0 < as.length := by omega
    refine ⟨_, rfl, rfl, _, rfl, ite2 (fun _ => ?_) (fun _ => ?_)⟩
    · -- one give more at the beginning
      refine ⟨_, rfl, q, _, _, _, rfl, rfl, hq, at0, _, rfl, q, _, _, _, rfl, rfl, hq, at1, (by show 1 ≤ sizeLine; decide), fun t1 ht1 => ?_⟩
      have s2 := NF.Same.new (o := .tup [V.str "give"]) (Same.refl G1) ht1
      refine catA_done (K := K) (NF.Same.tup s2 hb) (SqT.of upd_same) (by rw [List.length_map]; exact Nat.le_trans (show b.length + 1 ≤ 10000 by omega) (by decide)) fun p3 H3 s3 t3 => ?_
      have s23 := Same.trans s2 s3
      refine ⟨_, rfl, q, _, _, _, rfl, rfl, NF.Same.tup s23 hq, at2, (by show 3 ≤ sizeLine; decide), fun p4 hp4 => ?_⟩
      have s4 := NF.Same.new (o := .tup [V.int (n : Int), V.ref p3, V.ref pw]) s23 hp4
      have s4' := NF.Same.new (o := .tup [V.int (n : Int), V.ref p3, V.ref pw]) (Same.refl H3) hp4
      refine k p4 n (b ++ [none]) ws _ (Same.trans s1 s4) (Src.mono hs1 s4) ⟨p3, pw, SqT.of upd_same, ?_, as, NF.Same.tup s4 hw, hl, fun j a v e1 e2 => NF.Same.tup s4 (hws j a v e1 e2)⟩ ⟨n1, n3, fun i h => ?_, gd.wy, m1, m4, by rw [List.length_append]; show b.length + 1 ≤ 600; omega⟩ fun z => ?_
      · rw [List.map_append]
        exact NF.Same.tup s4' t3
      · rcases List.mem_append.mp h with h | h
        · exact dr.bd i h
        · simp at h
      · have z : b ++ [none] = b := by
          injection z with z1 z2
          injection z2
        have := congrArg List.length z
        simp at this
    refine ⟨_, rfl, rfl, _, rfl, ite2 (fun _ => ?_) (fun _ => ?_)⟩
    · -- one deed more at the end
      obtain ⟨m, hm⟩ : ∃ m, ws.length = m + 1 := ⟨ws.length - 1, by omega⟩
      have hmA : as.length = m + 1 := by omega
      refine ⟨_, rfl, q, _, _, _, rfl, rfl, hq, at0, _, rfl, q, _, _, _, rfl, rfl, hq, at1, _, rfl, q, _, _, _, rfl, rfl, hq, at2, _, rfl, _, rfl, ?_⟩
      refine slA_done (K := K) hw fun p1 G2 s2 t2 => ?_
      rw [show cutV (as.map V.ref) none (some (-(1 : Int))) = (as.take m).map V.ref from (cut_toN (n := 1) (by decide)).trans (by rw [List.length_map, hmA, Nat.add_sub_cancel, List.map_take])] at t2
      have hlast : (as.map V.ref)[(as.map V.ref).length - 1]'(by rw [List.length_map]; omega) = V.ref (as[m]'(by omega)) := by
        rw [List.getElem_map]
        congr 2
        rw [List.length_map]
        omega
      refine ⟨_, rfl, q, _, _, _, rfl, rfl, NF.Same.tup s2 hq, at2, _, rfl, pw, _, _, _, rfl, rfl, NF.Same.tup s2 hw, (at_lastR (by rw [List.length_map]; omega)).trans (congrArg some hlast), (by show 1 ≤ sizeLine; decide), fun t1 ht1 => ?_⟩
      have s3 := NF.Same.new (o := .tup [V.int 0]) s2 ht1
      have wl := (dr.wy ws[m] (List.getElem_mem (by omega))).2.1
      refine catA_done (K := K) (NF.Same.tup s3 (hws m as[m] ws[m] (List.getElem?_eq_getElem (by omega)) (List.getElem?_eq_getElem (by omega)))) (SqT.of upd_same) (by rw [List.length_map]; exact Nat.le_trans (show ws[m].length + 1 ≤ 10000 by omega) (by decide)) fun p5 G5 s5 t5 => ?_
      refine ⟨(by show 1 ≤ sizeLine; decide), fun t6 ht6 => ?_⟩
      have s6 := NF.Same.new (o := .tup [V.ref p5]) (Same.refl G5) ht6
      have s3' := NF.Same.new (o := .tup [V.int 0]) (Same.refl G2) ht1
      have s26 := Same.trans s3' (Same.trans s5 s6)
      refine catA_done (K := K) (NF.Same.tup s26 t2) (SqT.of upd_same) (by rw [List.length_map, List.length_take]; exact Nat.le_trans (show min m as.length + 1 ≤ 10000 by omega) (by decide)) fun p7 G7 s7 t7 => ?_
      refine ⟨(by show 3 ≤ sizeLine; decide), fun p8 hp8 => ?_⟩
      have s8 := NF.Same.new (o := .tup [V.int (n : Int), V.ref pb, V.ref p7]) (Same.refl G7) hp8
      have s68 := Same.trans s6 (Same.trans s7 s8)
      have sA := Same.trans s2 (Same.trans s26 (Same.trans s7 s8))
      have el : (ws.take m ++ [ws[m] ++ [some 0]]).length = m + 1 := by simp; omega
      refine k p8 n b (ws.take m ++ [ws[m] ++ [some 0]]) _ (Same.trans s1 sA) (Src.mono hs1 sA) ⟨pb, p7, SqT.of upd_same, NF.Same.tup sA hb, as.take m ++ [p5], ?_, ?_, fun j a v e1 e2 => ?_⟩ ⟨n1, n3, dr.bd, fun v hv => ?_, by omega, by omega, by omega⟩ fun z => ?_
      · rw [List.map_append]
        exact NF.Same.tup s8 t7
      · rw [List.length_append, List.length_append, List.length_take, List.length_take]
        show min m as.length + 1 = min m ws.length + 1
        omega
      · rcases Nat.lt_trichotomy j m with h | h | h
        · rw [List.getElem?_append_left (by rw [List.length_take]; omega), List.getElem?_take, if_pos h] at e1 e2
          exact NF.Same.tup sA (hws j a v e1 e2)
        · subst h
          rw [List.getElem?_append_right (by rw [List.length_take]; omega), List.length_take, show j - min j as.length = 0 by omega] at e1
          rw [List.getElem?_append_right (by rw [List.length_take]; omega), List.length_take, show j - min j ws.length = 0 by omega] at e2
          cases e1
          cases e2
          rw [List.map_append]
          exact NF.Same.tup s68 t5
        · rw [List.getElem?_eq_none (by simp; omega)] at e1
          cases e1
      · rcases List.mem_append.mp hv with hv | hv
        · exact gd.wy v (List.mem_of_mem_take hv)
        · rw [List.mem_singleton.mp hv]
          refine ⟨by simp, by rw [List.length_append]; show ws[m].length + 1 ≤ 24; omega, fun i h => ?_⟩
          rcases List.mem_append.mp h with h | h
          · exact (dr.wy ws[m] (List.getElem_mem (by omega))).2.2 i h
          · have : i = 0 := by simpa using h
            omega
      · have z : ws.take m ++ [ws[m] ++ [some 0]] = ws := by
          injection z with z1 z2
          injection z2
        have e0 : ws = ws.take m ++ [ws[m]] := by
          have h1 : ws.take (m + 1) = ws := List.take_of_length_le (by omega)
          have h2 : ws.take (m + 1) = ws.take m ++ [ws[m]] := by rw [List.take_add_one, List.getElem?_eq_getElem (by omega)]; rfl
          exact h1.symm.trans h2
        have h3 := List.append_cancel_left (z.trans e0)
        injection h3 with h4 _
        have := congrArg List.length h4
        simp at this
    -- another number of ways
    refine ⟨_, rfl, q, _, _, _, rfl, rfl, hq, at0, _, rfl, q, _, _, _, rfl, rfl, hq, at1, ?_⟩
    refine ⟨_, rfl, q, _, _, _, rfl, rfl, hq, at2, pw, _, rfl, .inr hw, _, _, rfl, rfl, _, rfl, ?_⟩
    rw [List.length_map, hl]
    refine ite2 (fun c => ?_) (fun c => ?_)
    · have c := of_decide_eq_true c
      refine ⟨_, rfl, q, _, _, _, rfl, rfl, hq, at2, (by show 1 ≤ sizeLine; decide), fun t1 ht1 => ?_⟩
      have s2 := NF.Same.new (o := .tup [V.str "give"]) (Same.refl G1) ht1
      refine ⟨(by show 1 ≤ sizeLine; decide), fun t2 ht2 => ?_⟩
      have s3 := NF.Same.new (o := .tup [V.ref t1]) s2 ht2
      have h1 : SqT K (upd (upd G1 t1 (.tup [V.str "give"])) t2 (.tup [V.ref t1])) t1 (([none] : List Deed).map dV) := SqT.of ((upd_ne (ne_of_none upd_same ht2)).trans upd_same)
      refine catA_done (K := K) (NF.Same.tup s3 hw) (SqT.of upd_same) (by rw [List.length_map]; exact Nat.le_trans (show as.length + 1 ≤ 10000 by omega) (by decide)) fun p3 H3 s4 t4 => ?_
      refine ⟨(by show 3 ≤ sizeLine; decide), fun p4 hp4 => ?_⟩
      have s5 := NF.Same.new (o := .tup [V.int (n : Int), V.ref pb, V.ref p3]) (Same.refl H3) hp4
      have sA := Same.trans s3 (Same.trans s4 s5)
      refine k p4 n b (ws ++ [[none]]) _ (Same.trans s1 sA) (Src.mono hs1 sA) ⟨pb, p3, SqT.of upd_same, NF.Same.tup sA hb, as ++ [t1], ?_, by simp [hl], fun j a v e1 e2 => ?_⟩ ⟨n1, n3, dr.bd, fun v hv => ?_, by simp, by rw [List.length_append]; show ws.length + 1 ≤ 4; omega, by omega⟩ fun z => ?_
      · rw [List.map_append]
        exact NF.Same.tup s5 t4
      · rcases Nat.lt_trichotomy j ws.length with h | h | h
        · rw [List.getElem?_append_left (by omega)] at e1 e2
          exact NF.Same.tup sA (hws j a v e1 e2)
        · subst h
          rw [List.getElem?_append_right (by omega), hl, Nat.sub_self] at e1
          rw [List.getElem?_append_right (by omega), Nat.sub_self] at e2
          cases e1
          cases e2
          exact NF.Same.tup (Same.trans s4 s5) h1
        · rw [List.getElem?_eq_none (by simp; omega)] at e1
          cases e1
      · rcases List.mem_append.mp hv with hv | hv
        · exact gd.wy v hv
        · rw [List.mem_singleton.mp hv]
          exact ⟨by simp, by simp, fun i h => absurd h (by simp)⟩
      · have z : ws ++ [[none]] = ws := by
          injection z with z1 z2
          injection z2
        have := congrArg List.length z
        simp at this
    · have c : ¬ (ws.length : Int) < 4 := fun z => c (decide_eq_true z)
      refine ⟨_, rfl, q, _, _, _, rfl, rfl, hq, at2, _, rfl, _, rfl, ?_⟩
      refine slA_done (K := K) hw fun p1 G2 s2 t2 => ?_
      rw [show cutV (as.map V.ref) none (some (-(1 : Int))) = (as.take 3).map V.ref from (cut_toN (n := 1) (by decide)).trans (by rw [List.length_map, show as.length - 1 = 3 by omega, List.map_take])] at t2
      refine ⟨(by show 3 ≤ sizeLine; decide), fun p4 hp4 => ?_⟩
      have s5 := NF.Same.new (o := .tup [V.int (n : Int), V.ref pb, V.ref p1]) (Same.refl G2) hp4
      have sA := Same.trans s2 s5
      refine k p4 n b (ws.take 3) _ (Same.trans s1 sA) (Src.mono hs1 sA) ⟨pb, p1, SqT.of upd_same, NF.Same.tup sA hb, as.take 3, NF.Same.tup s5 t2, by rw [List.length_take, List.length_take, hl], fun j a v e1 e2 => ?_⟩ ⟨n1, n3, dr.bd, fun v hv => gd.wy v (List.mem_of_mem_take hv), by rw [List.length_take]; omega, by rw [List.length_take]; omega, by omega⟩ fun z => ?_
      · rw [List.getElem?_take] at e1 e2
        by_cases h : j < 3
        · rw [if_pos h] at e1 e2
          exact NF.Same.tup sA (hws j a v e1 e2)
        · rw [if_neg h] at e1
          cases e1
      · have z : ws.take 3 = ws := by
          injection z with z1 z2
          injection z2
        have := congrArg List.length z
        rw [List.length_take] at this
        omega
end
end K24
set_option Elab.async false
set_option linter.all false
set_option maxRecDepth 100000
set_option maxHeartbeats 4000000
namespace K24
open PySem PySem.Spec PyProof.Rows L2 He NF RZ NT
theorem MakAt.put {K : PySem.W.Frag} {C : Addr} {H : Hp} {x D : Addr} {n : Nat} {b : List Deed} {ws : List (List Deed)} {l : List V} {o : HO} (h : MakAt K C H x n b ws) (hD : H D = some (.lst l)) : MakAt K C (upd H D o) x n b ws := by
  obtain ⟨dx, pb, pw, h1, h2, as, h3, h4, h5⟩ := h
  refine ⟨dx, pb, pw, ?_, SqT.put h2 hD trivial, as, SqT.put h3 hD trivial, h4, fun j a w e1 e2 => SqT.put (h5 j a w e1 e2) hD trivial⟩
  rw [upd_ne fun z => by rw [z, hD] at h1; cases h1]
  exact h1
theorem MakAt.wo {K : PySem.W.Frag} {C : Addr} {H : Hp} {x p : Addr} {n : Nat} {b : List Deed} {ws : List (List Deed)} (h : MakAt K C H x n b ws) (hs : Src H p) : MakAt K C (NF.wo H p) x n b ws := by
  obtain ⟨dx, pb, pw, h1, h2, h3⟩ := h
  obtain ⟨_, _, _, e⟩ := hs
  refine ⟨dx, pb, pw, ?_, SqT.wo h2 e trivial, WaysT.wo h3 e trivial⟩
  rw [wo_ne fun z => by rw [z, e] at h1; cases h1]
  exact h1
theorem MkrT.put {K : PySem.W.Frag} {H : Hp} {q D : Addr} {n : Nat} {b : List Deed} {ws : List (List Deed)} {l : List V} {o : HO} (h : MkrT K H q n b ws) (hD : H D = some (.lst l)) : MkrT K (upd H D o) q n b ws := by
  obtain ⟨pb, pw, h1, h2, as, h3, h4, h5⟩ := h
  exact ⟨pb, pw, SqT.put h1 hD trivial, SqT.put h2 hD trivial, as, SqT.put h3 hD trivial, h4, fun j a w e1 e2 => SqT.put (h5 j a w e1 e2) hD trivial⟩
theorem src_ne2 {H : Hp} {p q : Addr} (h : Src H p) (n : H q = none) : p ≠ q := fun z => by
  obtain ⟨_, _, _, e⟩ := h
  rw [z, n] at e
  cases e
/-- no piece far behind, exactly if the loop gives none -/
theorem need_never {i N : Nat} {b c : List Deed} (h : (ahead i b 0).length < N) : at_ (needT i b c).1 (needT i b c).2.1 (needT i b c).2.2 N = none ↔ none ∉ c := by
  rw [← ahead_nil (i := i) (a := c) (t := (took i b : Int))]
  unfold needT at_
  dsimp only
  rw [if_neg (by omega)]
  by_cases e : ahead i c (took i b : Int) = []
  · rw [if_pos e]
    simp [e]
  · rw [if_neg e]
    exact ⟨fun z => (nomatch z), fun z => absurd z e⟩
def spLaw (K : PySem.W.Frag) : Sp := fun vs H Q _ => ∃ (l : Addr) (ns : List Int), vs = [.ref l] ∧ SqL K H l (ns.map V.int) ∧ ns.length ≤ 63 ∧ (∀ k ∈ ns, Builtin.Int.intBits k ≤ 1048576) ∧ ∀ H', Q (.bl true) H'
theorem sc_law : FnScope ["_law_script", "_law_source_here", "_law_maker_here", "_law_drawer", "_law_made_here", "_law_other_here", "_law_course_here", "_law_told", "_law_never", "_law_gives", "_law_begin", "_law_ways", "_law_way"] ["_law_script"] (defScope s_law) := ⟨rfl, rfl, rfl, by decide +kernel, rfl, by decide +kernel, by decide +kernel⟩
section
variable {P : Program} {w : World} {K : PySem.W.Frag} {mg : Str → Option Value} {base : Heap} {gs : List Str} {C CT : Addr}
theorem ok_law {f : Addr} {fd : FuncData} (F : FunD K "law" "law" (defArgs s_law) (defBody s_law) (defScope s_law) [] [] f fd) (T : Txt K mg gs FS) (mc : MakC K C) (tc : TabC K CT) (c__law_source : Cal P w K mg base 1 "_law_source" (spSource K)) (c__law_pick : Cal P w K mg base 1 "_law_pick" spPick) (c__law_maker : Cal P w K mg base 3 "_law_maker" (spLMaker K)) (c__law_made : Cal P w K mg base 9 "_law_made" (spLMade K C)) (c__law_asked : Cal P w K mg base 10 "_law_asked" (spLAsked K)) (c__law_course : Cal P w K mg base 2 "_law_course" (spLCourse K)) (c__law_other : Cal P w K mg base 2 "_law_other" (spLOther K)) (m_Maker : Mak P w K mg base 7 0 "Maker" C (spMkInit K C) []) (o_need : MetC P w K mg base 6 C "need" (spNeed K CT C)) (c__law_same : Cal P w K mg base 3 "_law_same" (spSame K CT)) (c__law_on : Cal P w K mg base 2 "_law_on" (spLOn K)) (o_call : CalO P w K mg base 3 CT (spAt K CT)) (o_eq : EqC P w K mg base 1 C (spMEq K C)) (nfT : PySem.W.notFirst K C (.type "tuple") = true) (nfI : PySem.W.notFirst K C (.type "int") = true) : FnOk P w K mg base CX0 11 f fd ["_law_script"] (spLaw K) := by
  refine F.ok sc_law (fun vs H Q E h => ?_) (fun cdv A outer s H vs Q E hr h => ?_)
  · obtain ⟨l, ns, rfl, _⟩ := h
    rfl
  · obtain ⟨sl, ns, rfl, hsl, hlen, hbits, k⟩ := h
    have nfC : PySem.W.notFirst K C (.ref C) = true := by simp [PySem.W.notFirst]
    refine ⟨_, PSs.nox (pss_cons (ps_set (i := 1) sc_law.nd rfl (Or.inl rfl) (pe_c c__law_source hr (by decide) rfl (pa_cons (pv 0) (pa_cons pe_int pa_nil)))) (pss_cons (ps_set (i := 2) sc_law.nd rfl (Or.inl rfl) (pe_c c__law_maker hr (by decide) rfl (pa_cons (pv 1) (pa_cons (pe_op op_add pe_int (pe_c c__law_pick hr (by decide) rfl (pa_cons (pv 1) (pa_cons pe_int pa_nil)))) (pa_cons pe_int (pa_cons pe_bl pa_nil)))))) (pss_cons (ps_set (i := 3) sc_law.nd rfl (Or.inl rfl) (pe_c c__law_source hr (by decide) rfl (pa_cons (pv 0) (pa_cons pe_int pa_nil)))) (pss_cons (ps_if (pt_not (pt_val (pe_c c__law_asked hr (by decide) rfl (pa_cons (pv 1) (pa_cons (pv 2) (pa_cons (pe_c c__law_course hr (by decide) rfl (pa_cons (pv 3) (pa_cons (pv 2) (pa_cons pe_int pa_nil)))) pa_nil)))))) (pss_one (ps_ret pe_bl)) pss_nil) (pss_cons (ps_if (PW.pt (pw_and (pt_cmpR op_eq (pe_c c__law_pick hr (by decide) rfl (pa_cons (pv 3) (pa_cons pe_int pa_nil))) pe_int (nomark _)) (pw_and1 (pt_not (pt_val (pe_c c__law_asked hr (by decide) rfl (pa_cons (pv 1) (pa_cons (pv 2) (pa_cons (pe_c c__law_course hr (by decide) rfl (pa_cons (pv 3) (pa_cons (pv 2) (pa_cons pe_int pa_nil)))) pa_nil))))))))) (pss_one (ps_ret pe_bl)) pss_nil) (pss_cons (ps_par (i := 10) (j := 11) (by rfl) sc_law.nd rfl rfl (by decide) rfl rfl (pa_cons (pe_callTy call_list_of rfl (T.fr _ (by decide +kernel)) (by decide +kernel) (pa_cons (pe_ix (ixt (K := K)) (pv 2) pe_int fun _ _ => rfl) pa_nil)) (pa_cons (pe_lc (own := [("_law_way", 12)]) rfl sc_law.nd (pi_tup (pe_ix (ixt (K := K)) (pv 2) pe_int fun _ _ => rfl)) (blkOk_by (N := ["_law_script", "_law_source_here", "_law_maker_here", "_law_drawer", "_law_made_here", "_law_other_here", "_law_course_here", "_law_told", "_law_never", "_law_gives", "_law_begin", "_law_ways", "_law_way"]) (sc := defScope s_law) (by decide +kernel)) (fun _ _ _ _ _ => by exact (pg_name (i := 12) sc_law.nd rfl (Or.inl rfl))) (fun _ _ _ _ _ => by exact pts_nil) (fun _ _ _ _ _ => by exact (pe_callTy (call_list_ofK (K := K)) rfl (T.fr _ (by decide +kernel)) (by decide +kernel) (pa_cons (pv 12) pa_nil)))) pa_nil)) (by rfl)) (pss_cons (ps_set (i := 4) sc_law.nd rfl (Or.inl rfl) (pe_mk m_Maker hr (by decide) rfl (pa_cons (pe_ix (ixt (K := K)) (pv 2) pe_int fun _ _ => rfl) (pa_cons (pv 10) (pa_cons (pv 11) pa_nil))))) (pss_cons (ps_expr (pe_bm PySem.F.plainAttrs_list PySem.F.slot_list_append PySem.F.type_list_append mt_append (pv 10) (pa_cons pe_str pa_nil))) (pss_cons (ps_expr (pe_bm PySem.F.plainAttrs_list PySem.F.slot_list_append PySem.F.type_list_append mt_append (pe_ix (ixl (K := K)) (pv 11) pe_int fun _ _ => rfl) (pa_cons pe_int pa_nil))) (pss_cons (ps_if (PW.pt (pw_or (pt_cmpR (op_neO o_eq hr (by decide)) (pv 4) (pe_c c__law_made hr (by decide) rfl (pa_cons (pv 2) pa_nil)) (nomark _)) (pw_or1 (pt_not (pt_cmpR (op_eqO o_eq hr (by decide)) (pv 4) (pe_c c__law_made hr (by decide) rfl (pa_cons (pv 2) pa_nil)) (nomark _)))))) (pss_one (ps_ret pe_bl)) pss_nil) (pss_cons (ps_if (PW.pt (pw_or (pt_not (pt_val (pe_callB call_isi rfl (T.fr _ (by decide +kernel)) (by decide +kernel) (pa_cons (pe_fld (pv 4) rfl) (pa_cons (pe_bltn (v := .ty "tuple") rfl (T.fr _ (by decide +kernel)) (by decide +kernel) rfl) pa_nil))))) (pw_or1 (pt_not (pt_val (pe_callB (cr_all rfl) rfl (T.fr _ (by decide +kernel)) (by decide +kernel) (pa_cons (pe_lc (own := [("_law_way", 12)]) rfl sc_law.nd (pi_tup (pe_fld (pv 4) rfl)) (blkOk_by (N := ["_law_script", "_law_source_here", "_law_maker_here", "_law_drawer", "_law_made_here", "_law_other_here", "_law_course_here", "_law_told", "_law_never", "_law_gives", "_law_begin", "_law_ways", "_law_way"]) (sc := defScope s_law) (by decide +kernel)) (fun _ _ _ _ _ => by exact (pg_name (i := 12) sc_law.nd rfl (Or.inl rfl))) (fun _ _ _ _ _ => by exact pts_nil) (fun _ _ _ _ _ => by exact (pe_callB (call_isiK (K := K)) rfl (T.fr _ (by decide +kernel)) (by decide +kernel) (pa_cons (pv 12) (pa_cons (pe_bltn (v := .ty "tuple") rfl (T.fr _ (by decide +kernel)) (by decide +kernel) rfl) pa_nil))))) pa_nil))))))) (pss_one (ps_ret pe_bl)) pss_nil) (pss_cons (ps_set (i := 5) sc_law.nd rfl (Or.inl rfl) (pe_c c__law_other hr (by decide) rfl (pa_cons (pv 3) (pa_cons (pv 2) pa_nil)))) (pss_cons (ps_if (PW.pt (pw_or (pt_cmpR (op_eqO o_eq hr (by decide)) (pe_c c__law_made hr (by decide) rfl (pa_cons (pv 5) pa_nil)) (pv 4) (nomark _)) (pw_or (pt_cmpR (op_eqO o_eq hr (by decide)) (pv 4) (pv 2) (nomark _)) (pw_or1 (pt_cmpR (op_eqO o_eq hr (by decide)) (pv 4) pe_int (nomark _)))))) (pss_one (ps_ret pe_bl)) pss_nil) (pss_cons (ps_set (i := 6) sc_law.nd rfl (Or.inl rfl) (pe_c c__law_course hr (by decide) rfl (pa_cons (pv 3) (pa_cons (pv 2) (pa_cons pe_int pa_nil))))) (pss_cons (ps_set (i := 7) sc_law.nd rfl (Or.inl rfl) (pe_mt (pv 4) o_need hr (by decide) (pa_cons (pe_op op_sub (pe_ix (ixt (K := K)) (pv 2) pe_int fun _ _ => rfl) pe_int) (pa_cons (pe_lst (pa_cons (pe_callTy call_list_of rfl (T.fr _ (by decide +kernel)) (by decide +kernel) (pa_cons (pe_ix (ixt (K := K)) (pv 6) pe_int fun _ _ => rfl) pa_nil)) (pa_cons (pe_callTy call_list_of rfl (T.fr _ (by decide +kernel)) (by decide +kernel) (pa_cons (pe_ix (ixt (K := K)) (pv 6) pe_int fun _ _ => rfl) pa_nil)) pa_nil))) pa_nil)))) (pss_cons (ps_if (pt_not (pt_val (pe_c c__law_same hr (by decide) rfl (pa_cons (pv 7) (pa_cons (pe_c c__law_on hr (by decide) rfl (pa_cons (pv 2) (pa_cons (pe_op op_sub (pe_ix (ixt (K := K)) (pv 2) pe_int fun _ _ => rfl) pe_int) (pa_cons (pv 6) pa_nil)))) pa_nil))))) (pss_one (ps_ret pe_bl)) pss_nil) (pss_cons (ps_set (i := 8) sc_law.nd rfl (Or.inl rfl) (pe_tup (pa_cons (pe_callTy cr_tup rfl (T.fr _ (by decide +kernel)) (by decide +kernel) (pa_cons (pe_lst (pa_cons (pe_c c__law_pick hr (by decide) rfl (pa_cons (pv 3) (pa_cons (pe_callB call_len_seq rfl (T.fr _ (by decide +kernel)) boot_len (pa_cons (pe_ix (ixt (K := K)) (pv 2) pe_int fun _ _ => rfl) pa_nil)) pa_nil))) pa_nil)) pa_nil)) (pa_cons (pe_callTy cr_tup rfl (T.fr _ (by decide +kernel)) (by decide +kernel) (pa_cons (pe_lst (pa_cons (pe_c c__law_pick hr (by decide) rfl (pa_cons (pv 3) (pa_cons (pe_callB call_len_seq rfl (T.fr _ (by decide +kernel)) boot_len (pa_cons (pe_ix (ixt (K := K)) (pv 2) pe_int fun _ _ => rfl) pa_nil)) pa_nil))) pa_nil)) pa_nil)) pa_nil)))) (pss_cons (ps_set (i := 9) sc_law.nd rfl (Or.inl rfl) (pe_cmpR op_in_seq pe_str (pe_ix (ixt (K := K)) (pe_ix (ixt (K := K)) (pv 2) pe_int fun _ _ => rfl) (pe_ix (ixt (K := K)) (pe_ix (ixt (K := K)) (pv 8) pe_int fun _ _ => rfl) pe_int fun _ _ => rfl) fun _ _ => rfl) rfl)) (pss_one (ps_ret (pe_cmpR op_eq (pe_cmpR op_isN (pe_co (pe_mt (pv 4) o_need hr (by decide) (pa_cons pe_int (pa_cons (pv 8) pa_nil))) o_call hr (by decide) (pa_cons (pe_op op_pow pe_int pe_int) pa_nil)) pe_non (nomark _)) (pe_not (pv 9)) (nomark _)))))))))))))))))))))), ?_⟩
    refine ⟨_, rfl, sl, ns, 0, rfl, hsl, hlen, hbits, by decide, fun p1 G1 s1 hp1 S1 => ?_⟩
    refine ⟨_, rfl, _, rfl, wo G1 p1, p1, 3, rfl, wo_same', wo_none, S1, by decide, by decide, fun d G2 d0 d1 s2 S2 => ?_⟩
    refine ⟨_, _, rfl, rfl, wo G2 p1, p1, (1 + d).toNat, 4, true, by rw [Int.toNat_of_nonneg (by omega)]; rfl, wo_same', wo_none, S2, by omega, by omega, by decide, by decide, fun q b ws G3 s3 S3 dr mk => ?_⟩
    obtain ⟨n, hn⟩ : ∃ n, n = (1 + d).toNat := ⟨_, rfl⟩
    rw [← hn] at dr mk
    have sH : Same H G3 := wo_same (wo_same s1 hp1 s2) hp1 s3
    refine ⟨_, rfl, sl, ns, 1, rfl, L2.Same.seq sH hsl, hlen, hbits, by decide, fun p2 G4 s4 hp2 S4 => ?_⟩
    have mk := (mk.mono s4).wo S4
    refine ⟨_, rfl, _, rfl, _, rfl, _, rfl, wo G4 p2, p2, q, n, 6, b, ws, rfl, wo_same', wo_none, S4, mk, dr.m1, dr.m4, by decide, fun a fs ts G5 s5 S5 cr ok t2 => ?_⟩
    have mk := mk.mono s5
    refine ⟨p1, q, a, n, b, ws, fs, ts, rfl, mk, dr, cr, ok, t2, fun G6 s6 => ⟨true, rfl, iteF ?_⟩⟩
    have mk := mk.mono s6
    have S6 := Src.mono S5 s6
    refine' @both1H _ _ (fun G9 : Hp => Src G9 p2 ∧ MkrT K G9 q n b ws) (fun kk => ?A) ?B
    case A =>
      have mk := mk.wo S6
      refine ⟨_, rfl, wo G6 p2, p2, 8, rfl, wo_same', wo_none, S6, by decide, by decide, fun e G7 e0 e1 s7 S7 => ⟨rfl, _, rfl, ?_⟩⟩
      have mk := mk.mono s7
      by_cases c : (V.int e : V) = V.int 3
      · refine iteT' (decide_eq_true c) ?_
        have mkw := mk.wo S7
        refine ⟨_, rfl, _, rfl, _, rfl, _, rfl, wo G7 p2, p2, q, n, 200, b, ws, rfl, wo_same', wo_none, S7, mkw, dr.m1, dr.m4, by decide, fun a fs ts G8 s8 S8 cr ok t2 => ?_⟩
        have mk := mkw.mono s8
        refine ⟨p1, q, a, n, b, ws, fs, ts, rfl, mk, dr, cr, ok, t2, fun G9 s9 => ⟨true, rfl, iteF ?_⟩⟩
        have h0 := kk G9 ⟨Src.mono S8 s9, mk.mono s9⟩
        revert h0
        generalize G9 = Gz
        intro h0
        exact h0
      · refine iteF' (decide_eq_false c) (iteF ?_)
        have h0 := kk G7 ⟨S7, mk⟩
        revert h0
        generalize G7 = Gz
        intro h0
        exact h0
    case B =>
      rintro G ⟨S, mk⟩
      obtain ⟨pb, pw, hq, hb, as, hwa, hl, hws⟩ := id mk
      have m1 := dr.m1
      have m4 := dr.m4
      have bl := dr.bl
      -- lists of the same
      refine ⟨_, rfl, q, _, _, _, rfl, rfl, hq, at1, pb, _, rfl, .inr hb, fun L1 hL1 => ?_⟩
      have sL := NF.Same.new (o := .lst (b.map dV)) (Same.refl G) hL1
      have nL := src_ne (o := .lst []) S hL1
      refine ⟨_, rfl, q, _, _, _, rfl, rfl, NF.Same.tup sL hq, at2, pw, rfl, ⟨_, NF.Same.tup sL hwa⟩, fun D hD => ?_⟩
      have nD := src_ne (o := .lst []) (Src.mono S sL) hD
      have hDG : G D = none := L2.Same.free sL hD
      refine lc_tup (xs := as.map V.ref) (fun j G' => Same (upd G L1 (.lst (b.map dV))) G' ∧ ∃ xs : List Addr, G' D = some (.lst (xs.map V.ref)) ∧ xs.length = j ∧ (∀ a ∈ xs, G a = none ∧ a ≠ L1 ∧ a ≠ D ∧ a ≠ p2) ∧ ∀ (k : Nat) (a : Addr) (w : List Deed), xs[k]? = some a → ws[k]? = some w → G' a = some (.lst (w.map dV))) ⟨NF.Same.new (Same.refl _) hD, [], upd_same, rfl, by simp, fun j x r e => by simp at e⟩ (fun j G' _ z => NF.Same.tup z.1 (NF.Same.tup sL hwa)) ?_ ?_
      · rintro j v G' hv ⟨sG, xs, hG, xl, xn, xw⟩
        have hj := (List.getElem?_eq_some_iff.mp hv).1
        rw [List.length_map] at hj
        obtain rfl : V.ref (as[j]) = v := by
          rw [List.getElem?_map, List.getElem?_eq_getElem hj] at hv
          exact Option.some.inj hv
        have hjw : j < ws.length := by omega
        have hr1 := NF.Same.tup sG (NF.Same.tup sL (hws j as[j] ws[j] (List.getElem?_eq_getElem hj) (List.getElem?_eq_getElem hjw)))
        refine ⟨rfl, _, rfl, as[j], _, rfl, .inr hr1, fun t ht => ?_⟩
        have s3 := NF.Same.new (o := .lst (ws[j].map dV)) (Same.refl G') ht
        have tD : t ≠ D := fun z => by rw [z, hG] at ht; cases ht
        have tL : t ≠ L1 := fun z => by rw [z, sG _ _ upd_same] at ht; cases ht
        have tp := src_ne (o := .lst []) (Src.mono (Src.mono S sL) sG) ht
        have hG2 := s3 _ _ hG
        refine ⟨_, hG2, by rw [List.length_map, xl]; exact Nat.lt_of_lt_of_le (show j < 10000 by omega) (by decide), NF.Same.mut (Same.trans sG s3) hD, xs ++ [t], ?_, ?_, fun a ha => ?_, fun k a w e1 e2 => ?_⟩
        · rw [upd_same, List.map_append]
          rfl
        · rw [List.length_append, xl]
          rfl
        · rcases List.mem_append.mp ha with ha | ha
          · exact xn a ha
          · rw [List.mem_singleton.mp ha]
            exact ⟨L2.Same.free (Same.trans sL sG) ht, tL, tD, tp⟩
        · rcases Nat.lt_trichotomy k j with h | h | h
          · rw [List.getElem?_append_left (by omega)] at e1
            rw [upd_ne (xn a (List.mem_of_getElem? e1)).2.2.1]
            exact s3 _ _ (xw k a w e1 e2)
          · subst h
            rw [List.getElem?_append_right (by omega), xl, Nat.sub_self] at e1
            rw [List.getElem?_eq_getElem hjw] at e2
            cases e1
            cases e2
            rw [upd_ne tD]
            exact upd_same
          · rw [List.getElem?_eq_none (by rw [List.length_append, xl]; show j + 1 ≤ k; omega)] at e1
            cases e1
      · rintro G2 ⟨sG, xs, hG, xl, xn, xw⟩
        rw [List.length_map, hl] at xl
        have s02 := Same.trans sL sG
        have hL2 := sG _ _ (upd_same (H := G) (a := L1) (o := .lst (b.map dV)))
        refine ⟨_, _, rfl, ?_⟩
        -- a maker of lists
        refine ⟨_, rfl, q, _, _, _, rfl, rfl, NF.Same.tup s02 hq, at0, _, rfl, _, rfl, ?_⟩
        intro x dx nx nd ne
        refine ⟨x, dx, L1, D, n, b, ws, rfl, upd_same, .inl (SqL.of (same_woM nx nd _ _ hL2)), ⟨xs, .inl (SqL.of (same_woM nx nd _ _ hG)), xl, fun j a w e1 e2 => .inl (SqL.of (same_woM nx nd _ _ (xw j a w e1 e2)))⟩, dr.good, fun G3 s3 mk3 => ⟨rfl, ?_⟩⟩
        have s23 : Same G2 G3 := Same.trans (same_woM nx nd) s3
        have s03 := Same.trans s02 s23
        have S3 := Src.mono S s03
        have mk := mk.mono s03
        have hL3 := s23 _ _ hL2
        have hD3 := s23 _ _ hG
        have hl0 : ∃ l0, xs[0]? = some l0 ∧ G3 l0 = some (.lst (ws[0].map dV)) ∧ G l0 = none ∧ l0 ≠ L1 ∧ l0 ≠ D ∧ l0 ≠ p2 := by
          have h0 : xs[0]? = some (xs[0]'(by omega)) := List.getElem?_eq_getElem (by omega)
          exact ⟨_, h0, s23 _ _ (xw 0 _ ws[0] h0 (List.getElem?_eq_getElem (by omega))), xn _ (List.getElem_mem (by omega))⟩
        obtain ⟨l0, e0, h03, n0, m1', m2', m3'⟩ := hl0
        generalize hq3 : ws[0] = w0 at h03
        -- what was passed is changed
        refine ⟨_, rfl, Or.inl ⟨rfl, _, SqL.of hL3⟩, L1, _, _, rfl, rfl, hL3, ?_, ?_⟩
        · rw [List.length_map]
          exact Nat.lt_of_le_of_lt bl (by decide)
        have mk := MkrT.put (o := .lst (b.map dV ++ [V.str "give"])) mk hL3
        have mk3 := MakAt.put (o := .lst (b.map dV ++ [V.str "give"])) mk3 hL3
        have S4 := src_put (o := .lst (b.map dV ++ [V.str "give"])) S3 nL
        have s04 := NF.Same.put (o := .lst (b.map dV ++ [V.str "give"])) s03 hL1
        have nDL : D ≠ L1 := fun z => by rw [z, upd_same] at hD; cases hD
        have hD4 := (upd_ne (o := .lst (b.map dV ++ [V.str "give"])) (H := G3) nDL).trans hD3
        have h04 := (upd_ne (o := .lst (b.map dV ++ [V.str "give"])) (H := G3) m1').trans h03
        generalize upd G3 L1 (.lst (b.map dV ++ [V.str "give"])) = G4 at mk mk3 S4 s04 hD4 h04
        refine ⟨_, rfl, D, _, _, V.ref l0, rfl, rfl, SqL.of hD4, atI_nat (j := 0) (by rw [List.getElem?_map, e0]; rfl), Or.inl ⟨rfl, _, SqL.of h04⟩, l0, _, _, rfl, rfl, h04, ?_, ?_⟩
        · rw [List.length_map, ← hq3]
          exact Nat.lt_of_le_of_lt (dr.wy ws[0] (List.getElem_mem (by omega))).2.1 (by decide)
        have mk := MkrT.put (o := .lst (w0.map dV ++ [V.int 0])) mk h04
        have mk3 := MakAt.put (o := .lst (w0.map dV ++ [V.int 0])) mk3 h04
        have S5 := src_put (o := .lst (w0.map dV ++ [V.int 0])) S4 m3'
        have s05 := NF.Same.put (o := .lst (w0.map dV ++ [V.int 0])) s04 n0
        generalize upd G4 l0 (.lst (w0.map dV ++ [V.int 0])) = G5 at mk mk3 S5 s05
        -- another one of the same
        refine ⟨_, rfl, _, rfl, q, n, b, ws, rfl, mk, dr.good, fun x2 G6 s6 ma2 => ?_⟩
        have mk3 := mk3.mono s6
        have mk := mk.mono s6
        have S6 := Src.mono S5 s6
        obtain ⟨dx3, pb3, pw3, hx3, hb3, hw3⟩ := id mk3
        obtain ⟨dx4, pb4, pw4, hx4, hb4, hw4⟩ := id ma2
        refine ⟨x, dx3, _, x2, dx4, _, rfl, hx3, rfl, hx4, x, n, b, ws, .ref x2, rfl, mk3, .inl ⟨x2, n, b, ws, rfl, ma2, _, rfl, _, rfl, iteF' (by rw [decide_eq_true rfl]; rfl) ?_⟩⟩
        refine ⟨_, rfl, _, rfl, q, n, b, ws, rfl, mk, dr.good, fun x5 G7 s7 ma5 => ?_⟩
        have mk3 := mk3.mono s7
        have mk := mk.mono s7
        have S7 := Src.mono S6 s7
        obtain ⟨dx3, pb3, pw3, hx3, hb3, as3, hwa3, hl3, hws3⟩ := id mk3
        obtain ⟨dx5, pb5, pw5, hx5, hb5, hw5⟩ := id ma5
        refine ⟨x, dx3, _, _, rfl, hx3, mc.ty hx5, nfC, x, n, b, ws, .ref x5, rfl, mk3, .inl ⟨x5, n, b, ws, rfl, ma5, _, rfl, iteF' (by rw [decide_eq_true rfl]; rfl) ?_⟩⟩
        -- tuples
        refine ⟨_, rfl, x, C, dx3, _, _, rfl, hx3, mc.cl, mc.nb, rfl, _, _, _, _, true, rfl, .ty "tuple", tyx_tup hb3, kit_t_t K, true, rfl, iteF ?_⟩
        refine ⟨_, rfl, x, C, dx3, _, _, rfl, hx3, mc.cl, mc.nw, rfl, pw3, rfl, ⟨_, hwa3⟩, fun D2 hD2 => ?_⟩
        refine lc_tup (xs := as3.map V.ref) (fun j G' => Same G7 G' ∧ G' D2 = some (.lst ((List.replicate j true).map V.bl))) ⟨NF.Same.new (Same.refl G7) hD2, upd_same⟩ (fun i G' _ z => NF.Same.tup z.1 hwa3) ?_ ?_
        · rintro j v G' hv ⟨sG', hG'⟩
          have hj := (List.getElem?_eq_some_iff.mp hv).1
          rw [List.length_map] at hj
          obtain rfl : V.ref (as3[j]) = v := by
            rw [List.getElem?_map, List.getElem?_eq_getElem hj] at hv
            exact Option.some.inj hv
          have hr1 := NF.Same.tup sG' (hws3 j as3[j] (ws[j]'(by omega)) (List.getElem?_eq_getElem hj) (List.getElem?_eq_getElem (by omega)))
          refine ⟨rfl, _, rfl, _, _, _, _, true, rfl, .ty "tuple", tyx_tup hr1, kit_t_t K, ?_⟩
          refine ⟨_, hG', by rw [List.length_map, List.length_replicate]; exact Nat.lt_of_lt_of_le (show j < 10000 by omega) (by decide), NF.Same.mut sG' hD2, ?_⟩
          rw [upd_same, List.replicate_succ', List.map_append] <;> rfl
        · rintro G8 ⟨s8, hG8⟩
          refine ⟨D2, _, rfl, SqL.of hG8, true, ?_, iteF ?_⟩
          · rw [List.all_replicate]
            simp
          have S8 := Src.mono S7 s8
          have mk := mk.mono s8
          have mk3 := mk3.mono s8
          -- another maker
          refine ⟨_, rfl, _, rfl, wo G8 p2, p2, q, n, b, ws, rfl, wo_same', wo_none, S8, mk.wo S8, dr, fun q' n' b' ws' G9 s9 S9 mkO gO nO => ?_⟩
          have mk := (mk.wo S8).mono s9
          have mk3 := (mk3.wo S8).mono s9
          refine ⟨_, rfl, q', n', b', ws', rfl, mkO, gO, fun x6 GA sA ma6 => ?_⟩
          have mk := mk.mono sA
          have mk3 := mk3.mono sA
          have SA := Src.mono S9 sA
          obtain ⟨dx3, pb3, pw3, hx3, hb3, hw3⟩ := id mk3
          obtain ⟨dx6, pb6, pw6, hx6, hb6, hw6⟩ := id ma6
          obtain ⟨pbA, pwA, hqA, hbA, asA, hwA, hlA, hwsA⟩ := id mk
          refine ⟨_, rfl, x6, dx6, _, _, rfl, hx6, mc.ty hx3, nfC, x6, n', b', ws', .ref x, rfl, ma6, .inl ⟨x, n, b, ws, rfl, mk3, _, rfl, iteF' (decide_eq_false nO) ?_⟩⟩
          refine ⟨_, rfl, _, rfl, x, dx3, _, _, rfl, hx3, tyx_tup hqA, nfT, x, n, b, ws, .ref q, rfl, mk3, .inr ⟨_, tyx_tup hqA, mc.tup, _, rfl, iteF ?_⟩⟩
          refine ⟨_, rfl, x, dx3, _, _, rfl, hx3, .base (.int 4), nfI, x, n, b, ws, .int 4, rfl, mk3, .inr ⟨_, .base (.int 4), mc.int, _, rfl, iteF ?_⟩⟩
          -- a course, told by lists
          refine ⟨_, rfl, _, rfl, wo GA p2, p2, q, n, 3, b, ws, rfl, wo_same', wo_none, SA, mk.wo SA, m1, m4, by decide, fun a3 f3 t3 GB sB SB cr3 ok3 l3 => ?_⟩
          have mk := (mk.wo SA).mono sB
          have mk3 := (mk3.wo SA).mono sB
          obtain ⟨dx3, pb3, pw3, hx3, hb3, hw3⟩ := id mk3
          obtain ⟨pbB, pwB, hqB, hbB, asB, hwB, hlB, hwsB⟩ := id mk
          obtain ⟨c1, c2, ha3, hc1, hc2⟩ := id cr3
          refine ⟨_, rfl, x, dx3, _, rfl, hx3, rfl, ?_⟩
          refine ⟨_, rfl, q, _, _, _, rfl, rfl, hqB, at0, _, _, rfl, rfl, ?_⟩
          refine ⟨_, rfl, a3, _, _, _, rfl, rfl, ha3, (show atI [V.ref c1, V.ref c2] 0 = some (V.ref c1) from rfl), c1, _, rfl, .inr hc1, fun u1 hu1 => ?_⟩
          have t1 := NF.Same.new (o := .lst (vNs f3)) (Same.refl GB) hu1
          refine ⟨_, rfl, a3, _, _, _, rfl, rfl, NF.Same.tup t1 ha3, (show atI [V.ref c1, V.ref c2] 1 = some (V.ref c2) from rfl), c2, _, rfl, .inr (NF.Same.tup t1 hc2), fun u2 hu2 => ?_⟩
          have t12 := NF.Same.new (o := .lst (vNs t3)) (Same.refl _) hu2
          refine ⟨(by show 2 ≤ sizeLine; decide), fun u3 hu3 => ?_⟩
          have t23 := NF.Same.new (o := .lst [V.ref u1, V.ref u2]) (Same.refl _) hu3
          have t02 := Same.trans t1 (Same.trans t12 t23)
          have n1 := dr.n1
          refine ⟨x, u3, n, n - 1, b, ws, f3, t3, by show _ = _; rw [show ((n - 1 : Nat) : Int) = (n : Int) - 1 by omega]; rfl, mk3.mono t02, dr.good, by omega, ⟨u1, u2, .inl (SqL.of upd_same), .inl (SqL.of (t23 _ _ (t12 _ _ upd_same))), .inl (SqL.of (t23 _ _ upd_same))⟩, ok3, fun y z GC hz sC tb => ?_⟩
          obtain ⟨smz, ctz⟩ := need_small dr.good ok3 hz
          have sBC := Same.trans t02 sC
          have mk := mk.mono sBC
          have mk3 := mk3.mono sBC
          have SC := Src.mono SB sBC
          have cr3 := cr3.mono sBC
          obtain ⟨pbC, pwC, hqC, hbC, asC, hwC, hlC, hwsC⟩ := id mk
          refine ⟨_, rfl, _, rfl, _, rfl, q, _, _, _, rfl, rfl, hqC, at0, _, _, rfl, rfl, _, rfl, q, a3, n, n - 1, b, ws, f3, t3, by show _ = _; rw [show ((n - 1 : Nat) : Int) = (n : Int) - 1 by omega]; rfl, mk, dr, cr3, ok3, fun p3 z' GD hz' sD fo => ?_⟩
          obtain rfl : z = z' := plain_one hz hz' fun n _ => rfl
          refine ⟨y, p3, z, rfl, tb.mono sD, fo, smz, ctz, fun GE sE => ⟨true, rfl, iteF ?_⟩⟩
          have sCE := Same.trans sD sE
          have mk := mk.mono sCE
          have mk3 := mk3.mono sCE
          have SE := Src.mono SC sCE
          obtain ⟨pbE, pwE, hqE, hbE, asE, hwE, hlE, hwsE⟩ := id mk
          -- two ways at random
          refine ⟨_, rfl, _, rfl, q, _, _, _, rfl, rfl, hqE, at2, pwE, _, rfl, .inr hwE, ?_⟩
          rw [List.length_map, hlE]
          refine ⟨wo GE p2, p2, (ws.length : Int), rfl, wo_same', wo_none, SE, by omega, by omega, fun k1 GF k10 k11 sF SF => ?_⟩
          refine ⟨(by show 1 ≤ sizeLine; decide), fun v1 hv1 => ?_⟩
          have sv1 := NF.Same.new (o := .lst [V.int k1]) (Same.refl _) hv1
          refine ⟨v1, _, rfl, .inl (SqL.of upd_same), fun w1 GG sG tG => ?_⟩
          have sFG := Same.trans sv1 sG
          have mk := ((mk.wo SE).mono sF).mono sFG
          have mk3 := ((mk3.wo SE).mono sF).mono sFG
          have SG := Src.mono SF sFG
          obtain ⟨pbG, pwG, hqG, hbG, asG, hwG, hlG, hwsG⟩ := id mk
          refine ⟨_, rfl, _, rfl, q, _, _, _, rfl, rfl, hqG, at2, pwG, _, rfl, .inr hwG, ?_⟩
          rw [List.length_map, hlG]
          refine ⟨wo GG p2, p2, (ws.length : Int), rfl, wo_same', wo_none, SG, by omega, by omega, fun k2 GI k20 k21 sI SI => ?_⟩
          refine ⟨(by show 1 ≤ sizeLine; decide), fun v2 hv2 => ?_⟩
          have sv2 := NF.Same.new (o := .lst [V.int k2]) (Same.refl _) hv2
          refine ⟨v2, _, rfl, .inl (SqL.of upd_same), fun w2 GJ sJ tJ => ?_⟩
          have sIJ := Same.trans sv2 sJ
          refine ⟨(by show 2 ≤ sizeLine; decide), fun u hu => ?_⟩
          have sIK := NF.Same.new (o := .tup [V.ref w1, V.ref w2]) sIJ hu
          have hw1 : SqT K (upd GJ u (.tup [V.ref w1, V.ref w2])) w1 [V.int k1] := by
            obtain ⟨_, _, _, e⟩ := SG
            exact NF.Same.tup sIK (NF.Same.tup sI (SqT.wo tG e trivial))
          have hw2 := NF.Same.tup (NF.Same.new (o := .tup [V.ref w1, V.ref w2]) (Same.refl GJ) hu) tJ
          have hu2 := SqT.of (K := K) (upd_same (H := GJ) (a := u) (o := .tup [V.ref w1, V.ref w2]))
          have mk := ((mk.wo SG).mono sI).mono sIK
          have mk3 := ((mk3.wo SG).mono sI).mono sIK
          generalize upd GJ u (.tup [V.ref w1, V.ref w2]) = GK at hw1 hw2 hu2 mk mk3
          obtain ⟨pbK, pwK, hqK, hbK, asK, hwK, hlK, hwsK⟩ := id mk
          have k2w : k2.toNat < ws.length := by omega
          have k2a : k2.toNat < asK.length := by omega
          have hway := hwsK k2.toNat asK[k2.toNat] ws[k2.toNat] (List.getElem?_eq_getElem k2a) (List.getElem?_eq_getElem k2w)
          have e2 : atI (asK.map V.ref) k2 = some (V.ref asK[k2.toNat]) := by
            have := atI_nat (xs := asK.map V.ref) (j := k2.toNat) (v := V.ref asK[k2.toNat]) (by rw [List.getElem?_map, List.getElem?_eq_getElem k2a]; rfl)
            rw [Int.toNat_of_nonneg k20] at this
            exact this
          refine ⟨_, rfl, q, _, _, _, rfl, rfl, hqK, at2, _, rfl, u, _, _, _, rfl, rfl, hu2, (show atI [V.ref w1, V.ref w2] 1 = some (V.ref w2) from rfl), w2, _, _, _, rfl, rfl, hw2, (show atI [V.int k2] 0 = some (V.int k2) from rfl), pwK, _, _, _, rfl, rfl, hwK, e2, asK[k2.toNat], _, rfl, .inr hway, rfl, flat_deeds _, ?_⟩
          obtain ⟨dx3, pb3, pw3, hx3, hb3, hw3⟩ := id mk3
          refine ⟨_, rfl, x, dx3, _, rfl, hx3, rfl, ?_⟩
          refine ⟨_, rfl, x, u, n, 0, b, ws, [k1.toNat], [k2.toNat], rfl, mk3, dr.good, by omega, ⟨w1, w2, .inr hu2, .inr (by rw [show vNs [k1.toNat] = [V.int k1] by show [V.int (k1.toNat : Int)] = _; rw [Int.toNat_of_nonneg k10]]; exact hw1), .inr (by rw [show vNs [k2.toNat] = [V.int k2] by show [V.int (k2.toNat : Int)] = _; rw [Int.toNat_of_nonneg k20]]; exact hw2)⟩, ⟨fun j hj => by rw [List.mem_singleton.mp hj]; omega, fun j hj => by rw [List.mem_singleton.mp hj]; omega, by show 1 ≤ 200; decide, by show 1 ≤ 1; decide, by show 1 ≤ 40; decide⟩, fun y z GL hz sL tb => ?_⟩
          obtain ⟨smz, ctz⟩ := need_small dr.good (fs := [k1.toNat]) (ts := [k2.toNat]) ⟨fun j hj => by rw [List.mem_singleton.mp hj]; omega, fun j hj => by rw [List.mem_singleton.mp hj]; omega, by show 1 ≤ 200; decide, by show 1 ≤ 1; decide, by show 1 ≤ 40; decide⟩ hz
          obtain ⟨dy, _, _, hy, _, _⟩ := id tb
          refine ⟨y, rfl, _, _, rfl, rfl, ⟨by decide, by decide, by decide⟩, Or.inr ⟨dy, _, hy⟩, y, z, some (10 ^ 30), rfl, tb, smz, fun GM sM => ?_⟩
          have ew : deedsOf ws [k2.toNat] = ws[k2.toNat] := by
            unfold deedsOf
            simp [List.getD_eq_getElem?_getD, List.getElem?_eq_getElem k2w]
          have hlen : (ahead 0 (b ++ deedsOf ws [k1.toNat]) 0).length < 10 ^ 30 := by
            have l0 := ahead_len (i := 0) (a := b ++ deedsOf ws [k1.toNat]) (t := 0)
            have l1 : (deedsOf ws [k1.toNat]).length ≤ 4 := deeds_len (ks := [k1.toNat]) fun v hv => (dr.wy v hv).2.1
            rw [List.length_append] at l0
            exact Nat.lt_of_le_of_lt (show _ ≤ 8 by omega) (by decide)
          have hv : (val_ z.1 z.2.1 z.2.2 (some (10 ^ 30)) = none) ↔ none ∉ ws[k2.toNat] := by
            rw [show val_ z.1 z.2.1 z.2.2 (some (10 ^ 30)) = at_ z.1 z.2.1 z.2.2 (10 ^ 30) from vl_pos (by decide), plain_at hz (10 ^ 30) (by decide), need_never hlen, ew]
          generalize val_ z.1 z.2.1 z.2.2 (some (10 ^ 30)) = o at hv
          refine ⟨rfl, _, rfl, _, rfl, ?_⟩
          refine ⟨rfl, ?_⟩
          show Q (.bl (decide (V.bl (decide (vO o = V.non)) = V.bl (!inV (.str "give") (ws[k2.toNat].map dV))))) GM
          have e : V.bl (decide (vO o = V.non)) = V.bl (!inV (.str "give") (ws[k2.toNat].map dV)) := by
            have h1 := in_give (ds := ws[k2.toNat])
            cases o with
            | none =>
              have h2 : ¬ inV (.str "give") (ws[k2.toNat].map dV) = true := fun h => hv.mp rfl (h1.mp h)
              rw [Bool.eq_false_iff.mpr h2]
              rfl
            | some v =>
              have h2 : inV (.str "give") (ws[k2.toNat].map dV) = true := by
                refine h1.mpr ?_
                by_cases h : none ∈ ws[k2.toNat]
                · exact h
                · exact nomatch hv.mpr h
              rw [h2]
              rfl
          rw [decide_eq_true e]
          exact k GM
end
end K24
set_option Elab.async false
set_option linter.all false
set_option maxRecDepth 100000
set_option maxHeartbeats 4000000
namespace K24
open PySem PySem.Spec PyProof.Rows L2 He NF RZ NT
theorem all_ok {P : Program} {w : World} {K : PySem.W.Frag} {h : Heap} {mg : Str → Option Value} {f : Addr} (X : K.In h) (G : h.Ns mainGlobals mg) (hfa : mg ("law" : Str) = some (.ref f)) (c : SaysP exB fn K) :
    ∃ fd : FuncData, (∀ (s : Shared) (v : Value), BindsTo s fd ⟨[v], []⟩ [("_law_script", v)]) ∧ ∀ base : Heap, K.In base → base.Ns mainGlobals mg → FnOk P w K mg base CX0 11 f fd ["_law_script"] (spLaw K) := by
  have ht : ∀ f ∈ exL, f K = true := fun f hf => List.all_eq_true.mp c.truth f hf
  have b_nam : (namB gs FS) K = true := ht _ (List.mem_of_getElem? (i := 0) rfl)
  have b_int_MOST_INLETS : (intB "MOST_INLETS" 3) K = true := ht _ (List.mem_of_getElem? (i := 1) rfl)
  have b_int_MOST_WAYS : (intB "MOST_WAYS" 4) K = true := ht _ (List.mem_of_getElem? (i := 2) rfl)
  have b_int_MOST_DEEDS : (intB "MOST_DEEDS" 600) K = true := ht _ (List.mem_of_getElem? (i := 3) rfl)
  have b_int_MOST_DEEDS_OF_SEVERAL : (intB "MOST_DEEDS_OF_SEVERAL" 24) K = true := ht _ (List.mem_of_getElem? (i := 4) rfl)
  have b_int_MOST_FIRST : (intB "MOST_FIRST" 200) K = true := ht _ (List.mem_of_getElem? (i := 5) rfl)
  have b_int_MOST_THEN : (intB "MOST_THEN" 40) K = true := ht _ (List.mem_of_getElem? (i := 6) rfl)
  have b_cls : (clsB "Table") K = true := ht _ (List.mem_of_getElem? (i := 7) rfl)
  have b_fld : (fldsB "Table" ["head", "loop", "rise"]) K = true := ht _ (List.mem_of_getElem? (i := 8) rfl)
  have b_ty : (tyB "Table") K = true := ht _ (List.mem_of_getElem? (i := 9) rfl)
  have b_mk_Table : (mkB "Table") K = true := ht _ (List.mem_of_getElem? (i := 10) rfl)
  have b_call : (callB "Table") K = true := ht _ (List.mem_of_getElem? (i := 11) rfl)
  have b_clsM : (clsB "Maker") K = true := ht _ (List.mem_of_getElem? (i := 12) rfl)
  have b_fldM : (fldsB "Maker" ["inlets", "begin", "ways"]) K = true := ht _ (List.mem_of_getElem? (i := 13) rfl)
  have b_tyM : (tyB "Maker") K = true := ht _ (List.mem_of_getElem? (i := 14) rfl)
  have b_mk_Maker : (mkB "Maker") K = true := ht _ (List.mem_of_getElem? (i := 15) rfl)
  have b_eq : (eqB "Maker") K = true := ht _ (List.mem_of_getElem? (i := 16) rfl)
  have b_met_need : (metB "Maker" "need") K = true := ht _ (List.mem_of_getElem? (i := 17) rfl)
  have b_clsR : (clsB "Round") K = true := ht _ (List.mem_of_getElem? (i := 18) rfl)
  have b_fldR : (fldsB "Round" ["taken", "marks"]) K = true := ht _ (List.mem_of_getElem? (i := 19) rfl)
  have b_mk_Round : (mkB "Round") K = true := ht _ (List.mem_of_getElem? (i := 20) rfl)
  have b_nfm : (nfB "Maker" ["int", "tuple"]) K = true := ht _ (List.mem_of_getElem? (i := 21) rfl)
  have T : Txt K mg gs FS := nam_ok b_nam X G
  obtain ⟨tok_MOST_INLETS, h_MOST_INLETS⟩ := int_ok b_int_MOST_INLETS X G
  obtain ⟨tok_MOST_WAYS, h_MOST_WAYS⟩ := int_ok b_int_MOST_WAYS X G
  obtain ⟨tok_MOST_DEEDS, h_MOST_DEEDS⟩ := int_ok b_int_MOST_DEEDS X G
  obtain ⟨tok_MOST_DEEDS_OF_SEVERAL, h_MOST_DEEDS_OF_SEVERAL⟩ := int_ok b_int_MOST_DEEDS_OF_SEVERAL X G
  obtain ⟨tok_MOST_FIRST, h_MOST_FIRST⟩ := int_ok b_int_MOST_FIRST X G
  obtain ⟨tok_MOST_THEN, h_MOST_THEN⟩ := int_ok b_int_MOST_THEN X G
  have tcl := cls_ok b_cls
  have ty := ty_ok b_ty
  have tc : TabC K (ga K "Table") := ⟨tcl, flds_ok b_fld (by decide +kernel), flds_ok b_fld (by decide +kernel), flds_ok b_fld (by decide +kernel), ty.ac, ty.ag, ty.at_, ty.am, ty.self, ty.tup, ty.int, ty.non⟩
  have tyM := ty_ok b_tyM
  have mc : MakC K (ga K "Maker") := ⟨cls_ok b_clsM, flds_ok b_fldM (by decide +kernel), flds_ok b_fldM (by decide +kernel), flds_ok b_fldM (by decide +kernel), tyM.ac, tyM.ag, tyM.at_, tyM.am, tyM.self, tyM.tup, tyM.int⟩
  have rc : RouC K (ga K "Round") := ⟨cls_ok b_clsR, flds_ok b_fldR (by decide +kernel), flds_ok b_fldR (by decide +kernel)⟩
  obtain ⟨f0, F0⟩ := c.def_ 0 (d := dG "shortest_lap" s_shortest_lap) rfl
  obtain ⟨f1, F1⟩ := c.def_ 1 (d := dG "plain_form" s_plain_form) rfl
  obtain ⟨f2, F2⟩ := c.def_ 2 (d := dG "is_integer" s_is_integer) rfl
  obtain ⟨f3, F3⟩ := c.def_ 3 (d := dG "is_count" s_is_count) rfl
  obtain ⟨f4, F4⟩ := c.def_ 4 (d := dG "is_row" s_is_row) rfl
  obtain ⟨f5, F5⟩ := c.def_ 5 (d := dG "is_climb" s_is_climb) rfl
  obtain ⟨f6, F6⟩ := c.def_ 6 (d := dG "check_table" s_check_table) rfl
  obtain ⟨f7, F7⟩ := c.def_ 7 (d := dM "Table" "__init__" "Table.__init__" s_Table_init [.adr e0, .int 0]) rfl
  obtain ⟨f8, F8⟩ := c.def_ 8 (d := dG "end_of" s_end_of) rfl
  obtain ⟨f9, F9⟩ := c.def_ 9 (d := dG "value_at" s_value_at) rfl
  obtain ⟨f10, F10⟩ := c.def_ 10 (d := dM "Table" "__call__" "Table.__call__" s_Table_call []) rfl
  obtain ⟨f11, F11⟩ := c.def_ 11 (d := dG "is_deed" s_is_deed) rfl
  obtain ⟨f12, F12⟩ := c.def_ 12 (d := dG "are_deeds" s_are_deeds) rfl
  obtain ⟨f13, F13⟩ := c.def_ 13 (d := dG "are_ways" s_are_ways) rfl
  obtain ⟨f14, F14⟩ := c.def_ 14 (d := dG "check_maker" s_check_maker) rfl
  obtain ⟨f15, F15⟩ := c.def_ 15 (d := dM "Maker" "__init__" "Maker.__init__" s_Maker_init []) rfl
  obtain ⟨f16, F16⟩ := c.def_ 16 (d := dM "Round" "__init__" "Round.__init__" s_Round_init []) rfl
  obtain ⟨f17, F17⟩ := c.def_ 17 (d := dG "is_pair" s_is_pair) rfl
  obtain ⟨f18, F18⟩ := c.def_ 18 (d := dG "are_numbers" s_are_numbers) rfl
  obtain ⟨f19, F19⟩ := c.def_ 19 (d := dG "is_course" s_is_course) rfl
  obtain ⟨f20, F20⟩ := c.def_ 20 (d := dG "check_inlet" s_check_inlet) rfl
  obtain ⟨f21, F21⟩ := c.def_ 21 (d := dG "marks_along" s_marks_along) rfl
  obtain ⟨f22, F22⟩ := c.def_ 22 (d := dM "Maker" "__eq__" "Maker.__eq__" s_Maker_eq []) rfl
  obtain ⟨f23, F23⟩ := c.def_ 23 (d := dM "Maker" "need" "Maker.need" s_Maker_need []) rfl
  obtain ⟨f24, F24⟩ := c.def_ 24 (d := dG "_law_pick" s__law_pick) rfl
  obtain ⟨f25, F25⟩ := c.def_ 25 (d := dG "_law_source" s__law_source) rfl
  obtain ⟨f26, F26⟩ := c.def_ 26 (d := dG "_law_deeds" s__law_deeds) rfl
  obtain ⟨f27, F27⟩ := c.def_ 27 (d := dG "_law_maker" s__law_maker) rfl
  obtain ⟨f28, F28⟩ := c.def_ 28 (d := dG "_law_made" s__law_made) rfl
  obtain ⟨f29, F29⟩ := c.def_ 29 (d := dG "_law_plain" s__law_plain) rfl
  obtain ⟨f30, F30⟩ := c.def_ 30 (d := dG "_law_ahead" s__law_ahead) rfl
  obtain ⟨f31, F31⟩ := c.def_ 31 (d := dG "_law_on" s__law_on) rfl
  obtain ⟨f32, F32⟩ := c.def_ 32 (d := dG "_law_course" s__law_course) rfl
  obtain ⟨f33, F33⟩ := c.def_ 33 (d := dG "_law_walked" s__law_walked) rfl
  obtain ⟨f34, F34⟩ := c.def_ 34 (d := dG "_law_is_integer" s__law_is_integer) rfl
  obtain ⟨f35, F35⟩ := c.def_ 35 (d := dG "_law_is_count" s__law_is_count) rfl
  obtain ⟨f36, F36⟩ := c.def_ 36 (d := dG "_law_same" s__law_same) rfl
  obtain ⟨f37, F37⟩ := c.def_ 37 (d := dG "_law_asked" s__law_asked) rfl
  obtain ⟨f38, F38⟩ := c.def_ 38 (d := dG "_law_other" s__law_other) rfl
  obtain ⟨f39, F39⟩ := c.def_ 39 (d := dG "law" s_law) rfl
  have e := hfa.symm.trans (T.gl "law" (by decide +kernel))
  cases e
  have bl := FunD.bindsA (ps := ["_law_script"]) F39 fun _ _ _ _ _ _ us hl => match us, hl with | [_], _ => rfl
  refine ⟨f39, fun s v => bl s [v] rfl, fun base _ _ => ?_⟩
  have c_shortest_lap : Cal P w K mg base 1 "shortest_lap" (spLap K) := Cal.mk' F0 (ok_shortest_lap F0 T rfl) (T.gl _ (by decide +kernel)) (F0.bindsN fun _ _ _ _ _ _ us hl => match us, hl with | [_, _], _ => rfl)
  have c_plain_form : Cal P w K mg base 2 "plain_form" (spForm K) := Cal.mk' F1 (ok_plain_form F1 T rfl c_shortest_lap) (T.gl _ (by decide +kernel)) (F1.bindsN fun _ _ _ _ _ _ us hl => match us, hl with | [_, _, _], _ => rfl)
  have c_is_integer : Cal P w K mg base 1 "is_integer" spIsInt := Cal.mk' F2 (ok_is_integer F2 T) (T.gl _ (by decide +kernel)) (F2.bindsN fun _ _ _ _ _ _ us hl => match us, hl with | [_], _ => rfl)
  have c_is_count : Cal P w K mg base 2 "is_count" spIsCount := Cal.mk' F3 (ok_is_count F3 T c_is_integer) (T.gl _ (by decide +kernel)) (F3.bindsN fun _ _ _ _ _ _ us hl => match us, hl with | [_], _ => rfl)
  have c_is_row : Cal P w K mg base 1 "is_row" (spIsRow K) := Cal.mk' F4 (ok_is_row F4 T) (T.gl _ (by decide +kernel)) (F4.bindsN fun _ _ _ _ _ _ us hl => match us, hl with | [_], _ => rfl)
  have c_is_climb : Cal P w K mg base 2 "is_climb" (spIsClimb K) := Cal.mk' F5 (ok_is_climb F5 T c_is_row c_is_integer) (T.gl _ (by decide +kernel)) (F5.bindsN fun _ _ _ _ _ _ us hl => match us, hl with | [_], _ => rfl)
  have c_check_table : Cal P w K mg base 3 "check_table" (spCheck K) := Cal.mk' F6 (ok_check_table F6 T c_is_climb c_is_count) (T.gl _ (by decide +kernel)) (F6.bindsN fun _ _ _ _ _ _ us hl => match us, hl with | [_, _, _], _ => rfl)
  have oi_Table : FnOk P w K mg base CX0 4 _ f7 ["self", "head", "loop", "rise"] (spInit K (ga K "Table")) := (ok_Table_init F7 T tcl tc.hd tc.lp tc.ri c_check_table c_plain_form)
  obtain ⟨dd_m_Table, vv_m_Table, bb_m_Table⟩ := F7.binds1 (ps := ["self", "head", "loop", "rise"]) 4 2 (List.cons_ne_nil _ _) rfl fun T kV doc pm an cdv ct us its hl hd => match us, hl, its, hd with | [_, _, _, _], _, [_, _], _ => ⟨_, rfl, rfl⟩
  have m_Table : Mak P w K mg base 4 0 "Table" (ga K "Table") (spInit K (ga K "Table")) [] := ⟨_, _, _, _, mk_ok b_mk_Table, oi_Table, T.gl "Table" (by decide +kernel), bb_m_Table, vv_m_Table⟩
  have c_end_of : Cal P w K mg base 1 "end_of" (spEnd K (ga K "Table")) := Cal.mk' F8 (ok_end_of F8 T tc) (T.gl _ (by decide +kernel)) (F8.bindsN fun _ _ _ _ _ _ us hl => match us, hl with | [_], _ => rfl)
  have c_value_at : Cal P w K mg base 2 "value_at" (spAt K (ga K "Table")) := Cal.mk' F9 (ok_value_at F9 T tc c_end_of) (T.gl _ (by decide +kernel)) (F9.bindsN fun _ _ _ _ _ _ us hl => match us, hl with | [_, _], _ => rfl)
  have o_call : CalO P w K mg base 3 (ga K "Table") (spAt K (ga K "Table")) := ⟨_, f10, _, call_ok b_call, (ok_Table_call F10 T c_is_count c_value_at), (F10.bindsN fun _ _ _ _ _ _ us hl => match us, hl with | [_, _], _ => rfl)⟩
  have c_is_deed : Cal P w K mg base 3 "is_deed" spDeed := Cal.mk' F11 (ok_is_deed F11 T c_is_count) (T.gl _ (by decide +kernel)) (F11.bindsN fun _ _ _ _ _ _ us hl => match us, hl with | [_, _], _ => rfl)
  have c_are_deeds : Cal P w K mg base 4 "are_deeds" (spDeeds K) := Cal.mk' F12 (ok_are_deeds F12 T c_is_row c_is_deed) (T.gl _ (by decide +kernel)) (F12.bindsN fun _ _ _ _ _ _ us hl => match us, hl with | [_, _], _ => rfl)
  have c_are_ways : Cal P w K mg base 5 "are_ways" (spWays K) := Cal.mk' F13 (ok_are_ways F13 T h_MOST_WAYS c_is_row c_are_deeds) (T.gl _ (by decide +kernel)) (F13.bindsN fun _ _ _ _ _ _ us hl => match us, hl with | [_, _], _ => rfl)
  have c_check_maker : Cal P w K mg base 6 "check_maker" (spCheckM K) := Cal.mk' F14 (ok_check_maker F14 T h_MOST_INLETS h_MOST_DEEDS h_MOST_DEEDS_OF_SEVERAL c_is_integer c_are_deeds c_are_ways) (T.gl _ (by decide +kernel)) (F14.bindsN fun _ _ _ _ _ _ us hl => match us, hl with | [_, _, _], _ => rfl)
  have oi_Maker : FnOk P w K mg base CX0 7 _ f15 ["self", "inlets", "begin", "ways"] (spMkInit K (ga K "Maker")) := (ok_Maker_init F15 T mc c_check_maker)
  have m_Maker : Mak P w K mg base 7 0 "Maker" (ga K "Maker") (spMkInit K (ga K "Maker")) [] := ⟨_, _, _, _, mk_ok b_mk_Maker, oi_Maker, T.gl "Maker" (by decide +kernel), (F15.bindsN fun _ _ _ _ _ _ us hl => match us, hl with | [_, _, _, _], _ => rfl), .nil⟩
  have oi_Round : FnOk P w K mg base CX0 1 _ f16 ["self", "deeds", "inlet"] (spRoInit K (ga K "Round")) := (ok_Round_init F16 T rc)
  have m_Round2 : Mak P w K mg base 1 0 "Round" (ga K "Round") (spRoInit K (ga K "Round")) [] := ⟨_, _, _, _, mk_ok b_mk_Round, oi_Round, T.gl "Round" (by decide +kernel), (F16.bindsN fun _ _ _ _ _ _ us hl => match us, hl with | [_, _, _], _ => rfl), .nil⟩
  have c_is_pair : Cal P w K mg base 2 "is_pair" (spPair K) := Cal.mk' F17 (ok_is_pair F17 T c_is_row) (T.gl _ (by decide +kernel)) (F17.bindsN fun _ _ _ _ _ _ us hl => match us, hl with | [_], _ => rfl)
  have c_are_numbers : Cal P w K mg base 3 "are_numbers" (spNums K) := Cal.mk' F18 (ok_are_numbers F18 T c_is_row c_is_count) (T.gl _ (by decide +kernel)) (F18.bindsN fun _ _ _ _ _ _ us hl => match us, hl with | [_, _, _, _], _ => rfl)
  have c_is_course : Cal P w K mg base 4 "is_course" (spCrs K (ga K "Maker")) := Cal.mk' F19 (ok_is_course F19 T mc h_MOST_FIRST h_MOST_THEN c_is_pair c_are_numbers) (T.gl _ (by decide +kernel)) (F19.bindsN fun _ _ _ _ _ _ us hl => match us, hl with | [_, _], _ => rfl)
  have c_check_inlet : Cal P w K mg base 3 "check_inlet" (spChkI K (ga K "Maker")) := Cal.mk' F20 (ok_check_inlet F20 T mc c_is_count) (T.gl _ (by decide +kernel)) (F20.bindsN fun _ _ _ _ _ _ us hl => match us, hl with | [_, _], _ => rfl)
  have c_marks_along : Cal P w K mg base 1 "marks_along" (spMarks K (ga K "Round")) := Cal.mk' F21 (ok_marks_along F21 T rc) (T.gl _ (by decide +kernel)) (F21.bindsN fun _ _ _ _ _ _ us hl => match us, hl with | [_, _], _ => rfl)
  have o_eq : EqC P w K mg base 1 (ga K "Maker") (spMEq K (ga K "Maker")) := ⟨_, f22, _, (ok_Maker_eq F22 T (T.gl "Maker" (by decide +kernel)) mc), (eq_ok b_eq).e1, (eq_ok b_eq).e2, (eq_ok b_eq).e3, (F22.bindsN fun _ _ _ _ _ _ us hl => match us, hl with | [_, _], _ => rfl)⟩
  have o_need : MetC P w K mg base 6 (ga K "Maker") "need" (spNeed K (ga K "Table") (ga K "Maker")) := ⟨mc.cl, _, f23, _, met_ok b_met_need, (ok_Maker_need F23 T mc rc c_check_inlet c_is_course c_marks_along m_Round2 m_Table), (F23.bindsN fun _ _ _ _ _ _ us hl => match us, hl with | [_, _, _], _ => rfl)⟩
  have c__law_pick : Cal P w K mg base 1 "_law_pick" spPick := Cal.mk' F24 (ok_pick F24 T (by decide +kernel)) (T.gl _ (by decide +kernel)) (F24.bindsN fun _ _ _ _ _ _ us hl => match us, hl with | [_, _], _ => rfl)
  have c__law_source : Cal P w K mg base 1 "_law_source" (spSource K) := Cal.mk' F25 (ok_source F25 T (by decide +kernel) (by decide +kernel) (by decide +kernel)) (T.gl _ (by decide +kernel)) (F25.bindsN fun _ _ _ _ _ _ us hl => match us, hl with | [_, _], _ => rfl)
  have c__law_deeds : Cal P w K mg base 2 "_law_deeds" spLDeeds := Cal.mk' F26 (ok__law_deeds F26 T c__law_pick) (T.gl _ (by decide +kernel)) (F26.bindsN fun _ _ _ _ _ _ us hl => match us, hl with | [_, _, _, _], _ => rfl)
  have c__law_maker : Cal P w K mg base 3 "_law_maker" (spLMaker K) := Cal.mk' F27 (ok__law_maker F27 T c__law_pick c__law_deeds) (T.gl _ (by decide +kernel)) (F27.bindsN fun _ _ _ _ _ _ us hl => match us, hl with | [_, _, _, _], _ => rfl)
  have c__law_made : Cal P w K mg base 9 "_law_made" (spLMade K (ga K "Maker")) := Cal.mk' F28 (ok__law_made F28 T m_Maker) (T.gl _ (by decide +kernel)) (F28.bindsN fun _ _ _ _ _ _ us hl => match us, hl with | [_], _ => rfl)
  have c__law_plain : Cal P w K mg base 1 "_law_plain" (spPlainL K) := Cal.mk' F29 (ok__law_plainL F29 T) (T.gl _ (by decide +kernel)) (F29.bindsN fun _ _ _ _ _ _ us hl => match us, hl with | [_, _, _], _ => rfl)
  have c__law_ahead : Cal P w K mg base 1 "_law_ahead" (spLAhead K) := Cal.mk' F30 (ok__law_ahead F30 T) (T.gl _ (by decide +kernel)) (F30.bindsN fun _ _ _ _ _ _ us hl => match us, hl with | [_, _], _ => rfl)
  have c__law_on : Cal P w K mg base 2 "_law_on" (spLOn K) := Cal.mk' F31 (ok__law_on F31 T c__law_ahead c__law_plain) (T.gl _ (by decide +kernel)) (F31.bindsN fun _ _ _ _ _ _ us hl => match us, hl with | [_, _, _], _ => rfl)
  have c__law_course : Cal P w K mg base 2 "_law_course" (spLCourse K) := Cal.mk' F32 (ok__law_course F32 T c__law_pick) (T.gl _ (by decide +kernel)) (F32.bindsN fun _ _ _ _ _ _ us hl => match us, hl with | [_, _, _], _ => rfl)
  have c__law_walked : Cal P w K mg base 1 "_law_walked" (spLWalked K) := Cal.mk' F33 (ok__law_walked F33 T) (T.gl _ (by decide +kernel)) (F33.bindsN fun _ _ _ _ _ _ us hl => match us, hl with | [_, _, _, _], _ => rfl)
  have c__law_is_integer : Cal P w K mg base 1 "_law_is_integer" spIsInt := Cal.mk' F34 (ok__law_is_integer F34 T) (T.gl _ (by decide +kernel)) (F34.bindsN fun _ _ _ _ _ _ us hl => match us, hl with | [_], _ => rfl)
  have c__law_is_count : Cal P w K mg base 2 "_law_is_count" spIsCount := Cal.mk' F35 (ok__law_is_count F35 T c__law_is_integer) (T.gl _ (by decide +kernel)) (F35.bindsN fun _ _ _ _ _ _ us hl => match us, hl with | [_], _ => rfl)
  have c__law_same : Cal P w K mg base 3 "_law_same" (spSame K (ga K "Table")) := Cal.mk' F36 (ok__law_same F36 T (T.gl "Table" (by decide +kernel)) tc c__law_is_count) (T.gl _ (by decide +kernel)) (F36.bindsN fun _ _ _ _ _ _ us hl => match us, hl with | [_, _], _ => rfl)
  have c__law_asked : Cal P w K mg base 10 "_law_asked" (spLAsked K) := Cal.mk' F37 (ok__law_asked F37 T mc tc c__law_made o_need c__law_same c__law_on c__law_walked o_call) (T.gl _ (by decide +kernel)) (F37.bindsN fun _ _ _ _ _ _ us hl => match us, hl with | [_, _, _], _ => rfl)
  have c__law_other : Cal P w K mg base 2 "_law_other" (spLOther K) := Cal.mk' F38 (ok__law_other F38 T c__law_pick) (T.gl _ (by decide +kernel)) (F38.bindsN fun _ _ _ _ _ _ us hl => match us, hl with | [_, _], _ => rfl)
  exact ok_law F39 T mc tc c__law_source c__law_pick c__law_maker c__law_made c__law_asked c__law_course c__law_other m_Maker o_need c__law_same c__law_on o_call o_eq (nf_ok b_nfm (by decide +kernel)) (nf_ok b_nfm (by decide +kernel))
end K24
set_option Elab.async false
set_option linter.all false
set_option maxRecDepth 100000
set_option maxHeartbeats 4000000
open PySem PySem.W PySem.Calls PyProof.Rows
theorem PySem.Challenge.cw_needforth_k24_whole_needs_on_courses_holds : PySem.Challenge.rw_needforth_k24_whole_needs_on_courses.Holds := by
  w_on; o_law
  refine HandSHeadRun.head_imp (r := OpenLaw.row PySem.Challenge.rw_needforth_k24_whole_needs_on_courses) (q := view (OpenLaw.row PySem.Challenge.rw_needforth_k24_whole_needs_on_courses).prog [0, 80]) (H := K24.hk) (ob := K24.ob) (M := 12000) (loose := K24.loose) (d := HandSHeadRun.topDef (OpenLaw.row PySem.Challenge.rw_needforth_k24_whole_needs_on_courses).prog 80) (kwd := []) K24.ob_eq
    K24.run (by kernel_rfl) (by kernel_rfl) (by kernel_rfl) (by rfl) (by first | assumption | decide +kernel) (by decide +kernel) ⟨rfl, rfl, rfl, rfl, rfl, by decide +kernel⟩ ?hw ?hc
  case hw => w_witness2
  case hc =>
    refine NF.walk_ofEB (l := PySem.Challenge.rw_needforth_k24_whole_needs_on_courses) (n := 63) (k := 11) (x := "_law_script") (CX := L2.CX0) rfl (by decide) (by kernel_rfl) ⟨rfl, by decide, by decide⟩ ?F (fun _ _ _ _ z => z)
    intro w mg fa h Y G hmg0
    obtain ⟨K, KX, c⟩ := Y
    have hmg : mg ("law" : PySem.Str) = some (.ref fa) := by
      have e : (HandSHeadRun.topDef (OpenLaw.row PySem.Challenge.rw_needforth_k24_whole_needs_on_courses).prog 80).name = ("law" : PySem.Str) := by kernel_rfl
      rw [← e]
      exact hmg0
    obtain ⟨fd, hb, hF⟩ := K24.all_ok (P := (PySem.Challenge.rw_needforth_k24_whole_needs_on_courses).prog) (w := w) KX G hmg c
    exact ⟨K, fd, K24.spLaw K, KX, hb, fun H a ns hl hbits _ hS => ⟨a, ns, rfl, hS, hl, hbits, fun _ => rfl⟩, hF⟩
