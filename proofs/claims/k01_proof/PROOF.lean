import PyProof.Rows.All
import Wide.All
import OpenK.AllK
import Wide.FinOn
import PyProof.EqAt
import PyProof.EqKinds
import PyProof.TupleCall
import KE.KStateDown
import KE.KIsAll
import KE.KTryMore
import KE.KFromBytes
import HandS.ForMost
import HandS.ForExc
import HandS.IsInst
import HandS.Flow
import HandS.WideBits
import HandS.ExcInit
import HandS.ExcIs
import HandS.Head0
import HandS.Head1
import HandS.Head2
import HandS.HeadEnd
import HandS.HeadHook1
import HandS.HeadHook2
import HandS.ExcField
import HandS.ExcValue
import KE.KExcIs
import HandS.EndBits
import HandS.TupAny
import HandS.Zip
import HandS.TupMul
import HandS.Gcd
import HandS.Property
import HandS.Conv
import KE.KAssignIn
import HandS.Star
import HandS.WordsList
import PyProof.InstNe
import PySem.Challenge.RW_needforth_k01_whole_one_form
import HandS.Head3
set_option Elab.async false
set_option linter.all false
set_option maxRecDepth 100000
set_option maxHeartbeats 4000000
/-! Facts of the top as one truth of the written part, and the head that hands them on. -/
namespace NF
open PySem PySem.Spec PyProof.Rows L2 He
def obsM (ex : PySem.W.Frag → Bool) (fn : List DefD) (K : PySem.W.Frag) : AlD := (ex K && fn.all fun d => d.ok K, fn.map fun d => fnW K d.at_)
def SaysM (ex : PySem.W.Frag → Bool) (fn : List DefD) (K : PySem.W.Frag) : Prop := obsM ex fn K = valD fn
def obsMG (n : Nat) (ex : PySem.W.Frag → Bool) (fn : List DefD) (g : Addr → Option Obj) : AlD := obsM ex fn (frG g (asD g n))
def hookM (n : Nat) (ex : PySem.W.Frag → Bool) (fn : List DefD) : PySem.W.Hook where
  α := AlD
  obs := fun s => obsMG n ex fn s.heap.get?
  val := fun _ => valD fn
  says := fun _ h => ∃ K : PySem.W.Frag, K.In h ∧ SaysM ex fn K
  of := fun _ _ e => ⟨_, frG_in, e⟩
  keeps := fun _ _ _ ⟨K, hK, c⟩ k => ⟨K, PySem.W.Frag.In.keeps hK k, c⟩
theorem obsMG_eq {n : Nat} {ex : PySem.W.Frag → Bool} {fn : List DefD} {g : Addr → Option Obj} {s : Shared} (h : ∀ a, g a = s.heap.get? a) : obsMG n ex fn g = (hookM n ex fn).obs s := by
  have e : g = s.heap.get? := funext h
  rw [e] <;> rfl
section
variable {ex : PySem.W.Frag → Bool} {fn : List DefD} {K : PySem.W.Frag}
theorem SaysM.truth (c : SaysM ex fn K) : ex K = true :=
  (ba (show (ex K && fn.all fun d => d.ok K) = true from congrArg (fun z : AlD => z.1) c)).1
theorem SaysM.def_ (c : SaysM ex fn K) (i : Nat) {d : DefD} (h : fn[i]? = some d := by rfl) : ∃ fd, FunD K d.name d.qual d.params d.body d.scope (d.dvs K) (d.kws K) (fAd K d.at_) fd := by
  have c2 := (ba (show (ex K && fn.all fun d => d.ok K) = true from congrArg (fun z : AlD => z.1) c)).2
  have e : fn.map (fun d => fnW K d.at_) = fn.map DefD.val := congrArg (fun z : AlD => z.2) c
  have e2 : (fn.map fun d => fnW K d.at_)[i]? = (fn.map DefD.val)[i]? := by rw [e]
  rw [List.getElem?_map, List.getElem?_map, h] at e2
  exact DefD.funD (Option.some.inj e2) (List.all_eq_true.mp c2 d (List.mem_of_getElem? h))
end
/-! ### an exception class of the program's own, over ValueError, by truths of the written part -/
/-- the class's own object -/
def exObjB (K : PySem.W.Frag) (C : Addr) : Bool := match K.lookup C with
  | some ⟨.type t, _, .cls cd, sl⟩ => t == "type" && (match cd.mro with
    | .ref C' :: bm => C' == C && PySem.HandSPX.refsVE bm
    | _ => false) && (cd.hasDict && !cd.hasDel) && (match sl.toList with
    | [_, _, _, _, some (.builtin n), _] => n == "ValueError.__new__"
    | _ => false)
  | _ => false
theorem exObjB_ok {K : PySem.W.Frag} {C : Addr} (h : exObjB K C = true) :
    ∃ nm q N bs bm sn sub ab col dd k0 k1 k2 k3 k5, K.lookup C = some (excClassObj nm q C N bs bm true sn sub ab col dd k0 k1 k2 k3 k5 "ValueError.__new__") ∧ PySem.HandSPX.refsVE bm = true := by
  unfold exObjB at h
  split at h
  · rename_i t dd cd sl hl
    obtain ⟨h, h4⟩ := ba h
    obtain ⟨h, h3⟩ := ba h
    obtain ⟨h1, h2⟩ := ba h
    split at h2
    · rename_i C' bm hm
      obtain ⟨h5, h6⟩ := ba h2
      split at h4
      · rename_i k0 k1 k2 k3 n k5 hs
        obtain ⟨h7, h8⟩ := ba h3
        have e1 : t = "type" := eq_of_beq h1
        have e5 : C' = C := eq_of_beq h5
        have e9 : n = "ValueError.__new__" := eq_of_beq h4
        subst e1 e5 e9
        obtain ⟨nm, bs, mro, N, q, hd, sn, sub, ab, col, hdel⟩ := cd
        dsimp only at hm h7 h8
        subst hm h7
        have hdel' : hdel = false := by
          cases hdel with
          | false => rfl
          | true => cases h8
        subst hdel'
        have hsl : sl = #[k0, k1, k2, k3, some (.builtin "ValueError.__new__"), k5] := by
          have := congrArg List.toArray hs
          simpa using this
        subst hsl
        exact ⟨nm, q, N, bs, bm, sn, sub, ab, col, dd, k0, k1, k2, k3, k5, hl, h6⟩
      · cases h4
    · cases h2
  · cases h
/-- all that making one, storing to it and raising it ask of the class -/
def oexB (K : PySem.W.Frag) (C : Addr) : Bool :=
  exObjB K C && eqO (PySem.W.findIn K (.ref C) "__setattr__") (some (some (.builtin "object.__setattr__"))) && decide (PySem.W.subIn K (.ref C) (.type "BaseException") = some true) &&
    decide (PySem.W.typeIn K (.ref C) = some (.type "type")) && PySem.W.keepIn K (.ref C)
theorem oexB_ok {K : PySem.W.Frag} {C : Addr} (h : oexB K C = true) : OexC K C := by
  obtain ⟨h, h5⟩ := ba h
  obtain ⟨h, h4⟩ := ba h
  obtain ⟨h, h3⟩ := ba h
  obtain ⟨h1, h2⟩ := ba h
  exact ⟨exObjB_ok h1, eqO_ok h2, of_decide_eq_true h3, of_decide_eq_true h4, h5⟩
/-- all that isinstance asks of an instance's class -/
def excB (K : PySem.W.Frag) (D : Addr) : Bool :=
  eqO (PySem.W.findIn K (.ref D) "__getattribute__") (some (some (.builtin "BaseException.__getattribute__"))) && eqO (PySem.W.findIn K (.ref D) "__getattr__") (some none) &&
    decide (PySem.W.subIn K (.ref D) (.type "BaseException") = some true) && PySem.W.hasDictIn K D && eqO (PySem.W.findIn K (.ref D) "__class__") (some (some (.builtin "object.__class__"))) &&
    eqO (PySem.W.specialIn K (.builtin "object.__class__") "__get__") (some (some (.builtin "getset_descriptor.__get__"))) && decide (PySem.W.takesIn K (.builtin "object.__class__") = some true) && decide (PySem.W.mroIn K D (.type "object") = some true)
theorem excB_ok {K : PySem.W.Frag} {D : Addr} (h : excB K D = true) : ExcC K D := by
  obtain ⟨h, h8⟩ := ba h
  obtain ⟨h, h7⟩ := ba h
  obtain ⟨h, h6⟩ := ba h
  obtain ⟨h, h5⟩ := ba h
  obtain ⟨h, h4⟩ := ba h
  obtain ⟨h, h3⟩ := ba h
  obtain ⟨h1, h2⟩ := ba h
  exact ⟨eqO_ok h1, eqO_ok h2, of_decide_eq_true h3, h4, eqO_ok h5, eqO_ok h6, of_decide_eq_true h7, of_decide_eq_true h8⟩
end NF
set_option Elab.async false
set_option linter.all false
set_option maxRecDepth 100000
set_option maxHeartbeats 4000000
/-! Own exceptions as values: made, asked for their class, read. -/
namespace NF
open PySem PySem.Spec PyProof.Rows L2 He
/-! ### C(e, ..) as a value: the class's own __init__ keeps sp -/
def tMkV (C : Addr) (sp : Sp) (ta : TA) : TE := fun σ H Q => ta σ H fun vs H1 => vs.length ≤ 1000 ∧ ∀ a, H1 a = none → sp (.ref a :: vs) (upd H1 a (exo a C none))
  (fun v H2 => v = .non ∧ Q (.ref a) H2) (fun _ _ _ => False)
section
variable {X : Cx} {e : Expr} {es : List Expr} {ta : TA} {p pos : Pos}
theorem pe_oex {CX : CXT} {x : Str} {C fI : Addr} {k : Nat} {fd : FuncData} {ps : List Str} {sp : Sp} (T : OexC X.K C) (iC : PySem.W.findIn X.K (.ref C) "__init__" = some (some (.ref fI))) (tI : PySem.W.typeIn X.K (.ref fI) = some (.type "function"))
    (F1 : FnOk X.prog X.w X.K X.mg X.base CX k fI fd ps sp) (hr : Room (k + 1) X.A) (hb : Binds X.K fd ps []) (hx : Passes CX X (fun _ _ _ => False)) (hg : Gl X x) (hm : X.mg x = some (.ref C)) (ha : PA X (e :: es) ta)
    (hdb : (x == ("__debug__" : Str)) = false := by decide) (he : starEach (e :: es) X.env = (false, eval e X.env) :: starEach es X.env := by rfl) (hpl : (backTo pos (starEach es X.env)).any (·.1) = false := by rfl) :
    PE X (.Call (.Name x p) (e :: es) [] pos) (tMkV C sp ta) := by
  refine ⟨fun pins s σ H Q I h => ?_⟩
  obtain ⟨nm, q, N, bs, bm, sn, sub, ab, col, dd, k0, k1, k2, k3, k5, hC, hbm⟩ := T.cls
  refine wpAny_Call_Name_kw (ld_glob I hg hm ?_ hdb)
  refine PySem.W.callWith_K (h₀ := X.base) I.ok.mod.kin T.kC (thn (ha.run pos pins s σ H _ I h) fun us s1 ⟨vs, H1, I1, r1, hz, q1⟩ => ⟨I1.kIn, ?_⟩) he hpl
  show wpAny _ _ (call (.ref C) us) _ _ _
  obtain ⟨hp, g, dr, tk, os⟩ := s1
  have hsz : hp.objs.size ≤ hp.objs.size + 1 := Nat.le_succ _
  have hn : H1 (hp.objs.size + 1) = none := I1.hok.fresh hsz
  have hq := q1 (hp.objs.size + 1) hn
  have kk : ∀ b o, hp.get? b = some o → ((hp.push (PySem.W.kdv_tup us)).push (PySem.HandSPX.excO C hp.objs.size)).get? b = some o := fun b o e => Heap.get?_push_of_some _ (Heap.get?_push_of_some _ e)
  have hget : ((hp.push (PySem.W.kdv_tup us)).push (PySem.HandSPX.excO C hp.objs.size)).get? (hp.objs.size + 1) = some (PySem.HandSPX.excO C hp.objs.size) := by heap_get
  have I2 : Inv X pins σ (upd H1 (hp.objs.size + 1) (exo (hp.objs.size + 1) C none)) ⟨(hp.push (PySem.W.kdv_tup us)).push (PySem.HandSPX.excO C hp.objs.size), g, dr, tk, os⟩ :=
    I1.laid (t' := tk) (a := hp.objs.size + 1) (o := exo (hp.objs.size + 1) C none) (h' := (hp.push (PySem.W.kdv_tup us)).push (PySem.HandSPX.excO C hp.objs.size)) kk hsz (exo_ok hget)
  have r2 : Vals (V.ref (hp.objs.size + 1) :: vs) (Value.ref (hp.objs.size + 1) :: us) := .cons rfl r1
  have hl : (Value.ref (hp.objs.size + 1) :: us ++ []).length = ps.length := by
    have e := r2.length
    rw [F1.len _ _ _ _ hq] at e
    rw [List.append_nil]
    exact e.symm
  have hus : us.length ≤ sizeLine := by
    rw [← Paired.length r1, sizeLine_eq]
    omega
  have hb' : BindsTo (⟨(hp.push (PySem.W.kdv_tup us)).push (PySem.HandSPX.excO C hp.objs.size), g, dr, tk, os⟩ : Shared) fd ⟨Value.ref (hp.objs.size + 1) :: us, []⟩ (ps.zip (Value.ref (hp.objs.size + 1) :: us)) := by
    have := hb ⟨(hp.push (PySem.W.kdv_tup us)).push (PySem.HandSPX.excO C hp.objs.size), g, dr, tk, os⟩ (Value.ref (hp.objs.size + 1) :: us) I2.kIn hl
    rw [List.append_nil] at this
    exact this
  refine wpAny_call (PySem.HandSPX.call_own F.excBase_ValueError (fun Y => PySem.HandSPX.refsVE_contains Y bm hbm) (I1.kIn _ _ hC) (PySem.W.looks_findIn I1.kIn iC) (fun self => PySem.W.bind_fn I1.kIn self tI) hus
    (codeAny_mono (F1.run _ X.stack _ _ ⟨Value.ref (hp.objs.size + 1) :: us, []⟩ (Value.ref (hp.objs.size + 1) :: us) _ _ (fun _ _ _ => False) (hr.make C us []) (I2.env0.make C us []) hb' r2 hq) fun r s' hq' => ?_))
  cases r with
  | error er => exact hx pins σ _ _ er s' I2 hq'
  | ok fl =>
    cases fl with
    | ret u =>
      obtain ⟨v, H2, os2, bare2, un2, hok2, rv, ev, q2⟩ := hq'
      subst ev
      obtain ⟨h2, g2, d2, t2, os'⟩ := s'
      exact ⟨rv, V.ref (hp.objs.size + 1), H2, I2.call' (ch := []) os2 un2 hok2 bare2 (fun b z => absurd z (by simp)), rfl, q2⟩
    | next => exact False.elim hq'
    | brk => exact False.elim hq'
    | cont => exact False.elim hq'
/-- C(), an own exception class without own __init__, as a value -/
def tMk0 (C : Addr) : TE := fun _ H Q => ∀ a, H a = none → Q (.ref a) (upd H a (exo a C none))
theorem pe_exc0 {C : Addr} {x : Str} (q : PySem.W.excIn X.K C He.veBase "ValueError.__new__" = true) (gC : X.mg x = some (.ref C)) (kC : PySem.W.keepIn X.K (.ref C) = true) (hg : Gl X x)
    (hdb : (x == ("__debug__" : Str)) = false := by decide) :
    PE X (.Call (.Name x p) [] [] pos) (tMk0 C) := by
  refine ⟨fun pins s σ H Q I h => ?_⟩
  refine wpAny_Call_Name_kw (ld_glob I hg gC ?_ hdb)
  refine PySem.W.callWith_K0 I.kIn kC ?_
  show wpAny _ _ (call (.ref C) []) _ _ _
  obtain ⟨bm, N, nm, qn, bs, hdct, sn, sub, ab, col, dd, k0, k1, k2, k3, k5, mN, hC, hN, hni, T⟩ := exc_obj I.kIn q
  obtain ⟨hp, g, dr, tk, os⟩ := s
  refine wpAny_call_exc_subT F.excBase_ValueError T hC hN hni (fun h' a hm => ?_) (Nat.zero_le _)
  have hn : H a = none := I.hok.gone hm.new
  obtain ⟨t, ht, _, _⟩ := hm.there
  exact ⟨.ref a, upd H a (exo a C none), I.laidN hm.keeps hm.new hn (exo_ok ht), rfl, h a hn⟩
/-! ### isinstance of such a value -/
def rIsV (K : PySem.W.Frag) : List V → Hp → VK → Prop := fun xs H Q => ∃ (a C : Addr) (od : Option Addr) (c : V) (u : Value) (b : Bool), xs = [.ref a, c] ∧ ClsV c u ∧ ExcC K C ∧ H a = some (exo a C od) ∧
  (∀ d, od = some d → ∃ fs, H d = some (exd d fs)) ∧ PySem.W.kitOne K (.ref C) u = some b ∧ Q (.bl b) H
theorem inst_exo {pins : List (Addr × Obj)} {σ : L2.St} {H : Hp} {s : Shared} {a C : Addr} {od : Option Addr} (I : Inv X pins σ H s) (e : H a = some (exo a C od)) (hd : ∀ d, od = some d → ∃ fs, H d = some (exd d fs)) :
    ∃ ox o, PySem.W.InstAt s.heap a ox C o := by
  obtain ⟨t1, h1⟩ := exo_at I.hok e
  cases od with
  | none => exact ⟨_, none, h1, rfl, rfl, trivial⟩
  | some d =>
    obtain ⟨fs, h2⟩ := hd d rfl
    obtain ⟨mA, hns, _⟩ := exd_at I.hok h2
    obtain ⟨o, ho, _⟩ := lookIn_ns hns
    exact ⟨_, some o, h1, rfl, rfl, ho⟩
theorem call_isV : CallR X (.builtin "isinstance") (rIsV X.K) := by
  intro pins s σ H xs us Q I r h
  obtain ⟨a, C, od, c, u, b, rfl, k, T, e, hd, hk, q⟩ := h
  obtain ⟨u1, u2, rfl, r1, r2⟩ := vals2 r
  have e2 := k.eq r2
  subst e2
  cases (show u1 = Value.ref a from r1)
  obtain ⟨ox, o, J⟩ := inst_exo I e hd
  have hcl : (PySem.W.clsIn X.K C).isSome = true := by
    obtain ⟨cd, hc, _⟩ := PySem.W.any_some T.hd
    rw [hc] <;> rfl
  exact PySem.W.kia_one (PySem.W.kitx_exc (ox := ox) (od := o) hcl T.hg T.hk T.hs T.ha T.hn T.ht T.hm) I.kIn J hk (fun z => nomatch z) fun tk => ⟨.bl b, H, I.tok tk, rfl, q⟩
/-! ### its field -/
def tXv (K : PySem.W.Frag) (f : Str) (te : TE) : TE := fun σ H Q => te σ H fun x H1 => ∃ (a C d : Addr) (fs : List (Str × V)) (v : V), x = .ref a ∧ XfC K C ∧ PySem.W.findIn K (.ref C) f = some none ∧ H1 a = some (exo a C (some d)) ∧ H1 d = some (exd d fs) ∧ fs.lookup f = some v ∧ Q v H1
theorem pe_xv {n : Str} {te : TE} (he : PE X e te) (hb : attributeBase e n X.env (eval e X.env) = eval e X.env := by rfl) : PE X (.Attribute e n pos) (tXv X.K n te) := by
  refine ⟨fun pins s σ H Q I h => ?_⟩
  refine attr_of hb (thn (he.run pins s σ H _ I h) fun u s1 hh => ?_)
  obtain ⟨x, H1, I1, rx, a, C, d, fs, v, ex, T, hno, ea, ed, l, q⟩ := hh
  subst ex
  obtain rfl : u = Value.ref a := rx
  obtain ⟨t1, h1⟩ := exo_at I1.hok ea
  obtain ⟨mA, hns, hr⟩ := exd_at I1.hok ed
  obtain ⟨od, ho, hl⟩ := lookIn_ns hns
  obtain ⟨u, hu, ru⟩ := RelO.some_of (v := v) (o := mA n) (by rw [← l]; exact hr n)
  have J : PySem.W.InstAt s1.heap a _ C (some od) := ⟨h1, rfl, rfl, ho⟩
  exact HandSPX.exc_get I1.kIn J T.ga T.gg T.exC (PySem.W.findObj_own T.hdC hno rfl (by rw [hl, hu])) (handed_of ru) ⟨v, H1, I1.tok _, ru, q⟩
end
end NF
set_option Elab.async false
set_option linter.all false
set_option maxRecDepth 100000
set_option maxHeartbeats 4000000
/-! What each law's own helpers keep: the source of draws. -/
namespace NF
open PySem PySem.Spec PyProof.Rows L2 He
/-- the names that a def reads off the module: those that stand for an object of the written part, those that are still Python's own -/
structure Txt (K : PySem.W.Frag) (mg : Str → Option Value) (gs fs : List Str) : Prop where
  gl : ∀ x, x ∈ gs → mg x = some (.ref (ga K x))
  fr : ∀ x, x ∈ fs → mg x = none
/-- a source of draws at p: three ints -/
def Src (H : Hp) (p : Addr) : Prop := ∃ a s c : Int, H p = some (.lst [.int a, .int s, .int c])
/-- a draw: some number from 0 below m; all but the source stands (H0: what the caller wants to stand) -/
def spPick : Sp := fun vs H Q _ => ∃ (H0 : Hp) (p : Addr) (m : Int), vs = [.ref p, .int m] ∧ Same H0 H ∧ H0 p = none ∧ Src H p ∧ 0 < m ∧ m < 1073741824 ∧
  ∀ d H', 0 ≤ d → d < m → Same H0 H' → Src H' p → Q (.int d) H'
/-- a new source of the script -/
def spSource (K : PySem.W.Frag) : Sp := fun vs H Q _ => ∃ (l : Addr) (ns : List Int) (i : Nat), vs = [.ref l, .int (i : Int)] ∧ SqL K H l (ns.map V.int) ∧ ns.length ≤ 63 ∧ (∀ k ∈ ns, Builtin.Int.intBits k ≤ 1048576) ∧ i < 1000 ∧
  ∀ p H', Same H H' → H p = none → Src H' p → Q (.ref p) H'
theorem Same.put {H0 H : Hp} {p : Addr} {o : HO} (h : Same H0 H) (n : H0 p = none) : Same H0 (upd H p o) := fun b u e => by
  rw [upd_ne (ne_of_none e n)]
  exact h b u e
theorem Same.new {H0 H : Hp} {p : Addr} {o : HO} (h : Same H0 H) (n : H p = none) : Same H0 (upd H p o) := NF.Same.put h (L2.Same.free h n)
/-- a def that may be called by its name; it lets nothing out -/
structure Cal (P : Program) (w : World) (K : PySem.W.Frag) (mg : Str → Option Value) (base : Heap) (k : Nat) (x : Str) (sp : Sp) : Prop where
  ex : ∃ (f : Addr) (fd : FuncData) (ps : List Str), FnOk P w K mg base CX0 k f fd ps sp ∧ mg x = some (.ref f) ∧ PySem.W.keepIn K (.ref f) = true ∧ Binds K fd ps []
theorem pe_c {X : Cx} {k j : Nat} {x : Str} {sp : Sp} {e : Expr} {es : List Expr} {t : TA} {p pos : Pos} (c : Cal X.prog X.w X.K X.mg X.base k x sp) (hr : Room j X.A) (hk : k ≤ j) (hg : Gl X x) (ha : PA X (e :: es) t)
    (hdb : (x == ("__debug__" : Str)) = false := by decide) (he : starEach (e :: es) X.env = (false, eval e X.env) :: starEach es X.env := by rfl) (hpl : (backTo pos (starEach es X.env)).any (·.1) = false := by rfl) :
    PE X (.Call (.Name x p) (e :: es) [] pos) (tCall sp [] E0 t) := by
  obtain ⟨f, fd, ps, F, hm, kp, b⟩ := c.ex
  exact pe_call F (hr.mono hk) hg hm kp b .nil pass0 ha hdb he hpl
theorem Cal.mk' {P : Program} {w : World} {K : PySem.W.Frag} {mg : Str → Option Value} {base : Heap} {k : Nat} {x q : Str} {pa : Arguments} {bd : List Stmt} {sc : Scope} {sp : Sp} {f : Addr} {fd : FuncData} {ps : List Str}
    (F : FunD K x q pa bd sc [] [] f fd) (ok : FnOk P w K mg base CX0 k f fd ps sp) (hm : mg x = some (.ref f)) (b : Binds K fd ps []) : Cal P w K mg base k x sp := ⟨f, fd, ps, ok, hm, F.kp, b⟩
theorem at0 {x y z : V} : atI [x, y, z] 0 = some x := rfl
theorem at1 {x y z : V} : atI [x, y, z] 1 = some y := rfl
theorem at2 {x y z : V} : atI [x, y, z] 2 = some z := rfl
end NF
namespace NF
open PySem PySem.Spec PyProof.Rows L2 He
/-- the heap without p -/
def wo (H : Hp) (p : Addr) : Hp := fun a => if a = p then none else H a
theorem wo_none {H : Hp} {p : Addr} : wo H p p = none := if_pos rfl
theorem wo_ne {H : Hp} {p a : Addr} (h : a ≠ p) : wo H p a = H a := if_neg h
theorem wo_same' {H : Hp} {p : Addr} : Same (wo H p) H := fun a o e => by
  by_cases h : a = p
  · rw [h, wo_none] at e
    cases e
  · rw [wo_ne h] at e
    exact e
theorem wo_same {H0 H H' : Hp} {p : Addr} (s : Same H0 H) (n : H0 p = none) (s' : Same (wo H p) H') : Same H0 H' := fun a o e =>
  s' a o ((wo_ne (ne_of_none e n)).trans (s a o e))
theorem Same.mut {H0 H : Hp} {p : Addr} {o : HO} (h : Same H0 H) (n : H0 p = none) : Same H0 (upd H p o) := NF.Same.put h n
theorem Src.mono {H H' : Hp} {p : Addr} (h : Src H p) (s : Same H H') : Src H' p := by
  obtain ⟨x, y, z, h⟩ := h
  exact ⟨x, y, z, s _ _ h⟩
end NF
namespace NF
open PySem PySem.Spec PyProof.Rows L2 He
theorem walk_ofEB {l : PySem.W.OpenLaw} {n k : Nat} {q : Program} {loose : List Str} {XP : (Str → Option Value) → Heap → Prop} {YP : World → Heap → Prop} {d : DefRec} {CX : CXT} {x : Str}
    (hn : l.most = some n) (hn2 : n ≤ sizeLine) (hdf : d.params.defaults = []) (hr : Room k callerA)
    (F : ∀ (w : World) (mg : Str → Option Value) (fa : Addr) (h : Heap), YP w h → h.Ns mainGlobals mg → mg d.name = some (.ref fa) →
      ∃ (K : PySem.W.Frag) (fd : FuncData) (sp : Sp), K.In h ∧ (∀ (s : Shared) (u : Value), BindsTo s fd ⟨[u], []⟩ [(x, u)]) ∧
        (∀ (H : Hp) (a : Addr) (ns : List Int), ns.length ≤ n → (∀ z ∈ ns, Builtin.Int.intBits z ≤ 1048576) → Only H → SqL K H a (ns.map V.int) → sp [.ref a] H (fun v _ => v = .bl true) fun _ _ _ => False) ∧
        ∀ base : Heap, K.In base → base.Ns mainGlobals mg → FnOk l.prog w K mg base CX k fa fd [x] sp)
    (hCX : ∀ (H : Hp) (s : Shared) (e : Value) (s' : Shared), CX [] H s (fun _ _ _ => False) e s' → False) :
    PySem.W.WalkO q loose XP YP l.row.toRowW d [] (fun f vs => PySem.call f vs) := by
  refine Att.attach_callB hn hdf fun w s₀ s₁ mg mb fa o pm cd doc a vs ns G Y ho hd hcd hmg hobj hints hlen hbits hg => ?_
  obtain ⟨K, fd, sp, KX, hb, hsp, hF⟩ := F w mg fa _ Y G.T.g hmg
  exact law_call KX G.T.g G.T.b G.T.builtins G.T.nolimit hg hobj hints (Nat.le_trans hlen hn2) hr hF hb (fun H hO hS => hsp H a ns hlen hbits hO hS) fun H e s' => hCX H s₁ e s'
end NF
set_option linter.all false
/-! Tables as plain Lean: head, loop, rise; the plain form is the only one. -/
namespace NT
/-- what a loop tells, from its first place on -/
def walk (l : List Int) (r : Int) (k : Nat) : Int := l.getD (k % l.length) 0 + r * ((k / l.length : Nat) : Int)
/-- the value at n, from 1 on; none: never -/
def at_ (h l : List Int) (r : Int) (n : Nat) : Option Int :=
  if n ≤ h.length then some (h.getD (n - 1) 0) else if l = [] then none else some (walk l r (n - h.length - 1))
/-- m steps on the values are a fixed number more -/
def Per (f : Nat → Int) (m : Nat) : Prop := ∃ c, ∀ k, f (k + m) = f k + c
def LoopMin (l : List Int) (r : Int) : Prop := ∀ m, 0 < m → m ∣ l.length → Per (walk l r) m → m = l.length
def HeadMin (h l : List Int) (r : Int) : Prop := ∀ k, h.length = k + 1 → h.getD k 0 + r ≠ l.getD (l.length - 1) 0

theorem walk_add {l : List Int} {r : Int} (hl : 0 < l.length) (k : Nat) : walk l r (k + l.length) = walk l r k + r := by
  unfold walk
  rw [Nat.add_mod_right, Nat.add_div_right _ hl]
  rw [Int.natCast_add, Int.mul_add]
  omega
theorem walk_add_mul {l : List Int} {r : Int} (hl : 0 < l.length) (k j : Nat) : walk l r (k + l.length * j) = walk l r k + r * (j : Int) := by
  induction j with
  | zero => simp
  | succ j ih =>
    rw [Nat.mul_succ, ← Nat.add_assoc, walk_add hl, ih, Int.natCast_add, Int.mul_add]
    omega
theorem walk_lt {l : List Int} {r : Int} {k : Nat} (h : k < l.length) : walk l r k = l.getD k 0 := by
  unfold walk
  rw [Nat.mod_eq_of_lt h, Nat.div_eq_of_lt h]
  simp
/-- periods, further on alone -/
def PerF (f : Nat → Int) (N m : Nat) : Prop := ∃ c, ∀ k, N ≤ k → f (k + m) = f k + c
theorem PerF.sub {f : Nat → Int} {N a b : Nat} (ha : PerF f N (a + b)) (hb : PerF f N b) : PerF f N a := by
  obtain ⟨c, hc⟩ := ha
  obtain ⟨d, hd⟩ := hb
  refine ⟨c - d, fun k hk => ?_⟩
  have h1 := hc k hk
  have h2 := hd (k + a) (by omega)
  rw [show k + a + b = k + (a + b) by omega, h1] at h2
  omega
theorem PerF.mul {f : Nat → Int} {N a : Nat} (ha : PerF f N a) (j : Nat) : PerF f N (a * j) := by
  obtain ⟨c, hc⟩ := ha
  refine ⟨c * (j : Int), ?_⟩
  induction j with
  | zero => intro k _; simp
  | succ j ih =>
    intro k hk
    have h1 := ih k hk
    have h2 := hc (k + a * j) (by omega)
    rw [Nat.mul_succ, ← Nat.add_assoc, h2, h1, Int.natCast_add, Int.mul_add]
    omega
theorem PerF.gcd {f : Nat → Int} {N : Nat} : ∀ (a b : Nat), PerF f N a → PerF f N b → PerF f N (Nat.gcd a b) := by
  intro a
  induction a using Nat.strongRecOn with
  | _ a ih =>
    intro b ha hb
    cases a with
    | zero => rw [Nat.gcd_zero_left]; exact hb
    | succ a =>
      rw [Nat.gcd_rec]
      have hlt : b % (a + 1) < a + 1 := Nat.mod_lt _ (Nat.succ_pos a)
      have hm : PerF f N (b % (a + 1)) := by
        have h1 : b = b % (a + 1) + (a + 1) * (b / (a + 1)) := (Nat.mod_add_div b (a + 1)).symm
        exact PerF.sub (b := (a + 1) * (b / (a + 1))) (by rw [← h1]; exact hb) (ha.mul _)
      exact ih _ hlt (a + 1) hm ha
theorem at_loop {h l : List Int} {r : Int} {n : Nat} (hl : l ≠ []) (hn : h.length < n) : at_ h l r n = some (walk l r (n - h.length - 1)) := by
  unfold at_
  rw [if_neg (by omega), if_neg hl]
theorem len_pos {l : List Int} (h : l ≠ []) : 0 < l.length := List.length_pos_iff.mpr h

section
variable {h1 l1 h2 l2 : List Int} {r1 r2 : Int}
theorem walk_eq (n1 : l1 ≠ []) (n2 : l2 ≠ []) (e : ∀ n, 1 ≤ n → at_ h1 l1 r1 n = at_ h2 l2 r2 n) {n : Nat} (g1 : h1.length < n) (g2 : h2.length < n) : walk l1 r1 (n - h1.length - 1) = walk l2 r2 (n - h2.length - 1) := by
  have q := e n (by omega)
  rw [at_loop n1 g1, at_loop n2 g2] at q
  exact Option.some.inj q
theorem one_loop_le (n1 : l1 ≠ []) (n2 : l2 ≠ []) (m1 : LoopMin l1 r1) (e : ∀ n, 1 ≤ n → at_ h1 l1 r1 n = at_ h2 l2 r2 n) : l1.length ∣ l2.length := by
  have p1 := len_pos n1
  have p2 := len_pos n2
  -- l1's walk is, further on, of both periods
  have hA : PerF (walk l1 r1) (h1.length + h2.length) l1.length := ⟨r1, fun k _ => walk_add p1 k⟩
  have hB : PerF (walk l1 r1) (h1.length + h2.length) l2.length := by
    refine ⟨r2, fun k hk => ?_⟩
    have q1 := walk_eq n1 n2 e (n := k + h1.length + 1) (by omega) (by omega)
    have q2 := walk_eq n1 n2 e (n := k + l2.length + h1.length + 1) (by omega) (by omega)
    rw [show k + h1.length + 1 - h1.length - 1 = k by omega] at q1
    rw [show k + l2.length + h1.length + 1 - h1.length - 1 = k + l2.length by omega, show k + l2.length + h1.length + 1 - h2.length - 1 = (k + h1.length + 1 - h2.length - 1) + l2.length by omega, walk_add p2, ← q1] at q2
    exact q2
  have hG := PerF.gcd _ _ hA hB
  obtain ⟨c, hc⟩ := hG
  have hP : Per (walk l1 r1) (Nat.gcd l1.length l2.length) := by
    refine ⟨c, fun k => ?_⟩
    have q := hc (k + l1.length * (h1.length + h2.length)) (by
      have : h1.length + h2.length ≤ l1.length * (h1.length + h2.length) := Nat.le_mul_of_pos_left _ p1
      omega)
    rw [show k + l1.length * (h1.length + h2.length) + Nat.gcd l1.length l2.length = (k + Nat.gcd l1.length l2.length) + l1.length * (h1.length + h2.length) by omega, walk_add_mul p1, walk_add_mul p1] at q
    omega
  have := m1 _ (Nat.gcd_pos_of_pos_left _ p1) (Nat.gcd_dvd_left _ _) hP
  rw [← this]
  exact Nat.gcd_dvd_right _ _
theorem one_head_le (n1 : l1 ≠ []) (n2 : l2 ≠ []) (el : l1.length = l2.length) (m2 : HeadMin h2 l2 r2) (er : r1 = r2) (e : ∀ n, 1 ≤ n → at_ h1 l1 r1 n = at_ h2 l2 r2 n) : h2.length ≤ h1.length := by
  have p1 := len_pos n1
  have p2 := len_pos n2
  refine Nat.le_of_not_lt fun hlt => ?_
  obtain ⟨k, hk⟩ : ∃ k, h2.length = k + 1 := ⟨h2.length - 1, by omega⟩
  have q1 := e (k + 1) (by omega)
  have q2 := e (k + 1 + l2.length) (by omega)
  rw [at_loop n1 (by omega), at_loop n2 (by omega)] at q2
  rw [at_loop n1 (by omega)] at q1
  unfold at_ at q1
  rw [if_pos (by omega)] at q1
  have q1 := Option.some.inj q1
  have q2 := Option.some.inj q2
  rw [show k + 1 + l2.length - h1.length - 1 = (k + 1 - h1.length - 1) + l1.length by omega, walk_add p1, q1] at q2
  rw [walk_lt (by omega), show k + 1 + l2.length - h2.length - 1 = l2.length - 1 by omega, show k + 1 - 1 = k by omega] at q2
  exact m2 k hk (by rw [← q2, er])
/-- two forms that can't be made smaller and tell the same are the same -/
theorem one_form (n1 : l1 ≠ []) (n2 : l2 ≠ []) (a1 : LoopMin l1 r1) (a2 : LoopMin l2 r2) (b1 : HeadMin h1 l1 r1) (b2 : HeadMin h2 l2 r2) (e : ∀ n, 1 ≤ n → at_ h1 l1 r1 n = at_ h2 l2 r2 n) : h1 = h2 ∧ l1 = l2 ∧ r1 = r2 := by
  have p1 := len_pos n1
  have p2 := len_pos n2
  have el : l1.length = l2.length := Nat.dvd_antisymm (one_loop_le n1 n2 a1 e) (one_loop_le n2 n1 a2 fun n hn => (e n hn).symm)
  have er : r1 = r2 := by
    have q1 := walk_eq n1 n2 e (n := h1.length + h2.length + 1) (by omega) (by omega)
    have q2 := walk_eq n1 n2 e (n := h1.length + h2.length + 1 + l1.length) (by omega) (by omega)
    rw [show h1.length + h2.length + 1 + l1.length - h1.length - 1 = (h1.length + h2.length + 1 - h1.length - 1) + l1.length by omega, walk_add p1,
      show h1.length + h2.length + 1 + l1.length - h2.length - 1 = (h1.length + h2.length + 1 - h2.length - 1) + l2.length by omega, walk_add p2, q1] at q2
    omega
  have eh : h1.length = h2.length := Nat.le_antisymm (one_head_le n2 n1 el.symm b1 er.symm fun n hn => (e n hn).symm) (one_head_le n1 n2 el b2 er e)
  refine ⟨List.ext_getElem eh fun i i1 i2 => ?_, List.ext_getElem el fun i i1 i2 => ?_, er⟩
  · have q := e (i + 1) (by omega)
    unfold at_ at q
    rw [if_pos (by omega), if_pos (by omega)] at q
    have q := Option.some.inj q
    rw [show i + 1 - 1 = i by omega, List.getD_eq_getElem?_getD, List.getD_eq_getElem?_getD, List.getElem?_eq_getElem i1, List.getElem?_eq_getElem i2] at q
    exact q
  · have q := walk_eq n1 n2 e (n := h1.length + 1 + i) (by omega) (by omega)
    rw [show h1.length + 1 + i - h1.length - 1 = i by omega, show h1.length + 1 + i - h2.length - 1 = i by omega, walk_lt i1, walk_lt i2,
      List.getD_eq_getElem?_getD, List.getD_eq_getElem?_getD, List.getElem?_eq_getElem i1, List.getElem?_eq_getElem i2] at q
    exact q
theorem one_never (e : ∀ n, 1 ≤ n → at_ h1 [] r1 n = at_ h2 [] r2 n) : h1 = h2 := by
  have el : h1.length = h2.length := by
    have q1 := e (h1.length + 1) (by omega)
    have q2 := e (h2.length + 1) (by omega)
    unfold at_ at q1 q2
    rw [if_neg (by omega), if_pos rfl] at q1
    rw [if_neg (show ¬ h2.length + 1 ≤ h2.length by omega), if_pos rfl] at q2
    by_cases c1 : h1.length + 1 ≤ h2.length
    · rw [if_pos c1] at q1
      cases q1
    · by_cases c2 : h2.length + 1 ≤ h1.length
      · rw [if_pos c2] at q2
        cases q2
      · omega
  refine List.ext_getElem el fun i i1 i2 => ?_
  have q := e (i + 1) (by omega)
  unfold at_ at q
  rw [if_pos (by omega), if_pos (by omega)] at q
  have q := Option.some.inj q
  rw [show i + 1 - 1 = i by omega, List.getD_eq_getElem?_getD, List.getD_eq_getElem?_getD, List.getElem?_eq_getElem i1, List.getElem?_eq_getElem i2] at q
  exact q
end
end NT
set_option linter.all false
namespace NT
structure LapIs (l : List Int) (r : Int) (m : Nat) : Prop where
  pos : 0 < m
  dvd : m ∣ l.length
  per : Per (walk l r) m
  least : ∀ m', 0 < m' → m' ∣ l.length → Per (walk l r) m' → m ≤ m'
theorem LapIs.one {l : List Int} {r : Int} {m m' : Nat} (a : LapIs l r m) (b : LapIs l r m') : m = m' := Nat.le_antisymm (a.least _ b.pos b.dvd b.per) (b.least _ a.pos a.dvd a.per)
theorem per_mul {f : Nat → Int} {m : Nat} {c : Int} (h : ∀ k, f (k + m) = f k + c) (k j : Nat) : f (k + m * j) = f k + c * (j : Int) := by
  induction j with
  | zero => simp
  | succ j ih =>
    rw [Nat.mul_succ, ← Nat.add_assoc, h, ih, Int.natCast_add, Int.mul_add]
    omega
/-- the rise of a part that comes round -/
theorem per_rise {l : List Int} {r c : Int} {m : Nat} (hl : l ≠ []) (h : ∀ k, walk l r (k + m) = walk l r k + c) {t : Nat} (ht : m * t = l.length) : r = c * (t : Int) := by
  have q := per_mul h 0 t
  rw [ht, walk_add (len_pos hl)] at q
  omega
theorem per_self {l : List Int} {r : Int} (hl : l ≠ []) : Per (walk l r) l.length := ⟨r, walk_add (len_pos hl)⟩
theorem getD_take {l : List Int} {m i : Nat} (h : i < m) : (l.take m).getD i 0 = l.getD i 0 := by
  rw [List.getD_eq_getElem?_getD, List.getD_eq_getElem?_getD, List.getElem?_take, if_pos h]
theorem getD_drop {l : List Int} {m i : Nat} : (l.drop m).getD i 0 = l.getD (m + i) 0 := by
  rw [List.getD_eq_getElem?_getD, List.getD_eq_getElem?_getD, List.getElem?_drop]
theorem getD_app1 {h l : List Int} {i : Nat} (q : i < h.length) : (h ++ l).getD i 0 = h.getD i 0 := by
  rw [List.getD_eq_getElem?_getD, List.getD_eq_getElem?_getD, List.getElem?_append_left q]
theorem getD_app2 {h l : List Int} {i : Nat} (q : h.length ≤ i) : (h ++ l).getD i 0 = l.getD (i - h.length) 0 := by
  rw [List.getD_eq_getElem?_getD, List.getD_eq_getElem?_getD, List.getElem?_append_right q]
/-- the shorter loop tells the same -/
theorem walk_short {l : List Int} {r c : Int} {m : Nat} (hm : 0 < m) (hle : m ≤ l.length) (h : ∀ k, walk l r (k + m) = walk l r k + c) (k : Nat) : walk (l.take m) c k = walk l r k := by
  have e : k = k % m + m * (k / m) := (Nat.mod_add_div k m).symm
  have hlt : k % m < m := Nat.mod_lt _ hm
  have q := per_mul h (k % m) (k / m)
  rw [← e] at q
  have w1 : walk l r (k % m) = l.getD (k % m) 0 := walk_lt (by omega)
  rw [q, w1]
  show (l.take m).getD (k % (l.take m).length) 0 + c * ((k / (l.take m).length : Nat) : Int) = _
  rw [List.length_take, Nat.min_eq_left hle, getD_take hlt]
theorem short_min {l : List Int} {r c : Int} {m : Nat} (hl : l ≠ []) (a : LapIs l r m) (h : ∀ k, walk l r (k + m) = walk l r k + c) : LoopMin (l.take m) c := by
  have hle : m ≤ l.length := Nat.le_of_dvd (len_pos hl) a.dvd
  intro m' p d q
  rw [List.length_take, Nat.min_eq_left hle] at d ⊢
  have e : walk (l.take m) c = walk l r := funext fun k => walk_short a.pos hle h k
  rw [e] at q
  exact Nat.le_antisymm (Nat.le_of_dvd a.pos d) (a.least _ p (Nat.dvd_trans d a.dvd) q)
/-! ### the head is cut -/
def cut (e : List Int) (p : Nat) (r : Int) : Nat → Nat
  | 0 => 0
  | k + 1 => if e.getD k 0 + r = e.getD (k + p) 0 then cut e p r k else k + 1
/-- the window of p entries behind the first `left` ones -/
def win (e : List Int) (left p : Nat) : List Int := (e.drop left).take p
theorem win_len {e : List Int} {left p : Nat} (h : left + p ≤ e.length) : (win e left p).length = p := by
  unfold win
  rw [List.length_take, List.length_drop]
  omega
theorem win_get {e : List Int} {left p i : Nat} (hi : i < p) : (win e left p).getD i 0 = e.getD (left + i) 0 := by
  unfold win
  rw [getD_take hi, getD_drop]
theorem win_step {e : List Int} {left p : Nat} {r : Int} (hp : 0 < p) (hle : left + 1 + p ≤ e.length) (hs : e.getD left 0 + r = e.getD (left + p) 0) (k : Nat) : walk (win e (left + 1) p) r k = walk (win e left p) r (k + 1) := by
  unfold walk
  rw [win_len (by omega), win_len (by omega)]
  have hlt : k % p < p := Nat.mod_lt _ hp
  rw [win_get hlt]
  by_cases c : k % p + 1 < p
  · have e1 : (k + 1) % p = k % p + 1 := by
      rw [Nat.add_mod, Nat.mod_eq_of_lt (show 1 < p by omega), Nat.mod_eq_of_lt c]
    have e2 : (k + 1) / p = k / p := by
      have q1 := Nat.div_add_mod (k + 1) p
      have q2 := Nat.div_add_mod k p
      rw [e1] at q1
      have : p * ((k + 1) / p) = p * (k / p) := by omega
      exact Nat.eq_of_mul_eq_mul_left hp this
    rw [e1, e2, win_get c]
    congr 2
    omega
  · have cp : k % p + 1 = p := by omega
    have hk : k + 1 = p * (k / p + 1) := by
      have q2 := Nat.div_add_mod k p
      rw [Nat.mul_add, Nat.mul_one]
      omega
    have e1 : (k + 1) % p = 0 := by rw [hk]; exact Nat.mul_mod_right _ _
    have e2 : (k + 1) / p = k / p + 1 := by rw [hk]; exact Nat.mul_div_cancel_left _ hp
    rw [e1, e2, win_get hp, Int.natCast_add, Int.mul_add, show left + 1 + k % p = left + p by omega, ← hs, show left + 0 = left from rfl]
    omega
theorem at_step {e : List Int} {left p : Nat} {r : Int} (hp : 0 < p) (hle : left + 1 + p ≤ e.length) (hs : e.getD left 0 + r = e.getD (left + p) 0) (n : Nat) (hn : 1 ≤ n) :
    at_ (e.take left) (win e left p) r n = at_ (e.take (left + 1)) (win e (left + 1) p) r n := by
  have n1 : win e left p ≠ [] := fun z => by
    have := win_len (e := e) (left := left) (p := p) (by omega)
    rw [z] at this
    simp at this
    omega
  have n2 : win e (left + 1) p ≠ [] := fun z => by
    have := win_len (e := e) (left := left + 1) (p := p) (by omega)
    rw [z] at this
    simp at this
    omega
  unfold at_
  rw [List.length_take, List.length_take, Nat.min_eq_left (by omega), Nat.min_eq_left (by omega), if_neg n1, if_neg n2]
  by_cases c1 : n ≤ left
  · rw [if_pos c1, if_pos (by omega), getD_take (by omega), getD_take (by omega)]
  · by_cases c2 : n ≤ left + 1
    · rw [if_neg c1, if_pos c2, getD_take (by omega), show n - left - 1 = 0 by omega, walk_lt (by rw [win_len (by omega)]; exact hp), win_get hp, show n - 1 = left + 0 by omega]
    · rw [if_neg c1, if_neg c2, win_step hp hle hs, show n - (left + 1) - 1 + 1 = n - left - 1 by omega]
theorem min_step {e : List Int} {left p : Nat} {r : Int} (hp : 0 < p) (hle : left + 1 + p ≤ e.length) (hs : e.getD left 0 + r = e.getD (left + p) 0) (h : LoopMin (win e (left + 1) p) r) : LoopMin (win e left p) r := by
  have l0 := win_len (e := e) (left := left) (p := p) (by omega)
  have l1 := win_len (e := e) (left := left + 1) (p := p) (by omega)
  intro m hm hd hq
  rw [l0] at hd ⊢
  have := h m hm (by rw [l1]; exact hd) (by
    obtain ⟨c, hc⟩ := hq
    refine ⟨c, fun k => ?_⟩
    rw [win_step hp hle hs, win_step hp hle hs, show k + m + 1 = k + 1 + m by omega, hc])
  rw [l1] at this
  exact this
theorem cut_le {e : List Int} {p : Nat} {r : Int} : ∀ k, cut e p r k ≤ k
  | 0 => Nat.le_refl _
  | k + 1 => by
    unfold cut
    split
    · exact Nat.le_succ_of_le (cut_le k)
    · exact Nat.le_refl _
theorem cut_at {e : List Int} {p : Nat} {r : Int} (hp : 0 < p) : ∀ k, k + p ≤ e.length → ∀ n, 1 ≤ n → at_ (e.take (cut e p r k)) (win e (cut e p r k) p) r n = at_ (e.take k) (win e k p) r n
  | 0, _, _, _ => rfl
  | k + 1, h, n, hn => by
    unfold cut
    split
    · rename_i c
      rw [cut_at hp k (by omega) n hn]
      exact at_step hp h c n hn
    · rfl
theorem cut_min {e : List Int} {p : Nat} {r : Int} (hp : 0 < p) : ∀ k, k + p ≤ e.length → LoopMin (win e k p) r → LoopMin (win e (cut e p r k) p) r
  | 0, _, h => h
  | k + 1, hk, h => by
    unfold cut
    split
    · rename_i c
      exact cut_min hp k (by omega) (min_step hp hk c h)
    · exact h
theorem cut_head {e : List Int} {p : Nat} {r : Int} (hp : 0 < p) : ∀ k, k + p ≤ e.length → HeadMin (e.take (cut e p r k)) (win e (cut e p r k) p) r
  | 0, h => fun k hk => by
    unfold cut at hk
    simp at hk
  | k + 1, h => by
    unfold cut
    split
    · exact cut_head hp k (by omega)
    · rename_i c
      intro j hj
      rw [List.length_take, Nat.min_eq_left (by omega)] at hj
      have ej : j = k := by omega
      subst ej
      rw [getD_take (by omega), win_len (by omega), win_get (by omega)]
      intro z
      exact c (by rw [z]; congr 1; omega)
/-! ### the plain form -/
def IsPlain (h l : List Int) (r : Int) (x : List Int × List Int × Int) : Prop :=
  (l = [] ∧ x = (h, [], 0)) ∨ (l ≠ [] ∧ x.2.1 ≠ [] ∧ LoopMin x.2.1 x.2.2 ∧ HeadMin x.1 x.2.1 x.2.2 ∧ ∀ n, 1 ≤ n → at_ x.1 x.2.1 x.2.2 n = at_ h l r n)
theorem plain_one {h1 l1 h2 l2 : List Int} {r1 r2 : Int} {x y : List Int × List Int × Int} (a : IsPlain h1 l1 r1 x) (b : IsPlain h2 l2 r2 y) (e : ∀ n, 1 ≤ n → at_ h1 l1 r1 n = at_ h2 l2 r2 n) : x = y := by
  rcases a with ⟨rfl, rfl⟩ | ⟨n1, n1', m1, k1, e1⟩
  · rcases b with ⟨rfl, rfl⟩ | ⟨n2, n2', m2, k2, e2⟩
    · rw [one_never e]
    · have q := e (h1.length + h2.length + 1) (by omega)
      rw [at_loop n2 (by omega)] at q
      unfold at_ at q
      rw [if_neg (by omega), if_pos rfl] at q
      cases q
  · rcases b with ⟨rfl, rfl⟩ | ⟨n2, n2', m2, k2, e2⟩
    · have q := e (h1.length + h2.length + 1) (by omega)
      rw [at_loop n1 (by omega)] at q
      unfold at_ at q
      rw [if_neg (by omega), if_pos rfl] at q
      cases q
    · obtain ⟨q1, q2, q3⟩ := one_form n1' n2' m1 m2 k1 k2 fun n hn => by rw [e1 n hn, e n hn, e2 n hn]
      obtain ⟨x1, x2, x3⟩ := x
      obtain ⟨y1, y2, y3⟩ := y
      dsimp only at q1 q2 q3
      rw [q1, q2, q3]
theorem plain_is {h l : List Int} {r : Int} {m : Nat} (hl : l ≠ []) (a : LapIs l r m) {c : Int} (hc : ∀ k, walk l r (k + m) = walk l r k + c) :
    IsPlain h l r ((h ++ l.take m).take (cut (h ++ l.take m) m c h.length), win (h ++ l.take m) (cut (h ++ l.take m) m c h.length) m, c) := by
  have hle : m ≤ l.length := Nat.le_of_dvd (len_pos hl) a.dvd
  have hlen : (h ++ l.take m).length = h.length + m := by rw [List.length_append, List.length_take, Nat.min_eq_left hle]
  have hcut := cut_le (e := h ++ l.take m) (p := m) (r := c) h.length
  have hw : win (h ++ l.take m) h.length m = l.take m := by
    unfold win
    rw [List.drop_left, List.take_of_length_le (by rw [List.length_take]; omega)]
  have ht : (h ++ l.take m).take h.length = h := List.take_left
  refine .inr ⟨hl, fun z => ?_, ?_, ?_, fun n hn => ?_⟩
  · have q := win_len (e := h ++ l.take m) (left := cut (h ++ l.take m) m c h.length) (p := m) (by rw [hlen]; omega)
    have z' : win (h ++ l.take m) (cut (h ++ l.take m) m c h.length) m = [] := z
    rw [z'] at q
    have := a.pos
    simp at q
    omega
  · exact cut_min a.pos _ (by rw [hlen]; exact Nat.le_refl _) (by rw [hw]; exact short_min hl a hc)
  · exact cut_head a.pos _ (by rw [hlen]; exact Nat.le_refl _)
  · show at_ ((h ++ l.take m).take (cut (h ++ l.take m) m c h.length)) (win (h ++ l.take m) (cut (h ++ l.take m) m c h.length) m) c n = _
    rw [cut_at a.pos _ (by rw [hlen]; exact Nat.le_refl _) n hn, hw, ht]
    unfold at_
    have n1 : l.take m ≠ [] := fun z => by
      have q := congrArg List.length z
      rw [List.length_take, Nat.min_eq_left hle] at q
      have := a.pos
      simp at q
      omega
    rw [if_neg hl, if_neg n1, walk_short a.pos hle hc]
end NT
set_option linter.all false
namespace NT
def sk (l : List Int) (r : Int) (k : Nat) : Int := walk l r (k + 1) - walk l r k
def steps (l : List Int) (r : Int) : List Int := (List.range l.length).map (sk l r)
section
variable {l : List Int} {r : Int} {m : Nat}
theorem sk_add (hl : l ≠ []) (k q : Nat) : sk l r (k + l.length * q) = sk l r k := by
  unfold sk
  rw [show k + l.length * q + 1 = (k + 1) + l.length * q by omega, walk_add_mul (len_pos hl), walk_add_mul (len_pos hl)]
  omega
theorem per_of_sk (h : ∀ k, sk l r (k + m) = sk l r k) : Per (walk l r) m := by
  refine ⟨walk l r m - walk l r 0, fun k => ?_⟩
  induction k with
  | zero => rw [Nat.zero_add]; omega
  | succ k ih =>
    have q := h k
    unfold sk at q
    rw [show k + 1 + m = k + m + 1 by omega]
    omega
theorem sk_of_per (h : Per (walk l r) m) (k : Nat) : sk l r (k + m) = sk l r k := by
  obtain ⟨c, hc⟩ := h
  unfold sk
  rw [show k + m + 1 = (k + 1) + m by omega, hc, hc]
  omega
theorem chain_up {f : Nat → Int} {n : Nat} {c : Int} (h : ∀ k, k + m < n → f (k + m) = f k + c) (j : Nat) : ∀ u, j + m * u < n → f (j + m * u) = f j + c * (u : Int)
  | 0, _ => by simp
  | u + 1, hu => by
    have e : j + m * (u + 1) = j + m * u + m := by rw [Nat.mul_succ]; omega
    have ih := chain_up h j u (by omega)
    rw [e, h _ (by omega), ih, Int.natCast_add, Int.mul_add]
    omega
/-- a place in the last part of a loop -/
theorem last_part {n i t : Nat} (hm : 0 < m) (ht : m * t = n) (hi : i < n) (hg : ¬ i + m < n) : ∃ j, j < m ∧ i + m = n + j ∧ i = j + m * (t - 1) ∧ 0 < t := by
  have t0 : 0 < t := Nat.pos_of_ne_zero fun z => by rw [z, Nat.mul_zero] at ht; omega
  obtain ⟨t', rfl⟩ : ∃ t', t = t' + 1 := ⟨t - 1, by omega⟩
  rw [Nat.mul_succ] at ht
  refine ⟨i + m - n, by omega, by omega, ?_, t0⟩
  rw [show t' + 1 - 1 = t' by omega]
  omega
theorem cond_iff (hl : l ≠ []) (hm : 0 < m) (hd : m ∣ l.length) : ((steps l r).drop m = (steps l r).take (l.length - m)) ↔ Per (walk l r) m := by
  obtain ⟨t, ht⟩ := hd
  have hle : m ≤ l.length := by rw [ht]; exact Nat.le_mul_of_pos_right _ (Nat.pos_of_ne_zero fun z => by rw [z, Nat.mul_zero] at ht; exact absurd ht (Nat.ne_of_gt (len_pos hl)))
  constructor
  · intro h
    have h0 : ∀ k, k + m < l.length → sk l r (k + m) = sk l r k + 0 := fun k hk => by
      have q := congrArg (fun z : List Int => z[k]?) h
      simp only [steps, List.getElem?_drop, List.getElem?_take, if_pos (show k < l.length - m by omega), List.getElem?_map, List.getElem?_range (show m + k < l.length by omega), List.getElem?_range (show k < l.length by omega), Option.map_some, Option.some.injEq] at q
      rw [show k + m = m + k by omega, q]
      omega
    refine per_of_sk fun k => ?_
    have hp := len_pos hl
    have e : k = k % l.length + l.length * (k / l.length) := (Nat.mod_add_div k _).symm
    have hi : k % l.length < l.length := Nat.mod_lt _ hp
    have e1 : sk l r k = sk l r (k % l.length) := by
      have := sk_add (r := r) hl (k % l.length) (k / l.length)
      rw [← e] at this
      exact this
    have e2 : sk l r (k + m) = sk l r (k % l.length + m) := by
      have := sk_add (r := r) hl (k % l.length + m) (k / l.length)
      rw [show k % l.length + m + l.length * (k / l.length) = k + m by omega] at this
      exact this
    rw [e1, e2]
    by_cases c : k % l.length + m < l.length
    · rw [h0 _ c]; omega
    · obtain ⟨j, j1, j2, j3, t0⟩ := last_part hm ht.symm hi c
      have q := chain_up (f := sk l r) (n := l.length) h0 j (t - 1) (by omega)
      rw [j2, show l.length + j = j + l.length * 1 by omega, sk_add hl, j3, q]
      omega
  · intro h
    refine List.ext_getElem? fun k => ?_
    simp only [steps, List.getElem?_drop, List.getElem?_take, List.getElem?_map]
    by_cases c : k < l.length - m
    · rw [if_pos c, List.getElem?_range (by omega), List.getElem?_range (by omega)]
      simp only [Option.map_some]
      rw [show m + k = k + m by omega, sk_of_per h]
    · rw [if_neg c, List.getElem?_eq_none (by rw [List.length_range]; omega)]
      rfl
theorem walk_i {i : Nat} (h : i < l.length) : walk l r i = l.getD i 0 := walk_lt h
/-- the law's own look at a part of a loop -/
theorem law_iff (hl : l ≠ []) (hm : 0 < m) {t : Nat} (ht : m * t = l.length) : (r % (t : Int) = 0 ∧ ∀ k, k + m < l.length → l.getD (k + m) 0 = l.getD k 0 + r / (t : Int)) ↔ Per (walk l r) m := by
  have hp := len_pos hl
  have t0 : 0 < t := Nat.pos_of_ne_zero fun z => by rw [z, Nat.mul_zero] at ht; omega
  constructor
  · rintro ⟨h1, h2⟩
    have hr : r = r / (t : Int) * (t : Int) := (Int.ediv_mul_cancel (Int.dvd_of_emod_eq_zero h1)).symm
    refine ⟨r / (t : Int), fun k => ?_⟩
    have e : k = k % l.length + l.length * (k / l.length) := (Nat.mod_add_div k _).symm
    have hi : k % l.length < l.length := Nat.mod_lt _ hp
    have e1 : walk l r k = walk l r (k % l.length) + r * ((k / l.length : Nat) : Int) := by
      have := walk_add_mul (r := r) hp (k % l.length) (k / l.length)
      rw [← e] at this
      exact this
    have e2 : walk l r (k + m) = walk l r (k % l.length + m) + r * ((k / l.length : Nat) : Int) := by
      have := walk_add_mul (r := r) hp (k % l.length + m) (k / l.length)
      rw [show k % l.length + m + l.length * (k / l.length) = k + m by omega] at this
      exact this
    rw [e1, e2, walk_i hi]
    by_cases c : k % l.length + m < l.length
    · rw [walk_i c, h2 _ c]; omega
    · obtain ⟨j, j1, j2, j3, _⟩ := last_part hm ht hi c
      have q := chain_up (f := fun i => l.getD i 0) (n := l.length) h2 j (t - 1) (by omega)
      have q' : l.getD (k % l.length) 0 = l.getD j 0 + r / (t : Int) * ((t - 1 : Nat) : Int) := by rw [← q]; exact congrArg (fun i => l.getD i 0) j3
      have hjl : j < l.length := by omega
      rw [j2, show l.length + j = j + l.length by omega, walk_add hp, walk_i hjl, q']
      have e3 : r / (t : Int) * (t : Int) = r / (t : Int) * ((t - 1 : Nat) : Int) + r / (t : Int) := by
        rw [show (t : Int) = ((t - 1 : Nat) : Int) + 1 by omega, Int.mul_add, Int.mul_one]
      omega
  · rintro ⟨c, hc⟩
    have hr := per_rise hl hc ht
    have hd : r / (t : Int) = c := by
      rw [hr]
      exact Int.mul_ediv_cancel _ (by omega)
    refine ⟨by rw [hr]; exact Int.mul_emod_left _ _, fun k hk => ?_⟩
    have q := hc k
    rw [walk_i hk, walk_i (by omega)] at q
    rw [q, hd]
/-- what goes on by a part goes on so by its rise -/
theorem per_at (hl : l ≠ []) (hm : 0 < m) (h : Per (walk l r) m) {t : Nat} (ht : m * t = l.length) : ∀ k, walk l r (k + m) = walk l r k + r / (t : Int) := by
  obtain ⟨c, hc⟩ := h
  have hr := per_rise hl hc ht
  have t0 : 0 < t := Nat.pos_of_ne_zero fun z => by rw [z, Nat.mul_zero] at ht; exact absurd ht.symm (Nat.ne_of_gt (len_pos hl))
  have hd : r / (t : Int) = c := by
    rw [hr]
    exact Int.mul_ediv_cancel _ (by omega)
  rw [hd]
  exact hc
/-- the program's search -/
theorem lap_prog (hl : l ≠ []) (hm : 0 < m) (hle : m ≤ l.length / 2) (hd : m ∣ l.length) (hp : Per (walk l r) m) (hno : ∀ m', 0 < m' → m' < m → m' ∣ l.length → ¬ Per (walk l r) m') : LapIs l r m :=
  ⟨hm, hd, hp, fun m' p d q => Nat.le_of_not_lt fun c => hno m' p c d q⟩
theorem lap_whole (hl : l ≠ []) (hno : ∀ m', 0 < m' → m' ≤ l.length / 2 → m' ∣ l.length → ¬ Per (walk l r) m') : LapIs l r l.length :=
  ⟨len_pos hl, Nat.dvd_refl _, per_self hl, fun m' p d q => Nat.le_of_not_lt fun c => hno m' p (by
    obtain ⟨t, ht⟩ := d
    have t2 : 2 ≤ t := Nat.le_of_not_lt fun z => by
      have : t = 0 ∨ t = 1 := by omega
      rcases this with rfl | rfl
      · rw [Nat.mul_zero] at ht; omega
      · rw [Nat.mul_one] at ht; omega
    have : m' * 2 ≤ l.length := by rw [ht]; exact Nat.mul_le_mul_left _ t2
    omega) d q⟩
end
end NT
set_option Elab.async false
set_option linter.all false
set_option maxRecDepth 100000
set_option maxHeartbeats 4000000
namespace NF
open PySem PySem.Spec PyProof.Rows L2 He RZ
theorem Same.tup {K : PySem.W.Frag} {H H' : Hp} {a : Addr} {xs : List V} (e : Same H H') (h : SqT K H a xs) : SqT K H' a xs := by
  rcases h with (h | ⟨o, h⟩) | h
  · exact .inl (.inl (e _ _ h))
  · exact .inl (.inr ⟨o, e _ _ h⟩)
  · exact .inr h
abbrev vI (l : List Int) : List V := l.map V.int
/-! ### o.f = v as one of several targets -/
def gFld (K : PySem.W.Frag) (ta : TE) (f : Str) : TG := fun v σ H Q => ta σ H fun x H1 => ∃ a C dx fs, x = .ref a ∧ H1 a = some (.ins C dx fs) ∧ Cls K C ∧ NoAttr K C f ∧ fs.length < 1000 ∧ Q σ (upd H1 a (.ins C dx (putF f v fs)))
theorem pg_fld {X : Cx} {o : Expr} {f : Str} {pos : Pos} {ta : TE} (ha : PE X o ta) : PG X (.Attribute o f pos) (gFld X.K ta f) := by
  refine ⟨fun pins s σ H v u Q I r h => ?_⟩
  refine PySem.W.kas_attr (thn (ha.run pins s σ H _ I h) fun ov s1 ⟨x, H1, I1, rx, a, C, dx, fs, ex, ea, c, n, l, q⟩ => ?_)
  subst ex
  obtain rfl : ov = Value.ref a := rx
  exact setattr_ok I1 ea c n l r fun s2 I2 => ⟨σ, _, I2, q⟩
/-! ### a name of the module that is a function of Python's own -/
theorem pe_gl {X : Cx} {x : Str} {a : Addr} {pos : Pos} (hm : X.mg x = some (.ref a)) (hg : Gl X x := by rfl) (hd : (x == ("__debug__" : Str)) = false := by decide) : PE X (.Name x pos) (tC (.ref a)) := pe_glob (v := .ref a) hg hm rfl hd
theorem ixl {X : Cx} {K : PySem.W.Frag} (h : X.K = K := by rfl) : IxR X (rIxL K) := h ▸ ix_list
theorem pgt {X : Cx} {K : PySem.W.Frag} {es : List Expr} {k : Nat} {pos : Pos} {t : TGs} {n : Nat} (hK : X.K = K) (hc : X.calm = true) (h : PGs X es t)
    (hn : (assignEach es X.env).length = n := by rfl) (hst : (assignEach es X.env).findIdx? (·.1) = none := by rfl) : PG X (.Tuple es k pos) (gTup K n t) := hK ▸ pg_tup hc h hn hst
theorem ixt {X : Cx} {K : PySem.W.Frag} (h : X.K = K := by rfl) : IxR X (rIxT K) := h ▸ ix_tup
/-! ### slices and sums of tuples: whatever object they give -/
theorem sIx_negN {n d k : Nat} (hk : 0 < k) : HT.sIx n d (some (-(k : Int))) = n - k := by
  show (if -(k : Int) < 0 then (-(k : Int) + (n : Int)).toNat else min (-(k : Int)).toNat n) = n - k
  rw [if_pos (by omega)]
  omega
theorem cut_whole {xs : List V} {lo hi : Option Int} (h : HT.sIx xs.length 0 lo = 0 ∧ HT.sIx xs.length xs.length hi = xs.length) : cutV xs lo hi = xs := by
  unfold cutV
  rw [h.1, h.2]
  simp
theorem slA_done {K : PySem.W.Frag} {H : Hp} {a : Addr} {xs : List V} {lo hi : Option Int} {Q : VK} (hx : SqT K H a xs) (q : ∀ p H', Same H H' → SqT K H' p (cutV xs lo hi) → Q (.ref p) H') : rSlA K (.ref a) lo hi H Q := by
  refine ⟨a, xs, rfl, hx, fun w => q a H (Same.refl H) (by rw [cut_whole w]; exact hx), fun _ p hp => q p _ (NF.Same.new (Same.refl H) hp) (SqT.of upd_same)⟩
theorem slA_from {K : PySem.W.Frag} {H : Hp} {a : Addr} {xs : List V} {lo : Option Int} {Q : VK} {σ : L2.St} (hx : SqT K H a xs) (q : ∀ p H', Same H H' → SqT K H' p (cutV xs lo none) → Q (.ref p) H') : tNoPart σ H fun u H3 => rSlA K (.ref a) lo u H3 Q := by
  show rSlA K (.ref a) lo none H Q
  exact slA_done hx q
theorem catA_done {K : PySem.W.Frag} {H : Hp} {a b : Addr} {xs ys : List V} {Q : VK} (hx : SqT K H a xs) (hy : SqT K H b ys) (hz : xs.length + ys.length ≤ sizeLine) (q : ∀ p H', Same H H' → SqT K H' p (xs ++ ys) → Q (.ref p) H') : rCatA K (.ref a) (.ref b) H Q := by
  refine ⟨a, b, xs, ys, rfl, rfl, hx, hy, hz, fun e => q b H (Same.refl H) (by rw [e]; exact hy), fun _ e => q a H (Same.refl H) (by rw [e, List.append_nil]; exact hx), fun _ _ p hp => q p _ (NF.Same.new (Same.refl H) hp) (SqT.of upd_same)⟩
theorem cut_from {xs : List V} {n : Nat} : cutV xs (some (n : Int)) none = xs.drop n := by
  unfold cutV
  rw [HT.sIx_nat]
  show (xs.drop (min n xs.length)).take (xs.length - min n xs.length) = xs.drop n
  by_cases h : n ≤ xs.length
  · rw [Nat.min_eq_left h, List.take_of_length_le (by rw [List.length_drop]; exact Nat.le_refl _)]
  · rw [Nat.min_eq_right (by omega), List.drop_of_length_le (Nat.le_refl _), List.drop_of_length_le (by omega)]
    simp
theorem cut_to {xs : List V} {n : Nat} : cutV xs none (some (n : Int)) = xs.take n := by
  unfold cutV
  rw [HT.sIx_nat]
  show (xs.drop 0).take (min n xs.length - 0) = xs.take n
  rw [List.drop_zero, Nat.sub_zero]
  by_cases h : n ≤ xs.length
  · rw [Nat.min_eq_left h]
  · rw [Nat.min_eq_right (by omega), List.take_of_length_le (Nat.le_refl _), List.take_of_length_le (by omega)]
theorem cut_toN {xs : List V} {n : Nat} (h : 0 < n) : cutV xs none (some (-(n : Int))) = xs.take (xs.length - n) := by
  unfold cutV
  rw [sIx_negN h]
  show (xs.drop 0).take (xs.length - n - 0) = _
  rw [List.drop_zero, Nat.sub_zero]
theorem cut_mid {xs : List V} {a b : Nat} (h : a ≤ b) (hb : b ≤ xs.length) : cutV xs (some (a : Int)) (some (b : Int)) = (xs.drop a).take (b - a) := by
  unfold cutV
  rw [HT.sIx_nat, HT.sIx_nat, Nat.min_eq_left hb, Nat.min_eq_left (by omega)]
theorem map_cut {l : List Int} {lo hi : Option Int} : ∃ m : List Int, cutV (vI l) lo hi = vI m := ⟨(l.drop (HT.sIx (vI l).length 0 lo)).take (HT.sIx (vI l).length (vI l).length hi - HT.sIx (vI l).length 0 lo), by unfold cutV; simp only [vI, List.map_take, List.map_drop]⟩
theorem at_int {l : List Int} {i : Int} {k : Nat} (e : i = (k : Int)) (h : k < l.length) : atI (vI l) i = some (V.int (l.getD k 0)) := by
  rw [e]
  exact atI_nat (by rw [List.getElem?_map, List.getElem?_eq_getElem h, List.getD_eq_getElem?_getD, List.getElem?_eq_getElem h] <;> rfl)
theorem at_last {l : List Int} (h : 0 < l.length) : atI (vI l) (-1) = some (V.int (l.getD (l.length - 1) 0)) := by
  unfold atI ixN
  rw [if_neg (by omega), List.length_map, if_pos (by omega)]
  show (vI l)[((-1 : Int) + (l.length : Int)).toNat]? = _
  rw [show ((-1 : Int) + (l.length : Int)).toNat = l.length - 1 by omega, List.getElem?_map, List.getElem?_eq_getElem (by omega), List.getD_eq_getElem?_getD, List.getElem?_eq_getElem (by omega)] <;> rfl
/-! ### [.. for a, b in zip(t, u)] of two tuples of one length -/
theorem lc_zipT {K : PySem.W.Frag} {a b : Addr} {xs ys : List V} {g : TG} {tt : TT} {te : TE} {vs : List Nat} {σ : L2.St} {H1 : Hp} {D : Addr} {Qd : Hp → Prop} (hl : xs.length = ys.length) (Pv : Nat → Hp → Prop) (h0 : Pv 0 (upd H1 D (.lst []))) (hq : ∀ i H, Pv i H → SqT K H a xs ∧ SqT K H b ys)
    (hs : ∀ i x y T H, xs[i]? = some x → ys[i]? = some y → Pv i H → H T = none → g (.ref T) (wipe σ vs) (upd H T (.tup [x, y])) fun σ2 H2 => wipe σ2 vs = wipe σ vs ∧ tt σ2 H2 fun b H3 =>
      if b = true then te σ2 H3 fun y H4 => ∃ acc, H4 D = some (.lst acc) ∧ acc.length < sizeLine ∧ Pv (i + 1) (upd H4 D (.lst (acc ++ [y]))) else Pv (i + 1) H3) (hd : ∀ H, Pv xs.length H → Qd H) :
    ∃ W : Nat → Nat → Hp → Prop, (∃ m, W 0 m (upd H1 D (.lst []))) ∧ ∀ i m H, W i m H →
      ((ItzT K a b).stop i H ∧ Qd H) ∨ ((ItzT K a b).go i H ∧ ∃ Nx : Hp → Prop, (∀ H', Nx H' → ∃ m', m' < m ∧ W (i + 1) m' H') ∧ ∀ x H', (ItzT K a b).yld i H x H' → g x (wipe σ vs) H' fun σ2 H2 => wipe σ2 vs = wipe σ vs ∧ tt σ2 H2 fun b H3 =>
        if b = true then te σ2 H3 fun y H4 => ∃ acc, H4 D = some (.lst acc) ∧ acc.length < sizeLine ∧ Nx (upd H4 D (.lst (acc ++ [y]))) else Nx H3) := by
  refine ⟨fun i m H => m = xs.length - i ∧ i ≤ xs.length ∧ Pv i H, ⟨xs.length, rfl, Nat.zero_le _, h0⟩, ?_⟩
  rintro i m H ⟨rfl, hi, p⟩
  obtain ⟨qx, qy⟩ := hq i H p
  by_cases hlt : i < xs.length
  · have hx : xs[i]? = some xs[i] := List.getElem?_eq_getElem hlt
    have hlt2 : i < ys.length := by omega
    have hy : ys[i]? = some ys[i] := List.getElem?_eq_getElem hlt2
    refine .inr ⟨⟨xs, ys, _, _, qx, qy, hx, hy⟩, Pv (i + 1), fun H' p' => ⟨xs.length - (i + 1), by omega, rfl, hlt, p'⟩, fun v H' y => ?_⟩
    obtain ⟨T, x', y', rfl, hT, rfl, f1, f2⟩ := y
    exact hs i x' y' T H (f1 xs qx) (f2 ys qy) p hT
  · have e : i = xs.length := by omega
    subst e
    exact .inl ⟨⟨xs, ys, qx, qy, Or.inl (Nat.le_refl _)⟩, hd H p⟩
theorem tru_tup {K : PySem.W.Frag} {H : Hp} {a : Addr} {l : List Int} (h : SqT K H a (vI l)) : TruV K (.ref a) H (!l.isEmpty) := Or.inr (Or.inl ⟨_, h, by cases l <;> rfl⟩)
theorem tru_int {K : PySem.W.Frag} {H : Hp} {i : Int} : TruV K (.int i) H (i != 0) := rfl
/-! ### deep == of lists and tuples of vI -/
theorem dp_ints {K : PySem.W.Frag} {H : Hp} : ∀ l : List Int, DpAll K H (vI l) (l.map PyData.int)
  | [] => .nil
  | i :: l => .cons (.int i) (dp_ints l)
theorem eqv_ints : ∀ a b : List Int, PyData.eqvAll (a.map PyData.int) (b.map PyData.int) = decide (a = b)
  | [], [] => rfl
  | [], _ :: _ => rfl
  | _ :: _, [] => rfl
  | x :: a, y :: b => by
    show (PyData.eqv (.int x) (.int y) && PyData.eqvAll (a.map PyData.int) (b.map PyData.int)) = _
    rw [eqv_ints a b]
    show ((x == y) && decide (a = b)) = _
    by_cases h : x = y <;> by_cases g : a = b <;> simp [h, g]
end NF
namespace NF
open PySem PySem.Spec PyProof.Rows L2 He RZ
theorem lay_ints : ∀ l : List Int, PyData.canLayAll0 (l.map PyData.int) = true
  | [] => rfl
  | _ :: l => lay_ints l
theorem depth_ints : ∀ l : List Int, PyData.depthAll (l.map PyData.int) = 0
  | [] => rfl
  | i :: l => by
    show max (PyData.depth (.int i)) (PyData.depthAll (l.map PyData.int)) = 0
    rw [depth_ints l]
    rfl
theorem shaped_L (l : List Int) : SeqAt.shaped (.list (l.map PyData.int)) = true := by
  show (PyData.canLayAll0 (l.map PyData.int) && decide (PyData.depthAll (l.map PyData.int) + 1 ≤ 64)) = true
  rw [lay_ints, depth_ints]
  rfl
theorem shaped_T (l : List Int) : SeqAt.shaped (.tuple (l.map PyData.int)) = true := by
  show (PyData.canLayAll0 (l.map PyData.int) && decide (PyData.depthAll (l.map PyData.int) + 1 ≤ 64)) = true
  rw [lay_ints, depth_ints]
  rfl
theorem eqL_done {K : PySem.W.Frag} {H : Hp} {a b : Addr} {x y : List Int} {Q : VK} (hx : SqL K H a (vI x)) (hy : SqL K H b (vI y)) (q : Q (.bl (decide (x = y))) H) : rEqD K (.ref a) (.ref b) H Q :=
  ⟨_, _, .lst hx (dp_ints x), .lst hy (dp_ints y), shaped_L x, shaped_L y, by rw [show PyData.eqv (.list (x.map PyData.int)) (.list (y.map PyData.int)) = decide (x = y) from eqv_ints x y]; exact q⟩
theorem eqT_done {K : PySem.W.Frag} {H : Hp} {a b : Addr} {x y : List Int} {Q : VK} (hx : SqT K H a (vI x)) (hy : SqT K H b (vI y)) (q : Q (.bl (decide (x = y))) H) : rEqD K (.ref a) (.ref b) H Q :=
  ⟨_, _, .tup hx (dp_ints x), .tup hy (dp_ints y), shaped_T x, shaped_T y, by rw [show PyData.eqv (.tuple (x.map PyData.int)) (.tuple (y.map PyData.int)) = decide (x = y) from eqv_ints x y]; exact q⟩
theorem neT_done {K : PySem.W.Frag} {H : Hp} {a b : Addr} {x y : List Int} {Q : VK} (hx : SqT K H a (vI x)) (hy : SqT K H b (vI y)) (q : Q (.bl (!decide (x = y))) H) : rNeD K (.ref a) (.ref b) H Q :=
  ⟨_, _, .tup hx (dp_ints x), .tup hy (dp_ints y), shaped_T x, shaped_T y, by rw [show PyData.eqv (.tuple (x.map PyData.int)) (.tuple (y.map PyData.int)) = decide (x = y) from eqv_ints x y]; exact q⟩
end NF
namespace NF
open PySem
theorem vI_drop {l : List Int} {n : Nat} : (vI l).drop n = vI (l.drop n) := by simp [vI, List.map_drop]
theorem vI_take {l : List Int} {n : Nat} : (vI l).take n = vI (l.take n) := by simp [vI, List.map_take]
theorem vI_app {l m : List Int} : vI l ++ vI m = vI (l ++ m) := by simp [vI]
theorem vI_len {l : List Int} : (vI l).length = l.length := by simp [vI]
end NF
namespace NF
open PySem PySem.Spec PyProof.Rows L2 He RZ
/-- a list or a tuple -/
def Row (K : PySem.W.Frag) (H : Hp) (a : Addr) (xs : List V) : Prop := SqL K H a xs ∨ SqT K H a xs
theorem Row.mono {K : PySem.W.Frag} {H H' : Hp} {a : Addr} {xs : List V} (h : Row K H a xs) (s : Same H H') : Row K H' a xs := h.elim (fun h => .inl (L2.Same.seq s h)) (fun h => .inr (NF.Same.tup s h))
def iRow (K : PySem.W.Frag) (tl : TE) : TI := fun σ H R => tl σ H fun x H1 => ∃ a, x = .ref a ∧ (((∃ xs, SqL K H1 a xs) ∧ R (Itl K a) H1) ∨ ((∃ xs, SqT K H1 a xs) ∧ R (Itt K a) H1))
theorem pi_row {X : Cx} {tg l : Expr} {tl : TE} (hl : PE X l tl) : PI X tg l (iRow X.K tl) := by
  refine ⟨fun pins s σ H R I h => ?_⟩
  refine thn (hl.run pins s σ H _ I h) fun v s1 ⟨x, H1, I1, r1, q1⟩ => ?_
  obtain ⟨a, e, q⟩ := q1
  subst e
  cases r1
  rcases q with ⟨⟨xs, hq⟩, q⟩ | ⟨⟨xs, hq⟩, q⟩
  · obtain ⟨its, rv, p, hz⟩ := I1.list hq
    refine wpAny_pyIter_list p.isList ?_
    refine ⟨s1.heap.objs.size, [s1.heap.objs.size], _, _, H1, rfl, I1.kept (t' := s1.toks) fun b o e => Heap.get?_push_of_some _ e, turn_list a _, ⟨_, Heap.get?_push_size _ rfl, rfl, rfl⟩, fun b hb => ?_, q⟩
    have e : b = s1.heap.objs.size := by simpa using hb
    subst e
    exact I1.fpOk (Nat.le_refl _) (I1.hok.fresh (Nat.le_refl _))
  · obtain ⟨its, rv, p, hz⟩ := I1.tuple hq
    refine wpAny_pyIter_tuple (show s1.heap.IsTuple a its.toArray from p) ?_
    refine ⟨s1.heap.objs.size, [s1.heap.objs.size], _, _, H1, rfl, I1.kept (t' := s1.toks) fun b o e => Heap.get?_push_of_some _ e, turn_tuple a _, ⟨_, Heap.get?_push_size _ rfl, rfl, rfl⟩, fun b hb => ?_, q⟩
    have e : b = s1.heap.objs.size := by simpa using hb
    subst e
    exact I1.fpOk (Nat.le_refl _) (I1.hok.fresh (Nat.le_refl _))
theorem for_row {K : PySem.W.Frag} {a : Addr} {xs : List V} {g : TG} {tb : TS} {D : Ends} {σ : L2.St} {H : Hp} (hr : Row K H a xs) (Pv : Nat → L2.St → Hp → Prop) (h0 : Pv 0 σ H) (hm : ∀ i σ H', Pv i σ H' → Same H H')
    (hs : ∀ i x σ H, xs[i]? = some x → Pv i σ H → g x σ H fun σ2 H2 => tb { D with nx := Pv (i + 1), ct := Pv (i + 1), bk := D.nx } σ2 H2) (hd : ∀ σ H, Pv xs.length σ H → D.nx σ H) :
    ((∃ xs, SqL K H a xs) ∧ (∃ W : Nat → Nat → L2.St → Hp → Prop, (∃ m, W 0 m σ H) ∧ ∀ i m σ H, W i m σ H →
      ((Itl K a).stop i H ∧ D.nx σ H) ∨ ((Itl K a).go i H ∧ ∃ N : L2.St → Hp → Prop, (∀ σ' H', N σ' H' → ∃ m', m' < m ∧ W (i + 1) m' σ' H') ∧ ∀ x H', (Itl K a).yld i H x H' → g x σ H' fun σ2 H2 => tb { D with nx := N, ct := N, bk := D.nx } σ2 H2))) ∨
    ((∃ xs, SqT K H a xs) ∧ (∃ W : Nat → Nat → L2.St → Hp → Prop, (∃ m, W 0 m σ H) ∧ ∀ i m σ H, W i m σ H →
      ((Itt K a).stop i H ∧ D.nx σ H) ∨ ((Itt K a).go i H ∧ ∃ N : L2.St → Hp → Prop, (∀ σ' H', N σ' H' → ∃ m', m' < m ∧ W (i + 1) m' σ' H') ∧ ∀ x H', (Itt K a).yld i H x H' → g x σ H' fun σ2 H2 => tb { D with nx := N, ct := N, bk := D.nx } σ2 H2))) := by
  rcases hr with hr | hr
  · exact .inl ⟨⟨_, hr⟩, for_list Pv h0 (fun i σ H' _ p => L2.Same.seq (hm i σ H' p) hr) hs hd⟩
  · exact .inr ⟨⟨_, hr⟩, for_tup Pv h0 (fun i σ H' _ p => NF.Same.tup (hm i σ H' p) hr) hs hd⟩
theorem ixs {X : Cx} {K : PySem.W.Frag} (h : X.K = K := by rfl) : IxR X (rIx K) := h ▸ ix_seq
theorem ix_done {K : PySem.W.Frag} {H : Hp} {a : Addr} {xs : List V} {i : Int} {v : V} {Q : VK} (hr : Row K H a xs) (hv : atI xs i = some v) (q : Q v H) : rIx K (.ref a) (.int i) H Q :=
  hr.elim (fun h => .inl ⟨a, xs, i, v, rfl, rfl, h, hv, q⟩) fun h => .inr (.inl ⟨a, xs, i, v, rfl, rfl, h, hv, q⟩)
theorem tru_row {K : PySem.W.Frag} {H : Hp} {a : Addr} {l : List Int} (h : Row K H a (vI l)) : TruV K (.ref a) H (!l.isEmpty) := h.elim (fun h => Or.inl ⟨_, h, by cases l <;> rfl⟩) tru_tup
theorem tyx_tup {K : PySem.W.Frag} {H : Hp} {a : Addr} {xs : List V} (h : SqT K H a xs) : TyX K H (.ref a) (.type "tuple") := by
  rcases h with (h | ⟨o, h⟩) | ⟨o, its, n, h1, h2, _⟩
  · exact .base (.tup h)
  · exact .fTuple h
  · exact .kTuple h1 h2
theorem tyx_lst {K : PySem.W.Frag} {H : Hp} {a : Addr} {xs : List V} (h : SqL K H a xs) : TyX K H (.ref a) (.type "list") := by
  rcases h with (h | ⟨o, h⟩) | ⟨o, its, n, h1, h2, _⟩
  · exact .base (.lst h)
  · exact .base (.frz h)
  · exact .kList h1 h2
theorem kit_i_i (K : PySem.W.Frag) : PySem.W.kitOne K (.type "int") (.type "int") = some true := if_pos (by decide +kernel)
theorem kit_i_b (K : PySem.W.Frag) : PySem.W.kitOne K (.type "int") (.type "bool") = some false := by kernel_rfl
theorem kit_b_b (K : PySem.W.Frag) : PySem.W.kitOne K (.type "bool") (.type "bool") = some true := if_pos (by decide +kernel)
theorem kit_t_t (K : PySem.W.Frag) : PySem.W.kitOne K (.type "tuple") (.type "tuple") = some true := if_pos (by decide +kernel)
theorem kit_t_tl (K : PySem.W.Frag) : PySem.W.kitAny K (.type "tuple") [.type "tuple", .type "list"] = some true := by kernel_rfl
theorem kit_l_tl (K : PySem.W.Frag) : PySem.W.kitAny K (.type "list") [.type "tuple", .type "list"] = some true := by kernel_rfl
end NF
namespace NT
def climbs : Int → List Int → Prop
  | _, [] => True
  | lo, x :: xs => lo ≤ x ∧ climbs x xs
structure Good (h l : List Int) (r : Int) : Prop where
  hd : climbs 0 h
  lp : climbs 0 l
  join : h ≠ [] → l ≠ [] → h.getD (h.length - 1) 0 ≤ l.getD 0 0
  r0 : 0 ≤ r
  rl : l = [] → r = 0
  last : l ≠ [] → l.getD (l.length - 1) 0 ≤ l.getD 0 0 + r
end NT
set_option Elab.async false
set_option linter.all false
set_option maxRecDepth 100000
set_option maxHeartbeats 4000000
namespace NT
theorem least_of {p : Nat → Prop} : ∀ n, p n → ∃ m, p m ∧ m ≤ n ∧ ∀ k, p k → m ≤ k := by
  intro n
  induction n using Nat.strongRecOn with
  | _ n ih =>
    intro hn
    by_cases h : ∃ k, p k ∧ k < n
    · obtain ⟨k, hk, hlt⟩ := h
      obtain ⟨m, h1, h2, h3⟩ := ih k hlt hk
      exact ⟨m, h1, by omega, h3⟩
    · exact ⟨n, hn, Nat.le_refl _, fun k hk => Nat.le_of_not_lt fun hlt => h ⟨k, hk, hlt⟩⟩
theorem lap_ex {l : List Int} {r : Int} (hl : l ≠ []) : ∃ m, LapIs l r m := by
  obtain ⟨m, ⟨h1, h2, h3⟩, _, hm⟩ := least_of (p := fun m => 0 < m ∧ m ∣ l.length ∧ Per (walk l r) m) l.length ⟨len_pos hl, Nat.dvd_refl _, per_self hl⟩
  exact ⟨m, h1, h2, h3, fun k a b c => hm k ⟨a, b, c⟩⟩
/-- the plain form is no longer than what it was told by -/
theorem plain_size {h l : List Int} {r : Int} {x : List Int × List Int × Int} (hx : IsPlain h l r x) : x.1.length ≤ h.length ∧ x.2.1.length ≤ l.length ∧ (l ≠ [] → x.2.1 ≠ []) ∧ (l = [] → x.2.1 = []) ∧ (0 ≤ r → 0 ≤ x.2.2 ∧ x.2.2 ≤ r) ∧ (l ≠ [] → (0 < r ↔ 0 < x.2.2)) ∧ (l = [] → x = (h, [], 0)) := by
  by_cases hl : l = []
  · subst hl
    rcases hx with ⟨_, rfl⟩ | ⟨z, _⟩
    · exact ⟨Nat.le_refl _, Nat.le_refl _, fun z => absurd rfl z, fun _ => rfl, fun h => ⟨Int.le_refl _, h⟩, fun z => absurd rfl z, fun _ => rfl⟩
    · exact absurd rfl z
  · obtain ⟨m, a⟩ := lap_ex (r := r) hl
    obtain ⟨t, ht⟩ := a.dvd
    have hc := per_at hl a.pos a.per ht.symm
    have hr := per_rise hl hc ht.symm
    have t0 : 0 < t := Nat.pos_of_ne_zero fun z => by rw [z, Nat.mul_zero] at ht; have := len_pos hl; omega
    have b := plain_is (h := h) hl a hc
    have e := plain_one hx b fun n _ => rfl
    have hle : m ≤ l.length := Nat.le_of_dvd (len_pos hl) a.dvd
    have hlen : (h ++ l.take m).length = h.length + m := by rw [List.length_append, List.length_take, Nat.min_eq_left hle]
    have hcut := cut_le (e := h ++ l.take m) (p := m) (r := r / (t : Int)) h.length
    have hw := win_len (e := h ++ l.take m) (left := cut (h ++ l.take m) m (r / (t : Int)) h.length) (p := m) (by rw [hlen]; omega)
    subst e
    have hm := a.pos
    refine ⟨?_, ?_, fun _ z => ?_, fun z => absurd z hl, fun h0 => ?_, fun _ => ?_, fun z => absurd z hl⟩
    · show ((h ++ l.take m).take _).length ≤ _
      rw [List.length_take]
      omega
    · show (win _ _ _).length ≤ _
      rw [hw]
      exact hle
    · have z' : win (h ++ l.take m) (cut (h ++ l.take m) m (r / (t : Int)) h.length) m = [] := z
      rw [z'] at hw
      simp at hw
      omega
    · show 0 ≤ r / (t : Int) ∧ r / (t : Int) ≤ r
      exact ⟨Int.ediv_nonneg h0 (by omega), Int.ediv_le_self _ h0⟩
    · show 0 < r ↔ 0 < r / (t : Int)
      have t1 : (0 : Int) < (t : Int) := by omega
      constructor
      · intro h0
        rcases Int.lt_or_le 0 (r / (t : Int)) with q | q
        · exact q
        · have := Int.mul_le_mul_of_nonneg_right q (Int.le_of_lt t1)
          omega
      · intro h0
        have := Int.mul_pos h0 t1
        omega
/-- the end of a table -/
def fin_ (l : List Int) (r : Int) : Option Int := if l = [] ∨ 0 < r then none else some (l.getD (l.length - 1) 0)
/-- the value at a count, or at never -/
def val_ (h l : List Int) (r : Int) : Option Nat → Option Int
  | none => fin_ l r
  | some n => if n = 0 then some 0 else at_ h l r n
end NT
namespace NF
open PySem PySem.Spec PyProof.Rows L2 He RZ NT
def vO : Option Int → V
  | none => .non
  | some i => .int i
def vN : Option Nat → V
  | none => .non
  | some n => .int (n : Int)
def tf (a b : Addr) (r : Int) : List (Str × V) := [("head", .ref a), ("loop", .ref b), ("rise", .int r)]
/-- a table with these three -/
def TabAt (K : PySem.W.Frag) (C : Addr) (H : Hp) (x : Addr) (y : List Int × List Int × Int) : Prop := ∃ dx a b, H x = some (.ins C dx (tf a b y.2.2)) ∧ SqT K H a (vI y.1) ∧ SqT K H b (vI y.2.1)
theorem TabAt.mono {K : PySem.W.Frag} {C : Addr} {H H' : Hp} {x : Addr} {y : List Int × List Int × Int} (h : TabAt K C H x y) (s : Same H H') : TabAt K C H' x y := by
  obtain ⟨dx, a, b, h1, h2, h3⟩ := h
  exact ⟨dx, a, b, s _ _ h1, NF.Same.tup s h2, NF.Same.tup s h3⟩
/-- what stands at p is no tuple -/
def NoTup : HO → Prop
  | .tup _ => False
  | .frz _ _ => False
  | _ => True
theorem SqT.put {K : PySem.W.Frag} {H : Hp} {a p : Addr} {o u : HO} {xs : List V} (h : SqT K H a xs) (hp : H p = some u) (n : match u with | .lst _ => True | .ins _ _ _ => True | _ => False) : SqT K (upd H p o) a xs := by
  rcases h with (h | ⟨w, h⟩) | h
  · refine .inl (.inl ?_)
    rw [upd_ne (fun z => by subst z; rw [h] at hp; cases hp; exact n)]
    exact h
  · refine .inl (.inr ⟨w, ?_⟩)
    rw [upd_ne (fun z => by subst z; rw [h] at hp; cases hp; exact n)]
    exact h
  · exact .inr h
theorem SqT.wo {K : PySem.W.Frag} {H : Hp} {a p : Addr} {u : HO} {xs : List V} (h : SqT K H a xs) (hp : H p = some u) (n : match u with | .lst _ => True | .ins _ _ _ => True | _ => False) : SqT K (wo H p) a xs := by
  rcases h with (h | ⟨w, h⟩) | h
  · refine .inl (.inl ?_)
    rw [wo_ne (fun z => by subst z; rw [h] at hp; cases hp; exact n)]
    exact h
  · refine .inl (.inr ⟨w, ?_⟩)
    rw [wo_ne (fun z => by subst z; rw [h] at hp; cases hp; exact n)]
    exact h
  · exact .inr h
theorem TabAt.wo {K : PySem.W.Frag} {C : Addr} {H : Hp} {x p : Addr} {y : List Int × List Int × Int} {l : List V} (h : TabAt K C H x y) (hp : H p = some (.lst l)) : TabAt K C (NF.wo H p) x y := by
  obtain ⟨dx, a, b, h1, h2, h3⟩ := h
  refine ⟨dx, a, b, ?_, SqT.wo h2 hp trivial, SqT.wo h3 hp trivial⟩
  rw [wo_ne (fun z => by subst z; rw [h1] at hp; cases hp)]
  exact h1
/-- a class that may be made by its name; sp: its __init__ -/
structure Mak (P : Program) (w : World) (K : PySem.W.Frag) (mg : Str → Option Value) (base : Heap) (k n : Nat) (x : Str) (C : Addr) (sp : Sp) (dvs : List V) : Prop where
  ex : ∃ (f : Addr) (fd : FuncData) (ps : List Str) (ds : List Value), Mk K C f ∧ FnOk P w K mg base CX0 k f fd ps sp ∧ mg x = some (.ref C) ∧ Binds K fd ps ds ∧ Vals dvs ds
theorem pe_mk {X : Cx} {k j n : Nat} {C : Addr} {x : Str} {sp : Sp} {dvs : List V} {p pos : Pos} {e : Expr} {es : List Expr} {t : TA} (c : Mak X.prog X.w X.K X.mg X.base k n x C sp dvs) (hr : Room j X.A) (hk : k + 1 ≤ j) (hg : Gl X x) (ha : PA X (e :: es) t)
    (hdb : (x == ("__debug__" : Str)) = false := by decide) (he : starEach (e :: es) X.env = (false, eval e X.env) :: starEach es X.env := by rfl) (hpl : (backTo pos (starEach es X.env)).any (·.1) = false := by rfl) :
    PE X (.Call (.Name x p) (e :: es) [] pos) (tMake C sp dvs E0 t) := by
  obtain ⟨f, fd, ps, ds, M, F, hm, b, d⟩ := c.ex
  exact pe_make M F (hr.mono hk) hg hm b d pass0 ha hdb he hpl
end NF
namespace NF
open PySem PySem.Spec PyProof.Rows L2 He RZ NT
/-- tuple(..) of a list or a tuple -/
def rTupOf (K : PySem.W.Frag) : List V → Hp → VK → Prop := fun xs H Q => ∃ a ys, xs = [.ref a] ∧ Row K H a ys ∧ ∀ p H', Same H H' → SqT K H' p ys → Q (.ref p) H'
theorem cr_tup {X : Cx} : CallR X (.type "tuple") (rTupOf X.K) := by
  intro pins s σ H xs us Q I r h
  obtain ⟨a, ys, rfl, hr, q⟩ := h
  refine call_tuple_of pins s σ H _ us Q I r ⟨a, ys, rfl, ?_⟩
  exact hr.elim (fun h => .inl ⟨h, fun l hl => q l _ (NF.Same.new (Same.refl H) hl) (SqT.of upd_same)⟩) fun h => .inr ⟨h, q a H (Same.refl H) h⟩
end NF
set_option Elab.async false
set_option linter.all false
set_option maxRecDepth 100000
set_option maxHeartbeats 4000000
/-! Instances of a plain class with an own __eq__: ==, !=, isinstance, calls, properties. -/
namespace NF
open PySem PySem.Spec PyProof.Rows L2 He RZ NT
theorem ns_some_of {K : PySem.W.Frag} {h : Heap} {N : Addr} {mg : Str → Option Value} {n : Str} {v : Value} (X : K.In h) (G : h.Ns N mg) (e : PySem.W.nsIn K N n = some (some v)) : mg n = some v := by
  rcases G with ⟨ob, rows, cnt, at_, isD, rest⟩
  have val := rest.2 n
  rcases hk : K.lookup N with _ | ⟨c0, d0, dt, sl⟩
  · simp only [PySem.W.nsIn, hk] at e
    cases e
  · have same := (X N _ hk).symm.trans at_
    injection same with same
    subst same
    dsimp only at isD
    subst isD
    simp only [PySem.W.nsIn, hk] at e
    rw [← val]
    unfold nsFind findBy
    rw [← Array.find?_toList]
    revert e
    cases rows.toList.find? _ with
    | some en => exact fun e => by simpa using e
    | none =>
      intro e
      by_cases hany : (rows.toList.any fun x => x.refKey) = true
      · simp [hany] at e
      · simp [hany] at e
/-- the class's own object: nothing above it but object, an own __eq__ at f, no own __ne__ -/
def plObjB (K : PySem.W.Frag) (C f : Addr) : Bool := match K.lookup C with
  | some ⟨.type t, _, .cls cd, sl⟩ => t == "type" && (match cd.mro with
    | .ref C' :: bm => C' == C && bm == [.type "object"]
    | _ => false) && (cd.hasDict && !cd.hasDel) && (PySem.W.nsOkIn K cd.ns && eqO (PySem.W.nsIn K cd.ns "__eq__") (some (some (.ref f))) && eqO (PySem.W.nsIn K cd.ns "__ne__") (some none)) && (match sl.toList with
    | [_, _, _, _, some (.builtin n), _] => n == "object.__new__"
    | _ => false)
  | _ => false
theorem plObjB_ok {K : PySem.W.Frag} {C f : Addr} (h : plObjB K C f = true) :
    ∃ nm q N bs sn sub ab col dd k0 k1 k2 k3 k5, K.lookup C = some (excClassObj nm q C N bs [.type "object"] true sn sub ab col dd k0 k1 k2 k3 k5 "object.__new__") ∧ PySem.W.nsOkIn K N = true ∧ PySem.W.nsIn K N "__eq__" = some (some (.ref f)) ∧ PySem.W.nsIn K N "__ne__" = some none := by
  unfold plObjB at h
  split at h
  · rename_i t dd cd sl hl
    obtain ⟨h, h4⟩ := ba h
    obtain ⟨h, h9⟩ := ba h
    obtain ⟨h, h3⟩ := ba h
    obtain ⟨h1, h2⟩ := ba h
    obtain ⟨h12, h11⟩ := ba h9
    obtain ⟨h13, h10⟩ := ba h12
    split at h2
    · rename_i C' bm hm
      obtain ⟨h5, h6⟩ := ba h2
      split at h4
      · rename_i k0 k1 k2 k3 n k5 hs
        obtain ⟨h7, h8⟩ := ba h3
        have e1 : t = "type" := eq_of_beq h1
        have e5 : C' = C := eq_of_beq h5
        have e6 : bm = [.type "object"] := eq_of_beq h6
        have e9 : n = "object.__new__" := eq_of_beq h4
        subst e1 e5 e6 e9
        obtain ⟨nm, bs, mro, N, q, hd, sn, sub, ab, col, hdel⟩ := cd
        dsimp only at hm h7 h8 h13 h10 h11
        subst hm h7
        have hdel' : hdel = false := by
          cases hdel with
          | false => rfl
          | true => cases h8
        subst hdel'
        have hsl : sl = #[k0, k1, k2, k3, some (.builtin "object.__new__"), k5] := by
          have := congrArg List.toArray hs
          simpa using this
        subst hsl
        exact ⟨nm, q, N, bs, sn, sub, ab, col, dd, k0, k1, k2, k3, k5, hl, h13, eqO_ok h10, eqO_ok h11⟩
      · cases h4
    · cases h2
  · cases h
/-- x == y, x an instance of C -/
def rEqO (K : PySem.W.Frag) (C : Addr) (sp : Sp) : R2 := fun x y H Q => ∃ a dx fs tb, x = .ref a ∧ H a = some (.ins C dx fs) ∧ TyX K H y tb ∧ PySem.W.notFirst K C tb = true ∧ sp [.ref a, y] H Q E0
/-- x != y, both instances of C -/
def rNeO (K : PySem.W.Frag) (C : Addr) (sp : Sp) : R2 := fun x y H Q => ∃ a dx fs b dy gs, x = .ref a ∧ H a = some (.ins C dx fs) ∧ y = .ref b ∧ H b = some (.ins C dy gs) ∧ sp [.ref a, .ref b] H (fun v H' => ∃ t, v = .bl t ∧ Q (.bl (!t)) H') E0
/-- a class with an own == at f -/
structure EqC (P : Program) (w : World) (K : PySem.W.Frag) (mg : Str → Option Value) (base : Heap) (k : Nat) (C : Addr) (sp : Sp) : Prop where
  ex : ∃ (f : Addr) (fd : FuncData) (ps : List Str), FnOk P w K mg base CX0 k f fd ps sp ∧ PySem.W.findIn K (.ref C) "__eq__" = some (some (.ref f)) ∧ PySem.W.isFn K (.ref f) = true ∧ plObjB K C f = true ∧ Binds K fd ps []
theorem op_eqO {X : Cx} {k j : Nat} {C : Addr} {sp : Sp} (c : EqC X.prog X.w X.K X.mg X.base k C sp) (hr : Room j X.A) (hk : k ≤ j) : OpR X (compareOp .Eq) (rEqO X.K C sp) := by
  obtain ⟨f, fd, ps, F, hs, hf, _, hb⟩ := c.ex
  intro pins s σ H x y v u Q I rx ry h
  obtain ⟨a, dx, fs, tb, rfl, ha, ty, hn, q⟩ := h
  cases rx
  obtain ⟨mA, O, _⟩ := ins_get I.hok ha
  obtain ⟨od, J, _⟩ := O.look
  obtain ⟨m, hF⟩ := I.fr
  obtain ⟨P, Z, p, _⟩ := kit_of I ry ty
  show wpAny (model X.prog X.w) X.A (richCompare .Eq (.ref a) u) (EP X pins σ Q) X.xe s
  refine PySem.W.cmp_K (op := .Eq) (tb := tb) hr.units0 hF I.ok.mod.kin J (Z.ty _ _ I.kIn p) hn hs hf ?_
  have r2 : Vals [V.ref a, y] [Value.ref a, u] := .cons rfl (.cons ry .nil)
  refine wpAny_mono (run_fn (us := [.ref a, u]) (vs := [.ref a, y]) F (hr.mono hk) hb .nil pass0 I r2 q) (fun r s' z => ?_) fun _ _ e => e
  obtain ⟨z, H', I', rz, q'⟩ := z
  have hni : r ≠ .notImplemented := fun e => by
    subst e
    cases z with
    | int i => obtain ⟨t, e⟩ := (show ∃ t, Value.notImplemented = Value.int i t from rz); cases e
    | str i => obtain ⟨t, e⟩ := (show ∃ t, Value.notImplemented = Value.str i t from rz); cases e
    | byt i => obtain ⟨t, e⟩ := (show ∃ t, Value.notImplemented = Value.bytes i t from rz); cases e
    | flt i => obtain ⟨t, e⟩ := (show ∃ t, Value.notImplemented = Value.float i t from rz); cases e
    | _ => cases rz
  unfold PySem.W.CmpBack
  split
  · exact hni rfl
  · exact ⟨z, H', I', rz, q'⟩
theorem op_neO {X : Cx} {k j : Nat} {C : Addr} {sp : Sp} (c : EqC X.prog X.w X.K X.mg X.base k C sp) (hr : Room j X.A) (hk : k + 1 ≤ j) : OpR X (compareOp .NotEq) (rNeO X.K C sp) := by
  obtain ⟨f, fd, ps, F, hs, hf, hp, hb⟩ := c.ex
  intro pins s σ H x y v u Q I rx ry h
  obtain ⟨a, dx, fs, b, dy, gs, rfl, ha, rfl, hb', q⟩ := h
  cases rx
  cases ry
  obtain ⟨mA, O, _⟩ := ins_get I.hok ha
  obtain ⟨od, J, _⟩ := O.look
  obtain ⟨mB, O', _⟩ := ins_get I.hok hb'
  obtain ⟨od', J', _⟩ := O'.look
  obtain ⟨nm, qn, N, bs, sn, sub, ab, col, dd, k0, k1, k2, k3, k5, hl, hok, he, hne⟩ := plObjB_ok hp
  have G : s.heap.Ns N (s.heap.nsMap N) := .of_isNs (PySem.W.isNs_of_in I.kIn hok)
  have hr1 := hr.mono hk
  have r2 : Vals [V.ref a, .ref b] [Value.ref a, .ref b] := .cons rfl (.cons rfl .nil)
  have hlen := F.len _ _ _ _ q
  have run : wpAny (model X.prog X.w) X.A.in1 (call (.ref f) [.ref a, .ref b]) (fun v s' => ∃ t, v = .bool t ∧ EP X pins σ Q (.bool (!t)) s') X.xe s := by
    refine wpAny_call (codeAny_mono (F.run X.A.in1 X.stack s H ⟨[.ref a, .ref b], []⟩ [.ref a, .ref b] [.ref a, .ref b] _ E0 hr1.in1 I.env0.in1 (by
      have := hb s [.ref a, .ref b] I.kIn (by simpa using hlen)
      simpa using this) r2 q) fun r s' hq => ?_)
    cases r with
    | error e => exact False.elim hq
    | ok fl =>
      cases fl with
      | ret w =>
        obtain ⟨z, H', I', rz, t, ez, q3⟩ := I.after hq
        subst ez
        cases rz
        exact ⟨t, rfl, .bl (!t), H', I', rfl, q3⟩
      | next => exact False.elim hq
      | brk => exact False.elim hq
      | cont => exact False.elim hq
  obtain ⟨j1, j2, _⟩ := J
  obtain ⟨j3, j4, _⟩ := J'
  obtain ⟨of, hfo, hfc⟩ : ∃ of, s.heap.get? f = some of ∧ of.cls = .type "function" := by
    have e : (K0 : PySem.W.Frag) → K0.In s.heap → PySem.W.isFn K0 (.ref f) = true → ∃ of, s.heap.get? f = some of ∧ of.cls = .type "function" := fun K0 hK h0 => by
      have e1 : (K0.lookup f).map (·.cls) = some (.type "function") := beq_iff_eq.mp h0
      obtain ⟨o, ho, hc⟩ := Option.map_eq_some_iff.mp e1
      exact ⟨o, hK _ _ ho, hc⟩
    exact e X.K I.kIn hf
  obtain ⟨hp', g, d, tk, os⟩ := s
  exact PySem.compareOp_ne_ownEq (B := "object") (bm := [.type "object"]) PySem.F.cmp_object ⟨_, of, nm, qn, N, bs, true, sn, sub, ab, col, dd, k0, k1, k2, k3, k5, "object.__new__", _, _, j1, j2, I.kIn _ _ hl, G, ns_some_of I.kIn G he, hfo, hfc, PySem.F.cmp_object.mro, PySem.F.cmp_object.eq.lookup, PySem.W.ns_none_of I.kIn G hne⟩ j3 j4 (by have := hr.un; omega) run
/-- an instance of C may be called -/
structure CalO (P : Program) (w : World) (K : PySem.W.Frag) (mg : Str → Option Value) (base : Heap) (k : Nat) (C : Addr) (sp : Sp) : Prop where
  ex : ∃ (g : Addr) (fd : FuncData) (ps : List Str), StX.CallO K C g ∧ FnOk P w K mg base CX0 k g fd ps sp ∧ Binds K fd ps []
theorem pe_co {X : Cx} {k j : Nat} {C : Addr} {sp : Sp} {fe e : Expr} {es : List Expr} {t : TA} {tf : TE} {pos : Pos} (hf : PE X fe tf) (c : CalO X.prog X.w X.K X.mg X.base k C sp) (hr : Room j X.A) (hk : k ≤ j) (ha : PA X (e :: es) t)
    (ht : eval (.Call fe (e :: es) [] pos) X.env = (do callWith pos (← eval fe X.env) [] (backTo pos (starEach (e :: es) X.env)) (backToKw pos (keywordEach [] X.env))) := by rfl)
    (he : starEach (e :: es) X.env = (false, eval e X.env) :: starEach es X.env := by rfl) (hpl : (backTo pos (starEach es X.env)).any (·.1) = false := by rfl) :
    PE X (.Call fe (e :: es) [] pos) (StX.tCallO X C (fun vs H Q E => sp (vs ++ []) H Q E) E0 tf t) := by
  obtain ⟨g, fd, ps, c, F, b⟩ := c.ex
  exact StX.pe_callO hf c (F.raw b .nil) (hr.mono hk) pass0 ha ht he hpl
/-- a property of C -/
structure PropC (P : Program) (w : World) (K : PySem.W.Frag) (mg : Str → Option Value) (base : Heap) (k : Nat) (C : Addr) (f : Str) (sp : Sp) : Prop where
  cl : Cls K C
  ex : ∃ (p g : Addr) (fd : FuncData) (ps : List Str), PropOf K C f p g ∧ FnOk P w K mg base CX0 k g fd ps sp ∧ Binds K fd ps []
theorem pe_pr {X : Cx} {k j : Nat} {C : Addr} {f : Str} {sp : Sp} {e : Expr} {ta : TE} {pos : Pos} (he : PE X e ta) (c : PropC X.prog X.w X.K X.mg X.base k C f sp) (hr : Room j X.A) (hk : k + 1 ≤ j) (hab : attributeBase e f X.env (eval e X.env) = eval e X.env := by rfl) :
    PE X (.Attribute e f pos) (tProp C sp [] E0 ta) := by
  obtain ⟨p, g, fd, ps, c2, F, b⟩ := c.ex
  exact pe_prop he c.cl c2 F (hr.mono hk) b .nil pass0 hab
end NF
set_option Elab.async false
set_option linter.all false
set_option maxHeartbeats 4000000
namespace NT
variable {h l : List Int} {r : Int}
theorem climbs_lo : ∀ {l : List Int} {lo : Int} {i : Nat}, climbs lo l → i < l.length → lo ≤ l.getD i 0
  | [], _, _, _, h => by simp at h
  | x :: l, lo, 0, c, _ => c.1
  | x :: l, lo, i + 1, c, h => by
    have := climbs_lo (i := i) c.2 (by simpa using h)
    have := c.1
    show lo ≤ l.getD i 0
    omega
theorem climbs_up : ∀ {l : List Int} {lo : Int} {i : Nat}, climbs lo l → i + 1 < l.length → l.getD i 0 ≤ l.getD (i + 1) 0
  | [], _, _, _, h => by simp at h
  | x :: l, lo, 0, c, h => climbs_lo (i := 0) c.2 (by simpa using h)
  | x :: l, lo, i + 1, c, h => climbs_up (i := i) c.2 (by simpa using h)
theorem climbs_of : ∀ {l : List Int} {lo : Int}, (∀ i, i < l.length → lo ≤ l.getD i 0) → (∀ i, i + 1 < l.length → l.getD i 0 ≤ l.getD (i + 1) 0) → climbs lo l
  | [], _, _, _ => trivial
  | x :: l, lo, h1, h2 => by
    refine ⟨h1 0 (by simp), climbs_of (fun i hi => ?_) fun i hi => h2 (i + 1) (by simpa using hi)⟩
    induction i with
    | zero => exact h2 0 (by simpa using hi)
    | succ i ih => exact Int.le_trans (ih (by omega)) (h2 (i + 1) (by simpa using hi))
/-- the value at n as a number -/
def num (h l : List Int) (r : Int) (n : Nat) : Int := (at_ h l r n).getD 0
theorem walk_up (g : Good h l r) (hl : l ≠ []) (k : Nat) : walk l r k ≤ walk l r (k + 1) := by
  have hp := len_pos hl
  have e : k = k % l.length + l.length * (k / l.length) := (Nat.mod_add_div k _).symm
  have hi : k % l.length < l.length := Nat.mod_lt _ hp
  generalize k % l.length = a at e hi
  generalize k / l.length = b at e
  subst e
  rw [walk_add_mul hp, show a + l.length * b + 1 = (a + 1) + l.length * b by omega, walk_add_mul hp, walk_lt hi]
  by_cases c : a + 1 < l.length
  · rw [walk_lt c]
    have := climbs_up g.lp c
    omega
  · have : a + 1 = 0 + l.length := by omega
    rw [this, walk_add hp, walk_lt hp]
    have := g.last hl
    have e : l.length - 1 = a := by omega
    rw [e] at this
    omega
theorem at_some (n : Nat) (hn : n ≤ h.length ∨ l ≠ []) : at_ h l r n = some (num h l r n) := by
  unfold num at_
  by_cases c : n ≤ h.length
  · rw [if_pos c]; rfl
  · rw [if_neg c, if_neg (hn.resolve_left c)]; rfl
theorem num_up (g : Good h l r) (n : Nat) (hn : 1 ≤ n) (hs : n + 1 ≤ h.length ∨ l ≠ []) : num h l r n ≤ num h l r (n + 1) := by
  unfold num at_
  by_cases c : n + 1 ≤ h.length
  · rw [if_pos c, if_pos (by omega)]
    show h.getD (n - 1) 0 ≤ h.getD (n + 1 - 1) 0
    have := climbs_up (i := n - 1) g.hd (by omega)
    rw [show n - 1 + 1 = n + 1 - 1 by omega] at this
    exact this
  · have hl := hs.resolve_left c
    have e1 : (if n + 1 ≤ h.length then some (h.getD (n + 1 - 1) 0) else if l = [] then none else some (walk l r (n + 1 - h.length - 1))).getD 0 = walk l r (n + 1 - h.length - 1) := by rw [if_neg c, if_neg hl]; rfl
    rw [e1]
    by_cases c2 : n ≤ h.length
    · rw [if_pos c2]
      have e : n = h.length := by omega
      subst e
      show h.getD (h.length - 1) 0 ≤ walk l r (h.length + 1 - h.length - 1)
      rw [show h.length + 1 - h.length - 1 = 0 by omega, walk_lt (len_pos hl)]
      exact g.join (fun z => by rw [z] at hn; simp at hn) hl
    · rw [if_neg c2, if_neg hl]
      show walk l r (n - h.length - 1) ≤ walk l r (n + 1 - h.length - 1)
      rw [show n + 1 - h.length - 1 = (n - h.length - 1) + 1 by omega]
      exact walk_up g hl _
theorem walk_ge (g : Good h l r) (hl : l ≠ []) (k : Nat) : 0 ≤ walk l r k := by
  induction k with
  | zero =>
    rw [walk_lt (len_pos hl)]
    exact climbs_lo g.lp (len_pos hl)
  | succ k ih => exact Int.le_trans ih (walk_up g hl k)
theorem num_ge (g : Good h l r) (n : Nat) (hn : 1 ≤ n) : 0 ≤ num h l r n := by
  unfold num at_
  by_cases c : n ≤ h.length
  · rw [if_pos c]
    exact climbs_lo (i := n - 1) g.hd (by omega)
  · rw [if_neg c]
    by_cases hl : l = []
    · rw [if_pos hl]; exact Int.le_refl _
    · rw [if_neg hl]; exact walk_ge g hl _
theorem walk_mono (g : Good h l r) (hl : l ≠ []) (k d : Nat) : walk l r k ≤ walk l r (k + d) := by
  induction d with
  | zero => exact Int.le_refl _
  | succ d ih => exact Int.le_trans ih (walk_up g hl (k + d))
/-- the plain form is made of counts -/
theorem plain_counts (g : Good h l r) {x : List Int × List Int × Int} (hx : IsPlain h l r x) : (∀ i, i ∈ x.1 ++ x.2.1 → 0 ≤ i) ∧ 0 ≤ x.2.2 := by
  have hz := plain_size hx
  refine ⟨fun i hi => ?_, (hz.2.2.2.2.1 g.r0).1⟩
  have all : ∀ n, 1 ≤ n → ∀ v, at_ x.1 x.2.1 x.2.2 n = some v → 0 ≤ v := by
    rcases hx with ⟨rfl, rfl⟩ | ⟨_, _, _, _, e⟩
    · intro n hn v hv
      unfold at_ at hv
      by_cases c : n ≤ h.length
      · rw [if_pos c] at hv
        injection hv with hv
        rw [← hv]
        exact climbs_lo (l := h) (i := n - 1) g.hd (by omega)
      · rw [if_neg c, if_pos rfl] at hv
        cases hv
    · intro n hn v hv
      rw [e n hn] at hv
      have := num_ge g n hn
      unfold num at this
      rw [hv] at this
      exact this
  rcases List.mem_append.mp hi with h1 | h1
  · obtain ⟨k, hk, rfl⟩ := List.getElem_of_mem h1
    refine all (k + 1) (by omega) _ ?_
    unfold at_
    rw [if_pos (by omega), Nat.add_sub_cancel, List.getD_eq_getElem?_getD, List.getElem?_eq_getElem hk]
    rfl
  · obtain ⟨k, hk, rfl⟩ := List.getElem_of_mem h1
    have hne : x.2.1 ≠ [] := fun z => by rw [z] at hk; simp at hk
    refine all (x.1.length + k + 1) (by omega) _ ?_
    rw [at_loop hne (by omega), show x.1.length + k + 1 - x.1.length - 1 = k by omega, walk_lt hk, List.getD_eq_getElem?_getD, List.getElem?_eq_getElem hk]
    rfl
/-! ### the same table with more values in the head and a longer loop -/
def tell (h l : List Int) (r : Int) (n : Nat) : List Int := (List.range n).map fun k => num h l r (k + 1)
theorem tell_len (n : Nat) : (tell h l r n).length = n := by unfold tell; rw [List.length_map, List.length_range]
theorem tell_get {n k : Nat} (hk : k < n) : (tell h l r n).getD k 0 = num h l r (k + 1) := by
  unfold tell
  rw [List.getD_eq_getElem?_getD, List.getElem?_map, List.getElem?_range hk]
  rfl
theorem getD_take' {l : List Int} {m i : Nat} (h : i < m) : (l.take m).getD i 0 = l.getD i 0 := getD_take h
theorem tell_good (g : Good h l r) {more t : Nat} (hm : l = [] → more = 0) (ht : 0 < t) :
    Good ((tell h l r (h.length + more + l.length * t)).take (h.length + more)) ((tell h l r (h.length + more + l.length * t)).drop (h.length + more)) (r * (t : Int)) := by
  generalize hN : h.length + more + l.length * t = N
  generalize hc : h.length + more = c
  have some_ : ∀ n, n ≤ N → n ≤ h.length ∨ l ≠ [] := fun n hn => by
    by_cases hl : l = []
    · left
      have := hm hl
      have : l.length = 0 := by rw [hl]; rfl
      rw [this, Nat.zero_mul] at hN
      omega
    · exact .inr hl
  have cle : c ≤ N := by omega
  have hlt : ((tell h l r N).take c).length = c := by rw [List.length_take, tell_len]; omega
  have hld : ((tell h l r N).drop c).length = N - c := by rw [List.length_drop, tell_len]
  refine ⟨climbs_of (fun i hi => ?_) (fun i hi => ?_), climbs_of (fun i hi => ?_) (fun i hi => ?_), fun h1 h2 => ?_, ?_, fun hl => ?_, fun hl => ?_⟩
  · rw [hlt] at hi
    rw [getD_take hi, tell_get (by omega)]
    exact num_ge g _ (by omega)
  · rw [hlt] at hi
    rw [getD_take (by omega), getD_take hi, tell_get (by omega), tell_get (by omega)]
    exact num_up g _ (by omega) (some_ _ (by omega))
  · rw [hld] at hi
    rw [getD_drop, tell_get (by omega)]
    exact num_ge g _ (by omega)
  · rw [hld] at hi
    rw [getD_drop, getD_drop, tell_get (by omega), tell_get (by omega)]
    have := num_up g (c + i + 1) (by omega) (some_ _ (by omega))
    exact this
  · have c0 : 0 < c := by
      rcases Nat.eq_zero_or_pos c with z | z
      · rw [z] at h1; exact absurd rfl h1
      · exact z
    have d0 : 0 < N - c := by rw [← hld]; exact len_pos h2
    rw [hlt, getD_take (by omega), getD_drop, tell_get (by omega), tell_get (by omega)]
    have := num_up g c (by omega) (some_ _ (by omega))
    rw [show c - 1 + 1 = c by omega, show c + 0 + 1 = c + 1 by omega]
    exact this
  · exact Int.mul_nonneg g.r0 (by omega)
  · have z : N - c = 0 := by rw [← hld, hl]; rfl
    have z2 : l.length * t = 0 := by omega
    have z3 : l.length = 0 := by
      rcases Nat.mul_eq_zero.mp z2 with q | q
      · exact q
      · omega
    rw [g.rl (List.eq_nil_of_length_eq_zero z3), Int.zero_mul]
  · have d0 : 0 < N - c := by rw [← hld]; exact len_pos hl
    have hl2 : l ≠ [] := fun z => by
      have : l.length = 0 := by rw [z]; rfl
      rw [this, Nat.zero_mul] at hN
      omega
    rw [hld, getD_drop, getD_drop, tell_get (by omega), tell_get (by omega)]
    have w : ∀ j, num h l r (c + j + 1) = walk l r (more + j) := fun j => by
      unfold num
      rw [at_loop hl2 (by omega), show c + j + 1 - h.length - 1 = more + j by omega]
      rfl
    rw [w (N - c - 1), w 0, ← walk_add_mul (len_pos hl2)]
    have e : more + 0 + l.length * t = (more + (N - c - 1)) + 1 := by omega
    rw [e]
    exact walk_mono g hl2 _ 1
theorem tell_at {more t : Nat} (hm : l = [] → more = 0) (ht : 0 < t) (n : Nat) (hn : 1 ≤ n) :
    at_ ((tell h l r (h.length + more + l.length * t)).take (h.length + more)) ((tell h l r (h.length + more + l.length * t)).drop (h.length + more)) (r * (t : Int)) n = at_ h l r n := by
  by_cases hl : l = []
  · subst hl
    have hm := hm rfl
    subst hm
    have e : h.length + 0 + ([] : List Int).length * t = h.length := by simp
    rw [e, Nat.add_zero]
    unfold at_
    have e1 : ((tell h [] r h.length).take h.length).length = h.length := by rw [List.length_take, tell_len]; omega
    have e2 : (tell h [] r h.length).drop h.length = [] := List.drop_of_length_le (by rw [tell_len]; exact Nat.le_refl _)
    rw [e1, e2]
    by_cases c : n ≤ h.length
    · rw [if_pos c, if_pos c, getD_take (by omega), tell_get (by omega)]
      unfold num at_
      rw [show n - 1 + 1 = n by omega, if_pos c]
      rfl
    · rw [if_neg c, if_neg c, if_pos rfl, if_pos rfl]
  · have hp := len_pos hl
    generalize hN : h.length + more + l.length * t = N
    generalize hc : h.length + more = c
    have lt0 : 0 < l.length * t := Nat.mul_pos hp ht
    have hlt : ((tell h l r N).take c).length = c := by rw [List.length_take, tell_len]; omega
    have hld : ((tell h l r N).drop c).length = l.length * t := by rw [List.length_drop, tell_len]; omega
    have hne : (tell h l r N).drop c ≠ [] := fun z => by rw [z] at hld; simp at hld; omega
    by_cases q : n ≤ c
    · have : at_ h l r n = some (num h l r n) := at_some n (.inr hl)
      rw [this]
      unfold at_
      rw [hlt, if_pos q, getD_take (by omega), tell_get (by omega), show n - 1 + 1 = n by omega]
    · rw [at_loop hne (by rw [hlt]; omega), hlt, at_loop hl (by omega)]
      congr 1
      unfold walk
      rw [hld]
      generalize hk : n - c - 1 = k
      have hi : k % (l.length * t) < l.length * t := Nat.mod_lt _ lt0
      have w : ∀ j, num h l r (c + j + 1) = walk l r (more + j) := fun j => by
        unfold num
        rw [at_loop hl (by omega), show c + j + 1 - h.length - 1 = more + j by omega]
        rfl
      rw [getD_drop, tell_get (by omega), w]
      have e : n - h.length - 1 = (more + k % (l.length * t)) + l.length * (t * (k / (l.length * t))) := by
        have := Nat.mod_add_div k (l.length * t)
        rw [← Nat.mul_assoc]
        omega
      have e2 : walk l r (n - h.length - 1) = walk l r (more + k % (l.length * t)) + r * ((t * (k / (l.length * t)) : Nat) : Int) := by rw [e, walk_add_mul hp]
      have e3 : walk l r (n - h.length - 1) = l.getD ((n - h.length - 1) % l.length) 0 + r * (((n - h.length - 1) / l.length : Nat) : Int) := rfl
      rw [← e3, e2, Int.natCast_mul, Int.mul_assoc]
end NT
set_option Elab.async false
set_option linter.all false
set_option maxRecDepth 100000
set_option maxHeartbeats 4000000
/-! The hook with getters: defs at addresses told by the written part. -/
namespace NF
open PySem PySem.Spec PyProof.Rows L2 He
def fnWa (K : PySem.W.Frag) (a : Addr) : FnW := match K.lookup a with
  | some ⟨_, _, .func fd, _⟩ => some (fd.name, fd.qualname, fd.params, fd.body, fd.scope, fd.globals, fd.closure, fd.builtins)
  | _ => none
def okA (K : PySem.W.Frag) (a : Addr) (d : DefD) : Bool := PySem.W.keepIn K (.ref a) && (match K.lookup a with
  | some ⟨_, _, .func fd, _⟩ => PySem.W.codeIn K fd.code d.qual && (dflB K fd.defaults (d.dvs K) && kwdB K fd.kwdefaults (d.kws K))
  | _ => false)
theorem funA {K : PySem.W.Frag} {a : Addr} {d : DefD} (e : fnWa K a = d.val) (c : okA K a d = true) : ∃ fd, FunD K d.name d.qual d.params d.body d.scope (d.dvs K) (d.kws K) a fd := by
  have hkp := (ba c).1
  have hrec := (ba c).2
  rcases hl : K.lookup a with _ | ⟨c0, d0, dt, sl⟩
  · simp only [hl] at hrec
    exact absurd hrec (by decide)
  · cases dt
    case func g =>
      simp only [fnWa, hl, DefD.val, Option.some.injEq, Prod.mk.injEq] at e
      rcases g with ⟨m1, m2, m3, m4, m5, m6, m7, m8, m9, m10, m11, m12, m13, m14, m15⟩
      simp only at e
      rcases e with ⟨z1, z2, z3, z4, z5, z6, z7, z8⟩
      simp only [hl] at hrec
      have hcode := (ba hrec).1
      have hdfl := dflB_ok (ba (ba hrec).2).1
      have hkwd := kwdB_ok (ba (ba hrec).2).2
      refine ⟨PySem.W.fnOf d.name d.qual d.params d.body d.scope m8 m9 m10 m11 m12 m13 m14, ⟨c0, d0, m8, m9, m10, m11, m12, m13, m14, sl, rfl, ?_, hcode, hdfl, hkwd⟩, hkp⟩
      subst z1 z2 z3 z4 z5 z6 z7 z8
      exact hl
    all_goals
      simp only [hl] at hrec
      exact absurd hrec (by decide)
abbrev Adr := (PySem.W.Frag → Addr) × DefD
def obsP (ex : PySem.W.Frag → Bool) (fn : List Adr) (K : PySem.W.Frag) : AlD := (ex K && fn.all fun d => okA K (d.1 K) d.2, fn.map fun d => fnWa K (d.1 K))
def valP (fn : List Adr) : AlD := (true, fn.map fun d => d.2.val)
def SaysP (ex : PySem.W.Frag → Bool) (fn : List Adr) (K : PySem.W.Frag) : Prop := obsP ex fn K = valP fn
def obsPG (n : Nat) (ex : PySem.W.Frag → Bool) (fn : List Adr) (g : Addr → Option Obj) : AlD := obsP ex fn (frG g (asD g n))
def hookP (n : Nat) (ex : PySem.W.Frag → Bool) (fn : List Adr) : PySem.W.Hook where
  α := AlD
  obs := fun s => obsPG n ex fn s.heap.get?
  val := fun _ => valP fn
  says := fun _ h => ∃ K : PySem.W.Frag, K.In h ∧ SaysP ex fn K
  of := fun _ _ e => ⟨_, frG_in, e⟩
  keeps := fun _ _ _ ⟨K, hK, c⟩ k => ⟨K, PySem.W.Frag.In.keeps hK k, c⟩
theorem obsPG_eq {n : Nat} {ex : PySem.W.Frag → Bool} {fn : List Adr} {g : Addr → Option Obj} {s : Shared} (h : ∀ a, g a = s.heap.get? a) : obsPG n ex fn g = (hookP n ex fn).obs s := by
  have e : g = s.heap.get? := funext h
  rw [e] <;> rfl
section
variable {ex : PySem.W.Frag → Bool} {fn : List Adr} {K : PySem.W.Frag}
theorem SaysP.truth (c : SaysP ex fn K) : ex K = true :=
  (ba (show (ex K && fn.all fun d => okA K (d.1 K) d.2) = true from congrArg (fun z : AlD => z.1) c)).1
theorem SaysP.def_ (c : SaysP ex fn K) (i : Nat) {d : Adr} (h : fn[i]? = some d := by rfl) : ∃ fd, FunD K d.2.name d.2.qual d.2.params d.2.body d.2.scope (d.2.dvs K) (d.2.kws K) (d.1 K) fd := by
  have c2 := (ba (show (ex K && fn.all fun d => okA K (d.1 K) d.2) = true from congrArg (fun z : AlD => z.1) c)).2
  have e : fn.map (fun d => fnWa K (d.1 K)) = fn.map fun d => d.2.val := congrArg (fun z : AlD => z.2) c
  have e2 : (fn.map fun d => fnWa K (d.1 K))[i]? = (fn.map fun d => d.2.val)[i]? := by rw [e]
  rw [List.getElem?_map, List.getElem?_map, h] at e2
  exact funA (Option.some.inj e2) (List.all_eq_true.mp c2 d (List.mem_of_getElem? h))
end
end NF
set_option Elab.async false
set_option linter.all false
set_option maxRecDepth 100000
set_option maxHeartbeats 0
namespace K01
open PySem PySem.Spec PyProof.Rows L2 He NF RZ
def top (i : Nat) : Stmt := PySem.Challenge.pw_needforth_k01_whole_one_form.main.body.getD i (.Pass ⟨0, 0, 0, 0⟩)
abbrev s__wall : Stmt := top 1
abbrev s_BadCount_init : Stmt := inClass (top 4) 0
abbrev s_BadTable_init : Stmt := inClass (top 5) 0
abbrev s_end_of : Stmt := top 7
abbrev s_value_at : Stmt := top 8
abbrev s_values_from : Stmt := top 9
abbrev s_many_at_most : Stmt := top 10
abbrev s_last_at_most : Stmt := top 11
abbrev s_shortest_lap : Stmt := top 12
abbrev s_plain_form : Stmt := top 13
abbrev s_settled_form : Stmt := top 14
abbrev s_spread : Stmt := top 15
abbrev s_ladder_of : Stmt := top 17
abbrev s_least_in : Stmt := top 18
abbrev s_first_under : Stmt := top 19
abbrev s_last_under : Stmt := top 20
abbrev s_Chase_init : Stmt := inClass (top 21) 0
abbrev s_Chase_ladder_from : Stmt := inClass (top 21) 1
abbrev s_Chase_runners_of : Stmt := inClass (top 21) 2
abbrev s_Chase_greatest_lead : Stmt := inClass (top 21) 3
abbrev s_Chase_first_lead : Stmt := inClass (top 21) 4
abbrev s_Chase_last_lead : Stmt := inClass (top 21) 5
abbrev s_Chase_place_of : Stmt := inClass (top 21) 6
abbrev s_drift_of : Stmt := top 22
abbrev s_longest_head : Stmt := top 23
abbrev s_values_behind : Stmt := top 25
abbrev s_behind_form : Stmt := top 26
abbrev s_chosen : Stmt := top 27
abbrev s_settling : Stmt := top 28
abbrev s_joined_form : Stmt := top 29
abbrev s_both_form : Stmt := top 30
abbrev s_either_form : Stmt := top 31
abbrev s_turn_form : Stmt := top 32
abbrev s_is_integer : Stmt := top 34
abbrev s_is_count : Stmt := top 35
abbrev s_is_row : Stmt := top 36
abbrev s_is_climb : Stmt := top 37
abbrev s_check_table : Stmt := top 39
abbrev s_Table_init : Stmt := inClass (top 40) 0
abbrev s_Table_eq : Stmt := inClass (top 40) 1
abbrev s_Table_call : Stmt := inClass (top 40) 2
abbrev s_Table_end : Stmt := inClass (top 40) 3
abbrev s_Table_rate : Stmt := inClass (top 40) 4
abbrev s_Table_steady : Stmt := inClass (top 40) 5
abbrev s_Table_shift : Stmt := inClass (top 40) 6
abbrev s_Table_mul : Stmt := inClass (top 40) 7
abbrev s_Table_and : Stmt := inClass (top 40) 8
abbrev s_Table_or : Stmt := inClass (top 40) 9
abbrev s_Table_invert : Stmt := inClass (top 40) 10
abbrev s__law_source : Stmt := top 42
abbrev s__law_pick : Stmt := top 43
abbrev s__law_is_integer : Stmt := top 44
abbrev s__law_is_count : Stmt := top 45
abbrev s__law_truth : Stmt := top 46
abbrev s__law_is_value : Stmt := top 47
abbrev s__law_rising : Stmt := top 48
abbrev s__law_raw : Stmt := top 49
abbrev s__law_end : Stmt := top 50
abbrev s__law_at : Stmt := top 51
abbrev s__law_gcd : Stmt := top 52
abbrev s__law_plain : Stmt := top 53
abbrev s__law_same : Stmt := top 54
abbrev s__law_table : Stmt := top 55
abbrev s__law_telling : Stmt := top 56
abbrev s__law_other : Stmt := top 57
abbrev s__law_rate : Stmt := top 58
abbrev s__law_values : Stmt := top 59
abbrev s_law : Stmt := top 60
def FS : List Str := ["len", "int", "abs", "range", "isinstance", "all", "bool", "tuple", "list", "zip", "divmod", "max", "min", "enumerate"]
end K01
set_option Elab.async false
set_option linter.all false
set_option maxRecDepth 100000
set_option maxHeartbeats 4000000
namespace K01
open PySem PySem.Spec PyProof.Rows L2 He NF RZ NT
/-- the shortest lap of a loop -/
def spLap (K : PySem.W.Frag) : Sp := fun vs H Q _ => ∃ (a : Addr) (l : List Int) (r : Int), vs = [.ref a, .int r] ∧ SqT K H a (vI l) ∧ l ≠ [] ∧ l.length ≤ 1000 ∧ ∀ m H', LapIs l r m → Same H H' → Q (.int (m : Int)) H'
theorem sc_shortest_lap : FnScope ["loop", "rise", "following", "steps", "many", "entry", "later"] ["loop", "rise"] (defScope s_shortest_lap) := ⟨rfl, rfl, rfl, by decide +kernel, rfl, by decide +kernel, by decide +kernel⟩
theorem following_is {l : List Int} {r : Int} (hl : l ≠ []) : cutV (vI l) (some 1) none ++ [V.int (l.getD 0 0 + r)] = vI ((List.range l.length).map fun k => walk l r (k + 1)) := by
  rw [show (1 : Int) = ((1 : Nat) : Int) from rfl, cut_from]
  have hp := len_pos hl
  refine List.ext_getElem? fun k => ?_
  simp only [vI, List.getElem?_map]
  by_cases c : k + 1 < l.length
  · rw [List.getElem?_append_left (by rw [List.length_drop, List.length_map]; omega), List.getElem?_drop, List.getElem?_map, List.getElem?_range (by omega), List.getElem?_eq_getElem (show 1 + k < l.length by omega)]
    simp only [Option.map_some]
    rw [walk_i c, List.getD_eq_getElem?_getD, List.getElem?_eq_getElem c]
    simp only [Option.getD_some, Option.some.injEq, V.int.injEq]
    congr 1
    omega
  · by_cases c2 : k + 1 = l.length
    · rw [List.getElem?_append_right (by rw [List.length_drop, List.length_map]; omega), List.length_drop, List.length_map, show k - (l.length - 1) = 0 by omega, List.getElem?_range (by omega)]
      simp only [Option.map_some, List.getElem?_cons_zero]
      rw [show k + 1 = 0 + l.length by omega, walk_add hp, walk_i hp]
    · rw [List.getElem?_eq_none (by rw [List.length_append, List.length_drop, List.length_map, List.length_singleton]; omega), List.getElem?_eq_none (by rw [List.length_range]; omega)]
      rfl
theorem steps_get {l : List Int} {r : Int} {k : Nat} (h : k < l.length) : (vI (steps l r))[k]? = some (V.int (walk l r (k + 1) - l.getD k 0)) := by
  unfold steps
  simp only [vI, List.getElem?_map]
  rw [List.getElem?_range h]
  simp only [Option.map_some, sk]
  rw [walk_i h]
section
variable {P : Program} {w : World} {K : PySem.W.Frag} {mg : Str → Option Value} {base : Heap} {gs fs : List Str}
theorem ok_shortest_lap {f : Addr} {fd : FuncData} (F : FunD K "shortest_lap" "shortest_lap" (defArgs s_shortest_lap) (defBody s_shortest_lap) (defScope s_shortest_lap) [] [] f fd) (T : Txt K mg gs fs) (hfs : fs = FS) : FnOk P w K mg base CX0 1 f fd ["loop", "rise"] (spLap K) := by
  subst hfs
  refine F.ok sc_shortest_lap (fun vs H Q E h => ?_) (fun cdv A outer s H vs Q E hr h => ?_)
  · obtain ⟨a, l, r, rfl, _⟩ := h
    rfl
  · obtain ⟨a, l, r, rfl, ha, hl, hz, q⟩ := h
    have hu : (A.deeper (envOfC "shortest_lap" (defScope s_shortest_lap) s.heap.objs.size f cdv)).units + 64 < cLine := by
      have := hr.un
      omega
    have hp := len_pos hl
    refine ⟨_, PSs.nox (pss_cons (ps_set (i := 2) sc_shortest_lap.nd rfl (Or.inl rfl) (pe_op op_catA (pe_slice sl_tupA (pv 0) (po_some pe_int) po_none) (pe_tup (pa_cons (pe_op op_add (pe_ix (ixt (K := K)) (pv 0) pe_int fun _ _ => rfl) (pv 1)) pa_nil)))) (pss_cons (ps_setLc (i := 3) (own := [("entry", 5), ("later", 6)]) rfl sc_shortest_lap.nd rfl rfl (sw_true rfl rfl rfl (by decide +kernel)) (pi_zipA rfl (T.fr _ (by decide +kernel)) (pa_cons (pv 0) (pa_cons (pv 2) pa_nil))) (blkOk_by (N := ["loop", "rise", "following", "steps", "many", "entry", "later"]) (sc := defScope s_shortest_lap) (by decide +kernel)) (fun _ _ _ _ _ => by exact (pgt (K := K) (n := 2) rfl rfl (pgs_cons (pg_name (i := 5) sc_shortest_lap.nd rfl (Or.inl rfl)) (pgs_cons (pg_name (i := 6) sc_shortest_lap.nd rfl (Or.inl rfl)) pgs_nil)))) (fun _ _ _ _ _ => by exact pts_nil) (fun _ _ _ _ _ => by exact (pe_op op_sub (pv 6) (pv 5)))) (pss_cons (ps_for PassesOwn.never rfl (pi_range2 rfl (T.fr _ (by decide +kernel)) (pa_cons pe_int (pa_cons (pe_op op_add (pe_op op_fdiv (pe_callB call_len_seq rfl (T.fr _ (by decide +kernel)) boot_len (pa_cons (pv 3) pa_nil)) pe_int) pe_int) pa_nil))) (pg_name (i := 4) sc_shortest_lap.nd rfl (Or.inl rfl)) (pss_one (ps_if (PW.pt (pw_and (pt_cmpR op_eq (pe_op op_mod (pe_callB call_len_seq rfl (T.fr _ (by decide +kernel)) boot_len (pa_cons (pv 3) pa_nil)) (pv 4)) pe_int (nomark _)) (pw_and1 (pt_cmpR (op_eqD hu) (pe_slice sl_list (pv 3) (po_some (pv 4)) po_none) (pe_slice sl_list (pv 3) po_none (po_some (pe_un un_neg (pv 4)))) (nomark _))))) (pss_one (ps_ret (pv 4))) pss_nil))) (pss_one (ps_ret (pe_callB call_len_seq rfl (T.fr _ (by decide +kernel)) boot_len (pa_cons (pv 3) pa_nil))))))), ?_⟩
    refine ⟨_, rfl, _, rfl, ?_⟩
    refine slA_from (K := K) ha fun p1 H1 s1 t1 => ?_
    refine ⟨_, rfl, a, _, 0, _, rfl, rfl, NF.Same.tup s1 ha, at_int (k := 0) rfl hp, _, rfl, _, _, rfl, rfl, (by show 1 ≤ sizeLine; decide), fun p2 hp2 => ?_⟩
    refine catA_done (NF.Same.tup (NF.Same.new (Same.refl _) hp2) t1) (SqT.of upd_same) ?_ fun p3 H3 s3 t3 => ?_
    · have : (cutV (vI l) (some 1) none).length = l.length - 1 := by
        rw [show (1 : Int) = ((1 : Nat) : Int) from rfl, cut_from, List.length_drop, List.length_map]
      rw [this]
      exact Nat.le_trans (show l.length - 1 + 1 ≤ 1001 by omega) (by decide)
    rw [following_is hl] at t3
    have s03 : Same H H3 := Same.trans s1 (Same.trans (NF.Same.new (Same.refl _) hp2) s3)
    refine ⟨_, rfl, _, rfl, a, p3, _, _, rfl, Or.inr ⟨NF.Same.tup s03 ha, t3, fun D hD => ?_⟩⟩
    have hsl : (vI (steps l r)).length = l.length := by unfold steps; simp
    refine lc_zipT (by simp) (fun i G => Same H3 G ∧ G D = some (.lst ((vI (steps l r)).take i))) ⟨NF.Same.new (Same.refl _) hD, upd_same⟩ (fun i G z => ⟨NF.Same.tup (Same.trans s03 z.1) ha, NF.Same.tup z.1 t3⟩) ?_ ?_
    · rintro i x y U G hx hy ⟨hG, hD2⟩ hU
      have hi : i < l.length := by
        have := (List.getElem?_eq_some_iff.mp hx).1
        rw [List.length_map] at this
        exact this
      obtain rfl : x = V.int (l.getD i 0) := by
        rw [List.getElem?_map, List.getElem?_eq_getElem hi] at hx
        rw [List.getD_eq_getElem?_getD, List.getElem?_eq_getElem hi]
        exact (Option.some.inj hx).symm
      obtain rfl : y = V.int (walk l r (i + 1)) := by
        rw [List.getElem?_map, List.getElem?_map, List.getElem?_range hi] at hy
        exact (Option.some.inj hy).symm
      refine ⟨U, _, rfl, SqT.of upd_same, rfl, _, _, rfl, _, _, rfl, rfl, rfl, ?_⟩
      refine ⟨_, rfl, _, rfl, _, _, rfl, rfl, (vI (steps l r)).take i, ?_, ?_, ?_, ?_⟩
      · rw [upd_ne (ne_of_none hD2 hU)]
        exact hD2
      · rw [List.length_take, hsl]
        exact Nat.lt_of_le_of_lt (show min i l.length ≤ 1000 by omega) (by decide)
      · exact NF.Same.mut (NF.Same.new hG hU) hD
      · rw [upd_same, List.take_add_one, steps_get hi]
        rfl
    · rintro G ⟨hG, hD2⟩
      rw [List.length_map, List.take_of_length_le (by rw [hsl]; exact Nat.le_refl _)] at hD2
      have hlen : (vI (steps l r)).length = l.length := hsl
      refine ⟨_, rfl, D, _, rfl, Or.inl (SqL.of hD2), _, _, rfl, rfl, ⟨by decide, by decide⟩, _, _, rfl, rfl, 1, _, rfl, ⟨by decide, by decide, ?_, ?_⟩, ?_⟩
      · rw [hlen]; omega
      · rw [hlen]; omega
      have en : (((vI (steps l r)).length : Int) / 2 + 1 - 1).toNat = l.length / 2 := by rw [hlen]; omega
      have s0G : Same H G := Same.trans s03 hG
      show (fun J H1 => _) (Itr 1 (((vI (steps l r)).length : Int) / 2 + 1 - 1).toNat) G
      rw [en]
      refine for_range (lo := 1) (n := l.length / 2) (fun i σ G' => Same G G' ∧ (∀ m', 0 < m' → m' ≤ i → m' ∣ l.length → ¬ Per (walk l r) m') ∧ ∃ v : Option V, σ = [some (.ref a), some (.int r), some (.ref p3), some (.ref D), v, none, none])
        ⟨Same.refl _, fun m' h1 h2 => by omega, none, rfl⟩ ?_ ?_
      · rintro i σ G' hi ⟨hs, hno, v, rfl⟩
        have e1 : (1 : Int) + (i : Int) = ((i + 1 : Nat) : Int) := by omega
        rw [e1]
        have hD3 := hs _ _ hD2
        refine ⟨_, rfl, D, _, rfl, Or.inl (SqL.of hD3), _, rfl, _, _, rfl, rfl, (by show (0 : Int) < ((i + 1 : Nat) : Int); omega), rfl, _, rfl, ?_⟩
        have hnext : ¬ ((i + 1 ∣ l.length) ∧ Per (walk l r) (i + 1)) → (∀ m', 0 < m' → m' ≤ i + 1 → m' ∣ l.length → ¬ Per (walk l r) m') := fun hn m' h1 h2 h3 h4 => by
          by_cases c : m' ≤ i
          · exact hno m' h1 c h3 h4
          · have : m' = i + 1 := by omega
            subst this
            exact hn ⟨h3, h4⟩
        refine ite2 (fun hc => ?_) (fun hc => ?_)
        · have hd : i + 1 ∣ l.length := by
            have hc := of_decide_eq_true hc
            injection hc with hc
            rw [hlen] at hc
            have := Int.dvd_of_emod_eq_zero hc
            exact Int.natCast_dvd_natCast.mp this
          refine ⟨_, rfl, _, rfl, _, rfl, D, _, rfl, SqL.of hD3, fun q1 hq1 => ?_⟩
          have hD4 : upd G' q1 (.lst (cutV (vI (steps l r)) (some ((i + 1 : Nat) : Int)) none)) D = some (.lst (vI (steps l r))) := by
            rw [upd_ne (ne_of_none hD3 hq1)]
            exact hD3
          refine ⟨_, rfl, _, rfl, _, rfl, _, rfl, D, _, rfl, SqL.of hD4, fun q2 hq2 => ?_⟩
          have hq3 : upd (upd G' q1 (.lst (cutV (vI (steps l r)) (some ((i + 1 : Nat) : Int)) none))) q2 (.lst (cutV (vI (steps l r)) none (some (-((i + 1 : Nat) : Int))))) q1 = some (.lst (vI ((steps l r).drop (i + 1)))) := by
            rw [upd_ne (ne_of_none upd_same hq2), upd_same, cut_from, vI_drop]
          have hq4 : upd (upd G' q1 (.lst (cutV (vI (steps l r)) (some ((i + 1 : Nat) : Int)) none))) q2 (.lst (cutV (vI (steps l r)) none (some (-((i + 1 : Nat) : Int))))) q2 = some (.lst (vI ((steps l r).take (l.length - (i + 1))))) := by
            rw [upd_same, cut_toN (by omega), hlen, vI_take]
          have hsD : Same G (upd (upd G' q1 (.lst (cutV (vI (steps l r)) (some ((i + 1 : Nat) : Int)) none))) q2 (.lst (cutV (vI (steps l r)) none (some (-((i + 1 : Nat) : Int)))))) := NF.Same.new (NF.Same.new hs hq1) hq2
          refine eqL_done (SqL.of hq3) (SqL.of hq4) ⟨_, rfl, ?_⟩
          refine ite2 (fun hc2 => ?_) (fun hc2 => ?_)
          · have hper := (cond_iff hl (Nat.succ_pos i) hd).mp (of_decide_eq_true hc2)
            exact ⟨_, rfl, q (i + 1) _ (lap_prog hl (Nat.succ_pos i) (by omega) hd hper fun m' h1 h2 h3 h4 => hno m' h1 (by omega) h3 h4) (Same.trans s0G hsD)⟩
          · refine ⟨hsD, hnext fun ⟨_, h⟩ => hc2 (decide_eq_true ((cond_iff hl (Nat.succ_pos i) hd).mpr h)), _, rfl⟩
        · refine ⟨hs, hnext fun ⟨h, _⟩ => hc (decide_eq_true ?_), _, rfl⟩
          rw [hlen]
          exact congrArg V.int (Int.emod_eq_zero_of_dvd (Int.natCast_dvd_natCast.mpr h))
      · rintro σ G' ⟨hs, hno, v, rfl⟩
        refine ⟨_, rfl, D, _, rfl, Or.inl (SqL.of (hs _ _ hD2)), ?_⟩
        rw [hlen]
        exact q l.length _ (lap_whole hl hno) (Same.trans s0G hs)
end
end K01
set_option Elab.async false
set_option linter.all false
set_option maxRecDepth 100000
set_option maxHeartbeats 4000000
namespace K01
open PySem PySem.Spec PyProof.Rows L2 He NF RZ NT
/-- a tuple of two tuples of ints and an int stands at p -/
def FormAt (K : PySem.W.Frag) (H : Hp) (p : Addr) (x : List Int × List Int × Int) : Prop := ∃ a b, SqT K H p [.ref a, .ref b, .int x.2.2] ∧ SqT K H a (vI x.1) ∧ SqT K H b (vI x.2.1)
theorem FormAt.mono {K : PySem.W.Frag} {H H' : Hp} {p : Addr} {x : List Int × List Int × Int} (h : FormAt K H p x) (s : Same H H') : FormAt K H' p x := by
  obtain ⟨a, b, h1, h2, h3⟩ := h
  exact ⟨a, b, NF.Same.tup s h1, NF.Same.tup s h2, NF.Same.tup s h3⟩
def spForm (K : PySem.W.Frag) : Sp := fun vs H Q _ => ∃ (a b : Addr) (h l : List Int) (r : Int), vs = [.ref a, .ref b, .int r] ∧ SqT K H a (vI h) ∧ SqT K H b (vI l) ∧ h.length + l.length ≤ 1000 ∧ ∀ x p H', IsPlain h l r x → Same H H' → FormAt K H' p x → Q (.ref p) H'
theorem sc_plain_form : FnScope ["head", "loop", "rise", "many", "lap_rise", "entries", "left"] ["head", "loop", "rise"] (defScope s_plain_form) := ⟨rfl, rfl, rfl, by decide +kernel, rfl, by decide +kernel, by decide +kernel⟩
section
variable {P : Program} {w : World} {K : PySem.W.Frag} {mg : Str → Option Value} {base : Heap} {gs fs : List Str}
theorem ok_plain_form {f : Addr} {fd : FuncData} (F : FunD K "plain_form" "plain_form" (defArgs s_plain_form) (defBody s_plain_form) (defScope s_plain_form) [] [] f fd) (T : Txt K mg gs fs) (hfs : fs = FS) (c_shortest_lap : Cal P w K mg base 1 "shortest_lap" (spLap K)) : FnOk P w K mg base CX0 2 f fd ["head", "loop", "rise"] (spForm K) := by
  subst hfs
  refine F.ok sc_plain_form (fun vs H Q E h => ?_) (fun cdv A outer s H vs Q E hr h => ?_)
  · obtain ⟨a, b, h, l, r, rfl, _⟩ := h
    rfl
  · obtain ⟨a, b, h, l, r, rfl, ha, hb, hz, q⟩ := h
    refine ⟨_, PSs.nox (pss_cons (ps_if (pt_not (pt_truth (pv 1) (fun _ => rfl))) (pss_one (ps_ret (pe_tup (pa_cons (pv 0) (pa_cons (pe_tup pa_nil) (pa_cons pe_int pa_nil)))))) pss_nil) (pss_cons (ps_set (i := 3) sc_plain_form.nd rfl (Or.inl rfl) (pe_c c_shortest_lap hr (by decide) rfl (pa_cons (pv 1) (pa_cons (pv 2) pa_nil)))) (pss_cons (ps_set (i := 4) sc_plain_form.nd rfl (Or.inl rfl) (pe_op op_fdiv (pe_op op_mul (pv 2) (pv 3)) (pe_callB call_len_seq rfl (T.fr _ (by decide +kernel)) boot_len (pa_cons (pv 1) pa_nil)))) (pss_cons (ps_set (i := 5) sc_plain_form.nd rfl (Or.inl rfl) (pe_op op_catA (pv 0) (pe_slice sl_tupA (pv 1) po_none (po_some (pv 3))))) (pss_cons (ps_set (i := 6) sc_plain_form.nd rfl (Or.inl rfl) (pe_callB call_len_seq rfl (T.fr _ (by decide +kernel)) boot_len (pa_cons (pv 0) pa_nil))) (pss_cons (ps_while PassesOwn.never (PW.pt (pw_and (pt_cmpR op_gt (pv 6) pe_int (nomark _)) (pw_and1 (pt_cmpR op_eq (pe_op op_add (pe_ix (ixt (K := K)) (pv 5) (pe_op op_sub (pv 6) pe_int) fun _ _ => rfl) (pv 4)) (pe_ix (ixt (K := K)) (pv 5) (pe_op op_add (pe_op op_sub (pv 6) pe_int) (pv 3)) fun _ _ => rfl) (nomark _))))) (pss_one (ps_set (i := 6) sc_plain_form.nd rfl (Or.inl rfl) (pe_op op_sub (pv 6) pe_int)))) (pss_one (ps_ret (pe_tup (pa_cons (pe_slice sl_tupA (pv 5) po_none (po_some (pv 6))) (pa_cons (pe_slice sl_tupA (pv 5) (po_some (pv 6)) (po_some (pe_op op_add (pv 6) (pv 3)))) (pa_cons (pv 4) pa_nil)))))))))))), ?_⟩
    refine ⟨_, rfl, _, tru_tup hb, ?_⟩
    by_cases hl : l = []
    · subst hl
      refine iteT ?_
      refine ⟨_, rfl, (by show 0 ≤ sizeLine; decide), fun p1 hp1 => ⟨(by show 3 ≤ sizeLine; decide), fun p2 hp2 => ?_⟩⟩
      have s1 := NF.Same.new (o := .tup []) (Same.refl H) hp1
      have s2 := NF.Same.new (o := .tup [V.ref a, V.ref p1, V.int 0]) s1 hp2
      exact q (h, [], 0) p2 _ (.inl ⟨rfl, rfl⟩) s2 ⟨a, p1, SqT.of upd_same, NF.Same.tup s2 ha, SqT.of (by rw [upd_ne (ne_of_none upd_same hp2)]; exact upd_same)⟩
    · have hne : (!l.isEmpty) = true := by cases l with
        | nil => exact absurd rfl hl
        | cons _ _ => rfl
      rw [hne]
      refine iteF ?_
      have hp := len_pos hl
      refine ⟨_, rfl, _, rfl, b, l, r, rfl, hb, hl, by omega, fun m H1 hm s1 => ?_⟩
      have hle : m ≤ l.length := Nat.le_of_dvd hp hm.dvd
      obtain ⟨t, ht⟩ := hm.dvd
      have hc := per_at hl hm.pos hm.per ht.symm
      have hb1 := NF.Same.tup s1 hb
      have t0 : 0 < t := Nat.pos_of_ne_zero fun z => by rw [z, Nat.mul_zero] at ht; omega
      have hcr : r * (m : Int) / ((vI l).length : Int) = r / (t : Int) := by
        rw [vI_len]
        have hr := per_rise hl hc ht.symm
        have e : r * (m : Int) = r / (t : Int) * (l.length : Int) := by
          rw [ht, Int.natCast_mul]
          calc r * (m : Int) = (r / (t : Int) * (t : Int)) * (m : Int) := by rw [← hr]
            _ = r / (t : Int) * ((m : Int) * (t : Int)) := by rw [Int.mul_assoc, Int.mul_comm (t : Int)]
        rw [e]
        exact Int.mul_ediv_cancel _ (by omega)
      refine ⟨_, rfl, _, rfl, _, _, rfl, rfl, Or.inr ⟨by omega, by omega⟩, ?_⟩
      refine ⟨_, rfl, b, _, rfl, Or.inr hb1, _, _, rfl, rfl, ⟨by rw [vI_len]; omega, by rw [vI_len]; omega⟩, ?_⟩
      show gName 4 (V.int (r * (m : Int) / ((vI l).length : Int))) _ _ _
      rw [hcr]
      generalize hcc : r / (t : Int) = cc at hc
      refine ⟨_, rfl, _, rfl, _, rfl, _, rfl, ?_⟩
      refine slA_done (K := K) hb1 fun p2 H2 s2 t2 => ?_
      rw [cut_to, vI_take] at t2
      refine catA_done (K := K) (NF.Same.tup (Same.trans s1 s2) ha) t2 (Nat.le_trans (show (vI h).length + (vI (l.take m)).length ≤ 1000 by rw [vI_len, vI_len, List.length_take]; omega) (by decide)) fun p3 H3 s3 t3 => ?_
      rw [vI_app] at t3
      have s03 : Same H H3 := Same.trans s1 (Same.trans s2 s3)
      refine ⟨_, rfl, a, _, rfl, Or.inr (NF.Same.tup s03 ha), ?_⟩
      rw [vI_len]
      have hel : (h ++ l.take m).length = h.length + m := by rw [List.length_append, List.length_take, Nat.min_eq_left hle]
      refine ⟨fun k σ G => G = H3 ∧ k ≤ h.length ∧ cut (h ++ l.take m) m cc h.length = cut (h ++ l.take m) m cc k ∧ σ = [some (.ref a), some (.ref b), some (.int r), some (.int (m : Int)), some (.int cc), some (.ref p3), some (.int (k : Int))], ⟨h.length, rfl, Nat.le_refl _, rfl, rfl⟩, ?_⟩
      rintro k σ G ⟨rfl, hk, hcut, rfl⟩
      -- what is handed back
      have hdone : cut (h ++ l.take m) m cc k = k → (tRet (tTup (tCons (tSl (rSlA K) (tVar 5) tNoPart (tPart (tVar 6))) (tCons (tSl (rSlA K) (tVar 5) (tPart (tVar 6)) (tPart (tOp (rI0 fun i j => .int (i + j)) (tVar 6) (tVar 3)))) (tCons (tVar 4) tNil))))) { nx := fun _ H' => Q .non H', rt := Q }
          [some (.ref a), some (.ref b), some (.int r), some (.int (m : Int)), some (.int cc), some (.ref p3), some (.int (k : Int))] G := fun hk2 => by
        refine ⟨_, rfl, _, rfl, _, rfl, ?_⟩
        refine slA_done (K := K) t3 fun p4 H4 s4 t4 => ?_
        refine ⟨_, rfl, _, rfl, _, rfl, _, rfl, _, rfl, _, _, rfl, rfl, _, rfl, ?_⟩
        refine slA_done (K := K) (NF.Same.tup s4 t3) fun p5 H5 s5 t5 => ?_
        refine ⟨_, rfl, (by show 3 ≤ sizeLine; decide), fun p6 hp6 => ?_⟩
        have s6 := NF.Same.new (o := .tup [V.ref p4, V.ref p5, V.int cc]) (Same.refl H5) hp6
        have hx := plain_is (h := h) hl hm hc
        rw [hcut, hk2] at hx
        rw [cut_to, vI_take] at t4
        rw [show (k : Int) + (m : Int) = ((k + m : Nat) : Int) by omega, cut_mid (by omega) (by rw [vI_len, hel]; omega), vI_drop, vI_take, show k + m - k = m by omega] at t5
        exact q _ p6 _ hx (Same.trans s03 (Same.trans s4 (Same.trans s5 s6))) ⟨p4, p5, SqT.of upd_same, NF.Same.tup (Same.trans s5 s6) t4, NF.Same.tup s6 t5⟩
      refine ⟨_, rfl, _, _, rfl, rfl, _, rfl, ?_⟩
      refine ite2 (fun h1 => ?_) (fun h1 => ?_)
      · have k0 : 0 < k := by
          have := of_decide_eq_true h1
          omega
        obtain ⟨j, rfl⟩ : ∃ j, k = j + 1 := ⟨k - 1, by omega⟩
        have e1 : ((j + 1 : Nat) : Int) - 1 = (j : Int) := by omega
        refine ⟨_, rfl, _, rfl, _, _, rfl, rfl, p3, _, _, _, rfl, rfl, t3, at_int (k := j) e1 (by rw [hel]; omega), _, rfl, _, _, rfl, rfl, ?_⟩
        refine ⟨_, rfl, _, rfl, _, _, rfl, rfl, _, rfl, _, _, rfl, rfl, p3, _, _, _, rfl, rfl, t3, at_int (k := j + m) (by omega) (by rw [hel]; omega), rfl, _, rfl, ?_⟩
        refine ite2 (fun h2 => ?_) (fun h2 => ?_)
        · have h2' : (h ++ l.take m).getD j 0 + cc = (h ++ l.take m).getD (j + m) 0 := by
            have := of_decide_eq_true h2
            injection this
          refine ⟨fun σ' G' => G' = G ∧ σ' = [some (.ref a), some (.ref b), some (.int r), some (.int (m : Int)), some (.int cc), some (.ref p3), some (.int (j : Int))], fun σ' G' ⟨z1, z2⟩ => ⟨j, Nat.lt_succ_self j, z1, by omega, ?_, z2⟩, ?_⟩
          · rw [hcut]
            show (if (h ++ l.take m).getD j 0 + cc = (h ++ l.take m).getD (j + m) 0 then _ else _) = _
            rw [if_pos h2']
          · refine ⟨_, rfl, _, _, rfl, rfl, rfl, ?_⟩
            show _ = _
            rw [← e1]
            rfl
        · refine hdone ?_
          show (if (h ++ l.take m).getD j 0 + cc = (h ++ l.take m).getD (j + m) 0 then _ else _) = _
          rw [if_neg fun z => h2 (decide_eq_true (congrArg V.int z))]
      · have k0 : k = 0 := by
          have : ¬ (0 : Int) < (k : Int) := fun z => h1 (decide_eq_true z)
          omega
        subst k0
        exact hdone rfl
end
end K01
set_option Elab.async false
set_option linter.all false
set_option maxRecDepth 100000
set_option maxHeartbeats 4000000
namespace K01
open PySem PySem.Spec PyProof.Rows L2 He NF RZ NT
def spIsInt : Sp := fun vs H Q _ => ∃ i : Int, vs = [.int i] ∧ Q (.bl true) H
def spIsCount : Sp := fun vs H Q _ => ∃ i : Int, vs = [.int i] ∧ Q (.bl (decide (0 ≤ i))) H
def spIsRow (K : PySem.W.Frag) : Sp := fun vs H Q _ => ∃ (a : Addr) (xs : List V), vs = [.ref a] ∧ Row K H a xs ∧ ∀ H', Same H H' → Q (.bl true) H'
def spIsClimb (K : PySem.W.Frag) : Sp := fun vs H Q _ => ∃ (a : Addr) (l : List Int), vs = [.ref a] ∧ Row K H a (vI l) ∧ climbs 0 l ∧ ∀ H', Same H H' → Q (.bl true) H'
def spCheck (K : PySem.W.Frag) : Sp := fun vs H Q _ => ∃ (a b : Addr) (h l : List Int) (r : Int), vs = [.ref a, .ref b, .int r] ∧ Row K H a (vI h) ∧ Row K H b (vI l) ∧ Good h l r ∧ ∀ H', Same H H' → Q .non H'
theorem sc_is_integer : FnScope ["thing"] ["thing"] (defScope s_is_integer) := ⟨rfl, rfl, rfl, by decide +kernel, rfl, by decide +kernel, by decide +kernel⟩
theorem sc_is_count : FnScope ["thing"] ["thing"] (defScope s_is_count) := ⟨rfl, rfl, rfl, by decide +kernel, rfl, by decide +kernel, by decide +kernel⟩
theorem sc_is_row : FnScope ["thing"] ["thing"] (defScope s_is_row) := ⟨rfl, rfl, rfl, by decide +kernel, rfl, by decide +kernel, by decide +kernel⟩
theorem sc_is_climb : FnScope ["thing", "last", "entry"] ["thing"] (defScope s_is_climb) := ⟨rfl, rfl, rfl, by decide +kernel, rfl, by decide +kernel, by decide +kernel⟩
theorem sc_check_table : FnScope ["head", "loop", "rise"] ["head", "loop", "rise"] (defScope s_check_table) := ⟨rfl, rfl, rfl, by decide +kernel, rfl, by decide +kernel, by decide +kernel⟩
theorem climbs_get : ∀ {l : List Int} {lo : Int} {i : Nat}, climbs lo l → i < l.length → (if i = 0 then lo else l.getD (i - 1) 0) ≤ l.getD i 0
  | [], _, _, _, h => by simp at h
  | x :: l, lo, 0, c, _ => c.1
  | x :: l, lo, i + 1, c, h => by
    have ih := climbs_get (i := i) c.2 (by simpa using h)
    rw [if_neg (Nat.succ_ne_zero i)]
    by_cases z : i = 0
    · subst z
      simpa using ih
    · rw [if_neg z] at ih
      obtain ⟨j, rfl⟩ : ∃ j, i = j + 1 := ⟨i - 1, by omega⟩
      simpa using ih
section
variable {P : Program} {w : World} {K : PySem.W.Frag} {mg : Str → Option Value} {base : Heap} {gs fs : List Str}
theorem ok_is_integer {f : Addr} {fd : FuncData} (F : FunD K "is_integer" "is_integer" (defArgs s_is_integer) (defBody s_is_integer) (defScope s_is_integer) [] [] f fd) (T : Txt K mg gs FS) : FnOk P w K mg base CX0 1 f fd ["thing"] spIsInt := by
  refine F.ok sc_is_integer (fun vs H Q E h => ?_) (fun cdv A outer s H vs Q E hr h => ?_)
  · obtain ⟨i, rfl, _⟩ := h
    rfl
  · obtain ⟨i, rfl, q⟩ := h
    refine ⟨_, PSs.nox (pss_one (ps_ret (pe_and (pe_callB call_isi rfl (T.fr _ (by decide +kernel)) (by decide +kernel) (pa_cons (pv 0) (pa_cons (pe_bltn (v := .ty "int") rfl (T.fr _ (by decide +kernel)) (by decide +kernel) rfl) pa_nil))) (pe_one (pe_not (pe_callB call_isi rfl (T.fr _ (by decide +kernel)) (by decide +kernel) (pa_cons (pv 0) (pa_cons (pe_bltn (v := .ty "bool") rfl (T.fr _ (by decide +kernel)) (by decide +kernel) rfl) pa_nil)))))))), ?_⟩
    exact ⟨_, rfl, _, _, _, _, true, rfl, .ty "int", .base (.int i), kit_i_i K, true, rfl, _, rfl, _, _, _, _, false, rfl, .ty "bool", .base (.int i), kit_i_b K, false, rfl, q⟩
theorem ok_is_count {f : Addr} {fd : FuncData} (F : FunD K "is_count" "is_count" (defArgs s_is_count) (defBody s_is_count) (defScope s_is_count) [] [] f fd) (T : Txt K mg gs FS) (c_is_integer : Cal P w K mg base 1 "is_integer" spIsInt) : FnOk P w K mg base CX0 2 f fd ["thing"] spIsCount := by
  refine F.ok sc_is_count (fun vs H Q E h => ?_) (fun cdv A outer s H vs Q E hr h => ?_)
  · obtain ⟨i, rfl, _⟩ := h
    rfl
  · obtain ⟨i, rfl, q⟩ := h
    refine ⟨_, PSs.nox (pss_one (ps_ret (pe_and (pe_c c_is_integer hr (by decide) rfl (pa_cons (pv 0) pa_nil)) (pe_one (pe_cmpR op_ge (pv 0) pe_int (nomark _)))))), ?_⟩
    exact ⟨_, rfl, i, rfl, true, rfl, _, rfl, _, _, rfl, rfl, q⟩
theorem ok_is_row {f : Addr} {fd : FuncData} (F : FunD K "is_row" "is_row" (defArgs s_is_row) (defBody s_is_row) (defScope s_is_row) [] [] f fd) (T : Txt K mg gs FS) : FnOk P w K mg base CX0 1 f fd ["thing"] (spIsRow K) := by
  refine F.ok sc_is_row (fun vs H Q E h => ?_) (fun cdv A outer s H vs Q E hr h => ?_)
  · obtain ⟨a, xs, rfl, _⟩ := h
    rfl
  · obtain ⟨a, xs, rfl, ha, q⟩ := h
    refine ⟨_, PSs.nox (pss_one (ps_ret (pe_callB call_isiT rfl (T.fr _ (by decide +kernel)) (by decide +kernel) (pa_cons (pv 0) (pa_cons (pe_tup (pa_cons (pe_bltn (v := .ty "tuple") rfl (T.fr _ (by decide +kernel)) (by decide +kernel) rfl) (pa_cons (pe_bltn (v := .ty "list") rfl (T.fr _ (by decide +kernel)) (by decide +kernel) rfl) pa_nil))) pa_nil))))), ?_⟩
    refine ⟨_, rfl, (by show 2 ≤ sizeLine; decide), fun p hp => ?_⟩
    have s1 := NF.Same.new (o := .tup [V.ty "tuple", V.ty "list"]) (Same.refl H) hp
    rcases ha.mono s1 with h | h
    · exact ⟨_, p, _, _, _, true, rfl, upd_same, .cons (.ty _) (.cons (.ty _) .nil), tyx_lst h, kit_l_tl K, q _ s1⟩
    · exact ⟨_, p, _, _, _, true, rfl, upd_same, .cons (.ty _) (.cons (.ty _) .nil), tyx_tup h, kit_t_tl K, q _ s1⟩
theorem ok_is_climb {f : Addr} {fd : FuncData} (F : FunD K "is_climb" "is_climb" (defArgs s_is_climb) (defBody s_is_climb) (defScope s_is_climb) [] [] f fd) (T : Txt K mg gs FS) (c_is_row : Cal P w K mg base 1 "is_row" (spIsRow K)) (c_is_integer : Cal P w K mg base 1 "is_integer" spIsInt) : FnOk P w K mg base CX0 2 f fd ["thing"] (spIsClimb K) := by
  refine F.ok sc_is_climb (fun vs H Q E h => ?_) (fun cdv A outer s H vs Q E hr h => ?_)
  · obtain ⟨a, l, rfl, _⟩ := h
    rfl
  · obtain ⟨a, l, rfl, ha, hc, q⟩ := h
    refine ⟨_, PSs.nox (pss_cons (ps_if (pt_not (pt_val (pe_c c_is_row hr (by decide) rfl (pa_cons (pv 0) pa_nil)))) (pss_one (ps_ret pe_bl)) pss_nil) (pss_cons (ps_set (i := 1) sc_is_climb.nd rfl (Or.inl rfl) pe_int) (pss_cons (ps_for PassesOwn.never rfl (pi_row (pv 0)) (pg_name (i := 2) sc_is_climb.nd rfl (Or.inl rfl)) (pss_cons (ps_if (PW.pt (pw_or (pt_not (pt_val (pe_c c_is_integer hr (by decide) rfl (pa_cons (pv 2) pa_nil)))) (pw_or1 (pt_cmpR op_lt (pv 2) (pv 1) (nomark _))))) (pss_one (ps_ret pe_bl)) pss_nil) (pss_one (ps_set (i := 1) sc_is_climb.nd rfl (Or.inl rfl) (pv 2))))) (pss_one (ps_ret pe_bl))))), ?_⟩
    refine ⟨_, rfl, a, _, rfl, ha, fun H1 s1 => ⟨true, rfl, iteF ?_⟩⟩
    refine ⟨_, rfl, a, rfl, ?_⟩
    refine for_row (ha.mono s1) (fun i σ G => Same H1 G ∧ ∃ v : Option V, σ = [some (.ref a), some (.int (if i = 0 then 0 else l.getD (i - 1) 0)), v]) ⟨Same.refl _, none, rfl⟩ (fun i σ G z => z.1) ?_ ?_
    · rintro i x σ G hx ⟨s2, v, rfl⟩
      have hi : i < l.length := by
        have := (List.getElem?_eq_some_iff.mp hx).1
        rw [List.length_map] at this
        exact this
      obtain rfl : x = V.int (l.getD i 0) := by
        rw [List.getElem?_map, List.getElem?_eq_getElem hi] at hx
        rw [List.getD_eq_getElem?_getD, List.getElem?_eq_getElem hi]
        exact (Option.some.inj hx).symm
      have hle := climbs_get hc hi
      refine ⟨_, rfl, _, rfl, true, rfl, iteF ⟨_, rfl, _, rfl, _, _, rfl, rfl, false, congrArg V.bl (decide_eq_false (by omega)), iteF ?_⟩⟩
      refine ⟨_, rfl, s2, some (V.int (l.getD i 0)), ?_⟩
      rw [if_neg (Nat.succ_ne_zero i)]
      rfl
    · rintro σ G ⟨s2, v, rfl⟩
      exact q _ (Same.trans s1 s2)
theorem ok_check_table {f : Addr} {fd : FuncData} (F : FunD K "check_table" "check_table" (defArgs s_check_table) (defBody s_check_table) (defScope s_check_table) [] [] f fd) (T : Txt K mg gs FS) (c_is_climb : Cal P w K mg base 2 "is_climb" (spIsClimb K)) (c_is_count : Cal P w K mg base 2 "is_count" spIsCount) : FnOk P w K mg base CX0 3 f fd ["head", "loop", "rise"] (spCheck K) := by
  refine F.ok sc_check_table (fun vs H Q E h => ?_) (fun cdv A outer s H vs Q E hr h => ?_)
  · obtain ⟨a, b, h, l, r, rfl, _⟩ := h
    rfl
  · obtain ⟨a, b, h, l, r, rfl, ha, hb, hg, q⟩ := h
    refine ⟨_, PSs.nox (pss_cons (ps_if (pt_not (pt_val (pe_c c_is_climb hr (by decide) rfl (pa_cons (pv 0) pa_nil)))) (pss_one ps_never) pss_nil) (pss_cons (ps_if (PW.pt (pw_or (pt_not (pt_val (pe_c c_is_climb hr (by decide) rfl (pa_cons (pv 1) pa_nil)))) (pw_or1 (PW.pt (pw_and (pt_truth (pv 1) (fun _ => rfl)) (pw_and (pt_truth (pv 0) (fun _ => rfl)) (pw_and1 (pt_cmpR op_lt (pe_ix (ixs (K := K)) (pv 1) pe_int fun _ _ => rfl) (pe_ix (ixs (K := K)) (pv 0) (pe_un un_neg pe_int) fun _ _ => rfl) (nomark _))))))))) (pss_one ps_never) pss_nil) (pss_one (ps_if (PW.pt (pw_or (pt_not (pt_val (pe_c c_is_count hr (by decide) rfl (pa_cons (pv 2) pa_nil)))) (pw_or (PW.pt (pw_and (pt_not (pt_truth (pv 1) (fun _ => rfl))) (pw_and1 (pt_cmpR op_ne (pv 2) pe_int (nomark _))))) (pw_or1 (PW.pt (pw_and (pt_truth (pv 1) (fun _ => rfl)) (pw_and1 (pt_cmpR op_gt (pe_ix (ixs (K := K)) (pv 1) (pe_un un_neg pe_int) fun _ _ => rfl) (pe_op op_add (pe_ix (ixs (K := K)) (pv 1) pe_int fun _ _ => rfl) (pv 2)) (nomark _))))))))) (pss_one ps_never) pss_nil)))), ?_⟩
    refine ⟨_, rfl, a, h, rfl, ha, hg.hd, fun H1 s1 => ⟨true, rfl, iteF ?_⟩⟩
    refine ⟨_, rfl, b, l, rfl, hb.mono s1, hg.lp, fun H2 s2 => ⟨true, rfl, iteF ?_⟩⟩
    have s02 := Same.trans s1 s2
    have ha2 := ha.mono s02
    have hb2 := hb.mono s02
    -- the rise
    have hrise : (tIfS (tOr (tNot (tB (tCall spIsCount [] E0 (tCons (tVar 2) tNil)))) (tOr (tAnd (tNot (fun σ H Q => tVar 1 σ H fun x H' => ∃ k, TruV K x H' k ∧ Q k H')) (tTest (tOp rNe (tVar 2) (tC (.int 0)))))
        (tAnd (fun σ H Q => tVar 1 σ H fun x H' => ∃ k, TruV K x H' k ∧ Q k H') (tTest (tOp (rI0 fun i j => .bl (decide (j < i))) (tOp (rIx K) (tVar 1) (tUn (rU fun i => .int (-i)) (tC (.int 1)))) (tOp (rI0 fun i j => .int (i + j)) (tOp (rIx K) (tVar 1) (tC (.int 0))) (tVar 2)))))))
        tNever tNext) { nx := fun _ H' => Q .non H', rt := Q } (start ["head", "loop", "rise"] [.ref a, .ref b, .int r]) H2 := by
      refine ⟨_, rfl, r, rfl, decide (0 ≤ r), rfl, ?_⟩
      rw [decide_eq_true hg.r0]
      refine iteF ?_
      refine ⟨_, rfl, _, tru_row hb2, ?_⟩
      by_cases hl : l = []
      · have hl2 : (!l.isEmpty) = false := by rw [hl]; rfl
        rw [hl2]
        refine iteT ⟨_, rfl, rfl, false, ?_, iteF ⟨_, rfl, _, tru_row hb2, ?_⟩⟩
        · rw [hg.rl hl]; rfl
        · rw [hl2]
          exact iteF (iteF (q _ s02))
      · have hl2 : (!l.isEmpty) = true := by cases l with
          | nil => exact absurd rfl hl
          | cons _ _ => rfl
        rw [hl2]
        refine iteF (iteF ⟨_, rfl, _, tru_row hb2, ?_⟩)
        rw [hl2]
        refine iteT ⟨_, rfl, _, rfl, ix_done hb2 (at_last (len_pos hl)) ⟨_, rfl, ix_done hb2 (at_int (k := 0) rfl (len_pos hl)) ⟨_, rfl, _, _, rfl, rfl, _, _, rfl, rfl, false, congrArg V.bl (decide_eq_false ?_), iteF (q _ s02)⟩⟩⟩
        have := hg.last hl
        omega
    refine ⟨_, rfl, _, tru_row hb2, ?_⟩
    by_cases hl : l = []
    · have hl2 : (!l.isEmpty) = false := by rw [hl]; rfl
      rw [hl2]
      exact iteF (iteF hrise)
    · have hl2 : (!l.isEmpty) = true := by cases l with
        | nil => exact absurd rfl hl
        | cons _ _ => rfl
      rw [hl2]
      refine iteT ⟨_, rfl, _, tru_row ha2, ?_⟩
      by_cases hh : h = []
      · have hh2 : (!h.isEmpty) = false := by rw [hh]; rfl
        rw [hh2]
        exact iteF (iteF hrise)
      · have hh2 : (!h.isEmpty) = true := by cases h with
          | nil => exact absurd rfl hh
          | cons _ _ => rfl
        rw [hh2]
        refine iteT ⟨_, rfl, ?_⟩
        refine ix_done hb2 (at_int (k := 0) rfl (len_pos hl)) ⟨_, rfl, _, rfl, ix_done ha2 (at_last (len_pos hh)) ⟨_, _, rfl, rfl, false, congrArg V.bl (decide_eq_false ?_), iteF hrise⟩⟩
        have := hg.join hh hl
        omega
end
end K01
set_option Elab.async false
set_option linter.all false
set_option maxRecDepth 100000
set_option maxHeartbeats 4000000
namespace K01
open PySem PySem.Spec PyProof.Rows L2 He NF RZ NT
/-- a table is told -/
def spInit (K : PySem.W.Frag) (C : Addr) : Sp := fun vs H Q _ => ∃ (x dx a b : Addr) (h l : List Int) (r : Int), vs = [.ref x, .ref a, .ref b, .int r] ∧ H x = some (.ins C dx []) ∧ Row K H a (vI h) ∧ Row K H b (vI l) ∧ Good h l r ∧ h.length + l.length ≤ 1000 ∧
  ∀ y H', IsPlain h l r y → Same (wo H x) H' → TabAt K C H' x y → Q .non H'
theorem sc_Table___init__ : FnScope ["self", "head", "loop", "rise"] ["self", "head", "loop", "rise"] (defScope s_Table_init) := ⟨rfl, rfl, rfl, by decide +kernel, rfl, by decide +kernel, by decide +kernel⟩
theorem tf_eq (a b : Addr) (r : Int) : putF "rise" (.int r) (putF "loop" (.ref b) (putF "head" (.ref a) [])) = tf a b r := by rfl
theorem few1 (a : V) : (putF "head" a []).length < 1000 := show 1 < 1000 by decide
theorem few2 (a b : V) : (putF "loop" b (putF "head" a [])).length < 1000 := show 2 < 1000 by decide
section
variable {P : Program} {w : World} {K : PySem.W.Frag} {mg : Str → Option Value} {base : Heap} {gs fs : List Str}
theorem ok_Table_init {C : Addr} {dvs : List V} {f : Addr} {fd : FuncData} (F : FunD K "__init__" "Table.__init__" (defArgs s_Table_init) (defBody s_Table_init) (defScope s_Table_init) dvs [] f fd) (T : Txt K mg gs FS) (hc : Cls K C) (n1 : NoAttr K C "head") (n2 : NoAttr K C "loop") (n3 : NoAttr K C "rise") (c_check_table : Cal P w K mg base 3 "check_table" (spCheck K)) (c_plain_form : Cal P w K mg base 2 "plain_form" (spForm K)) : FnOk P w K mg base CX0 4 f fd ["self", "head", "loop", "rise"] (spInit K C) := by
  refine F.ok sc_Table___init__ (fun vs H Q E h => ?_) (fun cdv A outer s H vs Q E hr h => ?_)
  · obtain ⟨x, dx, a, b, h, l, r, rfl, _⟩ := h
    rfl
  · obtain ⟨x, dx, a, b, h, l, r, rfl, hx, ha, hb, hg, hz, q⟩ := h
    refine ⟨_, PSs.nox (pss_cons (ps_expr (pe_c c_check_table hr (by decide) rfl (pa_cons (pv 1) (pa_cons (pv 2) (pa_cons (pv 3) pa_nil))))) (pss_one (ps_asg (pe_c c_plain_form hr (by decide) rfl (pa_cons (pe_callTy cr_tup rfl (T.fr _ (by decide +kernel)) (by decide +kernel) (pa_cons (pv 1) pa_nil)) (pa_cons (pe_callTy cr_tup rfl (T.fr _ (by decide +kernel)) (by decide +kernel) (pa_cons (pv 2) pa_nil)) (pa_cons (pv 3) pa_nil)))) (pgt (K := K) (n := 3) rfl rfl (pgs_cons (pg_fld (pv 0)) (pgs_cons (pg_fld (pv 0)) (pgs_cons (pg_fld (pv 0)) pgs_nil))))))), ?_⟩
    refine ⟨_, rfl, _, rfl, _, rfl, a, b, h, l, r, rfl, ha, hb, hg, fun H1 s1 => ?_⟩
    refine ⟨_, rfl, a, _, rfl, ha.mono s1, fun p1 H2 s2 t1 => ?_⟩
    refine ⟨_, rfl, b, _, rfl, hb.mono (Same.trans s1 s2), fun p2 H3 s3 t2 => ?_⟩
    refine ⟨_, rfl, p1, p2, h, l, r, rfl, NF.Same.tup s3 t1, t2, hz, fun y p H4 hy s4 fo => ?_⟩
    obtain ⟨u, v, f1, f2, f3⟩ := fo
    have s04 : Same H H4 := Same.trans s1 (Same.trans s2 (Same.trans s3 s4))
    have x4 := s04 _ _ hx
    refine ⟨p, _, rfl, f1, rfl, ?_⟩
    refine ⟨_, _, rfl, _, rfl, x, C, dx, _, rfl, x4, hc, n1, by decide, ?_⟩
    refine ⟨_, _, rfl, _, rfl, x, C, dx, _, rfl, upd_same, hc, n2, few1 _, ?_⟩
    refine ⟨_, _, rfl, _, rfl, x, C, dx, _, rfl, upd_same, hc, n3, few2 _ _, ?_⟩
    refine ⟨rfl, ?_⟩
    refine q y _ hy ?_ ⟨dx, u, v, ?_, ?_, ?_⟩
    · exact Same.put (Same.put (Same.put (Same.trans wo_same' s04) wo_none) wo_none) wo_none
    · rw [upd_same, ← tf_eq]
    · exact SqT.put (SqT.put (SqT.put f2 x4 trivial) upd_same trivial) upd_same trivial
    · exact SqT.put (SqT.put (SqT.put f3 x4 trivial) upd_same trivial) upd_same trivial
end
end K01
set_option Elab.async false
set_option linter.all false
set_option maxRecDepth 100000
set_option maxHeartbeats 4000000
namespace K01
open PySem PySem.Spec PyProof.Rows L2 He NF RZ NT
/-- what the class of tables is -/
structure TabC (K : PySem.W.Frag) (C : Addr) : Prop where
  cl : Cls K C
  hd : NoAttr K C "head"
  lp : NoAttr K C "loop"
  ri : NoAttr K C "rise"
  ac : PySem.W.findIn K (.ref C) "__class__" = some (some (.builtin "object.__class__"))
  ag : PySem.W.specialIn K (.builtin "object.__class__") "__get__" = some (some (.builtin "getset_descriptor.__get__"))
  at_ : PySem.W.takesIn K (.builtin "object.__class__") = some true
  am : PySem.W.mroIn K C (.type "object") = some true
  self : PySem.W.kitOne K (.ref C) (.ref C) = some true
  tup : PySem.W.kitOne K (.type "tuple") (.ref C) = some false
  int : PySem.W.kitOne K (.type "int") (.ref C) = some false
  non : PySem.W.kitOne K (.type "NoneType") (.ref C) = some false
theorem TabC.ty {K : PySem.W.Frag} {C : Addr} (c : TabC K C) {H : Hp} {a dx : Addr} {fs : List (Str × V)} (h : H a = some (.ins C dx fs)) : TyX K H (.ref a) (.ref C) := .base (.ins h c.cl c.ac c.ag c.at_ c.am)
/-- what a table must be that it can be asked -/
structure Small (y : List Int × List Int × Int) : Prop where
  h : y.1.length ≤ 1000
  l : y.2.1.length ≤ 1000
  r0 : 0 ≤ y.2.2
  r1 : y.2.2 ≤ 1000000
def spEnd (K : PySem.W.Frag) (C : Addr) : Sp := fun vs H Q _ => ∃ x y, vs = [.ref x] ∧ TabAt K C H x y ∧ Q (vO (fin_ y.2.1 y.2.2)) H
def spAt (K : PySem.W.Frag) (C : Addr) : Sp := fun vs H Q _ => ∃ x y n, vs = [.ref x, vN n] ∧ TabAt K C H x y ∧ Small y ∧ ∀ H', Same H H' → Q (vO (val_ y.1 y.2.1 y.2.2 n)) H'
/-- the rate that is due -/
def rate_ (y : List Int × List Int × Int) : Int × Int := (y.2.2 / ((Nat.gcd y.2.2.natAbs y.2.1.length : Nat) : Int), (y.2.1.length : Int) / ((Nat.gcd y.2.2.natAbs y.2.1.length : Nat) : Int))
def spRate (K : PySem.W.Frag) (C : Addr) : Sp := fun vs H Q _ => ∃ x y, vs = [.ref x] ∧ TabAt K C H x y ∧ Small y ∧ (y.2.1 = [] → Q .non H) ∧ (y.2.1 ≠ [] → ∀ p, H p = none → Q (.ref p) (upd H p (.tup [.int (rate_ y).1, .int (rate_ y).2])))
def spSteady (K : PySem.W.Frag) (C : Addr) : Sp := fun vs H Q _ => ∃ x y, vs = [.ref x] ∧ TabAt K C H x y ∧ Q (.bl (decide (0 < y.2.2))) H
/-- ==: with another table, with what is none -/
def spEq (K : PySem.W.Frag) (C : Addr) : Sp := fun vs H Q _ => ∃ x y v, vs = [.ref x, v] ∧ TabAt K C H x y ∧
  ((∃ x2 y2, v = .ref x2 ∧ TabAt K C H x2 y2 ∧ Q (.bl (decide (y = y2))) H) ∨ (∃ t, TyX K H v t ∧ PySem.W.kitOne K t (.ref C) = some false ∧ Q (.bl false) H))
theorem sc_end_of : FnScope ["table"] ["table"] (defScope s_end_of) := ⟨rfl, rfl, rfl, by decide +kernel, rfl, by decide +kernel, by decide +kernel⟩
theorem sc_value_at : FnScope ["table", "n", "lap", "at"] ["table", "n"] (defScope s_value_at) := ⟨rfl, rfl, rfl, by decide +kernel, rfl, by decide +kernel, by decide +kernel⟩
theorem sc_Table___call__ : FnScope ["self", "n"] ["self", "n"] (defScope s_Table_call) := ⟨rfl, rfl, rfl, by decide +kernel, rfl, by decide +kernel, by decide +kernel⟩
theorem sc_Table_end : FnScope ["self"] ["self"] (defScope s_Table_end) := ⟨rfl, rfl, rfl, by decide +kernel, rfl, by decide +kernel, by decide +kernel⟩
theorem sc_Table_rate : FnScope ["self", "common"] ["self"] (defScope s_Table_rate) := ⟨rfl, rfl, rfl, by decide +kernel, rfl, by decide +kernel, by decide +kernel⟩
theorem sc_Table_steady : FnScope ["self"] ["self"] (defScope s_Table_steady) := ⟨rfl, rfl, rfl, by decide +kernel, rfl, by decide +kernel, by decide +kernel⟩
theorem sc_Table___eq__ : FnScope ["self", "other"] ["self", "other"] (defScope s_Table_eq) := ⟨rfl, rfl, rfl, by decide +kernel, rfl, by decide +kernel, by decide +kernel⟩
theorem ne_nil {l : List Int} (h : l ≠ []) : (!l.isEmpty) = true := by cases l with
  | nil => exact absurd rfl h
  | cons _ _ => rfl
theorem is_nil {l : List Int} (h : l = []) : (!l.isEmpty) = false := by rw [h]; rfl
section
variable {P : Program} {w : World} {K : PySem.W.Frag} {mg : Str → Option Value} {base : Heap} {gs fs : List Str} {C : Addr}
theorem ok_end_of {f : Addr} {fd : FuncData} (F : FunD K "end_of" "end_of" (defArgs s_end_of) (defBody s_end_of) (defScope s_end_of) [] [] f fd) (T : Txt K mg gs FS) (tc : TabC K C) : FnOk P w K mg base CX0 1 f fd ["table"] (spEnd K C) := by
  refine F.ok sc_end_of (fun vs H Q E h => ?_) (fun cdv A outer s H vs Q E hr h => ?_)
  · obtain ⟨x, y, rfl, _⟩ := h
    rfl
  · obtain ⟨x, ⟨h, l, r⟩, rfl, ⟨dx, a, b, hx, ha, hb⟩, q⟩ := h
    dsimp only at hx ha hb q
    refine ⟨_, PSs.nox (pss_cons (ps_if (PW.pt (pw_or (pt_not (pt_truth (pe_fld (pv 0) rfl) (fun _ => rfl))) (pw_or1 (pt_cmpR op_gt (pe_fld (pv 0) rfl) pe_int (nomark _))))) (pss_one (ps_ret pe_non)) pss_nil) (pss_one (ps_ret (pe_ix (ixt (K := K)) (pe_fld (pv 0) rfl) (pe_un un_neg pe_int) fun _ _ => rfl)))), ?_⟩
    refine ⟨_, rfl, x, C, dx, _, _, rfl, hx, tc.cl, tc.lp, rfl, _, tru_tup hb, ?_⟩
    by_cases hl : l = []
    · rw [is_nil hl]
      refine iteT (iteT ?_)
      unfold fin_ at q
      rw [if_pos (.inl hl)] at q
      exact q
    · rw [ne_nil hl]
      refine iteF ⟨_, rfl, x, C, dx, _, _, rfl, hx, tc.cl, tc.ri, rfl, _, _, rfl, rfl, _, rfl, ?_⟩
      refine ite2 (fun h1 => ?_) (fun h1 => ?_)
      · have h2 : (0 : Int) < r := of_decide_eq_true h1
        unfold fin_ at q
        rw [if_pos (.inr h2)] at q
        exact q
      · have h2 : ¬ (0 : Int) < r := fun z => h1 (decide_eq_true z)
        unfold fin_ at q
        rw [if_neg (fun z => z.elim hl h2)] at q
        exact ⟨_, rfl, x, C, dx, _, _, rfl, hx, tc.cl, tc.lp, rfl, _, rfl, b, _, _, _, rfl, rfl, hb, at_last (len_pos hl), q⟩
theorem ok_value_at {f : Addr} {fd : FuncData} (F : FunD K "value_at" "value_at" (defArgs s_value_at) (defBody s_value_at) (defScope s_value_at) [] [] f fd) (T : Txt K mg gs FS) (tc : TabC K C) (c_end_of : Cal P w K mg base 1 "end_of" (spEnd K C)) : FnOk P w K mg base CX0 2 f fd ["table", "n"] (spAt K C) := by
  refine F.ok sc_value_at (fun vs H Q E h => ?_) (fun cdv A outer s H vs Q E hr h => ?_)
  · obtain ⟨x, y, n, rfl, _⟩ := h
    rfl
  · obtain ⟨x, ⟨h, l, r⟩, n, rfl, tb, sm, q⟩ := h
    have tb0 := tb
    obtain ⟨dx, a, b, hx, ha, hb⟩ := tb0
    dsimp only at hx ha hb q
    refine ⟨_, PSs.nox (pss_cons (ps_if (pt_cmpR op_isN (pv 1) pe_non (nomark _)) (pss_one (ps_ret (pe_c c_end_of hr (by decide) rfl (pa_cons (pv 0) pa_nil)))) pss_nil) (pss_cons (ps_if (pt_cmpR op_eq (pv 1) pe_int (nomark _)) (pss_one (ps_ret pe_int)) pss_nil) (pss_cons (ps_if (pt_cmpR op_le (pv 1) (pe_callB call_len_seq rfl (T.fr _ (by decide +kernel)) boot_len (pa_cons (pe_fld (pv 0) rfl) pa_nil)) (nomark _)) (pss_one (ps_ret (pe_ix (ixt (K := K)) (pe_fld (pv 0) rfl) (pe_op op_sub (pv 1) pe_int) fun _ _ => rfl))) pss_nil) (pss_cons (ps_if (pt_not (pt_truth (pe_fld (pv 0) rfl) (fun _ => rfl))) (pss_one (ps_ret pe_non)) pss_nil) (pss_cons (ps_asg (pe_callB call_divmod rfl (T.fr _ (by decide +kernel)) (by decide +kernel) (pa_cons (pe_op op_sub (pe_op op_sub (pv 1) (pe_callB call_len_seq rfl (T.fr _ (by decide +kernel)) boot_len (pa_cons (pe_fld (pv 0) rfl) pa_nil))) pe_int) (pa_cons (pe_callB call_len_seq rfl (T.fr _ (by decide +kernel)) boot_len (pa_cons (pe_fld (pv 0) rfl) pa_nil)) pa_nil))) (pgt (K := K) (n := 2) rfl rfl (pgs_cons (pg_name (i := 2) sc_value_at.nd rfl (Or.inl rfl)) (pgs_cons (pg_name (i := 3) sc_value_at.nd rfl (Or.inl rfl)) pgs_nil)))) (pss_one (ps_ret (pe_op op_add (pe_ix (ixt (K := K)) (pe_fld (pv 0) rfl) (pv 3) fun _ _ => rfl) (pe_op op_mul (pv 2) (pe_fld (pv 0) rfl)))))))))), ?_⟩
    cases n with
    | none => exact ⟨_, rfl, rfl, _, rfl, iteT ⟨_, rfl, x, _, rfl, tb, q _ (Same.refl H)⟩⟩
    | some n =>
      refine ⟨_, rfl, rfl, _, rfl, iteF ?_⟩
      refine ⟨_, rfl, rfl, _, rfl, ite2 (fun h1 => ?_) (fun h1 => ?_)⟩
      · have h2 : n = 0 := by
          have := of_decide_eq_true h1
          injection this with this
          omega
        subst h2
        exact q _ (Same.refl H)
      have n0 : n ≠ 0 := fun z => h1 (by rw [z]; exact decide_eq_true rfl)
      unfold val_ at q
      dsimp only at q
      rw [if_neg n0] at q
      refine ⟨_, rfl, _, rfl, x, C, dx, _, _, rfl, hx, tc.cl, tc.hd, rfl, a, _, rfl, Or.inr ha, ?_⟩
      rw [vI_len]
      refine ⟨_, _, rfl, rfl, _, rfl, ite2 (fun h1 => ?_) (fun h1 => ?_)⟩
      · have h2 : n ≤ h.length := by
          have := of_decide_eq_true h1
          omega
        unfold at_ at q
        rw [if_pos h2] at q
        exact ⟨_, rfl, x, C, dx, _, _, rfl, hx, tc.cl, tc.hd, rfl, _, rfl, _, _, rfl, rfl, a, _, _, _, rfl, rfl, ha, at_int (k := n - 1) (by omega) (by omega), q _ (Same.refl H)⟩
      have h2 : ¬ n ≤ h.length := fun z => h1 (decide_eq_true (by omega))
      refine ⟨_, rfl, x, C, dx, _, _, rfl, hx, tc.cl, tc.lp, rfl, _, tru_tup hb, ?_⟩
      by_cases hl : l = []
      · rw [is_nil hl]
        unfold at_ at q
        rw [if_neg h2, if_pos hl] at q
        exact iteT (q _ (Same.refl H))
      rw [ne_nil hl]
      have hp := len_pos hl
      have hsl := sm.l
      dsimp only at hsl
      rw [at_loop hl (by omega)] at q
      refine iteF ?_
      refine ⟨_, rfl, _, rfl, x, C, dx, _, _, rfl, hx, tc.cl, tc.hd, rfl, a, _, rfl, Or.inr ha, _, _, rfl, rfl, _, _, rfl, rfl, ?_⟩
      refine ⟨_, rfl, x, C, dx, _, _, rfl, hx, tc.cl, tc.lp, rfl, b, _, rfl, Or.inr hb, ?_⟩
      rw [vI_len, vI_len]
      refine ⟨_, _, rfl, ⟨by omega, by omega⟩, fun p hpn => ?_⟩
      have s1 := NF.Same.new (o := .tup [V.int (((n : Int) - (h.length : Int) - 1) / (l.length : Int)), V.int (((n : Int) - (h.length : Int) - 1) % (l.length : Int))]) (Same.refl H) hpn
      refine ⟨p, _, rfl, SqT.of upd_same, rfl, _, _, rfl, ?_⟩
      refine ⟨_, _, rfl, ?_⟩
      refine ⟨rfl, ?_⟩
      have hx1 := s1 _ _ hx
      have hb1 := NF.Same.tup s1 hb
      have e1 : (n : Int) - (h.length : Int) - 1 = ((n - h.length - 1 : Nat) : Int) := by omega
      have e2 : ((n : Int) - (h.length : Int) - 1) % (l.length : Int) = (((n - h.length - 1) % l.length : Nat) : Int) := by rw [e1]; rfl
      refine ⟨_, rfl, x, C, dx, _, _, rfl, hx1, tc.cl, tc.lp, rfl, _, rfl, b, _, _, _, rfl, rfl, hb1, at_int (k := (n - h.length - 1) % l.length) e2 (Nat.mod_lt _ hp), ?_⟩
      have r0 := sm.r0
      have r1 := sm.r1
      dsimp only at r0 r1
      refine ⟨_, rfl, _, rfl, x, C, dx, _, _, rfl, hx1, tc.cl, tc.ri, rfl, _, _, rfl, rfl, Or.inr ⟨by omega, by omega⟩, ?_⟩
      refine ⟨_, _, rfl, rfl, ?_⟩
      have e3 : l.getD ((n - h.length - 1) % l.length) 0 + ((n : Int) - (h.length : Int) - 1) / (l.length : Int) * r = walk l r (n - h.length - 1) := by
        unfold walk
        rw [e1, Int.mul_comm]
        rfl
      show Q (V.int _) _
      rw [e3]
      exact q _ s1
theorem ok_Table_call {f : Addr} {fd : FuncData} (F : FunD K "__call__" "Table.__call__" (defArgs s_Table_call) (defBody s_Table_call) (defScope s_Table_call) [] [] f fd) (T : Txt K mg gs FS) (c_is_count : Cal P w K mg base 2 "is_count" spIsCount) (c_value_at : Cal P w K mg base 2 "value_at" (spAt K C)) : FnOk P w K mg base CX0 3 f fd ["self", "n"] (spAt K C) := by
  refine F.ok sc_Table___call__ (fun vs H Q E h => ?_) (fun cdv A outer s H vs Q E hr h => ?_)
  · obtain ⟨x, y, n, rfl, _⟩ := h
    rfl
  · obtain ⟨x, y, n, rfl, tb, sm, q⟩ := h
    refine ⟨_, PSs.nox (pss_cons (ps_if (PW.pt (pw_and (pt_cmpR op_notN (pv 1) pe_non (nomark _)) (pw_and1 (pt_not (pt_val (pe_c c_is_count hr (by decide) rfl (pa_cons (pv 1) pa_nil))))))) (pss_one ps_never) pss_nil) (pss_one (ps_ret (pe_c c_value_at hr (by decide) rfl (pa_cons (pv 0) (pa_cons (pv 1) pa_nil)))))), ?_⟩
    cases n with
    | none => exact ⟨_, rfl, rfl, _, rfl, iteF (iteF ⟨_, rfl, _, rfl, x, y, none, rfl, tb, sm, q⟩)⟩
    | some n =>
      refine ⟨_, rfl, rfl, _, rfl, iteT ⟨_, rfl, (n : Int), rfl, true, congrArg V.bl (decide_eq_true (by omega)), iteF ?_⟩⟩
      exact ⟨_, rfl, _, rfl, x, y, some n, rfl, tb, sm, q⟩
theorem ok_Table_end {f : Addr} {fd : FuncData} (F : FunD K "end" "Table.end" (defArgs s_Table_end) (defBody s_Table_end) (defScope s_Table_end) [] [] f fd) (T : Txt K mg gs FS) (c_end_of : Cal P w K mg base 1 "end_of" (spEnd K C)) : FnOk P w K mg base CX0 2 f fd ["self"] (spEnd K C) := by
  refine F.ok sc_Table_end (fun vs H Q E h => ?_) (fun cdv A outer s H vs Q E hr h => ?_)
  · obtain ⟨x, y, rfl, _⟩ := h
    rfl
  · obtain ⟨x, y, rfl, tb, q⟩ := h
    exact ⟨_, PSs.nox (pss_one (ps_ret (pe_c c_end_of hr (by decide) rfl (pa_cons (pv 0) pa_nil)))), _, rfl, x, y, rfl, tb, q⟩
theorem ok_Table_steady {f : Addr} {fd : FuncData} (F : FunD K "steady" "Table.steady" (defArgs s_Table_steady) (defBody s_Table_steady) (defScope s_Table_steady) [] [] f fd) (T : Txt K mg gs FS) (tc : TabC K C) : FnOk P w K mg base CX0 1 f fd ["self"] (spSteady K C) := by
  refine F.ok sc_Table_steady (fun vs H Q E h => ?_) (fun cdv A outer s H vs Q E hr h => ?_)
  · obtain ⟨x, y, rfl, _⟩ := h
    rfl
  · obtain ⟨x, y, rfl, ⟨dx, a, b, hx, ha, hb⟩, q⟩ := h
    exact ⟨_, PSs.nox (pss_one (ps_ret (pe_cmpR op_gt (pe_fld (pv 0) rfl) pe_int (nomark _)))), _, rfl, x, C, dx, _, _, rfl, hx, tc.cl, tc.ri, rfl, _, _, rfl, rfl, q⟩
theorem ok_Table_rate {f : Addr} {fd : FuncData} (F : FunD K "rate" "Table.rate" (defArgs s_Table_rate) (defBody s_Table_rate) (defScope s_Table_rate) [] [] f fd) (T : Txt K mg gs FS) (hgcd : mg "gcd" = some (.builtin "math.gcd")) (tc : TabC K C) : FnOk P w K mg base CX0 1 f fd ["self"] (spRate K C) := by
  refine F.ok sc_Table_rate (fun vs H Q E h => ?_) (fun cdv A outer s H vs Q E hr h => ?_)
  · obtain ⟨x, y, rfl, _⟩ := h
    rfl
  · obtain ⟨x, ⟨h, l, r⟩, rfl, ⟨dx, a, b, hx, ha, hb⟩, sm, q1, q2⟩ := h
    dsimp only at hx ha hb q1 q2
    refine ⟨_, PSs.nox (pss_cons (ps_if (pt_not (pt_truth (pe_fld (pv 0) rfl) (fun _ => rfl))) (pss_one (ps_ret pe_non)) pss_nil) (pss_cons (ps_set (i := 1) sc_Table_rate.nd rfl (Or.inl rfl) (pe_callBfun cr_gcd rfl hgcd (pa_cons (pe_fld (pv 0) rfl) (pa_cons (pe_callB call_len_seq rfl (T.fr _ (by decide +kernel)) boot_len (pa_cons (pe_fld (pv 0) rfl) pa_nil)) pa_nil)))) (pss_one (ps_ret (pe_tup (pa_cons (pe_op op_fdiv (pe_fld (pv 0) rfl) (pv 1)) (pa_cons (pe_op op_fdiv (pe_callB call_len_seq rfl (T.fr _ (by decide +kernel)) boot_len (pa_cons (pe_fld (pv 0) rfl) pa_nil)) (pv 1)) pa_nil))))))), ?_⟩
    refine ⟨_, rfl, x, C, dx, _, _, rfl, hx, tc.cl, tc.lp, rfl, _, tru_tup hb, ?_⟩
    by_cases hl : l = []
    · rw [is_nil hl]
      exact iteT (q1 hl)
    rw [ne_nil hl]
    have hp := len_pos hl
    have hsl := sm.l
    dsimp only at hsl
    refine iteF ?_
    refine ⟨_, rfl, x, C, dx, _, _, rfl, hx, tc.cl, tc.ri, rfl, _, rfl, x, C, dx, _, _, rfl, hx, tc.cl, tc.lp, rfl, b, _, rfl, Or.inr hb, ?_⟩
    rw [vI_len]
    refine ⟨_, _, rfl, ?_⟩
    have hg : Nat.gcd r.natAbs ((l.length : Nat) : Int).natAbs = Nat.gcd r.natAbs l.length := by rw [Int.natAbs_natCast]
    rw [hg]
    have g0 : 0 < Nat.gcd r.natAbs l.length := Nat.gcd_pos_of_pos_right _ hp
    have g1 : Nat.gcd r.natAbs l.length ≤ l.length := Nat.gcd_le_right _ hp
    refine ⟨_, rfl, x, C, dx, _, _, rfl, hx, tc.cl, tc.ri, rfl, _, rfl, _, _, rfl, rfl, ⟨by omega, by omega⟩, ?_⟩
    refine ⟨_, rfl, x, C, dx, _, _, rfl, hx, tc.cl, tc.lp, rfl, b, _, rfl, Or.inr hb, ?_⟩
    rw [vI_len]
    refine ⟨_, rfl, _, _, rfl, rfl, ⟨by omega, by omega⟩, ?_⟩
    exact ⟨(by show 2 ≤ sizeLine; decide), fun p hpn => q2 hl p hpn⟩
theorem ok_Table_eq {f : Addr} {fd : FuncData} (F : FunD K "__eq__" "Table.__eq__" (defArgs s_Table_eq) (defBody s_Table_eq) (defScope s_Table_eq) [] [] f fd) (T : Txt K mg gs FS) (hT : mg "Table" = some (.ref C)) (tc : TabC K C) : FnOk P w K mg base CX0 1 f fd ["self", "other"] (spEq K C) := by
  refine F.ok sc_Table___eq__ (fun vs H Q E h => ?_) (fun cdv A outer s H vs Q E hr h => ?_)
  · obtain ⟨x, y, v, rfl, _⟩ := h
    rfl
  · obtain ⟨x, ⟨h, l, r⟩, v, rfl, ⟨dx, a, b, hx, ha, hb⟩, q⟩ := h
    have hu : (A.deeper (envOfC "Table.__eq__" (defScope s_Table_eq) s.heap.objs.size f cdv)).units + 64 < cLine := by
      have := hr.un
      omega
    refine ⟨_, PSs.nox (pss_one (ps_ret (pe_and (pe_callB call_isi rfl (T.fr _ (by decide +kernel)) (by decide +kernel) (pa_cons (pv 1) (pa_cons (pe_gl hT) pa_nil))) (pe_and (pe_cmpR (op_eqD hu) (pe_fld (pv 0) rfl) (pe_fld (pv 1) rfl) (nomark _)) (pe_and (pe_cmpR (op_eqD hu) (pe_fld (pv 0) rfl) (pe_fld (pv 1) rfl) (nomark _)) (pe_one (pe_cmpR op_eq (pe_fld (pv 0) rfl) (pe_fld (pv 1) rfl) (nomark _)))))))), ?_⟩
    rcases q with ⟨x2, ⟨h2, l2, r2⟩, rfl, ⟨dx2, a2, b2, hx2, ha2, hb2⟩, q⟩ | ⟨t, ty, hk, q⟩
    · have tx := tc.ty hx2
      dsimp only at hx ha hb hx2 ha2 hb2 q
      refine ⟨_, rfl, _, _, _, _, true, rfl, .own C, tx, tc.self, true, rfl, iteT ?_⟩
      refine ⟨_, rfl, x, C, dx, _, _, rfl, hx, tc.cl, tc.hd, rfl, _, rfl, x2, C, dx2, _, _, rfl, hx2, tc.cl, tc.hd, rfl, ?_⟩
      refine eqT_done (K := K) ha ha2 ⟨_, rfl, ite2 (fun h1 => ?_) (fun h1 => ?_)⟩
      · have e1 : h = h2 := of_decide_eq_true h1
        refine ⟨_, rfl, x, C, dx, _, _, rfl, hx, tc.cl, tc.lp, rfl, _, rfl, x2, C, dx2, _, _, rfl, hx2, tc.cl, tc.lp, rfl, ?_⟩
        refine eqT_done (K := K) hb hb2 ⟨_, rfl, ite2 (fun h3 => ?_) (fun h3 => ?_)⟩
        · have e2 : l = l2 := of_decide_eq_true h3
          refine ⟨_, rfl, x, C, dx, _, _, rfl, hx, tc.cl, tc.ri, rfl, _, rfl, x2, C, dx2, _, _, rfl, hx2, tc.cl, tc.ri, rfl, rfl, ?_⟩
          have e : decide ((h, l, r) = (h2, l2, r2)) = decide (V.int r = V.int r2) := by
            subst e1 e2
            by_cases z : r = r2
            · subst z; simp
            · rw [decide_eq_false (fun y => z (by injection y with _ y; injection y)), decide_eq_false (fun y => z (by injection y))]
          rw [← e]
          exact q
        · have e2 : l ≠ l2 := fun z => h3 (decide_eq_true z)
          rw [decide_eq_false (fun y => e2 (by injection y with _ y; injection y))] at q
          exact q
      · have e1 : h ≠ h2 := fun z => h1 (decide_eq_true z)
        rw [decide_eq_false (fun y => e1 (by injection y))] at q
        exact q
    · exact ⟨_, rfl, _, _, _, _, false, rfl, .own C, ty, hk, false, rfl, iteF q⟩
end
end K01
set_option Elab.async false
set_option linter.all false
set_option maxRecDepth 100000
set_option maxHeartbeats 4000000
namespace K01
open PySem PySem.Spec PyProof.Rows L2 He NF
section
variable {P : Program} {w : World} {K : PySem.W.Frag} {mg : Str → Option Value} {base : Heap}
theorem sc__law_pick : FnScope ["_law_source_here", "_law_many", "_law_value", "_law_digit"] ["_law_source_here", "_law_many"] (defScope s__law_pick) := ⟨rfl, rfl, rfl, by decide +kernel, rfl, by decide +kernel, by decide +kernel⟩
theorem ok_pick {f : Addr} {fd : FuncData} {gs fs : List Str} (F : FunD K "_law_pick" "_law_pick" (defArgs s__law_pick) (defBody s__law_pick) (defScope s__law_pick) [] [] f fd) (T : Txt K mg gs fs) (hi : ("int" : Str) ∈ fs) : FnOk P w K mg base CX0 1 f fd ["_law_source_here", "_law_many"] spPick := by
  refine F.ok sc__law_pick (fun vs H Q E h => ?_) (fun cdv A outer s H vs Q E hr h => ?_)
  · obtain ⟨H0, p, m, rfl, _⟩ := h
    rfl
  · obtain ⟨H0, p, m, rfl, hS, h0, ⟨a, sd, c, hp⟩, m0, m1, k⟩ := h
    refine ⟨_, PSs.nox (pss_cons (ps_if (pt_cmpR op_gt (pe_ix ix_list (pv 0) pe_int fun _ _ => rfl) pe_int (nomark _)) (pss_cons (ps_set (i := 3) sc__law_pick.nd rfl (Or.inl rfl) (pe_op op_mod (pe_callTy call_int1 rfl (T.fr _ hi) (by decide +kernel) (pa_cons (pe_ix ix_list (pv 0) pe_int fun _ _ => rfl) pa_nil)) (pv 1))) (pss_cons (ps_asg (pe_op op_fdiv (pe_ix ix_list (pv 0) pe_int fun _ _ => rfl) (pv 1)) (pg_sub (pv 0) pe_int set_list)) (pss_one (ps_ret (pv 3))))) pss_nil) (pss_cons (ps_asg (pe_op op_add (pe_ix ix_list (pv 0) pe_int fun _ _ => rfl) pe_int) (pg_sub (pv 0) pe_int set_list)) (pss_cons (ps_set (i := 2) sc__law_pick.nd rfl (Or.inl rfl) (pe_op op_mod (pe_callTy call_int1 rfl (T.fr _ hi) (by decide +kernel) (pa_cons (pe_op op_mul (pe_op op_add (pe_ix ix_list (pv 0) pe_int fun _ _ => rfl) (pe_op op_mul pe_int (pe_ix ix_list (pv 0) pe_int fun _ _ => rfl))) pe_int) pa_nil)) pe_int)) (pss_cons (ps_set (i := 2) sc__law_pick.nd rfl (Or.inl rfl) (pe_op op_mod (pe_callTy call_int1 rfl (T.fr _ hi) (by decide +kernel) (pa_cons (pe_op op_add (pe_op op_add (pe_op op_mul (pv 2) (pv 2)) (pe_op op_mul pe_int (pe_ix ix_list (pv 0) pe_int fun _ _ => rfl))) (pe_ix ix_list (pv 0) pe_int fun _ _ => rfl)) pa_nil)) pe_int)) (pss_cons (ps_set (i := 2) sc__law_pick.nd rfl (Or.inl rfl) (pe_op op_mod (pe_callTy call_int1 rfl (T.fr _ hi) (by decide +kernel) (pa_cons (pe_op op_add (pe_op op_mul (pv 2) pe_int) pe_int) pa_nil)) pe_int)) (pss_cons (ps_set (i := 2) sc__law_pick.nd rfl (Or.inl rfl) (pe_op op_mod (pe_callTy call_int1 rfl (T.fr _ hi) (by decide +kernel) (pa_cons (pe_op op_add (pe_op op_mul (pv 2) (pv 2)) (pv 2)) pa_nil)) pe_int)) (pss_one (ps_ret (pe_op op_mod (pe_callTy call_int1 rfl (T.fr _ hi) (by decide +kernel) (pa_cons (pe_op op_fdiv (pv 2) pe_int) pa_nil)) (pv 1)))))))))), ?_⟩
    refine ⟨_, rfl, p, _, _, _, rfl, rfl, SqL.of hp, at0, _, _, rfl, rfl, _, rfl, ?_⟩
    refine ite2 (fun _ => ?_) (fun _ => ?_)
    · refine ⟨_, rfl, p, _, _, _, rfl, rfl, SqL.of hp, at0, Or.inl ⟨_, rfl, _, rfl, _, _, rfl, rfl, m0, ?_⟩⟩
      refine ⟨_, rfl, p, _, _, _, rfl, rfl, SqL.of hp, at0, _, rfl, _, _, rfl, rfl, ⟨m0, m1⟩, ?_⟩
      refine ⟨_, rfl, p, _, _, 0, rfl, rfl, hp, rfl, ?_⟩
      refine ⟨_, rfl, k _ _ (Int.emod_nonneg _ (by omega)) (Int.emod_lt_of_pos _ m0) (NF.Same.put hS h0) ⟨_, _, _, upd_same⟩⟩
    · refine ⟨_, rfl, p, _, _, _, rfl, rfl, SqL.of hp, at2, _, _, rfl, rfl, ?_⟩
      refine ⟨_, rfl, p, _, _, 2, rfl, rfl, hp, rfl, ?_⟩
      have hp' : upd H p (.lst [.int a, .int sd, .int (c + 1)]) p = some (.lst [.int a, .int sd, .int (c + 1)]) := upd_same
      refine ⟨_, rfl, p, _, _, _, rfl, rfl, SqL.of hp', at1, ?_⟩
      refine ⟨_, rfl, p, _, _, _, rfl, rfl, SqL.of hp', at2, _, _, rfl, rfl, Or.inl (by decide), _, _, rfl, rfl, ?_⟩
      refine ⟨_, _, rfl, rfl, Or.inr (by decide), Or.inl ⟨_, rfl, _, _, rfl, rfl, (by first | exact (by decide : (0 : Int) < 2147483647) | exact (by decide : (0 : Int) < 2147483629) | exact (by decide : (0 : Int) < 2147483587)), ?_⟩⟩
      generalize hx : (sd + 104729 * (c + 1)) * 48271 % 2147483647 = x
      have x0 : 0 ≤ x ∧ x < 2147483647 := by omega
      refine ⟨_, rfl, _, rfl, _, _, rfl, rfl, Or.inl (by omega), ?_⟩
      refine ⟨_, rfl, p, _, _, _, rfl, rfl, SqL.of hp', at2, _, _, rfl, rfl, Or.inl (by decide), _, _, rfl, rfl, ?_⟩
      refine ⟨_, rfl, p, _, _, _, rfl, rfl, SqL.of hp', at1, _, _, rfl, rfl, Or.inl ⟨_, rfl, _, _, rfl, rfl, (by first | exact (by decide : (0 : Int) < 2147483647) | exact (by decide : (0 : Int) < 2147483629) | exact (by decide : (0 : Int) < 2147483587)), ?_⟩⟩
      generalize hy : (x * x + 7 * (c + 1) + sd) % 2147483629 = y
      have y0 : 0 ≤ y ∧ y < 2147483629 := by omega
      refine ⟨_, rfl, _, _, rfl, rfl, Or.inl (by omega), _, _, rfl, rfl, Or.inl ⟨_, rfl, _, _, rfl, rfl, (by first | exact (by decide : (0 : Int) < 2147483647) | exact (by decide : (0 : Int) < 2147483629) | exact (by decide : (0 : Int) < 2147483587)), ?_⟩⟩
      generalize hz : (y * 69621 + 5) % 2147483647 = z
      have z0 : 0 ≤ z ∧ z < 2147483647 := by omega
      refine ⟨_, rfl, _, rfl, _, _, rfl, rfl, Or.inl (by omega), ?_⟩
      refine ⟨_, rfl, _, _, rfl, rfl, Or.inl ⟨_, rfl, _, _, rfl, rfl, (by first | exact (by decide : (0 : Int) < 2147483647) | exact (by decide : (0 : Int) < 2147483629) | exact (by decide : (0 : Int) < 2147483587)), ?_⟩⟩
      refine ⟨_, rfl, _, _, rfl, rfl, ⟨by decide, by decide⟩, Or.inl ⟨_, rfl, _, rfl, _, _, rfl, rfl, m0, ?_⟩⟩
      exact k _ _ (Int.emod_nonneg _ (by omega)) (Int.emod_lt_of_pos _ m0) (NF.Same.put hS h0) ⟨_, _, _, hp'⟩
end
end K01
set_option Elab.async false
set_option linter.all false
set_option maxRecDepth 100000
set_option maxHeartbeats 4000000
namespace K01
open PySem PySem.Spec PyProof.Rows L2 He NF
theorem sc__law_source : FnScope ["_law_script", "_law_place", "_law_cell", "_law_seed", "_law_one", "_law_number"] ["_law_script", "_law_place"] (defScope s__law_source) := ⟨rfl, rfl, rfl, by decide +kernel, rfl, by decide +kernel, by decide +kernel⟩
theorem natAbs_bits {x : Int} {n : Nat} (h : x.natAbs < 2 ^ n) : Builtin.Int.intBits x ≤ n := by
  unfold Builtin.Int.intBits
  by_cases e : x = 0
  · rw [if_pos (by rw [e]; rfl)]
    exact Nat.zero_le _
  · rw [if_neg (by simpa using e)]
    exact (Nat.log2_lt (by omega)).mpr h
theorem bits_le {x y : Int} (h : x.natAbs ≤ y.natAbs) : Builtin.Int.intBits x ≤ Builtin.Int.intBits y := by
  refine natAbs_bits (Nat.lt_of_le_of_lt h ?_)
  unfold Builtin.Int.intBits
  by_cases e : y = 0
  · rw [if_pos (by rw [e]; rfl), e]
    decide
  · rw [if_neg (by simpa using e)]
    exact Nat.lt_log2_self
theorem bits_small {x : Int} (h0 : 0 ≤ x) (h : x < 1000000) : Builtin.Int.intBits x ≤ 1048576 := Nat.le_trans (natAbs_bits (n := 20) (by omega)) (by decide)
section
variable {P : Program} {w : World} {K : PySem.W.Frag} {mg : Str → Option Value} {base : Heap}
theorem ok_source {f : Addr} {fd : FuncData} {gs fs : List Str} (F : FunD K "_law_source" "_law_source" (defArgs s__law_source) (defBody s__law_source) (defScope s__law_source) [] [] f fd) (T : Txt K mg gs fs) (hl : ("len" : Str) ∈ fs) (hi : ("int" : Str) ∈ fs) (ha : ("abs" : Str) ∈ fs) : FnOk P w K mg base CX0 1 f fd ["_law_script", "_law_place"] (spSource K) := by
  refine F.ok sc__law_source (fun vs H Q E h => ?_) (fun cdv A outer s H vs Q E hr h => ?_)
  · obtain ⟨l, ns, i, rfl, _⟩ := h
    rfl
  · obtain ⟨l, ns, i, rfl, hS, hn, hb, hi', k⟩ := h
    refine ⟨_, PSs.nox (pss_cons (ps_set (i := 2) sc__law_source.nd rfl (Or.inl rfl) (pe_ifExp (pt_cmpR op_lt (pv 1) (pe_callB call_len_seq rfl (T.fr _ hl) boot_len (pa_cons (pv 0) pa_nil)) (nomark _)) (pe_ix ix_list (pv 0) (pv 1) fun _ _ => rfl) (pe_op op_add (pe_op op_mul pe_int (pv 1)) pe_int))) (pss_cons (ps_set (i := 3) sc__law_source.nd rfl (Or.inl rfl) (pe_op op_mod (pe_callTy call_int1 rfl (T.fr _ hi) (by decide +kernel) (pa_cons (pe_op op_add (pe_op op_mod (pe_callTy call_int1 rfl (T.fr _ hi) (by decide +kernel) (pa_cons (pv 2) pa_nil)) pe_int) (pe_op op_mul pe_int (pv 1))) pa_nil)) pe_int)) (pss_cons (ps_for PassesOwn.never rfl (pi_list (pe_slice sl_list (pv 0) po_none (po_some pe_int))) (pg_name (i := 4) sc__law_source.nd rfl (Or.inl rfl)) (pss_one (ps_set (i := 3) sc__law_source.nd rfl (Or.inl rfl) (pe_op op_mod (pe_callTy call_int1 rfl (T.fr _ hi) (by decide +kernel) (pa_cons (pe_op op_add (pe_op op_mul (pv 3) pe_int) (pe_op op_mod (pe_callTy call_int1 rfl (T.fr _ hi) (by decide +kernel) (pa_cons (pv 4) pa_nil)) pe_int)) pa_nil)) pe_int)))) (pss_cons (ps_set (i := 5) sc__law_source.nd rfl (Or.inl rfl) (pe_callB call_abs rfl (T.fr _ ha) (by decide +kernel) (pa_cons (pv 2) pa_nil))) (pss_cons (ps_if (pt_cmpR op_lt (pv 5) (pe_op op_pow pe_int pe_int) (nomark _)) (pss_one (ps_ret (pe_lst (pa_cons pe_int (pa_cons (pv 3) (pa_cons pe_int pa_nil)))))) pss_nil) (pss_cons (ps_if (pt_cmpR op_gt (pe_op op_shr (pv 5) pe_int) pe_int (nomark _)) (pss_one (ps_set (i := 5) sc__law_source.nd rfl (Or.inl rfl) (pe_op op_sub (pv 5) (pe_op op_shlW (pe_op op_shr (pv 5) pe_int) pe_int)))) pss_nil) (pss_one (ps_ret (pe_lst (pa_cons (pv 5) (pa_cons (pv 3) (pa_cons pe_int pa_nil)))))))))))), ?_⟩
    -- the cell: what stands at the place, or a number by the place
    have hcell : ∀ (Q1 : VK), (∀ c : Int, Builtin.Int.intBits c ≤ 1048576 → Q1 (.int c) H) →
        (if decide ((i : Int) < ((ns.map V.int).length : Int)) = true then tOp (rIxL K) (tVar 0) (tVar 1) (start ["_law_script", "_law_place", "_law_cell", "_law_seed", "_law_one", "_law_number"] [.ref l, .int (i : Int)]) H Q1
          else tOp (rI0 fun i j => .int (i + j)) (tOp (rI CMul fun i j => .int (i * j)) (tC (.int 3)) (tVar 1)) (tC (.int 1)) (start ["_law_script", "_law_place", "_law_cell", "_law_seed", "_law_one", "_law_number"] [.ref l, .int (i : Int)]) H Q1) := by
      intro Q1 q
      rw [List.length_map]
      by_cases hlt : i < ns.length
      · rw [decide_eq_true (show (i : Int) < (ns.length : Int) by omega), if_pos rfl]
        have e : (ns.map V.int)[i]? = some (V.int ns[i]) := by rw [List.getElem?_map, List.getElem?_eq_getElem hlt] <;> rfl
        exact ⟨_, rfl, _, rfl, l, _, _, _, rfl, rfl, hS, atI_nat e, q _ (hb _ (List.getElem_mem hlt))⟩
      · rw [decide_eq_false (show ¬ (i : Int) < (ns.length : Int) by omega), if_neg Bool.false_ne_true]
        refine ⟨_, rfl, _, _, rfl, rfl, Or.inl (by decide), _, _, rfl, rfl, q _ ?_⟩
        exact bits_small (by omega) (by omega)
    refine ⟨_, rfl, _, rfl, l, _, rfl, Or.inl hS, _, _, rfl, rfl, _, rfl, hcell _ fun c hc => ?_⟩
    refine ⟨_, rfl, Or.inl ⟨_, rfl, _, _, rfl, rfl, (by exact (by decide : (0 : Int) < 2147483629)), ?_⟩⟩
    refine ⟨_, rfl, _, _, rfl, rfl, Or.inl (by decide), _, _, rfl, rfl, Or.inl ⟨_, rfl, _, _, rfl, rfl, (by exact (by decide : (0 : Int) < 2147483629)), ?_⟩⟩
    refine ⟨_, rfl, _, rfl, l, _, rfl, hS, fun p hp => ⟨p, rfl, ⟨_, SqL.of upd_same⟩, ?_⟩⟩
    have hpl : H p = none := hp
    obtain ⟨cs, hcs⟩ : ∃ cs : List Int, cutV (ns.map V.int) none (some 2) = cs.map V.int := ⟨(ns.drop (HT.sIx (ns.map V.int).length 0 none)).take (HT.sIx (ns.map V.int).length (ns.map V.int).length (some 2) - HT.sIx (ns.map V.int).length 0 none), by unfold cutV; rw [List.map_take, List.map_drop]⟩
    refine for_list (K := K) (a := p) (xs := cs.map V.int) (fun j σ H' => H' = upd H p (.lst (cs.map V.int)) ∧ ∃ (sd : Int) (v : Option V), σ = [some (.ref l), some (.int (i : Int)), some (.int c), some (.int sd), v, none])
      ⟨by rw [hcs], _, _, rfl⟩ (fun j σ H' _ z => by rw [z.1]; exact SqL.of upd_same) ?_ ?_
    · rintro j y σ H' hj ⟨rfl, sd, v, rfl⟩
      obtain ⟨z, rfl⟩ : ∃ z, y = V.int z := by
        rw [List.getElem?_map] at hj
        cases e : cs[j]? with
        | none =>
          rw [e] at hj
          cases hj
        | some z =>
          rw [e] at hj
          exact ⟨z, (Option.some.inj hj).symm⟩
      refine ⟨_, rfl, _, _, rfl, rfl, Or.inr (by decide), _, rfl, Or.inl ⟨_, rfl, _, _, rfl, rfl, (by exact (by decide : (0 : Int) < 1000003)), ?_⟩⟩
      refine ⟨_, _, rfl, rfl, Or.inl ⟨_, rfl, _, _, rfl, rfl, (by exact (by decide : (0 : Int) < 2147483629)), ?_⟩⟩
      exact ⟨rfl, _, _, rfl⟩
    · rintro σ H' ⟨rfl, sd, v, rfl⟩
      have hS1 : Same H (upd H p (.lst (cs.map V.int))) := NF.Same.new (Same.refl H) hp
      have hend : ∀ (a sd : Int) (q : Addr), upd H p (.lst (cs.map V.int)) q = none → Q (.ref q) (upd (upd H p (.lst (cs.map V.int))) q (.lst [.int a, .int sd, .int 0])) := fun a sd q hq =>
        k q _ (NF.Same.new hS1 hq) (L2.Same.free hS1 hq) ⟨_, _, _, upd_same⟩
      refine ⟨_, rfl, _, rfl, ?_⟩
      have hab : Builtin.Int.intBits (if c < 0 then -c else c) ≤ 1048576 := Nat.le_trans (bits_le (by split <;> omega)) hc
      generalize hm : (if c < 0 then -c else c) = m at hab ⊢
      have m0 : 0 ≤ m := by rw [← hm]; split <;> omega
      refine ⟨_, rfl, _, _, rfl, rfl, ⟨by decide, by decide, by decide⟩, _, _, rfl, rfl, _, rfl, ?_⟩
      refine ite2 (fun _ => ?_) (fun _ => ?_)
      · exact ⟨_, rfl, (by show 3 ≤ sizeLine; decide), fun q hq => hend _ _ q hq⟩
      · refine ⟨_, rfl, _, _, rfl, rfl, (by exact (by decide : (0 : Int) ≤ 4000)), _, _, rfl, rfl, _, rfl, ?_⟩
        refine ite2 (fun _ => ?_) (fun _ => ?_)
        · refine ⟨_, rfl, _, rfl, _, _, rfl, rfl, (by exact (by decide : (0 : Int) ≤ 4000)), _, _, rfl, rfl, ⟨(by exact (by decide : (0 : Int) ≤ 4000)), ?_⟩, _, _, rfl, rfl, ?_⟩
          · have hd : Builtin.Int.intBits (m / 2 ^ (4000 : Int).toNat) ≤ Builtin.Int.intBits m := bits_le (by
              have h1 : 0 ≤ m / 2 ^ (4000 : Int).toNat := Int.ediv_nonneg m0 (Int.le_of_lt (Int.pow_pos (by decide)))
              have h2 : m / 2 ^ (4000 : Int).toNat ≤ m := Int.ediv_le_self _ m0
              omega)
            have h27 : (1048576 : Int) + 4000 ≤ 2 ^ 27 := by decide
            omega
          · exact ⟨_, rfl, _, rfl, (by show 3 ≤ sizeLine; decide), fun q hq => hend _ _ q hq⟩
        · exact ⟨_, rfl, _, rfl, (by show 3 ≤ sizeLine; decide), fun q hq => hend _ _ q hq⟩
end
end K01
set_option Elab.async false
set_option linter.all false
set_option maxRecDepth 100000
set_option maxHeartbeats 4000000
namespace K01
open PySem PySem.Spec PyProof.Rows L2 He NF RZ NT
def spTruth : Sp := fun vs H Q _ => ∃ b c : Bool, vs = [.bl b, .bl c] ∧ Q (.bl (b == c)) H
def spIsValue : Sp := fun vs H Q _ => ∃ o : Option Int, vs = [vO o] ∧ (∀ i, o = some i → 0 ≤ i) ∧ Q (.bl true) H
def spLEnd (K : PySem.W.Frag) : Sp := fun vs H Q _ => ∃ p y, vs = [.ref p] ∧ FormAt K H p y ∧ Q (vO (fin_ y.2.1 y.2.2)) H
def spLAt (K : PySem.W.Frag) : Sp := fun vs H Q _ => ∃ p y n, vs = [.ref p, vN n] ∧ FormAt K H p y ∧ Small y ∧ Q (vO (val_ y.1 y.2.1 y.2.2 n)) H
def spGcd : Sp := fun vs H Q _ => ∃ a b : Nat, vs = [.int (a : Int), .int (b : Int)] ∧ ∀ H', Same H H' → Q (.int ((Nat.gcd a b : Nat) : Int)) H'
def spLRate (K : PySem.W.Frag) : Sp := fun vs H Q _ => ∃ p y, vs = [.ref p] ∧ FormAt K H p y ∧ Small y ∧ (y.2.1 = [] → Q .non H) ∧ (y.2.1 ≠ [] → ∀ H1 p, Same H H1 → H1 p = none → Q (.ref p) (upd H1 p (.tup [.int (rate_ y).1, .int (rate_ y).2])))
theorem iteT' {b : Bool} {A B : Prop} (e : b = true) (h : A) : if b = true then A else B := by rw [e]; exact iteT h
theorem iteF' {b : Bool} {A B : Prop} (e : b = false) (h : B) : if b = true then A else B := by rw [e]; exact iteF h
theorem sc__law_is_integer : FnScope ["_law_thing"] ["_law_thing"] (defScope s__law_is_integer) := ⟨rfl, rfl, rfl, by decide +kernel, rfl, by decide +kernel, by decide +kernel⟩
theorem sc__law_is_count : FnScope ["_law_thing"] ["_law_thing"] (defScope s__law_is_count) := ⟨rfl, rfl, rfl, by decide +kernel, rfl, by decide +kernel, by decide +kernel⟩
theorem sc__law_truth : FnScope ["_law_told", "_law_due"] ["_law_told", "_law_due"] (defScope s__law_truth) := ⟨rfl, rfl, rfl, by decide +kernel, rfl, by decide +kernel, by decide +kernel⟩
theorem sc__law_is_value : FnScope ["_law_thing"] ["_law_thing"] (defScope s__law_is_value) := ⟨rfl, rfl, rfl, by decide +kernel, rfl, by decide +kernel, by decide +kernel⟩
theorem sc__law_end : FnScope ["_law_raw_here"] ["_law_raw_here"] (defScope s__law_end) := ⟨rfl, rfl, rfl, by decide +kernel, rfl, by decide +kernel, by decide +kernel⟩
theorem sc__law_at : FnScope ["_law_raw_here", "_law_place", "_law_rest"] ["_law_raw_here", "_law_place"] (defScope s__law_at) := ⟨rfl, rfl, rfl, by decide +kernel, rfl, by decide +kernel, by decide +kernel⟩
theorem sc__law_gcd : FnScope ["_law_one", "_law_other_here"] ["_law_one", "_law_other_here"] (defScope s__law_gcd) := ⟨rfl, rfl, rfl, by decide +kernel, rfl, by decide +kernel, by decide +kernel⟩
theorem sc__law_rate : FnScope ["_law_plain_here", "_law_shared"] ["_law_plain_here"] (defScope s__law_rate) := ⟨rfl, rfl, rfl, by decide +kernel, rfl, by decide +kernel, by decide +kernel⟩
section
variable {P : Program} {w : World} {K : PySem.W.Frag} {mg : Str → Option Value} {base : Heap} {gs : List Str}
theorem ok__law_is_integer {f : Addr} {fd : FuncData} (F : FunD K "_law_is_integer" "_law_is_integer" (defArgs s__law_is_integer) (defBody s__law_is_integer) (defScope s__law_is_integer) [] [] f fd) (T : Txt K mg gs FS) : FnOk P w K mg base CX0 1 f fd ["_law_thing"] spIsInt := by
  refine F.ok sc__law_is_integer (fun vs H Q E h => ?_) (fun cdv A outer s H vs Q E hr h => ?_)
  · obtain ⟨i, rfl, _⟩ := h
    rfl
  · obtain ⟨i, rfl, q⟩ := h
    refine ⟨_, PSs.nox (pss_one (ps_ret (pe_and (pe_callB call_isi rfl (T.fr _ (by decide +kernel)) (by decide +kernel) (pa_cons (pv 0) (pa_cons (pe_bltn (v := .ty "int") rfl (T.fr _ (by decide +kernel)) (by decide +kernel) rfl) pa_nil))) (pe_one (pe_not (pe_callB call_isi rfl (T.fr _ (by decide +kernel)) (by decide +kernel) (pa_cons (pv 0) (pa_cons (pe_bltn (v := .ty "bool") rfl (T.fr _ (by decide +kernel)) (by decide +kernel) rfl) pa_nil)))))))), ?_⟩
    exact ⟨_, rfl, _, _, _, _, true, rfl, .ty "int", .base (.int i), kit_i_i K, true, rfl, _, rfl, _, _, _, _, false, rfl, .ty "bool", .base (.int i), kit_i_b K, false, rfl, q⟩
theorem ok__law_is_count {f : Addr} {fd : FuncData} (F : FunD K "_law_is_count" "_law_is_count" (defArgs s__law_is_count) (defBody s__law_is_count) (defScope s__law_is_count) [] [] f fd) (T : Txt K mg gs FS) (c__law_is_integer : Cal P w K mg base 1 "_law_is_integer" spIsInt) : FnOk P w K mg base CX0 2 f fd ["_law_thing"] spIsCount := by
  refine F.ok sc__law_is_count (fun vs H Q E h => ?_) (fun cdv A outer s H vs Q E hr h => ?_)
  · obtain ⟨i, rfl, _⟩ := h
    rfl
  · obtain ⟨i, rfl, q⟩ := h
    refine ⟨_, PSs.nox (pss_one (ps_ret (pe_and (pe_c c__law_is_integer hr (by decide) rfl (pa_cons (pv 0) pa_nil)) (pe_one (pe_cmpR op_ge (pv 0) pe_int (nomark _)))))), ?_⟩
    exact ⟨_, rfl, i, rfl, true, rfl, _, rfl, _, _, rfl, rfl, q⟩
theorem ok__law_truth {f : Addr} {fd : FuncData} (F : FunD K "_law_truth" "_law_truth" (defArgs s__law_truth) (defBody s__law_truth) (defScope s__law_truth) [] [] f fd) (T : Txt K mg gs FS) : FnOk P w K mg base CX0 1 f fd ["_law_told", "_law_due"] spTruth := by
  refine F.ok sc__law_truth (fun vs H Q E h => ?_) (fun cdv A outer s H vs Q E hr h => ?_)
  · obtain ⟨b, c, rfl, _⟩ := h
    rfl
  · obtain ⟨b, c, rfl, q⟩ := h
    refine ⟨_, PSs.nox (pss_one (ps_ret (pe_and (pe_callB call_isi rfl (T.fr _ (by decide +kernel)) (by decide +kernel) (pa_cons (pv 0) (pa_cons (pe_bltn (v := .ty "bool") rfl (T.fr _ (by decide +kernel)) (by decide +kernel) rfl) pa_nil))) (pe_one (pe_cmpR op_eq (pv 0) (pv 1) (nomark _)))))), ?_⟩
    refine ⟨_, rfl, _, _, _, _, true, rfl, .ty "bool", .base (.bl b), kit_b_b K, true, rfl, ?_⟩
    refine iteT ⟨_, rfl, _, rfl, rfl, ?_⟩
    show Q (V.bl (decide (V.bl b = V.bl c))) H
    rw [show decide (V.bl b = V.bl c) = (b == c) from dec_bl]
    exact q
theorem ok__law_is_value {f : Addr} {fd : FuncData} (F : FunD K "_law_is_value" "_law_is_value" (defArgs s__law_is_value) (defBody s__law_is_value) (defScope s__law_is_value) [] [] f fd) (T : Txt K mg gs FS) (c__law_is_count : Cal P w K mg base 2 "_law_is_count" spIsCount) : FnOk P w K mg base CX0 3 f fd ["_law_thing"] spIsValue := by
  refine F.ok sc__law_is_value (fun vs H Q E h => ?_) (fun cdv A outer s H vs Q E hr h => ?_)
  · obtain ⟨o, rfl, _⟩ := h
    rfl
  · obtain ⟨o, rfl, ho, q⟩ := h
    refine ⟨_, PSs.nox (pss_one (ps_ret (pe_or (pe_cmpR op_isN (pv 0) pe_non (nomark _)) (pe_one (pe_c c__law_is_count hr (by decide) rfl (pa_cons (pv 0) pa_nil)))))), ?_⟩
    cases o with
    | none => exact ⟨_, rfl, rfl, _, rfl, iteT q⟩
    | some i =>
      refine ⟨_, rfl, rfl, _, rfl, iteF ⟨_, rfl, i, rfl, ?_⟩⟩
      rw [decide_eq_true (ho i rfl)]
      exact q
theorem ok__law_end {f : Addr} {fd : FuncData} (F : FunD K "_law_end" "_law_end" (defArgs s__law_end) (defBody s__law_end) (defScope s__law_end) [] [] f fd) (T : Txt K mg gs FS) : FnOk P w K mg base CX0 1 f fd ["_law_raw_here"] (spLEnd K) := by
  refine F.ok sc__law_end (fun vs H Q E h => ?_) (fun cdv A outer s H vs Q E hr h => ?_)
  · obtain ⟨p, y, rfl, _⟩ := h
    rfl
  · obtain ⟨p, ⟨h, l, r⟩, rfl, ⟨a, b, hp, ha, hb⟩, q⟩ := h
    dsimp only at hp ha hb q
    refine ⟨_, PSs.nox (pss_cons (ps_if (PW.pt (pw_or (pt_cmpR op_eq (pe_callB call_len_seq rfl (T.fr _ (by decide +kernel)) boot_len (pa_cons (pe_ix (ixt (K := K)) (pv 0) pe_int fun _ _ => rfl) pa_nil)) pe_int (nomark _)) (pw_or1 (pt_cmpR op_gt (pe_ix (ixt (K := K)) (pv 0) pe_int fun _ _ => rfl) pe_int (nomark _))))) (pss_one (ps_ret pe_non)) pss_nil) (pss_one (ps_ret (pe_ix (ixt (K := K)) (pe_ix (ixt (K := K)) (pv 0) pe_int fun _ _ => rfl) (pe_un un_neg pe_int) fun _ _ => rfl)))), ?_⟩
    refine ⟨_, rfl, p, _, _, _, rfl, rfl, hp, at1, b, _, rfl, Or.inr hb, rfl, _, rfl, ?_⟩
    by_cases hl : l = []
    · refine (iteT' (decide_eq_true (by rw [hl]; rfl)) ?_)
      refine iteT ?_
      unfold fin_ at q
      rw [if_pos (.inl hl)] at q
      exact q
    · refine (iteF' (decide_eq_false (fun z => hl ?_)) ?_)
      · injection z with z
        rw [vI_len] at z
        exact List.eq_nil_of_length_eq_zero (by omega)
      refine ⟨_, rfl, p, _, _, _, rfl, rfl, hp, at2, _, _, rfl, rfl, _, rfl, ?_⟩
      refine ite2 (fun h1 => ?_) (fun h1 => ?_)
      · have h2 : (0 : Int) < r := of_decide_eq_true h1
        unfold fin_ at q
        rw [if_pos (.inr h2)] at q
        exact q
      · have h2 : ¬ (0 : Int) < r := fun z => h1 (decide_eq_true z)
        unfold fin_ at q
        rw [if_neg (fun z => z.elim hl h2)] at q
        exact ⟨_, rfl, p, _, _, _, rfl, rfl, hp, at1, _, rfl, b, _, _, _, rfl, rfl, hb, at_last (len_pos hl), q⟩
theorem ok__law_at {f : Addr} {fd : FuncData} (F : FunD K "_law_at" "_law_at" (defArgs s__law_at) (defBody s__law_at) (defScope s__law_at) [] [] f fd) (T : Txt K mg gs FS) (c__law_end : Cal P w K mg base 1 "_law_end" (spLEnd K)) : FnOk P w K mg base CX0 2 f fd ["_law_raw_here", "_law_place"] (spLAt K) := by
  refine F.ok sc__law_at (fun vs H Q E h => ?_) (fun cdv A outer s H vs Q E hr h => ?_)
  · obtain ⟨x, y, n, rfl, _⟩ := h
    rfl
  · obtain ⟨p, ⟨h, l, r⟩, n, rfl, fo, sm, q⟩ := h
    have fo0 := fo
    obtain ⟨a, b, hp, ha, hb⟩ := fo0
    dsimp only at hp ha hb q
    refine ⟨_, PSs.nox (pss_cons (ps_if (pt_cmpR op_isN (pv 1) pe_non (nomark _)) (pss_one (ps_ret (pe_c c__law_end hr (by decide) rfl (pa_cons (pv 0) pa_nil)))) pss_nil) (pss_cons (ps_if (pt_cmpR op_eq (pv 1) pe_int (nomark _)) (pss_one (ps_ret pe_int)) pss_nil) (pss_cons (ps_if (pt_cmpR op_le (pv 1) (pe_callB call_len_seq rfl (T.fr _ (by decide +kernel)) boot_len (pa_cons (pe_ix (ixt (K := K)) (pv 0) pe_int fun _ _ => rfl) pa_nil)) (nomark _)) (pss_one (ps_ret (pe_ix (ixt (K := K)) (pe_ix (ixt (K := K)) (pv 0) pe_int fun _ _ => rfl) (pe_op op_sub (pv 1) pe_int) fun _ _ => rfl))) pss_nil) (pss_cons (ps_if (pt_cmpR op_eq (pe_callB call_len_seq rfl (T.fr _ (by decide +kernel)) boot_len (pa_cons (pe_ix (ixt (K := K)) (pv 0) pe_int fun _ _ => rfl) pa_nil)) pe_int (nomark _)) (pss_one (ps_ret pe_non)) pss_nil) (pss_cons (ps_set (i := 2) sc__law_at.nd rfl (Or.inl rfl) (pe_op op_sub (pe_op op_sub (pv 1) (pe_callB call_len_seq rfl (T.fr _ (by decide +kernel)) boot_len (pa_cons (pe_ix (ixt (K := K)) (pv 0) pe_int fun _ _ => rfl) pa_nil))) pe_int)) (pss_one (ps_ret (pe_op op_add (pe_ix (ixt (K := K)) (pe_ix (ixt (K := K)) (pv 0) pe_int fun _ _ => rfl) (pe_op op_mod (pv 2) (pe_callB call_len_seq rfl (T.fr _ (by decide +kernel)) boot_len (pa_cons (pe_ix (ixt (K := K)) (pv 0) pe_int fun _ _ => rfl) pa_nil))) fun _ _ => rfl) (pe_op op_mul (pe_ix (ixt (K := K)) (pv 0) pe_int fun _ _ => rfl) (pe_op op_fdiv (pv 2) (pe_callB call_len_seq rfl (T.fr _ (by decide +kernel)) boot_len (pa_cons (pe_ix (ixt (K := K)) (pv 0) pe_int fun _ _ => rfl) pa_nil)))))))))))), ?_⟩
    cases n with
    | none => exact ⟨_, rfl, rfl, _, rfl, iteT ⟨_, rfl, p, _, rfl, fo, q⟩⟩
    | some n =>
      refine ⟨_, rfl, rfl, _, rfl, iteF ?_⟩
      refine ⟨_, rfl, rfl, _, rfl, ite2 (fun h1 => ?_) (fun h1 => ?_)⟩
      · have h2 : n = 0 := by
          have := of_decide_eq_true h1
          injection this with this
          omega
        subst h2
        exact q
      have n0 : n ≠ 0 := fun z => h1 (by rw [z]; exact decide_eq_true rfl)
      unfold val_ at q
      dsimp only at q
      rw [if_neg n0] at q
      refine ⟨_, rfl, _, rfl, p, _, _, _, rfl, rfl, hp, at0, a, _, rfl, Or.inr ha, ?_⟩
      rw [vI_len]
      refine ⟨_, _, rfl, rfl, _, rfl, ite2 (fun h1 => ?_) (fun h1 => ?_)⟩
      · have h2 : n ≤ h.length := by
          have := of_decide_eq_true h1
          omega
        unfold at_ at q
        rw [if_pos h2] at q
        exact ⟨_, rfl, p, _, _, _, rfl, rfl, hp, at0, _, rfl, _, _, rfl, rfl, a, _, _, _, rfl, rfl, ha, at_int (k := n - 1) (by omega) (by omega), q⟩
      have h2 : ¬ n ≤ h.length := fun z => h1 (decide_eq_true (by omega))
      refine ⟨_, rfl, p, _, _, _, rfl, rfl, hp, at1, b, _, rfl, Or.inr hb, rfl, _, rfl, ?_⟩
      by_cases hl : l = []
      · refine (iteT' (decide_eq_true (by rw [hl]; rfl)) ?_)
        unfold at_ at q
        rw [if_neg h2, if_pos hl] at q
        exact q
      have hp0 := len_pos hl
      have hsl := sm.l
      dsimp only at hsl
      rw [at_loop hl (by omega)] at q
      refine (iteF' (decide_eq_false (fun z => hl ?_)) ?_)
      · injection z with z
        rw [vI_len] at z
        exact List.eq_nil_of_length_eq_zero (by omega)
      refine ⟨_, rfl, _, rfl, p, _, _, _, rfl, rfl, hp, at0, a, _, rfl, Or.inr ha, _, _, rfl, rfl, _, _, rfl, rfl, ?_⟩
      rw [vI_len]
      refine ⟨_, rfl, p, _, _, _, rfl, rfl, hp, at1, _, rfl, _, rfl, p, _, _, _, rfl, rfl, hp, at1, b, _, rfl, Or.inr hb, _, _, rfl, rfl, (by rw [vI_len]; show (0 : Int) < (l.length : Int); omega), ?_⟩
      rw [vI_len]
      have e1 : (n : Int) - (h.length : Int) - 1 = ((n - h.length - 1 : Nat) : Int) := by omega
      have e2 : ((n : Int) - (h.length : Int) - 1) % (l.length : Int) = (((n - h.length - 1) % l.length : Nat) : Int) := by rw [e1]; rfl
      refine ⟨b, _, _, _, rfl, rfl, hb, at_int (k := (n - h.length - 1) % l.length) e2 (Nat.mod_lt _ hp0), ?_⟩
      have r0 := sm.r0
      have r1 := sm.r1
      dsimp only at r0 r1
      refine ⟨_, rfl, p, _, _, _, rfl, rfl, hp, at2, _, rfl, _, rfl, p, _, _, _, rfl, rfl, hp, at1, b, _, rfl, Or.inr hb, ?_⟩
      rw [vI_len]
      refine ⟨_, _, rfl, rfl, ⟨by omega, by omega⟩, _, _, rfl, rfl, Or.inl ⟨by omega, by omega⟩, _, _, rfl, rfl, ?_⟩
      have e3 : l.getD ((n - h.length - 1) % l.length) 0 + r * (((n : Int) - (h.length : Int) - 1) / (l.length : Int)) = walk l r (n - h.length - 1) := by
        unfold walk
        rw [e1]
        rfl
      show Q (V.int _) _
      rw [e3]
      exact q
theorem ok__law_gcd {f : Addr} {fd : FuncData} (F : FunD K "_law_gcd" "_law_gcd" (defArgs s__law_gcd) (defBody s__law_gcd) (defScope s__law_gcd) [] [] f fd) (T : Txt K mg gs FS) : FnOk P w K mg base CX0 1 f fd ["_law_one", "_law_other_here"] spGcd := by
  refine F.ok sc__law_gcd (fun vs H Q E h => ?_) (fun cdv A outer s H vs Q E hr h => ?_)
  · obtain ⟨a, b, rfl, _⟩ := h
    rfl
  · obtain ⟨a, b, rfl, q⟩ := h
    refine ⟨_, PSs.nox (pss_cons (ps_while PassesOwn.never (pt_cmpR op_gt (pv 1) pe_int (nomark _)) (pss_one (ps_par (i := 0) (j := 1) (by rfl) sc__law_gcd.nd rfl rfl (by decide) rfl rfl (pa_cons (pv 1) (pa_cons (pe_op op_mod (pe_callTy call_int1 rfl (T.fr _ (by decide +kernel)) (by decide +kernel) (pa_cons (pv 0) pa_nil)) (pv 1)) pa_nil)) (by rfl)))) (pss_one (ps_ret (pv 0)))), ?_⟩
    refine ⟨fun k σ G => Same H G ∧ ∃ a' : Nat, Nat.gcd a' k = Nat.gcd a b ∧ σ = [some (.int (a' : Int)), some (.int (k : Int))], ⟨b, Same.refl H, a, rfl, rfl⟩, ?_⟩
    rintro k σ G ⟨s1, a', hg, rfl⟩
    refine ⟨_, rfl, _, _, rfl, rfl, _, rfl, ite2 (fun h1 => ?_) (fun h1 => ?_)⟩
    · have k0 : 0 < k := by
        have := of_decide_eq_true h1
        omega
      refine ⟨fun σ' G' => Same H G' ∧ σ' = [some (.int (k : Int)), some (.int ((a' % k : Nat) : Int))], fun σ' G' ⟨z1, z2⟩ => ⟨a' % k, Nat.mod_lt _ k0, z1, k, ?_, z2⟩, ?_⟩
      · rw [← hg, Nat.gcd_comm a' k]
        exact (Nat.gcd_comm _ _).trans ((Nat.gcd_rec k a').symm)
      · refine ⟨_, rfl, _, rfl, Or.inl ⟨_, rfl, _, rfl, _, _, rfl, rfl, (by show (0 : Int) < (k : Int); omega), ?_⟩⟩
        exact ⟨_, _, rfl, s1, rfl⟩
    · have k0 : k = 0 := by
        have : ¬ (0 : Int) < (k : Int) := fun z => h1 (decide_eq_true z)
        omega
      subst k0
      rw [Nat.gcd_zero_right] at hg
      subst hg
      exact ⟨_, rfl, q _ s1⟩
theorem ok__law_rate {f : Addr} {fd : FuncData} (F : FunD K "_law_rate" "_law_rate" (defArgs s__law_rate) (defBody s__law_rate) (defScope s__law_rate) [] [] f fd) (T : Txt K mg gs FS) (c__law_gcd : Cal P w K mg base 1 "_law_gcd" spGcd) : FnOk P w K mg base CX0 2 f fd ["_law_plain_here"] (spLRate K) := by
  refine F.ok sc__law_rate (fun vs H Q E h => ?_) (fun cdv A outer s H vs Q E hr h => ?_)
  · obtain ⟨p, y, rfl, _⟩ := h
    rfl
  · obtain ⟨p, ⟨h, l, r⟩, rfl, fo, sm, q1, q2⟩ := h
    obtain ⟨a, b, hp, ha, hb⟩ := id fo
    dsimp only at hp ha hb q1 q2
    refine ⟨_, PSs.nox (pss_cons (ps_if (pt_cmpR op_eq (pe_callB call_len_seq rfl (T.fr _ (by decide +kernel)) boot_len (pa_cons (pe_ix (ixt (K := K)) (pv 0) pe_int fun _ _ => rfl) pa_nil)) pe_int (nomark _)) (pss_one (ps_ret pe_non)) pss_nil) (pss_cons (ps_set (i := 1) sc__law_rate.nd rfl (Or.inl rfl) (pe_c c__law_gcd hr (by decide) rfl (pa_cons (pe_callB call_len_seq rfl (T.fr _ (by decide +kernel)) boot_len (pa_cons (pe_ix (ixt (K := K)) (pv 0) pe_int fun _ _ => rfl) pa_nil)) (pa_cons (pe_ix (ixt (K := K)) (pv 0) pe_int fun _ _ => rfl) pa_nil)))) (pss_one (ps_ret (pe_tup (pa_cons (pe_op op_fdiv (pe_ix (ixt (K := K)) (pv 0) pe_int fun _ _ => rfl) (pv 1)) (pa_cons (pe_op op_fdiv (pe_callB call_len_seq rfl (T.fr _ (by decide +kernel)) boot_len (pa_cons (pe_ix (ixt (K := K)) (pv 0) pe_int fun _ _ => rfl) pa_nil)) (pv 1)) pa_nil))))))), ?_⟩
    refine ⟨_, rfl, p, _, _, _, rfl, rfl, hp, at1, b, _, rfl, Or.inr hb, rfl, _, rfl, ?_⟩
    by_cases hl : l = []
    · exact iteT' (decide_eq_true (by rw [hl]; rfl)) (q1 hl)
    refine (iteF' (decide_eq_false (fun z => hl ?_)) ?_)
    · injection z with z
      rw [vI_len] at z
      exact List.eq_nil_of_length_eq_zero (by omega)
    have hp0 := len_pos hl
    have hsl := sm.l
    have r0 := sm.r0
    dsimp only at hsl r0
    obtain ⟨rn, hrn⟩ : ∃ rn : Nat, r = (rn : Int) := ⟨r.toNat, by omega⟩
    refine ⟨_, rfl, p, _, _, _, rfl, rfl, hp, at1, b, _, rfl, Or.inr hb, _, rfl, p, _, _, _, rfl, rfl, hp, at2, l.length, rn, by rw [vI_len, hrn]; rfl, fun H1 s1 => ?_⟩
    have g0 : 0 < Nat.gcd l.length rn := Nat.gcd_pos_of_pos_left _ hp0
    have g1 : Nat.gcd l.length rn ≤ l.length := Nat.gcd_le_left _ hp0
    have hp1 := NF.Same.tup s1 hp
    have hb1 := NF.Same.tup s1 hb
    refine ⟨_, rfl, p, _, _, _, rfl, rfl, hp1, at2, _, rfl, _, _, rfl, rfl, ⟨by omega, by omega⟩, ?_⟩
    refine ⟨_, rfl, p, _, _, _, rfl, rfl, hp1, at1, b, _, rfl, Or.inr hb1, ?_⟩
    rw [vI_len]
    refine ⟨_, rfl, _, _, rfl, rfl, ⟨by omega, by omega⟩, ?_⟩
    refine ⟨(by show 2 ≤ sizeLine; decide), fun p2 hpn => ?_⟩
    have z := q2 hl H1 p2 s1 hpn
    have e : (Nat.gcd r.natAbs l.length) = Nat.gcd l.length rn := by rw [hrn, Int.natAbs_natCast, Nat.gcd_comm]
    unfold rate_ at z
    dsimp only at z
    rw [e] at z
    exact z
end
end K01
set_option Elab.async false
set_option linter.all false
set_option maxRecDepth 100000
set_option maxHeartbeats 4000000
namespace NT
theorem climbs_snoc : ∀ {l : List Int} {lo v : Int}, climbs lo l → (if l.length = 0 then lo else l.getD (l.length - 1) 0) ≤ v → climbs lo (l ++ [v])
  | [], lo, v, _, h => ⟨by simpa using h, trivial⟩
  | x :: l, lo, v, c, h => by
    refine ⟨c.1, climbs_snoc c.2 ?_⟩
    rw [if_neg (by simp)] at h
    by_cases z : l.length = 0
    · rw [if_pos z]
      have : l = [] := List.eq_nil_of_length_eq_zero z
      subst this
      simpa using h
    · rw [if_neg z]
      obtain ⟨j, hj⟩ : ∃ j, l.length = j + 1 := ⟨l.length - 1, by omega⟩
      rw [List.length_cons, hj] at h
      rw [hj]
      simpa using h
theorem climbs_low : ∀ {l : List Int} {lo : Int} {i : Nat}, climbs lo l → i < l.length → lo ≤ l.getD i 0
  | [], _, _, _, h => by simp at h
  | x :: l, lo, 0, c, _ => c.1
  | x :: l, lo, i + 1, c, h => by
    have := climbs_low (i := i) c.2 (by simpa using h)
    have := c.1
    show lo ≤ l.getD i 0
    omega
theorem climbs_le {l : List Int} {lo lo' : Int} (h : climbs lo l) (e : lo' ≤ lo) : climbs lo' l := by
  cases l with
  | nil => trivial
  | cons x l => exact ⟨Int.le_trans e h.1, h.2⟩
structure RawOk (x : List Int × List Int × Int) : Prop where
  g : Good x.1 x.2.1 x.2.2
  h : x.1.length ≤ 400
  l : x.2.1.length ≤ 400
  r : x.2.2 ≤ 100000
/-- as it is drawn -/
structure Raw0 (x : List Int × List Int × Int) : Prop where
  g : Good x.1 x.2.1 x.2.2
  h : x.1.length ≤ 100
  l : x.2.1.length ≤ 100
  r : x.2.2 ≤ 1000
  f : (x.1 ++ x.2.1 ++ [5]).getD 0 0 ≤ 1000
theorem Raw0.ok {x : List Int × List Int × Int} (a : Raw0 x) : RawOk x := ⟨a.g, Nat.le_trans a.h (by decide), Nat.le_trans a.l (by decide), Int.le_trans a.r (by decide)⟩
theorem first_le {h l : List Int} (h1 : h ≠ [] → h.getD 0 0 ≤ 1000) (h2 : h = [] → l ≠ [] → l.getD 0 0 ≤ 1000) : (h ++ l ++ [5]).getD 0 0 ≤ 1000 := by
  cases h with
  | cons x h => exact h1 (by simp)
  | nil => cases l with
    | cons y l => exact h2 rfl (by simp)
    | nil => decide
end NT
namespace K01
open PySem PySem.Spec PyProof.Rows L2 He NF RZ NT
def spRising : Sp := fun vs H Q _ => ∃ (H0 : Hp) (p : Addr) (m : Nat) (lo st : Int), vs = [.ref p, .int (m : Int), .int lo, .int st] ∧ Same H0 H ∧ H0 p = none ∧ Src H p ∧ m ≤ 100 ∧ 0 ≤ lo ∧ 0 < st ∧ st < 1073741824 ∧
  ∀ q l H', Same H0 H' → Src H' p → H' q = some (.lst (vI l)) → H0 q = none → q ≠ p → l.length = m → climbs lo l → (∀ i, i < m → l.getD i 0 ≤ lo + st * ((i : Int) + 1)) → Q (.ref q) H'
def spRaw (K : PySem.W.Frag) : Sp := fun vs H Q _ => ∃ (H0 : Hp) (p : Addr), vs = [.ref p, .bl false] ∧ Same H0 H ∧ H0 p = none ∧ Src H p ∧
  ∀ q x H', Same H0 H' → Src H' p → Raw0 x → FormAt K H' q x → Q (.ref q) H'
theorem sc__law_rising : FnScope ["_law_source_here", "_law_many", "_law_low", "_law_steps", "_law_told", "_law_value", "_law_k"] ["_law_source_here", "_law_many", "_law_low", "_law_steps"] (defScope s__law_rising) := ⟨rfl, rfl, rfl, by decide +kernel, rfl, by decide +kernel, by decide +kernel⟩
theorem sc__law_raw : FnScope ["_law_source_here", "_law_steady", "_law_head", "_law_low", "_law_many", "_law_loop", "_law_more", "_law_rise"] ["_law_source_here", "_law_steady"] (defScope s__law_raw) := ⟨rfl, rfl, rfl, by decide +kernel, rfl, by decide +kernel, by decide +kernel⟩
theorem getD_snoc {l : List Int} {v : Int} {i : Nat} : (l ++ [v]).getD i 0 = if i < l.length then l.getD i 0 else if i = l.length then v else 0 := by
  by_cases h : i < l.length
  · rw [if_pos h, getD_app1 h]
  · rw [if_neg h, getD_app2 (by omega)]
    by_cases z : i = l.length
    · rw [if_pos z, z, Nat.sub_self]; rfl
    · rw [if_neg z]
      obtain ⟨j, hj⟩ : ∃ j, i - l.length = j + 1 := ⟨i - l.length - 1, by omega⟩
      rw [hj]; rfl
theorem last_snoc {l : List Int} {lo v : Int} : (if (l ++ [v]).length = 0 then lo else (l ++ [v]).getD ((l ++ [v]).length - 1) 0) = v := by
  have e : (l ++ [v]).length = l.length + 1 := by simp
  rw [e, if_neg (Nat.succ_ne_zero _), Nat.add_sub_cancel, getD_snoc, if_neg (Nat.lt_irrefl _), if_pos rfl]
theorem src_ne {H : Hp} {p q : Addr} {o : HO} (hs : Src H p) (hq : H q = none) : q ≠ p := fun z => by
  obtain ⟨_, _, _, h⟩ := hs
  rw [z, h] at hq
  cases hq
theorem src_put {H : Hp} {p q : Addr} {o : HO} (hs : Src H p) (n : q ≠ p) : Src (upd H q o) p := by
  obtain ⟨a, b, c, h⟩ := hs
  exact ⟨a, b, c, by rw [upd_ne (Ne.symm n)]; exact h⟩
theorem same_none {H0 H : Hp} {q : Addr} (s : Same H0 H) (h : H q = none) : H0 q = none := L2.Same.free s h
section
variable {P : Program} {w : World} {K : PySem.W.Frag} {mg : Str → Option Value} {base : Heap} {gs : List Str}
theorem ok__law_rising {f : Addr} {fd : FuncData} (F : FunD K "_law_rising" "_law_rising" (defArgs s__law_rising) (defBody s__law_rising) (defScope s__law_rising) [] [] f fd) (T : Txt K mg gs FS) (c__law_pick : Cal P w K mg base 1 "_law_pick" spPick) : FnOk P w K mg base CX0 2 f fd ["_law_source_here", "_law_many", "_law_low", "_law_steps"] spRising := by
  refine F.ok sc__law_rising (fun vs H Q E h => ?_) (fun cdv A outer s H vs Q E hr h => ?_)
  · obtain ⟨H0, p, m, lo, st, rfl, _⟩ := h
    rfl
  · obtain ⟨H0, p, m, lo, st, rfl, s0, n0, hs, hm, hlo, hst, hst2, q⟩ := h
    refine ⟨_, PSs.nox (pss_cons (ps_set (i := 4) sc__law_rising.nd rfl (Or.inl rfl) (pe_lst pa_nil)) (pss_cons (ps_set (i := 5) sc__law_rising.nd rfl (Or.inl rfl) (pv 2)) (pss_cons (ps_for PassesOwn.never rfl (pi_range1 rfl (T.fr _ (by decide +kernel)) (pa_cons (pv 1) pa_nil)) (pg_name (i := 6) sc__law_rising.nd rfl (Or.inl rfl)) (pss_cons (ps_set (i := 5) sc__law_rising.nd rfl (Or.inl rfl) (pe_op op_add (pv 5) (pe_c c__law_pick hr (by decide) rfl (pa_cons (pv 0) (pa_cons (pv 3) pa_nil))))) (pss_one (ps_expr (pe_bm PySem.F.plainAttrs_list PySem.F.slot_list_append PySem.F.type_list_append mt_append (pv 4) (pa_cons (pv 5) pa_nil)))))) (pss_one (ps_ret (pv 4)))))), ?_⟩
    refine ⟨(by show 0 ≤ sizeLine; decide), fun t ht => ?_⟩
    have htp : t ≠ p := src_ne (o := .lst []) hs ht
    have h0t := same_none s0 ht
    refine ⟨_, rfl, ?_⟩
    refine ⟨_, rfl, (m : Int), rfl, by omega, by omega, ?_⟩
    refine for_range (lo := 0) (n := m) (fun i σ G => Same H0 G ∧ Src G p ∧ ∃ l : List Int, G t = some (.lst (vI l)) ∧ l.length = i ∧ climbs lo l ∧ (∀ j, j < i → l.getD j 0 ≤ lo + st * ((j : Int) + 1)) ∧
      ∃ k : Option V, σ = [some (.ref p), some (.int (m : Int)), some (.int lo), some (.int st), some (.ref t), some (.int (if l.length = 0 then lo else l.getD (l.length - 1) 0)), k])
      ⟨NF.Same.put s0 h0t, src_put hs htp, [], upd_same, rfl, trivial, fun j hj => by omega, none, rfl⟩ ?_ ?_
    · rintro i σ G hi ⟨s1, hs1, l, hl, hlen, hc, hb, k, rfl⟩
      refine ⟨_, rfl, _, rfl, _, rfl, wo G p, p, st, rfl, wo_same', wo_none, hs1, hst, hst2, fun d G' d0 d1 s2 hs2 => ?_⟩
      refine ⟨_, _, rfl, rfl, ?_⟩
      have hl2 : G' t = some (.lst (vI l)) := s2 _ _ ((wo_ne htp).trans hl)
      refine ⟨_, rfl, Or.inl ⟨rfl, _, SqL.of hl2⟩, _, rfl, t, _, _, rfl, rfl, hl2, ?_, ?_⟩
      · rw [vI_len, hlen]
        exact Nat.lt_of_le_of_lt (show i ≤ 100 by omega) (by decide)
      have hlast : (if l.length = 0 then lo else l.getD (l.length - 1) 0) ≤ lo + st * (i : Int) := by
        by_cases z : l.length = 0
        · rw [if_pos z, ← hlen, z]
          simp
        · rw [if_neg z]
          have := hb (l.length - 1) (by omega)
          have e : ((l.length - 1 : Nat) : Int) + 1 = (i : Int) := by omega
          rw [e] at this
          exact this
      refine ⟨NF.Same.put (wo_same s1 n0 s2) h0t, src_put hs2 htp, l ++ [(if l.length = 0 then lo else l.getD (l.length - 1) 0) + d], ?_, ?_, climbs_snoc hc (by omega), fun j hj => ?_, some (.int ((0 : Int) + (i : Int))), ?_⟩
      · rw [upd_same, ← vI_app]
        rfl
      · rw [List.length_append, hlen]; rfl
      · rw [getD_snoc]
        by_cases z : j < l.length
        · rw [if_pos z]
          exact hb j (by omega)
        · rw [if_neg z, if_pos (by omega)]
          have e : st * ((j : Int) + 1) = st * (i : Int) + st := by
            have : j = i := by omega
            rw [this, Int.mul_add, Int.mul_one]
          omega
      · rw [last_snoc]
        rfl
    · rintro σ G ⟨s1, hs1, l, hl, hlen, hc, hb, k, rfl⟩
      exact ⟨_, rfl, q t l G s1 hs1 hl h0t htp hlen hc hb⟩
theorem idx_k {l : List Int} {d lo hi : Int} {n : Nat} (h0 : 0 ≤ d) (h1 : d < (n : Int)) (hl : l.length = n) (hb : ∀ k, k < n → lo ≤ l.getD k 0 ∧ l.getD k 0 ≤ hi) : ∃ v : Int, atI (vI l) d = some (.int v) ∧ lo ≤ v ∧ v ≤ hi :=
  ⟨l.getD d.toNat 0, at_int (by omega) (by omega), hb _ (by omega)⟩
theorem more_le {m : Int} (h0 : 1 ≤ m) (h1 : m ≤ 4) : ∀ k, k < 8 → 0 ≤ ([1, 2, 1, 0, 3, m, 2, 1] : List Int).getD k 0 ∧ ([1, 2, 1, 0, 3, m, 2, 1] : List Int).getD k 0 ≤ 4
  | 0, _ => by simp
  | 1, _ => by simp
  | 2, _ => by simp
  | 3, _ => by simp
  | 4, _ => by simp
  | 5, _ => ⟨by show 0 ≤ m; omega, by show m ≤ 4; omega⟩
  | 6, _ => by simp
  | 7, _ => by simp
  | n + 8, h => by omega
theorem climbs_last : ∀ {l : List Int} {lo : Int}, climbs lo l → l ≠ [] → l.getD 0 0 ≤ l.getD (l.length - 1) 0
  | [], _, _, h => absurd rfl h
  | [x], _, _, _ => Int.le_refl _
  | x :: y :: l, lo, c, _ => climbs_low (l := y :: l) (i := l.length) c.2 (by simp)
theorem ok__law_raw {f : Addr} {fd : FuncData} (F : FunD K "_law_raw" "_law_raw" (defArgs s__law_raw) (defBody s__law_raw) (defScope s__law_raw) [] [] f fd) (T : Txt K mg gs FS) (c__law_pick : Cal P w K mg base 1 "_law_pick" spPick) (c__law_rising : Cal P w K mg base 2 "_law_rising" spRising) : FnOk P w K mg base CX0 3 f fd ["_law_source_here", "_law_steady"] (spRaw K) := by
  refine F.ok sc__law_raw (fun vs H Q E h => ?_) (fun cdv A outer s H vs Q E hr h => ?_)
  · obtain ⟨H0, p, rfl, _⟩ := h
    rfl
  · obtain ⟨H0, p, rfl, s0, n0, hs, q⟩ := h
    refine ⟨_, PSs.nox (pss_cons (ps_set (i := 2) sc__law_raw.nd rfl (Or.inl rfl) (pe_c c__law_rising hr (by decide) rfl (pa_cons (pv 0) (pa_cons (pe_ix (ixl (K := K)) (pe_lst (pa_cons pe_int (pa_cons pe_int (pa_cons pe_int (pa_cons pe_int (pa_cons pe_int (pa_cons pe_int (pa_cons pe_int (pa_cons pe_int pa_nil))))))))) (pe_c c__law_pick hr (by decide) rfl (pa_cons (pv 0) (pa_cons pe_int pa_nil))) fun _ _ => rfl) (pa_cons pe_int (pa_cons pe_int pa_nil)))))) (pss_cons (ps_set (i := 3) sc__law_raw.nd rfl (Or.inl rfl) (pe_ifExp (pt_cmpR op_gt (pe_callB call_len_seq rfl (T.fr _ (by decide +kernel)) boot_len (pa_cons (pv 2) pa_nil)) pe_int (nomark _)) (pe_ix (ixl (K := K)) (pv 2) (pe_un un_neg pe_int) fun _ _ => rfl) pe_int)) (pss_cons (ps_if (PW.pt (pw_and (pt_not (pt_val (pv 1))) (pw_and1 (pt_cmpR op_eq (pe_c c__law_pick hr (by decide) rfl (pa_cons (pv 0) (pa_cons pe_int pa_nil))) pe_int (nomark _))))) (pss_one (ps_ret (pe_tup (pa_cons (pe_callTy cr_tup rfl (T.fr _ (by decide +kernel)) (by decide +kernel) (pa_cons (pv 2) pa_nil)) (pa_cons (pe_tup pa_nil) (pa_cons pe_int pa_nil)))))) pss_nil) (pss_cons (ps_set (i := 4) sc__law_raw.nd rfl (Or.inl rfl) (pe_ix (ixl (K := K)) (pe_lst (pa_cons pe_int (pa_cons pe_int (pa_cons pe_int (pa_cons pe_int (pa_cons pe_int (pa_cons pe_int (pa_cons pe_int (pa_cons pe_int pa_nil))))))))) (pe_c c__law_pick hr (by decide) rfl (pa_cons (pv 0) (pa_cons pe_int pa_nil))) fun _ _ => rfl)) (pss_cons (ps_set (i := 5) sc__law_raw.nd rfl (Or.inl rfl) (pe_c c__law_rising hr (by decide) rfl (pa_cons (pv 0) (pa_cons (pv 4) (pa_cons (pv 3) (pa_cons pe_int pa_nil)))))) (pss_cons (ps_set (i := 6) sc__law_raw.nd rfl (Or.inl rfl) (pe_ix (ixl (K := K)) (pe_lst (pa_cons pe_int (pa_cons pe_int (pa_cons pe_int (pa_cons pe_int (pa_cons pe_int (pa_cons (pv 4) (pa_cons pe_int (pa_cons pe_int pa_nil))))))))) (pe_c c__law_pick hr (by decide) rfl (pa_cons (pv 0) (pa_cons pe_int pa_nil))) fun _ _ => rfl)) (pss_cons (ps_set (i := 7) sc__law_raw.nd rfl (Or.inl rfl) (pe_op op_add (pe_op op_sub (pe_ix (ixl (K := K)) (pv 5) (pe_un un_neg pe_int) fun _ _ => rfl) (pe_ix (ixl (K := K)) (pv 5) pe_int fun _ _ => rfl)) (pv 6))) (pss_cons (ps_if (PW.pt (pw_and (pt_val (pv 1)) (pw_and1 (pt_cmpR op_eq (pv 7) pe_int (nomark _))))) (pss_one (ps_set (i := 7) sc__law_raw.nd rfl (Or.inl rfl) pe_int)) pss_nil) (pss_one (ps_ret (pe_tup (pa_cons (pe_callTy cr_tup rfl (T.fr _ (by decide +kernel)) (by decide +kernel) (pa_cons (pv 2) pa_nil)) (pa_cons (pe_callTy cr_tup rfl (T.fr _ (by decide +kernel)) (by decide +kernel) (pa_cons (pv 5) pa_nil)) (pa_cons (pv 7) pa_nil)))))))))))))), ?_⟩
    -- the head
    refine ⟨_, rfl, (by show 8 ≤ sizeLine; decide), fun t ht => ?_⟩
    have htp : t ≠ p := src_ne (o := .lst []) hs ht
    have hs1 : Src (upd H t (.lst (vI [0, 1, 2, 0, 3, 1, 4, 2]))) p := src_put hs htp
    have s1 : Same H0 (upd H t (.lst (vI [0, 1, 2, 0, 3, 1, 4, 2]))) := NF.Same.put s0 (same_none s0 ht)
    have ht1 : upd H t (.lst (vI [0, 1, 2, 0, 3, 1, 4, 2])) t = some (.lst (vI [0, 1, 2, 0, 3, 1, 4, 2])) := upd_same
    refine ⟨_, rfl, wo _ p, p, 8, rfl, wo_same', wo_none, hs1, by decide, by decide, fun d G2 d0 d1 s2 hs2 => ?_⟩
    obtain ⟨v, hv, v0, v1⟩ := idx_k (l := [0, 1, 2, 0, 3, 1, 4, 2]) (n := 8) (lo := 0) (hi := 4) d0 d1 rfl (by decide)
    have s02 := wo_same s1 n0 s2
    refine ⟨t, _, _, _, rfl, rfl, SqL.of (s2 _ _ ((wo_ne htp).trans ht1)), hv, ?_⟩
    refine ⟨wo G2 p, p, v.toNat, 0, 3, by rw [Int.toNat_of_nonneg v0]; rfl, wo_same', wo_none, hs2, by omega, by decide, by decide, by decide, fun th h G3 s3 hs3 hh hh0 hhp hlen hc hb => ?_⟩
    have s03 := wo_same s02 n0 s3
    -- the low
    have hlow : ∀ {W : VK}, (∀ lo : Int, 0 ≤ lo → (h ≠ [] → lo = h.getD (h.length - 1) 0) → (h = [] → lo = 0) → W (.int lo) G3) →
        (tIf (tTest (tOp (rI0 fun i j => .bl (decide (j < i))) (tCB (fun xs H Q => ∃ a ys, xs = [.ref a] ∧ (SqL K H a ys ∨ SqT K H a ys) ∧ Q (.int (ys.length : Int)) H) (tCons (tVar 2) tNil)) (tC (.int 0)))) (tOp (rIxL K) (tVar 2) (tUn (rU fun i => .int (-i)) (tC (.int 1)))) (tC (.int 0))) [some (V.ref p), some (V.bl false), some (V.ref th), none, none, none, none, none] G3 W := by
      intro W hW
      refine ⟨_, rfl, th, _, rfl, Or.inl (SqL.of hh), _, _, rfl, rfl, _, rfl, ite2 (fun h1 => ?_) (fun h1 => ?_)⟩
      · have h2 : 0 < h.length := by
          have := of_decide_eq_true h1
          rw [vI_len] at this
          omega
        have hne : h ≠ [] := fun z => by rw [z] at h2; simp at h2
        exact ⟨_, rfl, _, rfl, th, _, _, _, rfl, rfl, SqL.of hh, at_last h2, hW _ (climbs_low hc (by omega)) (fun _ => rfl) fun z => absurd z hne⟩
      · have h2 : h = [] := by
          have : ¬ (0 : Int) < ((vI h).length : Int) := fun z => h1 (decide_eq_true z)
          rw [vI_len] at this
          exact List.eq_nil_of_length_eq_zero (by omega)
        exact hW 0 (Int.le_refl _) (fun z => absurd h2 z) fun _ => rfl
    refine hlow fun lo lo0 hlo hlo2 => ?_
    have hf1 : h ≠ [] → h.getD 0 0 ≤ 1000 := fun z => by
      have := hb 0 (by have := len_pos z; omega)
      omega
    -- ended
    refine ⟨_, rfl, false, rfl, iteT ?_⟩
    refine ⟨_, rfl, wo G3 p, p, 7, rfl, wo_same', wo_none, hs3, by decide, by decide, fun d G4 _ _ s4 hs4 => ?_⟩
    have s04 := wo_same s03 n0 s4
    have hh4 : G4 th = some (.lst (vI h)) := s4 _ _ ((wo_ne hhp).trans hh)
    have hh100 : h.length ≤ 100 := by omega
    refine ⟨rfl, _, rfl, ite2 (fun _ => ?_) (fun _ => ?_)⟩
    · refine ⟨_, rfl, th, _, rfl, Or.inl (SqL.of hh4), fun p1 G5 s5 t5 => ?_⟩
      refine ⟨(by show 0 ≤ sizeLine; decide), fun p2 hp2 => ?_⟩
      refine ⟨(by show 3 ≤ sizeLine; decide), fun p3 hp3 => ?_⟩
      have s6 := NF.Same.new (o := .tup []) (Same.refl G5) hp2
      have s7 := NF.Same.new (o := .tup [V.ref p1, V.ref p2, V.int 0]) s6 hp3
      refine q p3 (h, [], 0) _ (Same.trans s04 (Same.trans s5 s7)) (Src.mono hs4 (Same.trans s5 s7)) ⟨⟨hc, trivial, fun _ z => absurd rfl z, Int.le_refl _, fun _ => rfl, fun z => absurd rfl z⟩, hh100, by simp, by simp, first_le hf1 fun _ z => absurd rfl z⟩ ⟨p1, p2, SqT.of upd_same, NF.Same.tup s7 t5, ?_⟩
      exact SqT.of (by rw [upd_ne (ne_of_none upd_same hp3)]; exact upd_same)
    -- the loop
    refine ⟨(by show 8 ≤ sizeLine; decide), fun u hu => ?_⟩
    have hup : u ≠ p := src_ne (o := .lst []) hs4 hu
    have hs5 : Src (upd G4 u (.lst (vI [1, 2, 1, 3, 2, 1, 4, 3]))) p := src_put hs4 hup
    have s45 : Same G4 (upd G4 u (.lst (vI [1, 2, 1, 3, 2, 1, 4, 3]))) := NF.Same.new (Same.refl _) hu
    have ht5 : upd G4 u (.lst (vI [1, 2, 1, 3, 2, 1, 4, 3])) u = some (.lst (vI [1, 2, 1, 3, 2, 1, 4, 3])) := upd_same
    refine ⟨_, rfl, wo _ p, p, 8, rfl, wo_same', wo_none, hs5, by decide, by decide, fun d G6 d0 d1 s6 hs6 => ?_⟩
    obtain ⟨m, hm, m0, m1⟩ := idx_k (l := [1, 2, 1, 3, 2, 1, 4, 3]) (n := 8) (lo := 1) (hi := 4) d0 d1 rfl (by decide)
    have s06 := wo_same (Same.trans s04 s45) n0 s6
    have hh6 : G6 th = some (.lst (vI h)) := s6 _ _ ((wo_ne hhp).trans (s45 _ _ hh4))
    refine ⟨u, _, _, _, rfl, rfl, SqL.of (s6 _ _ ((wo_ne hup).trans ht5)), hm, ?_⟩
    refine ⟨_, rfl, _, rfl, _, rfl, wo G6 p, p, m.toNat, lo, 3, by rw [Int.toNat_of_nonneg (by omega)]; rfl, wo_same', wo_none, hs6, by omega, lo0, by decide, by decide, fun tl l G7 s7 hs7 hl7 hl0 hlp hllen hlc hlb => ?_⟩
    have s07 := wo_same s06 n0 s7
    have hh7 : G7 th = some (.lst (vI h)) := s7 _ _ ((wo_ne hhp).trans hh6)
    have hl0' : 0 < l.length := by omega
    have hlne : l ≠ [] := fun z => by rw [z] at hl0'; simp at hl0'
    -- more
    refine ⟨_, rfl, (by show 8 ≤ sizeLine; decide), fun u2 hu2 => ?_⟩
    have hup2 : u2 ≠ p := src_ne (o := .lst []) hs7 hu2
    have hs8 : Src (upd G7 u2 (.lst (vI [1, 2, 1, 0, 3, m, 2, 1]))) p := src_put hs7 hup2
    have s78 : Same G7 (upd G7 u2 (.lst (vI [1, 2, 1, 0, 3, m, 2, 1]))) := NF.Same.new (Same.refl _) hu2
    have ht8 : upd G7 u2 (.lst (vI [1, 2, 1, 0, 3, m, 2, 1])) u2 = some (.lst (vI [1, 2, 1, 0, 3, m, 2, 1])) := upd_same
    refine ⟨_, rfl, wo _ p, p, 8, rfl, wo_same', wo_none, hs8, by decide, by decide, fun d G9 d0 d1 s9 hs9 => ?_⟩
    obtain ⟨e, he, e0, e1⟩ := idx_k (l := [1, 2, 1, 0, 3, m, 2, 1]) (n := 8) (lo := 0) (hi := 4) d0 d1 rfl (more_le m0 m1)
    have s09 := wo_same (Same.trans s07 s78) n0 s9
    have hh9 : G9 th = some (.lst (vI h)) := s9 _ _ ((wo_ne hhp).trans (s78 _ _ hh7))
    have hl9 : G9 tl = some (.lst (vI l)) := s9 _ _ ((wo_ne hlp).trans (s78 _ _ hl7))
    refine ⟨u2, _, _, _, rfl, rfl, SqL.of (s9 _ _ ((wo_ne hup2).trans ht8)), he, ?_⟩
    -- the rise
    refine ⟨_, rfl, _, rfl, tl, _, _, _, rfl, rfl, SqL.of hl9, at_last hl0', ?_⟩
    refine ⟨_, rfl, tl, _, _, _, rfl, rfl, SqL.of hl9, at_int (k := 0) rfl hl0', _, _, rfl, rfl, _, rfl, _, _, rfl, rfl, ?_⟩
    refine ⟨_, rfl, false, rfl, iteF (iteF ?_)⟩
    have f1 := climbs_last hlc hlne
    have f2 := hlb (l.length - 1) (by omega)
    have f3 := climbs_low hlc hl0'
    refine ⟨_, rfl, th, _, rfl, Or.inl (SqL.of hh9), fun p1 G10 s10 t10 => ?_⟩
    refine ⟨_, rfl, tl, _, rfl, Or.inl (SqL.of (s10 _ _ hl9)), fun p2 G11 s11 t11 => ?_⟩
    refine ⟨_, rfl, (by show 3 ≤ sizeLine; decide), fun p3 hp3 => ?_⟩
    have s12 := NF.Same.new (o := .tup [V.ref p1, V.ref p2, V.int (l.getD (l.length - 1) 0 - l.getD 0 0 + e)]) (Same.refl G11) hp3
    refine q p3 (h, l, l.getD (l.length - 1) 0 - l.getD 0 0 + e) _ (Same.trans s09 (Same.trans s10 (Same.trans s11 s12))) (Src.mono hs9 (Same.trans s10 (Same.trans s11 s12))) ⟨⟨hc, climbs_le hlc lo0, fun z _ => ?_, by dsimp only; omega, fun z => absurd z hlne, fun _ => by dsimp only; omega⟩, hh100, by show l.length ≤ 100; omega, by dsimp only; omega, first_le hf1 fun z _ => by have := hlo2 z; have := hlb 0 (by omega); dsimp only; omega⟩ ⟨p1, p2, SqT.of upd_same, NF.Same.tup (Same.trans s11 s12) t10, NF.Same.tup s12 t11⟩
    rw [← hlo z]
    exact f3
end
end K01
set_option Elab.async false
set_option linter.all false
set_option maxRecDepth 100000
set_option maxHeartbeats 4000000
namespace K01
open PySem PySem.Spec PyProof.Rows L2 He NF RZ NT
def spPlain (K : PySem.W.Frag) : Sp := fun vs H Q _ => ∃ (a b : Addr) (h l : List Int) (r : Int), vs = [.ref a, .ref b, .int r] ∧ SqT K H a (vI h) ∧ SqT K H b (vI l) ∧ h.length ≤ 1000 ∧ l.length ≤ 1000 ∧ ∀ p x H', IsPlain h l r x → Same H H' → FormAt K H' p x → Q (.ref p) H'
theorem sc__law_plain : FnScope ["_law_head", "_law_loop", "_law_rise", "_law_size", "_law_many", "_law_row", "_law_turns", "_law_step", "_law_k"] ["_law_head", "_law_loop", "_law_rise"] (defScope s__law_plain) := ⟨rfl, rfl, rfl, by decide +kernel, rfl, by decide +kernel, by decide +kernel⟩
theorem all_range {n : Nat} {f : Nat → Bool} : ((List.range n).map f).all id = true ↔ ∀ k, k < n → f k = true := by
  rw [List.all_eq_true]
  constructor
  · intro h k hk
    exact h _ (List.mem_map.mpr ⟨k, List.mem_range.mpr hk, rfl⟩)
  · intro h x hx
    obtain ⟨k, hk, rfl⟩ := List.mem_map.mp hx
    exact h k (List.mem_range.mp hk)
theorem at_neg {l : List Int} {i : Int} {n : Nat} (e : i + (l.length : Int) = (n : Int)) (h0 : i < 0) (h : n < l.length) : atI (vI l) i = some (V.int (l.getD n 0)) := by
  unfold atI ixN
  rw [if_neg (by omega), List.length_map, if_pos (by omega)]
  show (vI l)[(i + (l.length : Int)).toNat]? = _
  rw [show (i + (l.length : Int)).toNat = n by omega, List.getElem?_map, List.getElem?_eq_getElem h, List.getD_eq_getElem?_getD, List.getElem?_eq_getElem h] <;> rfl
section
variable {P : Program} {w : World} {K : PySem.W.Frag} {mg : Str → Option Value} {base : Heap} {gs : List Str}
theorem ok__law_plain {f : Addr} {fd : FuncData} (F : FunD K "_law_plain" "_law_plain" (defArgs s__law_plain) (defBody s__law_plain) (defScope s__law_plain) [] [] f fd) (T : Txt K mg gs FS) : FnOk P w K mg base CX0 1 f fd ["_law_head", "_law_loop", "_law_rise"] (spPlain K) := by
  refine F.ok sc__law_plain (fun vs H Q E h => ?_) (fun cdv A outer s H vs Q E hr h => ?_)
  · obtain ⟨a, b, h, l, r, rfl, _⟩ := h
    rfl
  · obtain ⟨a, b, h, l, r, rfl, ha, hb, hh, hll, q⟩ := h
    refine ⟨_, PSs.nox (pss_cons (ps_if (pt_cmpR op_eq (pe_callB call_len_seq rfl (T.fr _ (by decide +kernel)) boot_len (pa_cons (pv 1) pa_nil)) pe_int (nomark _)) (pss_one (ps_ret (pe_tup (pa_cons (pe_callTy cr_tup rfl (T.fr _ (by decide +kernel)) (by decide +kernel) (pa_cons (pv 0) pa_nil)) (pa_cons (pe_tup pa_nil) (pa_cons pe_int pa_nil)))))) pss_nil) (pss_cons (ps_set (i := 3) sc__law_plain.nd rfl (Or.inl rfl) (pe_callB call_len_seq rfl (T.fr _ (by decide +kernel)) boot_len (pa_cons (pv 1) pa_nil))) (pss_cons (ps_for PassesOwn.never rfl (pi_range3 rfl (T.fr _ (by decide +kernel)) (pa_cons (pe_callB call_len_seq rfl (T.fr _ (by decide +kernel)) boot_len (pa_cons (pv 1) pa_nil)) (pa_cons pe_int (pa_cons (pe_un un_neg pe_int) pa_nil)))) (pg_name (i := 4) sc__law_plain.nd rfl (Or.inr rfl)) (pss_cons (ps_set (i := 6) sc__law_plain.nd rfl (Or.inl rfl) (pe_op op_fdiv (pe_callB call_len_seq rfl (T.fr _ (by decide +kernel)) boot_len (pa_cons (pv 1) pa_nil)) (pv 4))) (pss_cons (ps_if (PW.pt (pw_or (pt_cmpR op_ne (pe_op op_mul (pv 6) (pv 4)) (pe_callB call_len_seq rfl (T.fr _ (by decide +kernel)) boot_len (pa_cons (pv 1) pa_nil)) (nomark _)) (pw_or1 (pt_cmpR op_ne (pe_op op_mod (pe_callTy call_int1 rfl (T.fr _ (by decide +kernel)) (by decide +kernel) (pa_cons (pv 2) pa_nil)) (pv 6)) pe_int (nomark _))))) (pss_one ps_continue) pss_nil) (pss_cons (ps_set (i := 7) sc__law_plain.nd rfl (Or.inr rfl) (pe_op op_fdiv (pv 2) (pv 6))) (pss_one (ps_if (pt_val (pe_callB (cr_all rfl) rfl (T.fr _ (by decide +kernel)) (by decide +kernel) (pa_cons (pe_lc (own := [("_law_k", 8)]) rfl sc__law_plain.nd (pi_range1 rfl (T.fr _ (by decide +kernel)) (pa_cons (pe_op op_sub (pe_callB call_len_seq rfl (T.fr _ (by decide +kernel)) boot_len (pa_cons (pv 1) pa_nil)) (pv 4)) pa_nil)) (blkOk_by (N := ["_law_head", "_law_loop", "_law_rise", "_law_size", "_law_many", "_law_row", "_law_turns", "_law_step", "_law_k"]) (sc := defScope s__law_plain) (by decide +kernel)) (fun _ _ _ _ _ => by exact (pg_name (i := 8) sc__law_plain.nd rfl (Or.inl rfl))) (fun _ _ _ _ _ => by exact pts_nil) (fun _ _ _ _ _ => by exact (pe_cmpR op_eq (pe_ix (ixt (K := K)) (pv 1) (pe_op op_add (pv 8) (pv 4)) fun _ _ => rfl) (pe_op op_add (pe_ix (ixt (K := K)) (pv 1) (pv 8) fun _ _ => rfl) (pv 7)) (nomark _)))) pa_nil))) (pss_one (ps_set (i := 3) sc__law_plain.nd rfl (Or.inl rfl) (pv 4))) pss_nil)))))) (pss_cons (ps_set (i := 2) sc__law_plain.nd rfl (Or.inl rfl) (pe_op op_fdiv (pv 2) (pe_op op_fdiv (pe_callB call_len_seq rfl (T.fr _ (by decide +kernel)) boot_len (pa_cons (pv 1) pa_nil)) (pv 3)))) (pss_cons (ps_set (i := 5) sc__law_plain.nd rfl (Or.inl rfl) (pe_op op_cat (pe_callTy call_list_of rfl (T.fr _ (by decide +kernel)) (by decide +kernel) (pa_cons (pv 0) pa_nil)) (pe_callTy call_list_of rfl (T.fr _ (by decide +kernel)) (by decide +kernel) (pa_cons (pe_slice sl_tupA (pv 1) po_none (po_some (pv 3))) pa_nil)))) (pss_cons (ps_while PassesOwn.never (PW.pt (pw_and (pt_cmpR op_gt (pe_callB call_len_seq rfl (T.fr _ (by decide +kernel)) boot_len (pa_cons (pv 5) pa_nil)) (pv 3) (nomark _)) (pw_and1 (pt_cmpR op_eq (pe_ix (ixl (K := K)) (pv 5) (pe_op op_sub (pe_un un_neg pe_int) (pv 3)) fun _ _ => rfl) (pe_op op_sub (pe_ix (ixl (K := K)) (pv 5) (pe_un un_neg pe_int) fun _ _ => rfl) (pv 2)) (nomark _))))) (pss_one (ps_set (i := 5) sc__law_plain.nd rfl (Or.inl rfl) (pe_slice sl_list (pv 5) po_none (po_some (pe_un un_neg pe_int)))))) (pss_one (ps_ret (pe_tup (pa_cons (pe_callTy cr_tup rfl (T.fr _ (by decide +kernel)) (by decide +kernel) (pa_cons (pe_slice sl_list (pv 5) po_none (po_some (pe_op op_sub (pe_callB call_len_seq rfl (T.fr _ (by decide +kernel)) boot_len (pa_cons (pv 5) pa_nil)) (pv 3)))) pa_nil)) (pa_cons (pe_callTy cr_tup rfl (T.fr _ (by decide +kernel)) (by decide +kernel) (pa_cons (pe_slice sl_list (pv 5) (po_some (pe_op op_sub (pe_callB call_len_seq rfl (T.fr _ (by decide +kernel)) boot_len (pa_cons (pv 5) pa_nil)) (pv 3))) po_none) pa_nil)) (pa_cons (pv 2) pa_nil)))))))))))), ?_⟩
    refine ⟨_, rfl, b, _, rfl, Or.inr hb, rfl, _, rfl, ?_⟩
    by_cases hl : l = []
    · refine (iteT' (decide_eq_true (by rw [hl]; rfl)) ?_)
      subst hl
      refine ⟨_, rfl, a, _, rfl, Or.inr ha, fun p1 G1 s1 t1 => ?_⟩
      refine ⟨(by show 0 ≤ sizeLine; decide), fun p2 hp2 => ?_⟩
      refine ⟨(by show 3 ≤ sizeLine; decide), fun p3 hp3 => ?_⟩
      have s6 := NF.Same.new (o := .tup []) (Same.refl G1) hp2
      have s7 := NF.Same.new (o := .tup [V.ref p1, V.ref p2, V.int 0]) s6 hp3
      exact q p3 (h, [], 0) _ (.inl ⟨rfl, rfl⟩) (Same.trans s1 s7) ⟨p1, p2, SqT.of upd_same, NF.Same.tup s7 t1, SqT.of (by rw [upd_ne (ne_of_none upd_same hp3)]; exact upd_same)⟩
    refine (iteF' (decide_eq_false (fun z => hl ?_)) ?_)
    · injection z with z
      rw [vI_len] at z
      exact List.eq_nil_of_length_eq_zero (by omega)
    have hp := len_pos hl
    refine ⟨_, rfl, b, _, rfl, Or.inr hb, ?_⟩
    refine ⟨_, rfl, b, _, rfl, Or.inr hb, _, rfl, _, _, _, l.length, rfl, ?_, ?_⟩
    · have := RgC.neg (i := ((vI l).length : Int)) (j := 0) (by rw [vI_len]; omega) (by rw [vI_len]; omega) (by omega) (by omega)
      rw [vI_len, Int.sub_zero, Int.toNat_natCast] at this
      rw [vI_len]
      exact this
    -- the shortest lap
    refine for_rangeC (n := l.length) (fun i σ G => Same H G ∧ ∃ s : Nat, (0 < s ∧ s ∣ l.length ∧ Per (walk l r) s ∧ ∀ m', l.length - i < m' → m' ∣ l.length → Per (walk l r) m' → s ≤ m') ∧ ∃ v1 v2 v3 : Option V, σ = [some (.ref a), some (.ref b), some (.int r), some (.int (s : Int)), v1, none, v2, v3, none])
      ⟨Same.refl _, l.length, ⟨hp, Nat.dvd_refl _, per_self hl, fun m' h1 _ _ => by omega⟩, none, none, none, ?_⟩ ?_ ?_
    · rw [vI_len]
      rfl
    · rintro i σ G hi ⟨s1, sz, ⟨z0, z1, z2, z3⟩, v1, v2, v3, rfl⟩
      have hb1 := NF.Same.tup s1 hb
      obtain ⟨m, hm⟩ : ∃ m : Nat, m = l.length - i := ⟨_, rfl⟩
      have m0 : 0 < m := by omega
      have mle : m ≤ l.length := by omega
      have e1 : ((vI l).length : Int) + (i : Int) * (-1) = (m : Int) := by rw [vI_len]; omega
      rw [e1]
      obtain ⟨t, htt⟩ : ∃ t : Nat, t = l.length / m := ⟨_, rfl⟩
      have t0 : 0 < t := by rw [htt]; exact Nat.div_pos mle m0
      have tle : t ≤ l.length := by rw [htt]; exact Nat.div_le_self _ _
      have e2 : ((vI l).length : Int) / (m : Int) = (t : Int) := by rw [vI_len, htt]; rfl
      refine ⟨_, rfl, b, _, rfl, Or.inr hb1, _, rfl, _, _, rfl, rfl, ⟨by omega, by omega⟩, ?_⟩
      show gName 6 (V.int (((vI l).length : Int) / (m : Int))) _ _ _
      rw [e2]
      have hnext : ∀ {v3' : Option V}, ¬ (m ∣ l.length ∧ Per (walk l r) m) → (fun σ G => Same H G ∧ ∃ s : Nat, (0 < s ∧ s ∣ l.length ∧ Per (walk l r) s ∧ ∀ m', l.length - (i + 1) < m' → m' ∣ l.length → Per (walk l r) m' → s ≤ m') ∧ ∃ v1 v2 v3 : Option V, σ = [some (.ref a), some (.ref b), some (.int r), some (.int (s : Int)), v1, none, v2, v3, none])
          [some (.ref a), some (.ref b), some (.int r), some (.int (sz : Int)), some (.int (m : Int)), none, some (.int (t : Int)), v3', none] G := fun hn => by
        refine ⟨s1, sz, ⟨z0, z1, z2, fun m' h1 h2 h3 => ?_⟩, _, _, _, rfl⟩
        by_cases c : m' = m
        · subst c
          exact absurd ⟨h2, h3⟩ hn
        · exact z3 m' (by omega) h2 h3
      refine ⟨_, rfl, _, rfl, _, _, rfl, rfl, Or.inr ⟨by omega, by omega⟩, _, rfl, b, _, rfl, Or.inr hb1, rfl, _, rfl, ?_⟩
      by_cases hd : ¬ m ∣ l.length
      · refine iteT' ?_ (iteT (hnext fun z => hd z.1))
        rw [decide_eq_false (fun z => hd ?_)]
        · rfl
        injection z with z
        rw [vI_len] at z
        have z' : t * m = l.length := Int.ofNat.inj (by rw [← Int.natCast_mul] at z; exact z)
        exact ⟨t, by rw [Nat.mul_comm]; exact z'.symm⟩
      have hd := Classical.not_not.mp hd
      have hmt : m * t = l.length := by rw [htt]; exact Nat.mul_div_cancel' hd
      refine iteF' ?_ ?_
      · rw [decide_eq_true]
        · rfl
        rw [vI_len, ← hmt, Int.natCast_mul, Int.mul_comm]
      have hiff := law_iff (r := r) hl m0 hmt
      refine ⟨_, rfl, Or.inl ⟨_, rfl, _, rfl, _, _, rfl, rfl, (by show (0 : Int) < (t : Int); omega), rfl, _, rfl, ?_⟩⟩
      by_cases hrt : ¬ r % (t : Int) = 0
      · refine iteT' ?_ (hnext fun z => hrt (hiff.mpr z.2).1)
        rw [decide_eq_false (fun z => hrt (by injection z))]
        rfl
      have hrt := Classical.not_not.mp hrt
      refine iteF' ?_ ?_
      · rw [decide_eq_true (congrArg V.int hrt)]
        rfl
      refine ⟨_, rfl, _, rfl, _, _, rfl, rfl, ⟨by omega, by omega⟩, ?_⟩
      -- all
      refine ⟨_, rfl, b, _, rfl, Or.inr hb1, _, rfl, _, _, rfl, rfl, _, rfl, ?_⟩
      rw [vI_len]
      refine ⟨by omega, by omega, fun D hD => ?_⟩
      have en : ((l.length : Int) - (m : Int)).toNat = l.length - m := by omega
      rw [en]
      refine lc_range (lo := 0) (n := l.length - m) (fun j G' => Same G G' ∧ G' D = some (.lst (((List.range j).map fun k => decide (V.int (l.getD (k + m) 0) = V.int (l.getD k 0 + r / (t : Int)))).map V.bl))) ⟨NF.Same.new (Same.refl G) hD, upd_same⟩ ?_ ?_
      · rintro j G' hj ⟨hG, hD2⟩
        have e1 : (0 : Int) + (j : Int) = (j : Int) := Int.zero_add _
        rw [e1]
        have hb2 := NF.Same.tup hG hb1
        refine ⟨rfl, _, rfl, _, rfl, _, rfl, _, _, rfl, rfl, b, _, _, _, rfl, rfl, hb2, at_int (k := j + m) (by omega) (by omega), ?_⟩
        refine ⟨_, rfl, _, rfl, b, _, _, _, rfl, rfl, hb2, at_int (k := j) rfl (by omega), _, rfl, _, _, rfl, rfl, rfl, ?_⟩
        refine ⟨_, hD2, by rw [List.length_map, List.length_map, List.length_range]; exact Nat.lt_of_lt_of_le (show j < 1000 by omega) (by decide), NF.Same.mut hG hD, ?_⟩
        rw [upd_same, List.range_succ, List.map_append, List.map_append]
        rfl
      · rintro G' ⟨hG, hD2⟩
        refine ⟨D, _, rfl, SqL.of hD2, _, rfl, ?_⟩
        have s2 := Same.trans s1 hG
        have hcond : ((List.range (l.length - m)).map fun k => decide (V.int (l.getD (k + m) 0) = V.int (l.getD k 0 + r / (t : Int)))).all id = true ↔ ∀ k, k + m < l.length → l.getD (k + m) 0 = l.getD k 0 + r / (t : Int) := by
          rw [all_range]
          constructor
          · intro hk k hk2
            have := of_decide_eq_true (hk k (by omega))
            injection this
          · intro hk k hk2
            exact decide_eq_true (congrArg V.int (hk k (by omega)))
        refine ite2 (fun hc => ?_) (fun hc => ?_)
        · have hper := hiff.mp ⟨hrt, hcond.mp hc⟩
          refine ⟨_, rfl, s2, m, ⟨m0, hd, hper, fun m' h1 _ _ => by omega⟩, _, _, _, rfl⟩
        · refine ⟨s2, sz, ⟨z0, z1, z2, fun m' h1 h2 h3 => ?_⟩, _, _, _, rfl⟩
          by_cases c : m' = m
          · subst c
            exact absurd (hcond.mpr (hiff.mpr h3).2) hc
          · exact z3 m' (by omega) h2 h3
    · rintro σ G ⟨s1, m, ⟨z0, z1, z2, z3⟩, v1, v2, v3, rfl⟩
      have hm : LapIs l r m := ⟨z0, z1, z2, fun m' h1 h2 h3 => z3 m' (by omega) h2 h3⟩
      have hle : m ≤ l.length := Nat.le_of_dvd hp z1
      obtain ⟨t, ht⟩ := z1
      have t0 : 0 < t := Nat.pos_of_ne_zero fun z => by rw [z, Nat.mul_zero] at ht; omega
      have hc := per_at hl z0 z2 ht.symm
      have ha1 := NF.Same.tup s1 ha
      have hb1 := NF.Same.tup s1 hb
      have e2 : ((vI l).length : Int) / (m : Int) = (t : Int) := by
        rw [vI_len, ht, Int.natCast_mul, Int.mul_ediv_cancel_left _ (by omega)]
      have tle : t ≤ l.length := by rw [ht]; exact Nat.le_mul_of_pos_left _ z0
      refine ⟨_, rfl, _, rfl, b, _, rfl, Or.inr hb1, _, rfl, _, _, rfl, rfl, ⟨by omega, by omega⟩, ?_⟩
      show rI CDiv _ (V.int r) (V.int (((vI l).length : Int) / (m : Int))) _ _
      rw [e2]
      refine ⟨_, _, rfl, rfl, ⟨by omega, by omega⟩, ?_⟩
      show gName 2 (V.int (r / (t : Int))) _ _ _
      generalize hcc : r / (t : Int) = cc at hc
      refine ⟨_, rfl, a, _, rfl, Or.inr ha1, fun q1 hq1 => ?_⟩
      have s2 := NF.Same.new (o := .lst (vI h)) s1 hq1
      refine ⟨_, rfl, _, rfl, _, rfl, ?_⟩
      refine slA_done (K := K) (NF.Same.tup (NF.Same.new (o := .lst (vI h)) (Same.refl G) hq1) hb1) fun p2 G2 s3 t2 => ?_
      rw [cut_to, vI_take] at t2
      refine ⟨p2, _, rfl, Or.inr t2, fun q2 hq2 => ?_⟩
      have hq1' : upd G2 q2 (.lst (vI (l.take m))) q1 = some (.lst (vI h)) := by
        have := s3 _ _ (upd_same (H := G) (a := q1) (o := .lst (vI h)))
        rw [upd_ne (ne_of_none this hq2)]
        exact this
      have hel : (h ++ l.take m).length = h.length + m := by rw [List.length_append, List.length_take, Nat.min_eq_left hle]
      refine ⟨q1, q2, _, _, rfl, rfl, hq1', upd_same, ?_, fun q3 hq3 => ?_⟩
      · rw [vI_len, vI_len, List.length_take]
        exact Nat.le_trans (show h.length + min m l.length ≤ 2000 by omega) (by decide)
      rw [vI_app]
      have s4 : Same H (upd (upd G2 q2 (.lst (vI (l.take m)))) q3 (.lst (vI (h ++ l.take m)))) := NF.Same.new (NF.Same.new (Same.trans s2 s3) hq2) hq3
      refine ⟨fun k σ G' => Same H G' ∧ k ≤ h.length ∧ cut (h ++ l.take m) m cc h.length = cut (h ++ l.take m) m cc k ∧ ∃ pr, G' pr = some (.lst (vI ((h ++ l.take m).take (k + m)))) ∧ σ = [some (.ref a), some (.ref b), some (.int cc), some (.int (m : Int)), v1, some (.ref pr), v2, v3, none],
        ⟨h.length, s4, Nat.le_refl _, rfl, q3, by rw [upd_same, show (h ++ l.take m).take (h.length + m) = h ++ l.take m from List.take_of_length_le (by omega)], rfl⟩, ?_⟩
      rintro k σ G' ⟨s5, hk, hcut, pr, hpr, rfl⟩
      have hlen : ((h ++ l.take m).take (k + m)).length = k + m := by rw [List.length_take, hel]; omega
      -- what is handed back
      have hdone : cut (h ++ l.take m) m cc k = k → (tRet (tTup (tCons (tCB (rTupOf K) (tCons (tSl (rSlL K) (tVar 5) tNoPart (tPart (tOp (rI0 fun i j => .int (i - j)) (tCB (fun xs H Q => ∃ a ys, xs = [.ref a] ∧ (SqL K H a ys ∨ SqT K H a ys) ∧ Q (.int (ys.length : Int)) H) (tCons (tVar 5) tNil)) (tVar 3)))) tNil))
          (tCons (tCB (rTupOf K) (tCons (tSl (rSlL K) (tVar 5) (tPart (tOp (rI0 fun i j => .int (i - j)) (tCB (fun xs H Q => ∃ a ys, xs = [.ref a] ∧ (SqL K H a ys ∨ SqT K H a ys) ∧ Q (.int (ys.length : Int)) H) (tCons (tVar 5) tNil)) (tVar 3))) tNoPart) tNil)) (tCons (tVar 2) tNil))))) { nx := fun _ H' => Q .non H', rt := Q }
          [some (.ref a), some (.ref b), some (.int cc), some (.int (m : Int)), v1, some (.ref pr), v2, v3, none] G' := fun hk2 => by
        have e5 : ((vI ((h ++ l.take m).take (k + m))).length : Int) - (m : Int) = (k : Int) := by rw [vI_len, hlen]; omega
        refine ⟨_, rfl, _, rfl, pr, _, rfl, Or.inl (SqL.of hpr), _, rfl, _, _, rfl, rfl, _, rfl, ?_⟩
        rw [e5]
        refine ⟨pr, _, rfl, SqL.of hpr, fun q1 hq1 => ?_⟩
        rw [cut_to, vI_take, List.take_take, Nat.min_eq_left (by omega)]
        refine ⟨q1, _, rfl, Or.inl (SqL.of upd_same), fun p1 G1 s6 t1 => ?_⟩
        have s06 : Same G' G1 := Same.trans (NF.Same.new (Same.refl G') hq1) s6
        have hpr1 := s06 _ _ hpr
        refine ⟨_, rfl, _, rfl, pr, _, rfl, Or.inl (SqL.of hpr1), _, rfl, _, _, rfl, rfl, _, rfl, ?_⟩
        rw [e5]
        refine ⟨pr, _, rfl, SqL.of hpr1, fun q2 hq2 => ?_⟩
        rw [cut_from, vI_drop]
        refine ⟨q2, _, rfl, Or.inl (SqL.of upd_same), fun p2 G2 s7 t2 => ?_⟩
        have s17 : Same G1 G2 := Same.trans (NF.Same.new (Same.refl G1) hq2) s7
        refine ⟨_, rfl, (by show 3 ≤ sizeLine; decide), fun p6 hp6 => ?_⟩
        have s8 := NF.Same.new (o := .tup [V.ref p1, V.ref p2, V.int cc]) (Same.refl G2) hp6
        have hx := plain_is (h := h) hl hm hc
        rw [hcut, hk2] at hx
        have ew : ((h ++ l.take m).take (k + m)).drop k = win (h ++ l.take m) k m := by
          unfold win
          rw [List.drop_take, Nat.add_sub_cancel_left]
        rw [ew] at t2
        exact q p6 _ _ hx (Same.trans s5 (Same.trans s06 (Same.trans s17 s8))) ⟨p1, p2, SqT.of upd_same, NF.Same.tup (Same.trans s17 s8) t1, NF.Same.tup s8 t2⟩
      refine ⟨_, rfl, pr, _, rfl, Or.inl (SqL.of hpr), _, rfl, _, _, rfl, rfl, _, rfl, ?_⟩
      refine ite2 (fun h1 => ?_) (fun h1 => ?_)
      · have k0 : 0 < k := by
          have := of_decide_eq_true h1
          rw [vI_len, hlen] at this
          omega
        obtain ⟨j, rfl⟩ : ∃ j, k = j + 1 := ⟨k - 1, by omega⟩
        have g1 : ((h ++ l.take m).take (j + 1 + m)).getD j 0 = (h ++ l.take m).getD j 0 := getD_take (by omega)
        have g2 : ((h ++ l.take m).take (j + 1 + m)).getD (j + m) 0 = (h ++ l.take m).getD (j + m) 0 := getD_take (by omega)
        refine ⟨_, rfl, _, rfl, _, rfl, _, _, rfl, rfl, pr, _, _, _, rfl, rfl, SqL.of hpr, at_neg (n := j) (by rw [hlen]; omega) (by omega) (by rw [hlen]; omega), ?_⟩
        refine ⟨_, rfl, _, rfl, pr, _, _, _, rfl, rfl, SqL.of hpr, at_neg (n := j + m) (by rw [hlen]; omega) (by omega) (by rw [hlen]; omega), _, rfl, _, _, rfl, rfl, rfl, _, rfl, ?_⟩
        rw [g1, g2]
        refine ite2 (fun h2 => ?_) (fun h2 => ?_)
        · have h2' : (h ++ l.take m).getD j 0 + cc = (h ++ l.take m).getD (j + m) 0 := by
            have := of_decide_eq_true h2
            injection this
            omega
          refine ⟨fun σ' G2 => Same H G2 ∧ ∃ pr', G2 pr' = some (.lst (vI ((h ++ l.take m).take (j + m)))) ∧ σ' = [some (.ref a), some (.ref b), some (.int cc), some (.int (m : Int)), v1, some (.ref pr'), v2, v3, none], fun σ' G2 ⟨z1, pr', z2, z3⟩ => ⟨j, Nat.lt_succ_self j, z1, by omega, ?_, pr', z2, z3⟩, ?_⟩
          · rw [hcut]
            show (if (h ++ l.take m).getD j 0 + cc = (h ++ l.take m).getD (j + m) 0 then _ else _) = _
            rw [if_pos h2']
          · refine ⟨_, rfl, _, rfl, _, rfl, pr, _, rfl, SqL.of hpr, fun q4 hq4 => ?_⟩
            refine ⟨NF.Same.new s5 hq4, q4, ?_, rfl⟩
            rw [upd_same]
            show some (HO.lst (cutV _ none (some (-((1 : Nat) : Int))))) = _
            rw [cut_toN (by decide), vI_len, hlen, vI_take, List.take_take, Nat.min_eq_left (by omega)]
            congr 4
            omega
        · refine hdone ?_
          show (if (h ++ l.take m).getD j 0 + cc = (h ++ l.take m).getD (j + m) 0 then _ else _) = _
          rw [if_neg fun z => h2 (decide_eq_true (congrArg V.int (by omega)))]
      · have k0 : k = 0 := by
          have : ¬ (m : Int) < ((vI ((h ++ l.take m).take (k + m))).length : Int) := fun z => h1 (decide_eq_true z)
          rw [vI_len, hlen] at this
          omega
        subst k0
        exact hdone rfl
end
end K01
set_option Elab.async false
set_option linter.all false
set_option maxRecDepth 100000
set_option maxHeartbeats 4000000
namespace K01
open PySem PySem.Spec PyProof.Rows L2 He NF RZ NT
def Counts (y : List Int × List Int × Int) : Prop := (∀ i, i ∈ y.1 ++ y.2.1 → 0 ≤ i) ∧ 0 ≤ y.2.2
def spSame (K : PySem.W.Frag) (C : Addr) : Sp := fun vs H Q _ => ∃ x p y, vs = [.ref x, .ref p] ∧ TabAt K C H x y ∧ FormAt K H p y ∧ Small y ∧ Counts y ∧ ∀ H', Same H H' → Q (.bl true) H'
def spLTable (K : PySem.W.Frag) (C : Addr) : Sp := fun vs H Q _ => ∃ p y, vs = [.ref p] ∧ FormAt K H p y ∧ RawOk y ∧ ∀ x z H', IsPlain y.1 y.2.1 y.2.2 z → Same H H' → TabAt K C H' x z → Q (.ref x) H'
def spTelling (K : PySem.W.Frag) : Sp := fun vs H Q _ => ∃ (H0 : Hp) (p q : Addr) (x : List Int × List Int × Int), vs = [.ref p, .ref q] ∧ Same H0 H ∧ H0 p = none ∧ Src H p ∧ FormAt K H0 q x ∧ Raw0 x ∧
  ∀ q' y H', Same H0 H' → Src H' p → RawOk y → (∀ n, 1 ≤ n → at_ y.1 y.2.1 y.2.2 n = at_ x.1 x.2.1 x.2.2 n) → FormAt K H' q' y → Q (.ref q') H'
def spOther (K : PySem.W.Frag) : Sp := fun vs H Q _ => ∃ (H0 : Hp) (p q : Addr) (x : List Int × List Int × Int), vs = [.ref p, .ref q] ∧ Same H0 H ∧ H0 p = none ∧ Src H p ∧ FormAt K H0 q x ∧ Raw0 x ∧
  ∀ q' y H', Same H0 H' → Src H' p → RawOk y → FormAt K H' q' y → Q (.ref q') H'
theorem sc__law_same : FnScope ["_law_table_here", "_law_raw_here", "_law_one"] ["_law_table_here", "_law_raw_here"] (defScope s__law_same) := ⟨rfl, rfl, rfl, by decide +kernel, rfl, by decide +kernel, by decide +kernel⟩
theorem sc__law_table : FnScope ["_law_raw_here"] ["_law_raw_here"] (defScope s__law_table) := ⟨rfl, rfl, rfl, by decide +kernel, rfl, by decide +kernel, by decide +kernel⟩
theorem sc__law_telling : FnScope ["_law_source_here", "_law_raw_here", "_law_more", "_law_turns", "_law_cut", "_law_values_here", "_law_n"] ["_law_source_here", "_law_raw_here"] (defScope s__law_telling) := ⟨rfl, rfl, rfl, by decide +kernel, rfl, by decide +kernel, by decide +kernel⟩
theorem sc__law_other : FnScope ["_law_source_here", "_law_raw_here", "_law_way", "_law_low", "_law_one"] ["_law_source_here", "_law_raw_here"] (defScope s__law_other) := ⟨rfl, rfl, rfl, by decide +kernel, rfl, by decide +kernel, by decide +kernel⟩
theorem same_made {H H' : Hp} {x dx : Addr} {o o' : HO} (nx : H x = none) (nd : H dx = none) (s : Same (wo (upd (upd H dx o) x o') x) H') : Same H H' := fun b u e =>
  s b u (by rw [wo_ne (ne_of_none e nx), upd_ne (ne_of_none e nx), upd_ne (ne_of_none e nd)]; exact e)
theorem row_made {K : PySem.W.Frag} {H : Hp} {x dx a : Addr} {o o' : HO} {xs : List V} (nx : H x = none) (nd : H dx = none) (h : Row K H a xs) : Row K (upd (upd H dx o) x o') a xs := h.mono fun b u e => by
  rw [upd_ne (ne_of_none e nx), upd_ne (ne_of_none e nd)]
  exact e
section
variable {P : Program} {w : World} {K : PySem.W.Frag} {mg : Str → Option Value} {base : Heap} {gs : List Str} {C : Addr}
theorem ok__law_table {f : Addr} {fd : FuncData} (F : FunD K "_law_table" "_law_table" (defArgs s__law_table) (defBody s__law_table) (defScope s__law_table) [] [] f fd) (T : Txt K mg gs FS) (m_Table : Mak P w K mg base 4 0 "Table" C (spInit K C) []) : FnOk P w K mg base CX0 6 f fd ["_law_raw_here"] (spLTable K C) := by
  refine F.ok sc__law_table (fun vs H Q E h => ?_) (fun cdv A outer s H vs Q E hr h => ?_)
  · obtain ⟨p, y, rfl, _⟩ := h
    rfl
  · obtain ⟨p, ⟨h, l, r⟩, rfl, ⟨a, b, hp, ha, hb⟩, ok, q⟩ := h
    refine ⟨_, PSs.nox (pss_one (ps_ret (pe_mk m_Table hr (by decide) rfl (pa_cons (pe_ix (ixt (K := K)) (pv 0) pe_int fun _ _ => rfl) (pa_cons (pe_ix (ixt (K := K)) (pv 0) pe_int fun _ _ => rfl) (pa_cons (pe_ix (ixt (K := K)) (pv 0) pe_int fun _ _ => rfl) pa_nil)))))), ?_⟩
    refine ⟨_, rfl, p, _, _, _, rfl, rfl, hp, at0, _, rfl, p, _, _, _, rfl, rfl, hp, at1, _, rfl, p, _, _, _, rfl, rfl, hp, at2, ?_⟩
    intro x dx nx nd ne
    have o1 := ok.h
    have o2 := ok.l
    dsimp only at o1 o2 ha hb q
    exact ⟨x, dx, a, b, h, l, r, rfl, upd_same, row_made nx nd (.inr ha), row_made nx nd (.inr hb), ok.g, by omega, fun z H' hz s tb => ⟨rfl, q x z H' hz (same_made nx nd s) tb⟩⟩
theorem ok__law_same {f : Addr} {fd : FuncData} (F : FunD K "_law_same" "_law_same" (defArgs s__law_same) (defBody s__law_same) (defScope s__law_same) [] [] f fd) (T : Txt K mg gs FS) (hT : mg "Table" = some (.ref C)) (tc : TabC K C) (c__law_is_count : Cal P w K mg base 2 "_law_is_count" spIsCount) : FnOk P w K mg base CX0 3 f fd ["_law_table_here", "_law_raw_here"] (spSame K C) := by
  refine F.ok sc__law_same (fun vs H Q E h => ?_) (fun cdv A outer s H vs Q E hr h => ?_)
  · obtain ⟨x, p, y, rfl, _⟩ := h
    rfl
  · obtain ⟨x, p, ⟨h, l, r⟩, rfl, ⟨dx, a, b, hx, ha, hb⟩, ⟨a2, b2, hp, ha2, hb2⟩, sm, ⟨ct, c0⟩, q⟩ := h
    have hu : (A.deeper (envOfC "_law_same" (defScope s__law_same) s.heap.objs.size f cdv)).units + 64 < cLine := by
      have := hr.un
      omega
    have sm1 := sm.h
    have sm2 := sm.l
    dsimp only at hx ha hb hp ha2 hb2 sm1 sm2 ct c0
    refine ⟨_, PSs.nox (pss_cons (ps_if (PW.pt (pw_or (pt_not (pt_val (pe_callB call_isi rfl (T.fr _ (by decide +kernel)) (by decide +kernel) (pa_cons (pv 0) (pa_cons (pe_gl hT) pa_nil))))) (pw_or (pt_cmpR (op_neD hu) (pe_fld (pv 0) rfl) (pe_ix (ixt (K := K)) (pv 1) pe_int fun _ _ => rfl) (nomark _)) (pw_or1 (pt_cmpR (op_neD hu) (pe_fld (pv 0) rfl) (pe_ix (ixt (K := K)) (pv 1) pe_int fun _ _ => rfl) (nomark _)))))) (pss_one (ps_ret pe_bl)) pss_nil) (pss_cons (ps_if (PW.pt (pw_or (pt_not (pt_val (pe_callB call_isi rfl (T.fr _ (by decide +kernel)) (by decide +kernel) (pa_cons (pe_fld (pv 0) rfl) (pa_cons (pe_bltn (v := .ty "tuple") rfl (T.fr _ (by decide +kernel)) (by decide +kernel) rfl) pa_nil))))) (pw_or1 (pt_not (pt_val (pe_callB call_isi rfl (T.fr _ (by decide +kernel)) (by decide +kernel) (pa_cons (pe_fld (pv 0) rfl) (pa_cons (pe_bltn (v := .ty "tuple") rfl (T.fr _ (by decide +kernel)) (by decide +kernel) rfl) pa_nil)))))))) (pss_one (ps_ret pe_bl)) pss_nil) (pss_cons (ps_if (pt_not (pt_val (pe_callB (cr_all rfl) rfl (T.fr _ (by decide +kernel)) (by decide +kernel) (pa_cons (pe_lc (own := [("_law_one", 2)]) rfl sc__law_same.nd (pi_tup (pe_op op_catA (pe_fld (pv 0) rfl) (pe_fld (pv 0) rfl))) (blkOk_by (N := ["_law_table_here", "_law_raw_here", "_law_one"]) (sc := defScope s__law_same) (by decide +kernel)) (fun _ _ _ _ _ => by exact (pg_name (i := 2) sc__law_same.nd rfl (Or.inl rfl))) (fun _ _ _ _ _ => by exact pts_nil) (fun _ _ _ _ _ => by exact (pe_c c__law_is_count hr (by decide) rfl (pa_cons (pv 2) pa_nil)))) pa_nil)))) (pss_one (ps_ret pe_bl)) pss_nil) (pss_one (ps_ret (pe_and (pe_c c__law_is_count hr (by decide) rfl (pa_cons (pe_fld (pv 0) rfl) pa_nil)) (pe_one (pe_cmpR op_eq (pe_fld (pv 0) rfl) (pe_ix (ixt (K := K)) (pv 1) pe_int fun _ _ => rfl) (nomark _))))))))), ?_⟩
    refine ⟨_, rfl, _, _, _, _, true, rfl, .own C, tc.ty hx, tc.self, true, rfl, iteF ?_⟩
    refine ⟨_, rfl, x, C, dx, _, _, rfl, hx, tc.cl, tc.hd, rfl, _, rfl, p, _, _, _, rfl, rfl, hp, at0, ?_⟩
    refine neT_done (K := K) ha ha2 ⟨_, rfl, iteF' (by simp) ?_⟩
    refine ⟨_, rfl, x, C, dx, _, _, rfl, hx, tc.cl, tc.lp, rfl, _, rfl, p, _, _, _, rfl, rfl, hp, at1, ?_⟩
    refine neT_done (K := K) hb hb2 ⟨_, rfl, iteF' (by simp) ?_⟩
    refine ⟨_, rfl, x, C, dx, _, _, rfl, hx, tc.cl, tc.hd, rfl, _, _, _, _, true, rfl, .ty "tuple", tyx_tup ha, kit_t_t K, true, rfl, iteF ?_⟩
    refine ⟨_, rfl, x, C, dx, _, _, rfl, hx, tc.cl, tc.lp, rfl, _, _, _, _, true, rfl, .ty "tuple", tyx_tup hb, kit_t_t K, true, rfl, iteF ?_⟩
    refine ⟨_, rfl, x, C, dx, _, _, rfl, hx, tc.cl, tc.hd, rfl, _, rfl, x, C, dx, _, _, rfl, hx, tc.cl, tc.lp, rfl, ?_⟩
    refine catA_done (K := K) ha hb (by rw [vI_len, vI_len]; exact Nat.le_trans (show h.length + l.length ≤ 2000 by omega) (by decide)) fun p3 G1 s1 t1 => ?_
    rw [vI_app] at t1
    refine ⟨p3, rfl, ⟨_, t1⟩, fun D hD => ?_⟩
    refine lc_tup (xs := vI (h ++ l)) (fun j G => Same G1 G ∧ G D = some (.lst ((List.replicate j true).map V.bl))) ⟨NF.Same.new (Same.refl G1) hD, upd_same⟩ (fun i G _ z => NF.Same.tup z.1 t1) ?_ ?_
    · rintro j v G hv ⟨hG, hD2⟩
      have hj := (List.getElem?_eq_some_iff.mp hv).1
      rw [vI_len] at hj
      obtain rfl : V.int ((h ++ l)[j]) = v := by
        rw [List.getElem?_map, List.getElem?_eq_getElem hj] at hv
        exact Option.some.inj hv
      refine ⟨rfl, _, rfl, _, rfl, ?_⟩
      have hc := ct _ (List.getElem_mem hj)
      have hjl : j < 2000 := by
        rw [List.length_append] at hj
        omega
      rw [decide_eq_true hc]
      refine ⟨_, hD2, by rw [List.length_map, List.length_replicate]; exact Nat.lt_of_lt_of_le hjl (by decide), NF.Same.mut hG hD, ?_⟩
      rw [upd_same, List.replicate_succ', List.map_append] <;> rfl
    · rintro G ⟨hG, hD2⟩
      refine ⟨D, _, rfl, SqL.of hD2, true, ?_, iteF ?_⟩
      · rw [List.all_replicate]
        simp
      have s2 := Same.trans s1 hG
      have hx2 := s2 _ _ hx
      have hp2 := NF.Same.tup s2 hp
      refine ⟨_, rfl, x, C, dx, _, _, rfl, hx2, tc.cl, tc.ri, rfl, r, rfl, ?_⟩
      rw [decide_eq_true c0]
      refine ⟨true, rfl, iteT ⟨_, rfl, x, C, dx, _, _, rfl, hx2, tc.cl, tc.ri, rfl, _, rfl, p, _, _, _, rfl, rfl, hp2, at2, rfl, ?_⟩⟩
      show Q (V.bl (decide (V.int r = V.int r))) G
      rw [decide_eq_true rfl]
      exact q _ s2
end
end K01
set_option Elab.async false
set_option linter.all false
set_option maxRecDepth 100000
set_option maxHeartbeats 4000000
namespace K01
open PySem PySem.Spec PyProof.Rows L2 He NF RZ NT
abbrev rLenK (K : PySem.W.Frag) : List V → Hp → VK → Prop := fun xs H Q => ∃ a ys, xs = [.ref a] ∧ (SqL K H a ys ∨ SqT K H a ys) ∧ Q (.int (ys.length : Int)) H
theorem tell_succ {h l : List Int} {r : Int} {j : Nat} : tell h l r (j + 1) = tell h l r j ++ [num h l r (j + 1)] := by
  unfold tell
  rw [List.range_succ, List.map_append]
  rfl
section
variable {P : Program} {w : World} {K : PySem.W.Frag} {mg : Str → Option Value} {base : Heap} {gs : List Str} {C : Addr}
theorem ok__law_telling {f : Addr} {fd : FuncData} (F : FunD K "_law_telling" "_law_telling" (defArgs s__law_telling) (defBody s__law_telling) (defScope s__law_telling) [] [] f fd) (T : Txt K mg gs FS) (c__law_pick : Cal P w K mg base 1 "_law_pick" spPick) (c__law_at : Cal P w K mg base 2 "_law_at" (spLAt K)) : FnOk P w K mg base CX0 3 f fd ["_law_source_here", "_law_raw_here"] (spTelling K) := by
  refine F.ok sc__law_telling (fun vs H Q E h => ?_) (fun cdv A outer s H vs Q E hr h => ?_)
  · obtain ⟨H0, p, q, x, rfl, _⟩ := h
    rfl
  · obtain ⟨H0, p, q, ⟨h, l, r⟩, rfl, s0, n0, hs, fo, ok, k⟩ := h
    obtain ⟨a, b, hq, ha, hb⟩ := id fo
    have o1 := ok.h
    have o2 := ok.l
    have o3 := ok.r
    have o4 := ok.g.r0
    dsimp only at hq ha hb o1 o2 o3 o4 k
    refine ⟨_, PSs.nox (pss_cons (ps_set (i := 2) sc__law_telling.nd rfl (Or.inl rfl) (pe_ifExp (pt_cmpR op_gt (pe_callB call_len_seq rfl (T.fr _ (by decide +kernel)) boot_len (pa_cons (pe_ix (ixt (K := K)) (pv 1) pe_int fun _ _ => rfl) pa_nil)) pe_int (nomark _)) (pe_c c__law_pick hr (by decide) rfl (pa_cons (pv 0) (pa_cons pe_int pa_nil))) pe_int)) (pss_cons (ps_set (i := 3) sc__law_telling.nd rfl (Or.inl rfl) (pe_ifExp (pt_cmpR op_gt (pe_callB call_len_seq rfl (T.fr _ (by decide +kernel)) boot_len (pa_cons (pe_ix (ixt (K := K)) (pv 1) pe_int fun _ _ => rfl) pa_nil)) pe_int (nomark _)) (pe_op op_add pe_int (pe_c c__law_pick hr (by decide) rfl (pa_cons (pv 0) (pa_cons pe_int pa_nil)))) pe_int)) (pss_cons (ps_set (i := 4) sc__law_telling.nd rfl (Or.inl rfl) (pe_op op_add (pe_callB call_len_seq rfl (T.fr _ (by decide +kernel)) boot_len (pa_cons (pe_ix (ixt (K := K)) (pv 1) pe_int fun _ _ => rfl) pa_nil)) (pv 2))) (pss_cons (ps_setLc (i := 5) (own := [("_law_n", 6)]) rfl sc__law_telling.nd rfl rfl (sw_true rfl rfl rfl (by decide +kernel)) (pi_range1 rfl (T.fr _ (by decide +kernel)) (pa_cons (pe_op op_add (pv 4) (pe_op op_mul (pe_callB call_len_seq rfl (T.fr _ (by decide +kernel)) boot_len (pa_cons (pe_ix (ixt (K := K)) (pv 1) pe_int fun _ _ => rfl) pa_nil)) (pv 3))) pa_nil)) (blkOk_by (N := ["_law_source_here", "_law_raw_here", "_law_more", "_law_turns", "_law_cut", "_law_values_here", "_law_n"]) (sc := defScope s__law_telling) (by decide +kernel)) (fun _ _ _ _ _ => by exact (pg_name (i := 6) sc__law_telling.nd rfl (Or.inl rfl))) (fun _ _ _ _ _ => by exact pts_nil) (fun _ _ _ _ _ => by exact (pe_c c__law_at hr (by decide) rfl (pa_cons (pv 1) (pa_cons (pe_op op_add (pv 6) pe_int) pa_nil))))) (pss_one (ps_ret (pe_tup (pa_cons (pe_callTy cr_tup rfl (T.fr _ (by decide +kernel)) (by decide +kernel) (pa_cons (pe_slice sl_list (pv 5) po_none (po_some (pv 4))) pa_nil)) (pa_cons (pe_callTy cr_tup rfl (T.fr _ (by decide +kernel)) (by decide +kernel) (pa_cons (pe_slice sl_list (pv 5) (po_some (pv 4)) po_none) pa_nil)) (pa_cons (pe_op op_mul (pe_ix (ixt (K := K)) (pv 1) pe_int fun _ _ => rfl) (pv 3)) pa_nil)))))))))), ?_⟩
    have hlen0 : ∀ {G : Hp}, Same H0 G → ((vI l).length : Int) = (l.length : Int) := fun _ => by rw [vI_len]
    have hmore : ∀ {W : VK}, (∀ (m : Nat) (G : Hp), m ≤ 4 → (l = [] → m = 0) → Same H0 G → Src G p → W (.int (m : Int)) G) →
        (tIf (tTest (tOp (rI0 fun i j => .bl (decide (j < i))) (tCB (rLenK K) (tCons (tOp (rIxT K) (tVar 1) (tC (.int 1))) tNil)) (tC (.int 0)))) (tCall spPick [] E0 (tCons (tVar 0) (tCons (tC (.int 5)) tNil))) (tC (.int 0))) [some (.ref p), some (.ref q), none, none, none, none, none] H W := by
      intro W hW
      refine ⟨_, rfl, q, _, _, _, rfl, rfl, NF.Same.tup s0 hq, at1, b, _, rfl, Or.inr (NF.Same.tup s0 hb), _, _, rfl, rfl, _, rfl, ite2 (fun h1 => ?_) (fun h1 => ?_)⟩
      · have h2 : l ≠ [] := fun z => by
          have := of_decide_eq_true h1
          rw [vI_len, z] at this
          simp at this
        refine ⟨_, rfl, wo H p, p, 5, rfl, wo_same', wo_none, hs, by decide, by decide, fun d G' d0 d1 s1 hs1 => ?_⟩
        obtain ⟨m, rfl⟩ : ∃ m : Nat, d = (m : Int) := ⟨d.toNat, by omega⟩
        exact hW m G' (by omega) (fun z => absurd z h2) (wo_same s0 n0 s1) hs1
      · have h2 : l = [] := by
          have : ¬ (0 : Int) < ((vI l).length : Int) := fun z => h1 (decide_eq_true z)
          rw [vI_len] at this
          exact List.eq_nil_of_length_eq_zero (by omega)
        exact hW 0 H (by decide) (fun _ => rfl) s0 hs
    refine hmore fun more G1 m4 m0 s1 hs1 => ?_
    have hturn : ∀ {W : VK}, (∀ (t : Nat) (G : Hp), 0 < t → t ≤ 3 → Same H0 G → Src G p → W (.int (t : Int)) G) →
        (tIf (tTest (tOp (rI0 fun i j => .bl (decide (j < i))) (tCB (rLenK K) (tCons (tOp (rIxT K) (tVar 1) (tC (.int 1))) tNil)) (tC (.int 0)))) (tOp (rI0 fun i j => .int (i + j)) (tC (.int 1)) (tCall spPick [] E0 (tCons (tVar 0) (tCons (tC (.int 3)) tNil)))) (tC (.int 1))) [some (.ref p), some (.ref q), some (.int (more : Int)), none, none, none, none] G1 W := by
      intro W hW
      refine ⟨_, rfl, q, _, _, _, rfl, rfl, NF.Same.tup s1 hq, at1, b, _, rfl, Or.inr (NF.Same.tup s1 hb), _, _, rfl, rfl, _, rfl, ite2 (fun h1 => ?_) (fun h1 => ?_)⟩
      · refine ⟨_, rfl, wo G1 p, p, 3, rfl, wo_same', wo_none, hs1, by decide, by decide, fun d G' d0 d1 s2 hs2 => ?_⟩
        obtain ⟨m, rfl⟩ : ∃ m : Nat, d = (m : Int) := ⟨d.toNat, by omega⟩
        refine ⟨_, _, rfl, rfl, ?_⟩
        have := hW (m + 1) G' (by omega) (by omega) (wo_same s1 n0 s2) hs2
        rw [show ((m + 1 : Nat) : Int) = (1 : Int) + (m : Int) by omega] at this
        exact this
      · exact hW 1 G1 (by decide) (by decide) s1 hs1
    refine hturn fun t G2 t0 t3 s2 hs2 => ?_
    have hq2 := NF.Same.tup s2 hq
    refine ⟨_, rfl, q, _, _, _, rfl, rfl, hq2, at0, a, _, rfl, Or.inr (NF.Same.tup s2 ha), _, rfl, _, _, rfl, rfl, ?_⟩
    rw [vI_len]
    refine ⟨_, rfl, _, rfl, q, _, _, _, rfl, rfl, hq2, at1, b, _, rfl, Or.inr (NF.Same.tup s2 hb), _, rfl, _, _, rfl, rfl, Or.inr ⟨by omega, by omega⟩, _, _, rfl, rfl, ?_⟩
    rw [vI_len]
    have eN : (h.length : Int) + (more : Int) + (l.length : Int) * (t : Int) = ((h.length + more + l.length * t : Nat) : Int) := by
      rw [Int.natCast_add, Int.natCast_add, Int.natCast_mul]
    have hN : h.length + more + l.length * t ≤ 404 := by
      have : l.length * t ≤ 100 * 3 := Nat.mul_le_mul o2 t3
      omega
    generalize hNN : h.length + more + l.length * t = N at hN eN
    refine ⟨(N : Int), congrArg (fun z => [V.int z]) eN, by omega, by omega, fun D hD => ?_⟩
    refine lc_range (lo := 0) (n := N) (fun j G => Same G2 G ∧ G D = some (.lst (vI (tell h l r j)))) ⟨NF.Same.new (Same.refl G2) hD, upd_same⟩ ?_ ?_
    · rintro j G hj ⟨hG, hD2⟩
      have e1 : (0 : Int) + (j : Int) = (j : Int) := Int.zero_add _
      rw [e1]
      refine ⟨rfl, _, rfl, _, rfl, _, _, rfl, rfl, ?_⟩
      refine ⟨q, (h, l, r), some (j + 1), rfl, fo.mono (Same.trans s2 hG), ⟨by dsimp only; omega, by dsimp only; omega, o4, by dsimp only; omega⟩, ?_⟩
      have hv : val_ h l r (some (j + 1)) = some (num h l r (j + 1)) := by
        unfold val_
        dsimp only
        rw [if_neg (Nat.succ_ne_zero j)]
        refine at_some _ ?_
        by_cases z : l = []
        · left
          have := m0 z
          have : l.length = 0 := by rw [z]; rfl
          rw [this, Nat.zero_mul] at hNN
          omega
        · exact .inr z
      rw [hv]
      refine ⟨_, hD2, by rw [vI_len, tell_len]; exact Nat.lt_of_lt_of_le (show j < 1000 by omega) (by decide), NF.Same.mut hG hD, ?_⟩
      rw [upd_same, tell_succ, ← vI_app]
      rfl
    · rintro G ⟨hG, hD2⟩
      have s3 := Same.trans s2 hG
      refine ⟨_, rfl, _, rfl, _, rfl, D, _, rfl, SqL.of hD2, fun q1 hq1 => ?_⟩
      have ec : (h.length : Int) + (more : Int) = ((h.length + more : Nat) : Int) := by omega
      rw [ec, cut_to, vI_take]
      refine ⟨q1, _, rfl, Or.inl (SqL.of upd_same), fun p1 G4 s4 t4 => ?_⟩
      have s34 : Same G G4 := Same.trans (NF.Same.new (Same.refl G) hq1) s4
      refine ⟨_, rfl, _, rfl, _, rfl, D, _, rfl, SqL.of (s34 _ _ hD2), fun q2 hq2' => ?_⟩
      have ecut : cutV (vI (tell h l r N)) (some ((h.length : Int) + (more : Int))) none = vI ((tell h l r N).drop (h.length + more)) := by rw [ec, cut_from, vI_drop]
      refine ⟨q2, vI ((tell h l r N).drop (h.length + more)), rfl, Or.inl (SqL.of (upd_same.trans (congrArg (fun z => some (HO.lst z)) ecut))), fun p2 G5 s5 t5 => ?_⟩
      have s45 : Same G4 G5 := Same.trans (NF.Same.new (Same.refl G4) hq2') s5
      have s05 : Same H0 G5 := Same.trans s3 (Same.trans s34 s45)
      refine ⟨_, rfl, q, _, _, _, rfl, rfl, NF.Same.tup s05 hq, at2, _, rfl, _, _, rfl, rfl, Or.inr ⟨by omega, by omega⟩, (by show 3 ≤ sizeLine; decide), fun p6 hp6 => ?_⟩
      have s8 := NF.Same.new (o := .tup [V.ref p1, V.ref p2, V.int (r * (t : Int))]) (Same.refl G5) hp6
      have tg := tell_good ok.g m0 t0
      have ta := tell_at (h := h) (l := l) (r := r) m0 t0
      dsimp only at tg ta
      rw [hNN] at tg ta
      refine k p6 ((tell h l r N).take (h.length + more), (tell h l r N).drop (h.length + more), r * (t : Int)) _ (Same.trans s05 s8) (Src.mono hs2 (Same.trans hG (Same.trans s34 (Same.trans s45 s8)))) ⟨tg, ?_, ?_, ?_⟩ ta ⟨p1, p2, SqT.of upd_same, NF.Same.tup (Same.trans s45 s8) t4, NF.Same.tup s8 t5⟩
      · dsimp only
        rw [List.length_take, tell_len]
        omega
      · dsimp only
        rw [List.length_drop, tell_len]
        have : N = h.length + more + l.length * t := hNN.symm
        have : l.length * t ≤ 100 * 3 := Nat.mul_le_mul o2 t3
        omega
      · dsimp only
        have : r * (t : Int) ≤ 1000 * 3 := Int.mul_le_mul o3 (by omega) (by omega) (by decide)
        omega
end
end K01
set_option Elab.async false
set_option linter.all false
set_option maxRecDepth 100000
set_option maxHeartbeats 4000000
namespace K01
open PySem PySem.Spec PyProof.Rows L2 He NF RZ NT
theorem climbs_from {h : List Int} {lo d : Int} (c : climbs lo h) (e : h ≠ [] → d ≤ h.getD 0 0) : climbs d h := by
  cases h with
  | nil => trivial
  | cons x h => exact ⟨e (by simp), c.2⟩
theorem first_is {h l : List Int} : (h ≠ [] → (h ++ l ++ [5]).getD 0 0 = h.getD 0 0) ∧ (h = [] → l ≠ [] → (h ++ l ++ [5]).getD 0 0 = l.getD 0 0) := by
  cases h with
  | nil => cases l with
    | nil => exact ⟨fun z => absurd rfl z, fun _ z => absurd rfl z⟩
    | cons y l => exact ⟨fun z => absurd rfl z, fun _ _ => rfl⟩
  | cons x h => exact ⟨fun _ => rfl, fun z => absurd z (by simp)⟩
theorem good_cons {h l : List Int} {r d : Int} (g : Good h l r) (d0 : 0 ≤ d) (d1 : d ≤ (h ++ l ++ [5]).getD 0 0) : Good (d :: h) l r := by
  have f := first_is (h := h) (l := l)
  refine ⟨⟨d0, climbs_from g.hd fun z => by rw [f.1 z] at d1; exact d1⟩, g.lp, fun _ hl => ?_, g.r0, g.rl, g.last⟩
  by_cases z : h = []
  · subst z
    rw [f.2 rfl hl] at d1
    exact d1
  · have := g.join z hl
    have hp := len_pos z
    have e : (d :: h).getD ((d :: h).length - 1) 0 = h.getD (h.length - 1) 0 := by
      obtain ⟨n, hn⟩ : ∃ n, h.length = n + 1 := ⟨h.length - 1, by omega⟩
      rw [List.length_cons, hn]
      rfl
    rw [e]
    exact this
section
variable {P : Program} {w : World} {K : PySem.W.Frag} {mg : Str → Option Value} {base : Heap} {gs : List Str} {C : Addr}
theorem ok__law_other {f : Addr} {fd : FuncData} (F : FunD K "_law_other" "_law_other" (defArgs s__law_other) (defBody s__law_other) (defScope s__law_other) [] [] f fd) (T : Txt K mg gs FS) (c__law_pick : Cal P w K mg base 1 "_law_pick" spPick) (c__law_raw : Cal P w K mg base 3 "_law_raw" (spRaw K)) : FnOk P w K mg base CX0 4 f fd ["_law_source_here", "_law_raw_here"] (spOther K) := by
  refine F.ok sc__law_other (fun vs H Q E h => ?_) (fun cdv A outer s H vs Q E hr h => ?_)
  · obtain ⟨H0, p, q, x, rfl, _⟩ := h
    rfl
  · obtain ⟨H0, p, q, ⟨h, l, r⟩, rfl, s0, n0, hs, fo, ok, k⟩ := h
    obtain ⟨a, b, hq, ha, hb⟩ := id fo
    have o1 := ok.h
    have o2 := ok.l
    have o3 := ok.r
    have o5 := ok.f
    have og := ok.g
    have o4 := og.r0
    dsimp only at hq ha hb o1 o2 o3 o4 o5 og k
    refine ⟨_, PSs.nox (pss_cons (ps_set (i := 2) sc__law_other.nd rfl (Or.inl rfl) (pe_c c__law_pick hr (by decide) rfl (pa_cons (pv 0) (pa_cons pe_int pa_nil)))) (pss_cons (ps_if (pt_cmpR op_eq (pv 2) pe_int (nomark _)) (pss_one (ps_ret (pe_c c__law_raw hr (by decide) rfl (pa_cons (pv 0) (pa_cons pe_bl pa_nil))))) pss_nil) (pss_cons (ps_if (pt_cmpR op_eq (pv 2) pe_int (nomark _)) (pss_cons (ps_set (i := 3) sc__law_other.nd rfl (Or.inl rfl) (pe_op op_cat (pe_lc (own := [("_law_one", 4)]) rfl sc__law_other.nd (pi_tup (pe_op op_catA (pe_ix (ixt (K := K)) (pv 1) pe_int fun _ _ => rfl) (pe_ix (ixt (K := K)) (pv 1) pe_int fun _ _ => rfl))) (blkOk_by (N := ["_law_source_here", "_law_raw_here", "_law_way", "_law_low", "_law_one"]) (sc := defScope s__law_other) (by decide +kernel)) (fun _ _ _ _ _ => by exact (pg_name (i := 4) sc__law_other.nd rfl (Or.inl rfl))) (fun _ _ _ _ _ => by exact pts_nil) (fun _ _ _ _ _ => by exact (pv 4))) (pe_lst (pa_cons pe_int pa_nil)))) (pss_one (ps_ret (pe_tup (pa_cons (pe_op op_catA (pe_tup (pa_cons (pe_c c__law_pick hr (by decide) rfl (pa_cons (pv 0) (pa_cons (pe_op op_add (pe_ix (ixl (K := K)) (pv 3) pe_int fun _ _ => rfl) pe_int) pa_nil))) pa_nil)) (pe_ix (ixt (K := K)) (pv 1) pe_int fun _ _ => rfl)) (pa_cons (pe_ix (ixt (K := K)) (pv 1) pe_int fun _ _ => rfl) (pa_cons (pe_ix (ixt (K := K)) (pv 1) pe_int fun _ _ => rfl) pa_nil))))))) pss_nil) (pss_cons (ps_if (PW.pt (pw_and (pt_cmpR op_eq (pv 2) pe_int (nomark _)) (pw_and1 (pt_cmpR op_gt (pe_callB call_len_seq rfl (T.fr _ (by decide +kernel)) boot_len (pa_cons (pe_ix (ixt (K := K)) (pv 1) pe_int fun _ _ => rfl) pa_nil)) pe_int (nomark _))))) (pss_one (ps_ret (pe_tup (pa_cons (pe_ix (ixt (K := K)) (pv 1) pe_int fun _ _ => rfl) (pa_cons (pe_ix (ixt (K := K)) (pv 1) pe_int fun _ _ => rfl) (pa_cons (pe_op op_add (pe_ix (ixt (K := K)) (pv 1) pe_int fun _ _ => rfl) pe_int) pa_nil)))))) pss_nil) (pss_one (ps_ret (pe_ifExp (pt_cmpR op_eq (pe_callB call_len_seq rfl (T.fr _ (by decide +kernel)) boot_len (pa_cons (pe_ix (ixt (K := K)) (pv 1) pe_int fun _ _ => rfl) pa_nil)) pe_int (nomark _)) (pe_tup (pa_cons (pe_ix (ixt (K := K)) (pv 1) pe_int fun _ _ => rfl) (pa_cons (pe_op op_repT (pe_ix (ixt (K := K)) (pv 1) pe_int fun _ _ => rfl) pe_int) (pa_cons (pe_op op_add (pe_op op_mul (pe_ix (ixt (K := K)) (pv 1) pe_int fun _ _ => rfl) pe_int) (pe_op op_sub (pe_ix (ixt (K := K)) (pe_ix (ixt (K := K)) (pv 1) pe_int fun _ _ => rfl) (pe_un un_neg pe_int) fun _ _ => rfl) (pe_ix (ixt (K := K)) (pe_ix (ixt (K := K)) (pv 1) pe_int fun _ _ => rfl) pe_int fun _ _ => rfl))) pa_nil)))) (pv 1)))))))), ?_⟩
    refine ⟨_, rfl, wo H p, p, 4, rfl, wo_same', wo_none, hs, by decide, by decide, fun d G1 _ _ s1 hs1 => ?_⟩
    have s01 := wo_same s0 n0 s1
    have hq1 := NF.Same.tup s01 hq
    have ha1 := NF.Same.tup s01 ha
    have hb1 := NF.Same.tup s01 hb
    refine ⟨_, rfl, rfl, _, rfl, ite2 (fun _ => ?_) (fun _ => ?_)⟩
    · exact ⟨_, rfl, H0, p, rfl, s01, n0, hs1, fun q' x' H' s2 hs2 ok' fo' => k q' x' H' s2 hs2 ok'.ok fo'⟩
    refine ⟨_, rfl, rfl, _, rfl, ite2 (fun _ => ?_) (fun _ => ?_)⟩
    · refine ⟨_, rfl, q, _, _, _, rfl, rfl, hq1, at0, _, rfl, q, _, _, _, rfl, rfl, hq1, at1, ?_⟩
      refine catA_done (K := K) ha1 hb1 (by rw [vI_len, vI_len]; exact Nat.le_trans (show h.length + l.length ≤ 2000 by omega) (by decide)) fun p3 G2 s2 t2 => ?_
      rw [vI_app] at t2
      refine ⟨p3, rfl, ⟨_, t2⟩, fun D hD => ?_⟩
      refine lc_tup (xs := vI (h ++ l)) (fun j G => Same G2 G ∧ G D = some (.lst (vI ((h ++ l).take j)))) ⟨NF.Same.new (Same.refl G2) hD, upd_same⟩ (fun i G _ z => NF.Same.tup z.1 t2) ?_ ?_
      · rintro j v G hv ⟨hG, hD2⟩
        have hj := (List.getElem?_eq_some_iff.mp hv).1
        rw [vI_len] at hj
        have hjl : j < 2000 := by
          have := hj
          rw [List.length_append] at this
          omega
        refine ⟨rfl, _, rfl, _, hD2, by rw [vI_len, List.length_take]; exact Nat.lt_of_le_of_lt (Nat.min_le_left _ _) (Nat.lt_of_lt_of_le hjl (by decide)), NF.Same.mut hG hD, ?_⟩
        rw [upd_same, List.take_add_one, ← vI_app]
        congr 2
        rw [List.getElem?_map, List.getElem?_eq_getElem hj] at hv
        rw [List.getElem?_eq_getElem hj, ← Option.some.inj hv]
        rfl
      · rintro G ⟨hG, hD2⟩
        rw [vI_len, List.take_of_length_le (Nat.le_refl _)] at hD2
        refine ⟨(by show 1 ≤ sizeLine; decide), fun q5 hq5 => ?_⟩
        refine ⟨D, q5, vI (h ++ l), vI [5], rfl, rfl, by rw [upd_ne (ne_of_none hD2 hq5)]; exact hD2, upd_same, ?_, fun q6 hq6 => ?_⟩
        · rw [vI_len, vI_len, List.length_append]
          exact Nat.le_trans (show h.length + l.length + 1 ≤ 2000 by omega) (by decide)
        rw [vI_app]
        have s3 : Same G1 (upd (upd G q5 (.lst (vI [5]))) q6 (.lst (vI (h ++ l ++ [5])))) := NF.Same.new (NF.Same.new (Same.trans s2 hG) hq5) hq6
        have hs3 := Src.mono hs1 s3
        have f0 : 0 ≤ (h ++ l ++ [5]).getD 0 0 := by
          by_cases z : h = []
          · by_cases z2 : l = []
            · rw [z, z2]; decide
            · rw [first_is.2 z z2]; exact climbs_lo og.lp (len_pos z2)
          · rw [first_is.1 z]; exact climbs_lo og.hd (len_pos z)
        refine ⟨_, rfl, _, rfl, q6, _, _, _, rfl, rfl, SqL.of upd_same, at_int (k := 0) rfl (by rw [List.length_append]; simp), _, _, rfl, rfl, ?_⟩
        refine ⟨wo _ p, p, (h ++ l ++ [5]).getD 0 0 + 1, rfl, wo_same', wo_none, hs3, by omega, by omega, fun e G4 e0 e1 s4 hs4 => ?_⟩
        have s04 := wo_same (Same.trans s01 s3) n0 s4
        refine ⟨(by show 1 ≤ sizeLine; decide), fun p5 hp5 => ?_⟩
        have s5 := NF.Same.new (o := .tup [V.int e]) (Same.refl G4) hp5
        have s05 := Same.trans s04 s5
        refine ⟨_, rfl, q, _, _, _, rfl, rfl, NF.Same.tup s05 hq, at0, ?_⟩
        refine catA_done (K := K) (SqT.of upd_same) (NF.Same.tup s05 ha) (by rw [vI_len]; exact Nat.le_trans (show 1 + h.length ≤ 2000 by omega) (by decide)) fun p7 G7 s7 t7 => ?_
        have s07 := Same.trans s05 s7
        refine ⟨_, rfl, q, _, _, _, rfl, rfl, NF.Same.tup s07 hq, at1, _, rfl, q, _, _, _, rfl, rfl, NF.Same.tup s07 hq, at2, (by show 3 ≤ sizeLine; decide), fun p8 hp8 => ?_⟩
        have s8 := NF.Same.new (o := .tup [V.ref p7, V.ref b, V.int r]) (Same.refl G7) hp8
        exact k p8 (e :: h, l, r) _ (Same.trans s07 s8) (Src.mono hs4 (Same.trans s5 (Same.trans s7 s8))) ⟨good_cons og e0 (show e ≤ (h ++ l ++ [5]).getD 0 0 by omega), by dsimp only; rw [List.length_cons]; omega, by dsimp only; omega, by dsimp only; omega⟩ ⟨p7, b, SqT.of upd_same, NF.Same.tup s8 t7, NF.Same.tup (Same.trans s07 s8) hb⟩
    have hlast : (tRet (tIf (tTest (tOp rEq (tCB (rLenK K) (tCons (tOp (rIxT K) (tVar 1) (tC (.int 1))) tNil)) (tC (.int 1)))) (tTup (tCons (tOp (rIxT K) (tVar 1) (tC (.int 0))) (tCons (tOp (rRepT K) (tOp (rIxT K) (tVar 1) (tC (.int 1))) (tC (.int 2))) (tCons (tOp (rI0 fun i j => .int (i + j)) (tOp (rI CMul fun i j => .int (i * j)) (tOp (rIxT K) (tVar 1) (tC (.int 2))) (tC (.int 2))) (tOp (rI0 fun i j => .int (i - j)) (tOp (rIxT K) (tOp (rIxT K) (tVar 1) (tC (.int 1))) (tUn (rU fun i => .int (-i)) (tC (.int 1)))) (tOp (rIxT K) (tOp (rIxT K) (tVar 1) (tC (.int 1))) (tC (.int 0))))) tNil)))) (tVar 1))) { nx := fun _ H' => Q .non H', rt := Q }
        [some (.ref p), some (.ref q), some (.int d), none, none] G1 := by
      refine ⟨_, rfl, q, _, _, _, rfl, rfl, hq1, at1, b, _, rfl, Or.inr hb1, rfl, _, rfl, ite2 (fun h1 => ?_) (fun h1 => ?_)⟩
      · have h2 : l.length = 1 := by
          have := of_decide_eq_true h1
          injection this with this
          rw [vI_len] at this
          omega
        obtain ⟨v, rfl⟩ : ∃ v, l = [v] := by
          match l, h2 with
          | [v], _ => exact ⟨v, rfl⟩
        refine ⟨_, rfl, q, _, _, _, rfl, rfl, hq1, at0, ?_⟩
        refine ⟨_, rfl, q, _, _, _, rfl, rfl, hq1, at1, b, 2, _, rfl, rfl, hb1, by simp [vI], by decide, by decide, (show 1 ≤ 1000 by decide), fun p4 hp4 => ?_⟩
        have s2 := NF.Same.new (o := .tup (List.replicate (2 : Int).toNat (vI [v])).flatten) (Same.refl G1) hp4
        have hq2 := NF.Same.tup s2 hq1
        have hb2 := NF.Same.tup s2 hb1
        refine ⟨_, rfl, q, _, _, _, rfl, rfl, hq2, at2, _, _, rfl, rfl, Or.inr ⟨by decide, by decide⟩, ?_⟩
        refine ⟨_, rfl, q, _, _, _, rfl, rfl, hq2, at1, _, rfl, b, _, _, _, rfl, rfl, hb2, at_last (show 0 < 1 by decide), ?_⟩
        refine ⟨_, rfl, q, _, _, _, rfl, rfl, hq2, at1, b, _, _, _, rfl, rfl, hb2, at_int (k := 0) rfl (show 0 < 1 by decide), _, _, rfl, rfl, _, _, rfl, rfl, (by show 3 ≤ sizeLine; decide), fun p6 hp6 => ?_⟩
        have e : r * 2 + (v - v) = r * 2 := by omega
        have s3 := NF.Same.new (o := .tup [V.ref a, V.ref p4, V.int (r * 2 + (v - v))]) s2 hp6
        refine k p6 (h, [v, v], r * 2 + (v - v)) _ (Same.trans s01 s3) (Src.mono hs1 s3) ⟨⟨og.hd, ⟨og.lp.1, Int.le_refl _, trivial⟩, fun z _ => og.join z (by simp), by dsimp only; omega, fun z => by simp at z, fun _ => ?_⟩, by dsimp only; omega, (show 2 ≤ 400 by decide), by dsimp only; omega⟩ ⟨a, p4, SqT.of upd_same, NF.Same.tup s3 ha1, ?_⟩
        · show v ≤ v + (r * 2 + (v - v))
          omega
        · exact SqT.of (by rw [upd_ne (ne_of_none upd_same hp6)]; exact upd_same)
      · exact ⟨_, rfl, k q (h, l, r) G1 s01 hs1 ok.ok (fo.mono s01)⟩
    refine ⟨_, rfl, rfl, _, rfl, ite2 (fun _ => ?_) (fun _ => ?_)⟩
    · refine ⟨_, rfl, q, _, _, _, rfl, rfl, hq1, at1, b, _, rfl, Or.inr hb1, _, _, rfl, rfl, _, rfl, ite2 (fun h1 => ?_) (fun h1 => ?_)⟩
      · have h2 : l ≠ [] := fun z => by
          have := of_decide_eq_true h1
          rw [vI_len, z] at this
          simp at this
        refine ⟨_, rfl, q, _, _, _, rfl, rfl, hq1, at0, _, rfl, q, _, _, _, rfl, rfl, hq1, at1, _, rfl, q, _, _, _, rfl, rfl, hq1, at2, _, _, rfl, rfl, (by show 3 ≤ sizeLine; decide), fun p6 hp6 => ?_⟩
        have s3 := NF.Same.new (o := .tup [V.ref a, V.ref b, V.int (r + 1)]) (Same.refl G1) hp6
        refine k p6 (h, l, r + 1) _ (Same.trans s01 s3) (Src.mono hs1 s3) ⟨⟨og.hd, og.lp, og.join, by dsimp only; omega, fun z => absurd z h2, fun z => ?_⟩, by dsimp only; omega, by dsimp only; omega, by dsimp only; omega⟩ ⟨a, b, SqT.of upd_same, NF.Same.tup s3 ha1, NF.Same.tup s3 hb1⟩
        have := og.last z
        dsimp only
        omega
      · exact hlast
    · exact iteF hlast
end
end K01
set_option Elab.async false
set_option linter.all false
set_option maxRecDepth 100000
set_option maxHeartbeats 4000000
namespace K01
open PySem PySem.Spec PyProof.Rows L2 He NF RZ NT
def NoNeg (y : List Int × List Int × Int) : Prop := ∀ n i, val_ y.1 y.2.1 y.2.2 n = some i → 0 ≤ i
def spValues (K : PySem.W.Frag) (C : Addr) : Sp := fun vs H Q _ => ∃ (H0 : Hp) (p x q : Addr) (y : List Int × List Int × Int), vs = [.ref p, .ref x, .ref q] ∧ Same H0 H ∧ H0 p = none ∧ Src H p ∧ TabAt K C H0 x y ∧ FormAt K H0 q y ∧ Small y ∧ NoNeg y ∧
  ∀ H', Same H0 H' → Src H' p → Q (.bl true) H'
theorem sc__law_values : FnScope ["_law_source_here", "_law_table_here", "_law_plain_here", "_law_places", "_law_place", "_law_value", "_law_one"] ["_law_source_here", "_law_table_here", "_law_plain_here"] (defScope s__law_values) := ⟨rfl, rfl, rfl, by decide +kernel, rfl, by decide +kernel, by decide +kernel⟩
theorem vO_scal (o : Option Int) : scal (vO o) (vO o) = true := by cases o <;> rfl
section
variable {P : Program} {w : World} {K : PySem.W.Frag} {mg : Str → Option Value} {base : Heap} {gs : List Str} {C : Addr}
theorem ok__law_values {f : Addr} {fd : FuncData} (F : FunD K "_law_values" "_law_values" (defArgs s__law_values) (defBody s__law_values) (defScope s__law_values) [] [] f fd) (T : Txt K mg gs FS) (c__law_pick : Cal P w K mg base 1 "_law_pick" spPick) (c__law_at : Cal P w K mg base 2 "_law_at" (spLAt K)) (c__law_end : Cal P w K mg base 1 "_law_end" (spLEnd K)) (c__law_is_value : Cal P w K mg base 3 "_law_is_value" spIsValue) (c__law_is_count : Cal P w K mg base 2 "_law_is_count" spIsCount) (c__law_rate : Cal P w K mg base 2 "_law_rate" (spLRate K)) (c__law_truth : Cal P w K mg base 1 "_law_truth" spTruth)
    (o_call : CalO P w K mg base 3 C (spAt K C)) (o_end : PropC P w K mg base 2 C "end" (spEnd K C)) (o_rate : PropC P w K mg base 1 C "rate" (spRate K C)) (o_steady : PropC P w K mg base 1 C "steady" (spSteady K C)) : FnOk P w K mg base CX0 4 f fd ["_law_source_here", "_law_table_here", "_law_plain_here"] (spValues K C) := by
  refine F.ok sc__law_values (fun vs H Q E h => ?_) (fun cdv A outer s H vs Q E hr h => ?_)
  · obtain ⟨H0, p, x, q, y, rfl, _⟩ := h
    rfl
  · obtain ⟨H0, p, x, q, y, rfl, s0, n0, hs, tb, fo, sm, nn, k⟩ := h
    have hu : (A.deeper (envOfC "_law_values" (defScope s__law_values) s.heap.objs.size f cdv)).units + 64 < cLine := by
      have := hr.un
      omega
    refine ⟨_, PSs.nox (pss_cons (ps_set (i := 3) sc__law_values.nd rfl (Or.inl rfl) (pe_op op_cat (pe_listRg (by rfl) rfl (T.fr _ (by decide +kernel)) (prg_1 rfl (T.fr _ (by decide +kernel)) pe_int)) (pe_lst (pa_cons (pe_op op_add (pe_op op_pow pe_int pe_int) (pe_c c__law_pick hr (by decide) rfl (pa_cons (pv 0) (pa_cons pe_int pa_nil)))) (pa_cons (pe_op op_add (pe_op op_pow pe_int pe_int) (pe_c c__law_pick hr (by decide) rfl (pa_cons (pv 0) (pa_cons (pe_op op_pow pe_int pe_int) pa_nil)))) pa_nil))))) (pss_cons (ps_for PassesOwn.never rfl (pi_list (pe_op op_cat (pv 3) (pe_lst (pa_cons (pe_op op_add (pe_op op_pow pe_int pe_int) (pe_c c__law_pick hr (by decide) rfl (pa_cons (pv 0) (pa_cons pe_int pa_nil)))) (pa_cons pe_non pa_nil))))) (pg_name (i := 4) sc__law_values.nd rfl (Or.inl rfl)) (pss_cons (ps_set (i := 5) sc__law_values.nd rfl (Or.inl rfl) (pe_co (pv 1) o_call hr (by decide) (pa_cons (pv 4) pa_nil))) (pss_one (ps_if (PW.pt (pw_or (pt_cmpR op_ne (pv 5) (pe_c c__law_at hr (by decide) rfl (pa_cons (pv 2) (pa_cons (pv 4) pa_nil))) (nomark _)) (pw_or1 (pt_not (pt_val (pe_c c__law_is_value hr (by decide) rfl (pa_cons (pv 5) pa_nil))))))) (pss_one (ps_ret pe_bl)) pss_nil)))) (pss_cons (ps_if (PW.pt (pw_or (pt_cmpR op_ne (pe_pr (pv 1) o_end hr (by decide)) (pe_c c__law_end hr (by decide) rfl (pa_cons (pv 2) pa_nil)) (nomark _)) (pw_or1 (pt_not (pt_val (pe_c c__law_is_value hr (by decide) rfl (pa_cons (pe_pr (pv 1) o_end hr (by decide)) pa_nil))))))) (pss_one (ps_ret pe_bl)) pss_nil) (pss_cons (ps_if (PW.pt (pw_or (pt_cmpR (op_neD hu) (pe_pr (pv 1) o_rate hr (by decide)) (pe_c c__law_rate hr (by decide) rfl (pa_cons (pv 2) pa_nil)) (nomark _)) (pw_or1 (PW.pt (pw_and (pt_cmpR op_notN (pe_pr (pv 1) o_rate hr (by decide)) pe_non (nomark _)) (pw_and1 (pt_not (pt_val (pe_callB (cr_all rfl) rfl (T.fr _ (by decide +kernel)) (by decide +kernel) (pa_cons (pe_lc (own := [("_law_one", 6)]) rfl sc__law_values.nd (pi_tup (pe_pr (pv 1) o_rate hr (by decide))) (blkOk_by (N := ["_law_source_here", "_law_table_here", "_law_plain_here", "_law_places", "_law_place", "_law_value", "_law_one"]) (sc := defScope s__law_values) (by decide +kernel)) (fun _ _ _ _ _ => by exact (pg_name (i := 6) sc__law_values.nd rfl (Or.inl rfl))) (fun _ _ _ _ _ => by exact pts_nil) (fun _ _ _ _ _ => by exact (pe_c c__law_is_count hr (by decide) rfl (pa_cons (pv 6) pa_nil)))) pa_nil)))))))))) (pss_one (ps_ret pe_bl)) pss_nil) (pss_one (ps_ret (pe_c c__law_truth hr (by decide) rfl (pa_cons (pe_pr (pv 1) o_steady hr (by decide)) (pa_cons (pe_cmpR op_gt (pe_ix (ixt (K := K)) (pv 2) pe_int fun _ _ => rfl) pe_int (nomark _)) pa_nil))))))))), ?_⟩
    obtain ⟨dx, ta, tbb, hx, hta, htb⟩ := id tb
    obtain ⟨a, b, hq, ha, hb⟩ := id fo
    -- the places
    refine ⟨21, rfl, RgOk.of_le (by decide) (by decide) (by decide) (by decide), fun t1 ht1 => ?_⟩
    have s1 := NF.Same.put (o := .lst (rgV 0 21)) s0 (same_none s0 ht1)
    have hs1 : Src (upd H t1 (.lst (rgV 0 21))) p := src_put hs (src_ne (o := .lst []) hs ht1)
    have n1 : t1 ≠ p := src_ne (o := .lst []) hs ht1
    refine ⟨_, _, rfl, rfl, ⟨by decide, by decide, by decide⟩, _, rfl, wo _ p, p, 50, rfl, wo_same', wo_none, hs1, by decide, by decide, fun d1 G1 d10 _ s2 hs2 => ?_⟩
    have s02 := wo_same s1 n0 s2
    have h21 : G1 t1 = some (.lst (rgV 0 21)) := s2 _ _ ((wo_ne n1).trans upd_same)
    refine ⟨_, _, rfl, rfl, _, _, rfl, rfl, ⟨by decide, by decide, by decide⟩, _, rfl, _, _, rfl, rfl, ⟨by decide, by decide, by decide⟩, ?_⟩
    refine ⟨wo G1 p, p, _, rfl, wo_same', wo_none, hs2, by decide, by decide, fun d2 G2 d20 _ s3 hs3 => ?_⟩
    have s03 := wo_same s02 n0 s3
    have h22 : G2 t1 = some (.lst (rgV 0 21)) := s3 _ _ ((wo_ne n1).trans h21)
    refine ⟨_, _, rfl, rfl, (by show 2 ≤ sizeLine; decide), fun t2 ht2 => ?_⟩
    refine ⟨t1, t2, rgV 0 21, _, rfl, rfl, (upd_ne (ne_of_none h22 ht2)).trans h22, upd_same, (show 21 + 2 ≤ sizeLine by decide), fun t3 ht3 => ?_⟩
    have s34 : Same G2 (upd (upd G2 t2 (.lst [V.int (10 ^ (6 : Int).toNat + d1), V.int (10 ^ (18 : Int).toNat + d2)])) t3 (.lst (rgV 0 21 ++ [V.int (10 ^ (6 : Int).toNat + d1), V.int (10 ^ (18 : Int).toNat + d2)]))) := NF.Same.new (NF.Same.new (Same.refl G2) ht2) ht3
    have s04 := Same.trans s03 s34
    have hs4 := Src.mono hs3 s34
    have n3 : t3 ≠ p := src_ne (o := .lst []) (Src.mono hs3 (NF.Same.new (Same.refl G2) ht2)) ht3
    refine ⟨_, rfl, _, _, rfl, rfl, ⟨by decide, by decide, by decide⟩, _, rfl, wo _ p, p, 97, rfl, wo_same', wo_none, hs4, by decide, by decide, fun d3 G5 d30 _ s5 hs5 => ?_⟩
    have s05 := wo_same s04 n0 s5
    have h35 : G5 t3 = some (.lst (rgV 0 21 ++ [V.int (10 ^ (6 : Int).toNat + d1), V.int (10 ^ (18 : Int).toNat + d2)])) := s5 _ _ ((wo_ne n3).trans upd_same)
    refine ⟨_, _, rfl, rfl, (by show 2 ≤ sizeLine; decide), fun t4 ht4 => ?_⟩
    refine ⟨t3, t4, rgV 0 21 ++ [V.int (10 ^ (6 : Int).toNat + d1), V.int (10 ^ (18 : Int).toNat + d2)], _, rfl, rfl, (upd_ne (ne_of_none h35 ht4)).trans h35, upd_same, (show 23 + 2 ≤ sizeLine by decide), fun t5 ht5 => ?_⟩
    have s57 : Same G5 (upd (upd G5 t4 (.lst [V.int (10 ^ (29 : Int).toNat + d3), .non])) t5 (.lst (rgV 0 21 ++ [V.int (10 ^ (6 : Int).toNat + d1), V.int (10 ^ (18 : Int).toNat + d2)] ++ [V.int (10 ^ (29 : Int).toNat + d3), .non]))) := NF.Same.new (NF.Same.new (Same.refl G5) ht4) ht5
    have s07 := Same.trans s05 s57
    have hs7 := Src.mono hs5 s57
    have intN : ∀ i : Int, 0 ≤ i → ∃ n : Option Nat, V.int i = vN n := fun i h0 => ⟨some i.toNat, by show V.int i = V.int (i.toNat : Int); rw [Int.toNat_of_nonneg h0]⟩
    have hitem : ∀ v, v ∈ rgV 0 21 ++ [V.int (10 ^ (6 : Int).toNat + d1), V.int (10 ^ (18 : Int).toNat + d2)] ++ [V.int (10 ^ (29 : Int).toNat + d3), .non] → ∃ n : Option Nat, v = vN n := fun v hv => by
      rcases List.mem_append.mp hv with hv | hv
      · rcases List.mem_append.mp hv with hv | hv
        · obtain ⟨i, _, rfl⟩ := List.mem_map.mp hv
          exact intN _ (by omega)
        · simp only [List.mem_cons, List.not_mem_nil, or_false] at hv
          rcases hv with rfl | rfl
          · exact intN _ (Int.add_nonneg (by decide) d10)
          · exact intN _ (Int.add_nonneg (by decide) d20)
      · simp only [List.mem_cons, List.not_mem_nil, or_false] at hv
        rcases hv with rfl | rfl
        · exact intN _ (Int.add_nonneg (by decide) d30)
        · exact ⟨none, rfl⟩
    refine ⟨t5, rfl, ⟨_, SqL.of upd_same⟩, ?_⟩
    generalize hG7 : upd (upd G5 t4 (.lst [V.int (10 ^ (29 : Int).toNat + d3), .non])) t5 (.lst (rgV 0 21 ++ [V.int (10 ^ (6 : Int).toNat + d1), V.int (10 ^ (18 : Int).toNat + d2)] ++ [V.int (10 ^ (29 : Int).toNat + d3), .non])) = G7 at s57 s07 hs7
    have h57 : G7 t5 = some (.lst (rgV 0 21 ++ [V.int (10 ^ (6 : Int).toNat + d1), V.int (10 ^ (18 : Int).toNat + d2)] ++ [V.int (10 ^ (29 : Int).toNat + d3), .non])) := by rw [← hG7]; exact upd_same
    refine for_list (xs := rgV 0 21 ++ [V.int (10 ^ (6 : Int).toNat + d1), V.int (10 ^ (18 : Int).toNat + d2)] ++ [V.int (10 ^ (29 : Int).toNat + d3), .non]) (fun i σ G => Same G7 G ∧ ∃ v1 v2 : Option V, σ = [some (.ref p), some (.ref x), some (.ref q), some (.ref t3), v1, v2, none]) ⟨by rw [← hG7]; exact Same.refl _, none, none, rfl⟩ (fun i σ G _ z => SqL.of (z.1 _ _ h57)) ?_ ?_
    · rintro i v σ G hv ⟨s8, v1, v2, rfl⟩
      obtain ⟨n, rfl⟩ := hitem v (List.mem_of_getElem? hv)
      have s08 := Same.trans s07 s8
      refine ⟨_, rfl, x, rfl, _, rfl, Or.inr ⟨dx, _, s08 _ _ hx⟩, x, y, n, rfl, tb.mono s08, sm, fun G' s9 => ?_⟩
      have s09 := Same.trans s08 s9
      refine ⟨_, rfl, _, rfl, _, rfl, q, y, n, rfl, fo.mono s09, sm, vO_scal _, _, rfl, iteF' (by simp) ?_⟩
      exact ⟨_, rfl, val_ y.1 y.2.1 y.2.2 n, rfl, nn n, true, rfl, iteF ⟨Same.trans s8 s9, _, _, rfl⟩⟩
    · rintro σ G ⟨s8, v1, v2, rfl⟩
      have s08 := Same.trans s07 s8
      have hx8 := s08 _ _ hx
      have hs8 := Src.mono hs7 s8
      have tb8 := tb.mono s08
      refine ⟨_, rfl, x, dx, _, rfl, hx8, x, y, rfl, tb8, _, rfl, q, y, rfl, fo.mono s08, vO_scal _, _, rfl, iteF' (by simp) ?_⟩
      refine ⟨_, rfl, x, dx, _, rfl, hx8, x, y, rfl, tb8, fin_ y.2.1 y.2.2, rfl, nn none, true, rfl, iteF ?_⟩
      have hend : ∀ {G9 : Hp}, Same G G9 → (tRet (tCall spTruth [] E0 (tCons (tProp C (spSteady K C) [] E0 (tVar 1)) (tCons (tOp (rI0 fun i j => .bl (decide (j < i))) (tOp (rIxT K) (tVar 2) (tC (.int 2))) (tC (.int 0))) tNil)))) { nx := fun _ H' => Q .non H', rt := Q } [some (.ref p), some (.ref x), some (.ref q), some (.ref t3), v1, v2, none] G9 := fun {G9} s9 => by
        have s09 := Same.trans s08 s9
        refine ⟨_, rfl, x, dx, _, rfl, s09 _ _ hx, x, y, rfl, tb.mono s09, _, rfl, q, _, _, _, rfl, rfl, NF.Same.tup s09 hq, at2, _, _, rfl, rfl, _, _, rfl, ?_⟩
        show Q (V.bl (decide (0 < y.2.2) == decide (0 < y.2.2))) G9
        rw [beq_self_eq_true]
        exact k _ s09 (Src.mono hs8 s9)
      by_cases hl : y.2.1 = []
      · refine ⟨_, rfl, x, dx, _, rfl, hx8, x, y, rfl, tb8, sm, fun _ => ?_, fun z => absurd hl z⟩
        refine ⟨_, rfl, q, y, rfl, fo.mono s08, sm, fun _ => ?_, fun z => absurd hl z⟩
        refine ⟨.none, .none, .non, .non, rfl, rfl, _, rfl, iteF ?_⟩
        refine ⟨_, rfl, x, dx, _, rfl, hx8, x, y, rfl, tb8, sm, fun _ => ?_, fun z => absurd hl z⟩
        exact ⟨rfl, _, rfl, iteF (iteF (hend (Same.refl G)))⟩
      · have r1 : 0 ≤ (rate_ y).1 := Int.ediv_nonneg sm.r0 (by omega)
        have r2 : 0 ≤ (rate_ y).2 := Int.ediv_nonneg (by omega) (by omega)
        refine ⟨_, rfl, x, dx, _, rfl, hx8, x, y, rfl, tb8, sm, fun z => absurd z hl, fun _ p1 hp1 => ?_⟩
        have s9 := NF.Same.new (o := .tup [V.int (rate_ y).1, V.int (rate_ y).2]) (Same.refl G) hp1
        refine ⟨_, rfl, q, y, rfl, (fo.mono s08).mono s9, sm, fun z => absurd z hl, fun _ G10 p2 s10 hp2 => ?_⟩
        have s11 := NF.Same.new (o := .tup [V.int (rate_ y).1, V.int (rate_ y).2]) s10 hp2
        have hp1' : SqT K (upd G10 p2 (.tup [V.int (rate_ y).1, V.int (rate_ y).2])) p1 (vI [(rate_ y).1, (rate_ y).2]) := NF.Same.tup s11 (SqT.of upd_same)
        refine neT_done (K := K) hp1' (SqT.of (xs := vI [(rate_ y).1, (rate_ y).2]) upd_same) ⟨_, rfl, iteF' (by simp) ?_⟩
        have s12 : Same G (upd G10 p2 (.tup [V.int (rate_ y).1, V.int (rate_ y).2])) := Same.trans s9 s11
        generalize upd G10 p2 (.tup [V.int (rate_ y).1, V.int (rate_ y).2]) = G11 at s12
        refine ⟨_, rfl, x, dx, _, rfl, s12 _ _ hx8, x, y, rfl, tb8.mono s12, sm, fun z => absurd z hl, fun _ p3 hp3 => ?_⟩
        have s13 := NF.Same.new (o := .tup [V.int (rate_ y).1, V.int (rate_ y).2]) s12 hp3
        generalize upd G11 p3 (.tup [V.int (rate_ y).1, V.int (rate_ y).2]) = G13 at s13
        refine ⟨rfl, _, rfl, iteT ?_⟩
        refine ⟨_, rfl, x, dx, _, rfl, s13 _ _ hx8, x, y, rfl, tb8.mono s13, sm, fun z => absurd z hl, fun _ p4 hp4 => ?_⟩
        have s14 := NF.Same.new (o := .tup [V.int (rate_ y).1, V.int (rate_ y).2]) s13 hp4
        have h14 : upd G13 p4 (.tup [V.int (rate_ y).1, V.int (rate_ y).2]) p4 = some (.tup [V.int (rate_ y).1, V.int (rate_ y).2]) := upd_same
        refine ⟨p4, rfl, ⟨_, SqT.of h14⟩, fun D hD => ?_⟩
        refine lc_tup (xs := [V.int (rate_ y).1, V.int (rate_ y).2]) (fun j G' => Same (upd G13 p4 (.tup [V.int (rate_ y).1, V.int (rate_ y).2])) G' ∧ G' D = some (.lst ((List.replicate j true).map V.bl))) ⟨NF.Same.new (Same.refl _) hD, upd_same⟩ (fun i G' _ z => SqT.of (z.1 _ _ h14)) ?_ ?_
        · rintro j v G' hv ⟨hG, hD2⟩
          have hj := (List.getElem?_eq_some_iff.mp hv).1
          have hj2 : j < 2 := hj
          obtain ⟨i, rfl, hi⟩ : ∃ i : Int, v = V.int i ∧ 0 ≤ i := by
            have hm := List.mem_of_getElem? hv
            simp only [List.mem_cons, List.not_mem_nil, or_false] at hm
            rcases hm with rfl | rfl
            · exact ⟨_, rfl, r1⟩
            · exact ⟨_, rfl, r2⟩
          refine ⟨rfl, _, rfl, i, rfl, ?_⟩
          rw [decide_eq_true hi]
          refine ⟨_, hD2, by rw [List.length_map, List.length_replicate]; exact Nat.lt_trans hj2 (by decide), NF.Same.mut hG hD, ?_⟩
          rw [upd_same, List.replicate_succ', List.map_append] <;> rfl
        · rintro G' ⟨hG, hD2⟩
          refine ⟨D, List.replicate 2 true, rfl, SqL.of hD2, true, rfl, iteF (hend (Same.trans s14 hG))⟩
end
end K01
set_option Elab.async false
set_option linter.all false
set_option maxRecDepth 100000
set_option maxHeartbeats 4000000
namespace K01
open PySem PySem.Spec PyProof.Rows L2 He NF RZ NT
def spLaw (K : PySem.W.Frag) : Sp := fun vs H Q _ => ∃ (l : Addr) (ns : List Int), vs = [.ref l] ∧ SqL K H l (ns.map V.int) ∧ ns.length ≤ 63 ∧ (∀ k ∈ ns, Builtin.Int.intBits k ≤ 1048576) ∧ ∀ H', Q (.bl true) H'
theorem sc_law : FnScope ["_law_script", "_law_source_here", "_law_raw_here", "_law_plain_here", "_law_again", "_law_first", "_law_second", "_law_other_here", "_law_near", "_law_head", "_law_loop", "_law_told"] ["_law_script"] (defScope s_law) := ⟨rfl, rfl, rfl, by decide +kernel, rfl, by decide +kernel, by decide +kernel⟩
theorem counts_val {y : List Int × List Int × Int} (c : Counts y) : NoNeg y := by
  have hh : ∀ k, k < y.1.length → 0 ≤ y.1.getD k 0 := fun k hk => c.1 _ (by
    rw [List.getD_eq_getElem?_getD, List.getElem?_eq_getElem hk]
    exact List.mem_append_left _ (List.getElem_mem hk))
  have hl : ∀ k, k < y.2.1.length → 0 ≤ y.2.1.getD k 0 := fun k hk => c.1 _ (by
    rw [List.getD_eq_getElem?_getD, List.getElem?_eq_getElem hk]
    exact List.mem_append_right _ (List.getElem_mem hk))
  intro n i h
  cases n with
  | none =>
    unfold val_ fin_ at h
    dsimp only at h
    by_cases q : y.2.1 = [] ∨ 0 < y.2.2
    · rw [if_pos q] at h; cases h
    · rw [if_neg q] at h
      injection h with h
      rw [← h]
      have := len_pos (l := y.2.1) fun z => q (.inl z)
      exact hl _ (by omega)
  | some n =>
    unfold val_ at h
    dsimp only at h
    by_cases z : n = 0
    · rw [if_pos z] at h; injection h with h; omega
    · rw [if_neg z] at h
      unfold at_ at h
      by_cases q : n ≤ y.1.length
      · rw [if_pos q] at h; injection h with h; rw [← h]; exact hh _ (by omega)
      · rw [if_neg q] at h
        by_cases e : y.2.1 = []
        · rw [if_pos e] at h; cases h
        · rw [if_neg e] at h
          injection h with h
          rw [← h]
          unfold walk
          exact Int.add_nonneg (hl _ (Nat.mod_lt _ (len_pos e))) (Int.mul_nonneg c.2 (Int.natCast_nonneg _))
theorem raw_small {x z : List Int × List Int × Int} (ok : RawOk x) (hz : IsPlain x.1 x.2.1 x.2.2 z) : Small z ∧ Counts z := by
  have q := plain_size hz
  have o1 := ok.h
  have o2 := ok.l
  have o3 := ok.r
  have o4 := q.2.2.2.2.1 ok.g.r0
  exact ⟨⟨by omega, by omega, by omega, by omega⟩, plain_counts ok.g hz⟩
theorem neL_done {K : PySem.W.Frag} {H : Hp} {a b : Addr} {x y : List Int} {Q : VK} (hx : SqL K H a (vI x)) (hy : SqL K H b (vI y)) (q : Q (.bl (!decide (x = y))) H) : rNeD K (.ref a) (.ref b) H Q :=
  ⟨_, _, .lst hx (dp_ints x), .lst hy (dp_ints y), shaped_L x, shaped_L y, by rw [show PyData.eqv (.list (x.map PyData.int)) (.list (y.map PyData.int)) = decide (x = y) from eqv_ints x y]; exact q⟩
def formD (y : List Int × List Int × Int) : PyData := .tuple [.tuple (y.1.map PyData.int), .tuple (y.2.1.map PyData.int), .int y.2.2]
theorem formD_at {K : PySem.W.Frag} {H : Hp} {p : Addr} {y : List Int × List Int × Int} (h : FormAt K H p y) : Dp K H (.ref p) (formD y) := by
  obtain ⟨a, b, h1, h2, h3⟩ := h
  exact .tup h1 (.cons (.tup h2 (dp_ints _)) (.cons (.tup h3 (dp_ints _)) (.cons (.int _) .nil)))
theorem formD_shaped (y : List Int × List Int × Int) : SeqAt.shaped (formD y) = true := by
  show ((PyData.canLayAll0 (y.1.map PyData.int) && (PyData.canLayAll0 (y.2.1.map PyData.int) && true)) && decide (max (PyData.depthAll (y.1.map PyData.int) + 1) (max (PyData.depthAll (y.2.1.map PyData.int) + 1) (max 0 0)) + 1 ≤ 64)) = true
  rw [lay_ints, lay_ints, depth_ints, depth_ints]
  decide
theorem formD_eqv (y z : List Int × List Int × Int) : PyData.eqv (formD y) (formD z) = decide (y = z) := by
  show (PyData.eqvAll (y.1.map PyData.int) (z.1.map PyData.int) && (PyData.eqvAll (y.2.1.map PyData.int) (z.2.1.map PyData.int) && ((y.2.2 == z.2.2) && true))) = _
  rw [eqv_ints, eqv_ints]
  obtain ⟨a, b, c⟩ := y
  obtain ⟨a', b', c'⟩ := z
  by_cases h1 : a = a' <;> by_cases h2 : b = b' <;> by_cases h3 : c = c' <;> simp [h1, h2, h3]
theorem eqF_done {K : PySem.W.Frag} {H : Hp} {a b : Addr} {x y : List Int × List Int × Int} {Q : VK} (hx : FormAt K H a x) (hy : FormAt K H b y) (q : Q (.bl (decide (x = y))) H) : rEqD K (.ref a) (.ref b) H Q :=
  ⟨_, _, formD_at hx, formD_at hy, formD_shaped x, formD_shaped y, by rw [formD_eqv]; exact q⟩
theorem FormAt.wo {K : PySem.W.Frag} {H : Hp} {q p : Addr} {y : List Int × List Int × Int} (h : FormAt K H q y) (hs : Src H p) : FormAt K (NF.wo H p) q y := by
  obtain ⟨_, _, _, hp⟩ := hs
  obtain ⟨a, b, h1, h2, h3⟩ := h
  exact ⟨a, b, NF.SqT.wo h1 hp trivial, NF.SqT.wo h2 hp trivial, NF.SqT.wo h3 hp trivial⟩
theorem TabAt.woS {K : PySem.W.Frag} {C : Addr} {H : Hp} {x p : Addr} {y : List Int × List Int × Int} (h : TabAt K C H x y) (hs : Src H p) : TabAt K C (NF.wo H p) x y := by
  obtain ⟨_, _, _, hp⟩ := hs
  exact h.wo hp
theorem FormAt.put {K : PySem.W.Frag} {H : Hp} {q t : Addr} {xs ys : List V} {y : List Int × List Int × Int} (h : FormAt K H q y) (ht : H t = some (.lst xs)) : FormAt K (upd H t (.lst ys)) q y := by
  obtain ⟨a, b, h1, h2, h3⟩ := h
  exact ⟨a, b, NF.SqT.put h1 ht trivial, NF.SqT.put h2 ht trivial, NF.SqT.put h3 ht trivial⟩
theorem TabAt.put {K : PySem.W.Frag} {C : Addr} {H : Hp} {x t : Addr} {xs ys : List V} {y : List Int × List Int × Int} (h : TabAt K C H x y) (ht : H t = some (.lst xs)) : TabAt K C (upd H t (.lst ys)) x y := by
  obtain ⟨dx, a, b, h1, h2, h3⟩ := h
  refine ⟨dx, a, b, ?_, NF.SqT.put h2 ht trivial, NF.SqT.put h3 ht trivial⟩
  rw [upd_ne (fun z => by subst z; rw [h1] at ht; cases ht)]
  exact h1
section
variable {P : Program} {w : World} {K : PySem.W.Frag} {mg : Str → Option Value} {base : Heap} {gs : List Str} {C : Addr}
theorem ok_law {e0 : Addr} {f : Addr} {fd : FuncData} (F : FunD K "law" "law" (defArgs s_law) (defBody s_law) (defScope s_law) [] [] f fd) (T : Txt K mg gs FS) (tc : TabC K C) (nfT : PySem.W.notFirst K C (.type "tuple") = true) (nfI : PySem.W.notFirst K C (.type "int") = true) (nfN : PySem.W.notFirst K C (.type "NoneType") = true) (he0 : ∀ H : Hp, SqT K H e0 (vI []))
    (c__law_source : Cal P w K mg base 1 "_law_source" (spSource K)) (c__law_pick : Cal P w K mg base 1 "_law_pick" spPick) (c__law_raw : Cal P w K mg base 3 "_law_raw" (spRaw K)) (c__law_plain : Cal P w K mg base 1 "_law_plain" (spPlain K)) (c__law_telling : Cal P w K mg base 3 "_law_telling" (spTelling K)) (c__law_other : Cal P w K mg base 4 "_law_other" (spOther K)) (c__law_table : Cal P w K mg base 6 "_law_table" (spLTable K C)) (c__law_same : Cal P w K mg base 3 "_law_same" (spSame K C)) (c__law_truth : Cal P w K mg base 1 "_law_truth" spTruth) (c__law_values : Cal P w K mg base 4 "_law_values" (spValues K C))
    (m_Table : Mak P w K mg base 4 0 "Table" C (spInit K C) []) (m_Table1 : Mak P w K mg base 4 0 "Table" C (spInit K C) [.ref e0, .int 0]) (o_eq : EqC P w K mg base 1 C (spEq K C)) : FnOk P w K mg base CX0 7 f fd ["_law_script"] (spLaw K) := by
  refine F.ok sc_law (fun vs H Q E h => ?_) (fun cdv A outer s H vs Q E hr h => ?_)
  · obtain ⟨l, ns, rfl, _⟩ := h
    rfl
  · obtain ⟨sl, ns, rfl, hsl, hlen, hbits, k⟩ := h
    have hu : (A.deeper (envOfC "law" (defScope s_law) s.heap.objs.size f cdv)).units + 64 < cLine := by
      have := hr.un
      omega
    refine ⟨_, PSs.nox (pss_cons (ps_set (i := 1) sc_law.nd rfl (Or.inl rfl) (pe_c c__law_source hr (by decide) rfl (pa_cons (pv 0) (pa_cons pe_int pa_nil)))) (pss_cons (ps_set (i := 2) sc_law.nd rfl (Or.inl rfl) (pe_c c__law_raw hr (by decide) rfl (pa_cons (pv 1) (pa_cons pe_bl pa_nil)))) (pss_cons (ps_set (i := 3) sc_law.nd rfl (Or.inl rfl) (pe_c c__law_plain hr (by decide) rfl (pa_cons (pe_ix (ixt (K := K)) (pv 2) pe_int fun _ _ => rfl) (pa_cons (pe_ix (ixt (K := K)) (pv 2) pe_int fun _ _ => rfl) (pa_cons (pe_ix (ixt (K := K)) (pv 2) pe_int fun _ _ => rfl) pa_nil))))) (pss_cons (ps_set (i := 4) sc_law.nd rfl (Or.inl rfl) (pe_c c__law_telling hr (by decide) rfl (pa_cons (pv 1) (pa_cons (pv 2) pa_nil)))) (pss_cons (ps_par (i := 9) (j := 10) (by rfl) sc_law.nd rfl rfl (by decide) rfl rfl (pa_cons (pe_callTy call_list_of rfl (T.fr _ (by decide +kernel)) (by decide +kernel) (pa_cons (pe_ix (ixt (K := K)) (pv 4) pe_int fun _ _ => rfl) pa_nil)) (pa_cons (pe_callTy call_list_of rfl (T.fr _ (by decide +kernel)) (by decide +kernel) (pa_cons (pe_ix (ixt (K := K)) (pv 4) pe_int fun _ _ => rfl) pa_nil)) pa_nil)) (by rfl)) (pss_cons (ps_if (pt_cmpR op_eq (pe_c c__law_pick hr (by decide) rfl (pa_cons (pv 1) (pa_cons pe_int pa_nil))) pe_int (nomark _)) (pss_one (ps_set (i := 11) sc_law.nd rfl (Or.inl rfl) (pe_mk m_Table hr (by decide) rfl (pa_cons (pv 9) (pa_cons (pv 10) (pa_cons (pe_ix (ixt (K := K)) (pv 4) pe_int fun _ _ => rfl) pa_nil)))))) (pss_one (ps_set (i := 11) sc_law.nd rfl (Or.inl rfl) (pe_mk m_Table hr (by decide) rfl (pa_cons (pe_callTy cr_tup rfl (T.fr _ (by decide +kernel)) (by decide +kernel) (pa_cons (pv 9) pa_nil)) (pa_cons (pe_callTy cr_tup rfl (T.fr _ (by decide +kernel)) (by decide +kernel) (pa_cons (pv 10) pa_nil)) (pa_cons (pe_ix (ixt (K := K)) (pv 4) pe_int fun _ _ => rfl) pa_nil))))))) (pss_cons (ps_if (PW.pt (pw_or (pt_cmpR (op_neD hu) (pv 9) (pe_callTy call_list_of rfl (T.fr _ (by decide +kernel)) (by decide +kernel) (pa_cons (pe_ix (ixt (K := K)) (pv 4) pe_int fun _ _ => rfl) pa_nil)) (nomark _)) (pw_or1 (pt_cmpR (op_neD hu) (pv 10) (pe_callTy call_list_of rfl (T.fr _ (by decide +kernel)) (by decide +kernel) (pa_cons (pe_ix (ixt (K := K)) (pv 4) pe_int fun _ _ => rfl) pa_nil)) (nomark _))))) (pss_one (ps_ret pe_bl)) pss_nil) (pss_cons (ps_expr (pe_bm PySem.F.plainAttrs_list PySem.F.slot_list_append PySem.F.type_list_append mt_append (pv 9) (pa_cons (pe_op op_pow pe_int pe_int) pa_nil))) (pss_cons (ps_set (i := 5) sc_law.nd rfl (Or.inl rfl) (pe_c c__law_table hr (by decide) rfl (pa_cons (pv 2) pa_nil))) (pss_cons (ps_if (PW.pt (pw_or (pt_not (pt_val (pe_c c__law_same hr (by decide) rfl (pa_cons (pv 11) (pa_cons (pv 3) pa_nil))))) (pw_or (pt_not (pt_val (pe_c c__law_same hr (by decide) rfl (pa_cons (pv 5) (pa_cons (pv 3) pa_nil))))) (pw_or (pt_not (pt_cmpR (op_eqO o_eq hr (by decide)) (pv 11) (pv 5) (nomark _))) (pw_or1 (pt_cmpR (op_neO o_eq hr (by decide)) (pv 11) (pv 5) (nomark _))))))) (pss_one (ps_ret pe_bl)) pss_nil) (pss_cons (ps_if (PW.pt (pw_and (pt_cmpR op_eq (pe_callB call_len_seq rfl (T.fr _ (by decide +kernel)) boot_len (pa_cons (pe_ix (ixt (K := K)) (pv 2) pe_int fun _ _ => rfl) pa_nil)) pe_int (nomark _)) (pw_and1 (pt_not (pt_val (pe_c c__law_same hr (by decide) rfl (pa_cons (pe_mk m_Table1 hr (by decide) rfl (pa_cons (pe_ix (ixt (K := K)) (pv 2) pe_int fun _ _ => rfl) pa_nil)) (pa_cons (pv 3) pa_nil)))))))) (pss_one (ps_ret pe_bl)) pss_nil) (pss_cons (ps_set (i := 6) sc_law.nd rfl (Or.inl rfl) (pe_c c__law_other hr (by decide) rfl (pa_cons (pe_c c__law_source hr (by decide) rfl (pa_cons (pv 0) (pa_cons pe_int pa_nil))) (pa_cons (pv 2) pa_nil)))) (pss_cons (ps_set (i := 7) sc_law.nd rfl (Or.inl rfl) (pe_c c__law_plain hr (by decide) rfl (pa_cons (pe_ix (ixt (K := K)) (pv 6) pe_int fun _ _ => rfl) (pa_cons (pe_ix (ixt (K := K)) (pv 6) pe_int fun _ _ => rfl) (pa_cons (pe_ix (ixt (K := K)) (pv 6) pe_int fun _ _ => rfl) pa_nil))))) (pss_cons (ps_set (i := 8) sc_law.nd rfl (Or.inl rfl) (pe_c c__law_table hr (by decide) rfl (pa_cons (pv 6) pa_nil))) (pss_cons (ps_if (PW.pt (pw_or (pt_not (pt_val (pe_c c__law_same hr (by decide) rfl (pa_cons (pv 8) (pa_cons (pv 7) pa_nil))))) (pw_or1 (pt_not (pt_val (pe_c c__law_truth hr (by decide) rfl (pa_cons (pe_cmpR (op_eqO o_eq hr (by decide)) (pv 8) (pv 5) (nomark _)) (pa_cons (pe_cmpR (op_eqD hu) (pv 7) (pv 3) (nomark _)) pa_nil)))))))) (pss_one (ps_ret pe_bl)) pss_nil) (pss_cons (ps_if (PW.pt (pw_or (pt_cmpR (op_eqO o_eq hr (by decide)) (pv 5) (pv 3) (nomark _)) (pw_or (pt_cmpR (op_eqO o_eq hr (by decide)) (pv 5) pe_int (nomark _)) (pw_or1 (pt_cmpR (op_eqO o_eq hr (by decide)) (pv 5) pe_non (nomark _)))))) (pss_one (ps_ret pe_bl)) pss_nil) (pss_one (ps_ret (pe_and (pe_c c__law_values hr (by decide) rfl (pa_cons (pv 1) (pa_cons (pv 5) (pa_cons (pv 3) pa_nil)))) (pe_and (pe_c c__law_values hr (by decide) rfl (pa_cons (pv 1) (pa_cons (pv 8) (pa_cons (pv 7) pa_nil)))) (pe_one (pe_c c__law_same hr (by decide) rfl (pa_cons (pv 11) (pa_cons (pv 3) pa_nil)))))))))))))))))))))))), ?_⟩
    refine ⟨_, rfl, sl, ns, 0, rfl, hsl, hlen, hbits, by decide, fun p G1 s1 hp hs1 => ?_⟩
    -- the raw table
    refine ⟨_, rfl, wo G1 p, p, rfl, wo_same', wo_none, hs1, fun q x G2 s2 hs2 ok fo => ?_⟩
    have sH2 : Same H G2 := wo_same s1 hp s2
    have okr := ok.ok
    have o1 := okr.h
    have o2 := okr.l
    obtain ⟨a, b, hq, ha, hb⟩ := id fo
    refine ⟨_, rfl, q, _, _, _, rfl, rfl, hq, at0, _, rfl, q, _, _, _, rfl, rfl, hq, at1, _, rfl, q, _, _, _, rfl, rfl, hq, at2, ?_⟩
    refine ⟨a, b, x.1, x.2.1, x.2.2, rfl, ha, hb, by omega, by omega, fun qp y0 G3 hy0 s3 fp => ?_⟩
    have sH3 := Same.trans sH2 s3
    have hs3 := Src.mono hs2 s3
    have fo3 := fo.mono s3
    obtain ⟨sm0, ct0⟩ := raw_small okr hy0
    -- told again
    refine ⟨_, rfl, _, rfl, wo G3 p, p, q, x, rfl, wo_same', wo_none, hs3, fo3.wo hs3, ok, fun qa y G4 s4 hs4 oky hat foy => ?_⟩
    have sH4 : Same H G4 := wo_same sH3 hp s4
    have fo4 := (fo3.wo hs3).mono s4
    have fp4 := (fp.wo hs3).mono s4
    have y1 := oky.h
    have y2 := oky.l
    obtain ⟨a2, b2, hqa, ha2, hb2⟩ := id foy
    refine ⟨_, rfl, qa, _, _, _, rfl, rfl, hqa, at0, a2, _, rfl, Or.inr ha2, fun t1 ht1 => ?_⟩
    have s45 := NF.Same.new (o := .lst (vI y.1)) (Same.refl G4) ht1
    refine ⟨_, rfl, qa, _, _, _, rfl, rfl, NF.Same.tup s45 hqa, at1, b2, _, rfl, Or.inr (NF.Same.tup s45 hb2), fun t2 ht2 => ?_⟩
    have hT1 : upd (upd G4 t1 (.lst (vI y.1))) t2 (.lst (vI y.2.1)) t1 = some (.lst (vI y.1)) := by
      rw [upd_ne (ne_of_none upd_same ht2)]
      exact upd_same
    have hT2 : upd (upd G4 t1 (.lst (vI y.1))) t2 (.lst (vI y.2.1)) t2 = some (.lst (vI y.2.1)) := upd_same
    have s46 : Same G4 (upd (upd G4 t1 (.lst (vI y.1))) t2 (.lst (vI y.2.1))) := NF.Same.new s45 ht2
    have n1 : t1 ≠ p := src_ne (o := .lst []) hs4 ht1
    have n2 : t2 ≠ p := src_ne (o := .lst []) (Src.mono hs4 s45) ht2
    have hs6 := Src.mono hs4 s46
    refine ⟨_, _, rfl, ?_⟩
    refine ⟨_, rfl, wo _ p, p, 2, rfl, wo_same', wo_none, hs6, by decide, by decide, fun d G7 _ _ s7 hs7 => ?_⟩
    have h71 := s7 _ _ ((wo_ne n1).trans hT1)
    have h72 := s7 _ _ ((wo_ne n2).trans hT2)
    have sH7 : Same H G7 := wo_same (Same.trans sH4 s46) hp s7
    have foy7 := ((foy.mono s46).wo hs6).mono s7
    have fo7 := ((fo4.mono s46).wo hs6).mono s7
    have fp7 := ((fp4.mono s46).wo hs6).mono s7
    obtain ⟨a3, b3, hqa7, ha7, hb7⟩ := id foy7
    have tH1 : H t1 = none := L2.Same.free sH4 ht1
    have told_is : ∀ z, IsPlain y.1 y.2.1 y.2.2 z → z = y0 := fun z hz => plain_one hz hy0 hat
    refine ⟨rfl, _, rfl, ?_⟩
    refine (show (∀ (tx : Addr) (G8 : Hp), Same G7 G8 → TabAt K C G8 tx y0 → (?R : Addr → Hp → Prop) tx G8) → _ from fun kk => ?A) ?B
    case A =>
      refine ite2 (fun _ => ?_) (fun _ => ?_)
      · refine ⟨_, rfl, _, rfl, _, rfl, qa, _, _, _, rfl, rfl, hqa7, at2, ?_⟩
        intro x' dx nx nd ne
        refine ⟨x', dx, t1, t2, y.1, y.2.1, y.2.2, rfl, upd_same, row_made nx nd (.inl (SqL.of h71)), row_made nx nd (.inl (SqL.of h72)), oky.g, by omega, fun z H' hz s tb => ⟨rfl, ?_⟩⟩
        rw [told_is z hz] at tb
        exact kk x' H' (same_made nx nd s) tb
      · refine ⟨_, rfl, t1, _, rfl, .inl (SqL.of h71), fun p1 G8 s8 u1 => ?_⟩
        refine ⟨_, rfl, t2, _, rfl, .inl (SqL.of (s8 _ _ h72)), fun p2 G9 s9 u2 => ?_⟩
        refine ⟨_, rfl, qa, _, _, _, rfl, rfl, NF.Same.tup (Same.trans s8 s9) hqa7, at2, ?_⟩
        intro x' dx nx nd ne
        refine ⟨x', dx, p1, p2, y.1, y.2.1, y.2.2, rfl, upd_same, row_made nx nd (.inr (NF.Same.tup s9 u1)), row_made nx nd (.inr u2), oky.g, by omega, fun z H' hz s tb => ⟨rfl, ?_⟩⟩
        rw [told_is z hz] at tb
        exact kk x' H' (Same.trans (Same.trans s8 s9) (same_made nx nd s)) tb
    case B =>
      intro tx G8 s8 tb8
      have hqa8 := NF.Same.tup s8 hqa7
      have ha8 := NF.Same.tup s8 ha7
      have hb8 := NF.Same.tup s8 hb7
      -- what was passed stays
      refine ⟨_, rfl, _, rfl, qa, _, _, _, rfl, rfl, hqa8, at0, a3, _, rfl, Or.inr ha8, fun t3 ht3 => ?_⟩
      have s89 := NF.Same.new (o := .lst (vI y.1)) (Same.refl G8) ht3
      have h91 := s89 _ _ (s8 _ _ h71)
      refine neL_done (K := K) (SqL.of h91) (SqL.of upd_same) ⟨_, rfl, iteF' (by simp) ?_⟩
      refine ⟨_, rfl, _, rfl, qa, _, _, _, rfl, rfl, NF.Same.tup s89 hqa8, at1, b3, _, rfl, Or.inr (NF.Same.tup s89 hb8), fun t4 ht4 => ?_⟩
      have s8A := NF.Same.new (o := .lst (vI y.2.1)) s89 ht4
      have hA2 := s8A _ _ (s8 _ _ h72)
      have hA1 := s8A _ _ (s8 _ _ h71)
      refine neL_done (K := K) (SqL.of hA2) (SqL.of upd_same) ⟨_, rfl, iteF' (by simp) ?_⟩
      have s7A := Same.trans s8 s8A
      have hsA := Src.mono hs7 s7A
      have sHA := Same.trans sH7 s7A
      have foA := fo7.mono s7A
      have fpA := fp7.mono s7A
      have tbA := tb8.mono s8A
      generalize upd (upd G8 t3 (.lst (vI y.1))) t4 (.lst (vI y.2.1)) = GA at hA1 hsA sHA foA fpA tbA
      -- one more in the passed list
      refine ⟨_, rfl, Or.inl ⟨rfl, _, SqL.of hA1⟩, _, _, rfl, rfl, ⟨by decide, by decide, by decide⟩, t1, _, _, rfl, rfl, hA1, ?_, ?_⟩
      · rw [vI_len]
        exact Nat.lt_of_le_of_lt y1 (by decide)
      have foB := FormAt.put (ys := vI y.1 ++ [V.int (10 ^ (9 : Int).toNat)]) foA hA1
      have fpB := FormAt.put (ys := vI y.1 ++ [V.int (10 ^ (9 : Int).toNat)]) fpA hA1
      have tbB := TabAt.put (ys := vI y.1 ++ [V.int (10 ^ (9 : Int).toNat)]) tbA hA1
      have hsB : Src (upd GA t1 (.lst (vI y.1 ++ [V.int (10 ^ (9 : Int).toNat)]))) p := src_put hsA n1
      have sHB : Same H (upd GA t1 (.lst (vI y.1 ++ [V.int (10 ^ (9 : Int).toNat)]))) := NF.Same.put sHA tH1
      refine ⟨_, rfl, q, x, rfl, foB, okr, fun fx z GC hz sC tfx => ?_⟩
      obtain rfl : z = y0 := plain_one hz hy0 fun n _ => rfl
      have foC := foB.mono sC
      have fpC := fpB.mono sC
      have tbC := tbB.mono sC
      have hsC := Src.mono hsB sC
      have sHC := Same.trans sHB sC
      -- one plain form
      refine ⟨_, rfl, _, rfl, tx, qp, z, rfl, tbC, fpC, sm0, ct0, fun GD sD => ⟨true, rfl, iteF ?_⟩⟩
      refine ⟨_, rfl, _, rfl, fx, qp, z, rfl, tfx.mono sD, fpC.mono sD, sm0, ct0, fun GE sE => ⟨true, rfl, iteF ?_⟩⟩
      have sCE := Same.trans sD sE
      have tbE := tbC.mono sCE
      have tfE := tfx.mono sCE
      obtain ⟨dxt, _, _, hxt, _, _⟩ := id tbE
      obtain ⟨dxf, _, _, hxf, _, _⟩ := id tfE
      have nfC : PySem.W.notFirst K C (.ref C) = true := by simp [PySem.W.notFirst]
      refine ⟨_, rfl, _, rfl, tx, dxt, _, _, rfl, hxt, tc.ty hxf, nfC, tx, z, .ref fx, rfl, tbE, Or.inl ⟨fx, z, rfl, tfE, _, rfl, iteF' (by simp) ?_⟩⟩
      refine ⟨_, rfl, _, rfl, tx, dxt, _, fx, dxf, _, rfl, hxt, rfl, hxf, tx, z, .ref fx, rfl, tbE, Or.inl ⟨fx, z, rfl, tfE, _, rfl, _, rfl, iteF' (by simp) ?_⟩⟩
      have foE := foC.mono sCE
      have fpE := fpC.mono sCE
      have hsE := Src.mono hsC sCE
      have sHE := Same.trans sHC sCE
      -- the head alone
      obtain ⟨aE, bE, hqE, haE, hbE⟩ := id foE
      refine (show (∀ (GF : Hp), Same GE GF → (?R2 : Hp → Prop) GF) → _ from fun kk => ?A2) ?B2
      case A2 =>
        refine ⟨_, rfl, q, _, _, _, rfl, rfl, hqE, at1, bE, _, rfl, Or.inr hbE, rfl, _, rfl, ite2 (fun h1 => ?_) (fun h1 => ?_)⟩
        · have hl : x.2.1 = [] := by
            have := of_decide_eq_true h1
            injection this with this
            rw [vI_len] at this
            exact List.eq_nil_of_length_eq_zero (by omega)
          refine ⟨_, rfl, q, _, _, _, rfl, rfl, hqE, at0, ?_⟩
          intro x' dx nx nd ne
          have g0 := okr.g
          refine ⟨x', dx, aE, e0, x.1, [], 0, rfl, upd_same, row_made nx nd (.inr haE), .inr (he0 _), ⟨g0.hd, trivial, fun _ z => absurd rfl z, Int.le_refl _, fun _ => rfl, fun z => absurd rfl z⟩, by show x.1.length + 0 ≤ 1000; omega, fun z' H' hz' s tb => ⟨rfl, ?_⟩⟩
          have sF := same_made nx nd s
          have ez : z' = z := by
            refine plain_one hz' hy0 fun n _ => ?_
            rw [hl]
            unfold at_
            rfl
          rw [ez] at tb
          refine ⟨_, rfl, x', qp, z, rfl, tb, fpE.mono sF, sm0, ct0, fun GG sG => ⟨true, rfl, iteF ?_⟩⟩
          exact kk GG (Same.trans sF sG)
        · exact iteF (kk GE (Same.refl GE))
      case B2 =>
        intro GF sF
        have foF := foE.mono sF
        have fpF := fpE.mono sF
        have hsF := Src.mono hsE sF
        have sHF := Same.trans sHE sF
        have tbF := tbE.mono sF
        have tfF := tfE.mono sF
        -- the second table
        refine ⟨_, rfl, sl, ns, 1, rfl, L2.Same.seq sHF hsl, hlen, hbits, by decide, fun p2 GG sG hp2 hsG2 => ?_⟩
        have hsG := Src.mono hsF sG
        have ne2 : p2 ≠ p := src_ne (o := .lst []) hsF hp2
        have foG := foF.mono sG
        refine ⟨_, rfl, wo GG p2, p2, q, x, rfl, wo_same', wo_none, hsG2, foG.wo hsG2, ok, fun qs s GI sI hsI2 oks fos => ?_⟩
        have woSrc : Src (wo GG p2) p := by
          obtain ⟨c1, c2, c3, h⟩ := hsG
          exact ⟨c1, c2, c3, (wo_ne (Ne.symm ne2)).trans h⟩
        have hsI := Src.mono woSrc sI
        have fpI := ((fpF.mono sG).wo hsG2).mono sI
        have tbI := TabAt.mono (TabAt.woS (tbF.mono sG) hsG2) sI
        have tfI := TabAt.mono (TabAt.woS (tfF.mono sG) hsG2) sI
        obtain ⟨aI, bI, hqI, haI, hbI⟩ := id fos
        have w1 := oks.h
        have w2 := oks.l
        refine ⟨_, rfl, qs, _, _, _, rfl, rfl, hqI, at0, _, rfl, qs, _, _, _, rfl, rfl, hqI, at1, _, rfl, qs, _, _, _, rfl, rfl, hqI, at2, ?_⟩
        refine ⟨aI, bI, s.1, s.2.1, s.2.2, rfl, haI, hbI, by omega, by omega, fun qr z2 GJ hz2 sJ fr => ?_⟩
        obtain ⟨sm2, ct2⟩ := raw_small oks hz2
        refine ⟨_, rfl, qs, s, rfl, fos.mono sJ, oks, fun nx z3 GK hz3 sK tn => ?_⟩
        obtain rfl : z3 = z2 := plain_one hz3 hz2 fun n _ => rfl
        have sIK := Same.trans sJ sK
        refine ⟨_, rfl, _, rfl, nx, qr, z3, rfl, tn, fr.mono sK, sm2, ct2, fun GL sL => ⟨true, rfl, iteF ?_⟩⟩
        have tnL := tn.mono sL
        have frL := (fr.mono sK).mono sL
        have sIL := Same.trans sIK sL
        have fpL := fpI.mono sIL
        have tfL := tfI.mono sIL
        have tbL := tbI.mono sIL
        have hsL := Src.mono hsI sIL
        obtain ⟨dxn, _, _, hxn, _, _⟩ := id tnL
        obtain ⟨dxl, _, _, hxl, _, _⟩ := id tfL
        refine ⟨_, rfl, _, rfl, nx, dxn, _, _, rfl, hxn, tc.ty hxl, nfC, nx, z3, .ref fx, rfl, tnL, Or.inl ⟨fx, z, rfl, tfL, ?_⟩⟩
        refine ⟨_, rfl, _, rfl, eqF_done (K := K) frL fpL ⟨_, _, rfl, true, congrArg V.bl (beq_self_eq_true _), iteF ?_⟩⟩
        -- nothing of another kind
        obtain ⟨aL, bL, hqL, haL, hbL⟩ := id fpL
        refine ⟨_, rfl, _, rfl, fx, dxl, _, _, rfl, hxl, tyx_tup hqL, nfT, fx, z, .ref qp, rfl, tfL, Or.inr ⟨_, tyx_tup hqL, tc.tup, _, rfl, iteF ?_⟩⟩
        refine ⟨_, rfl, fx, dxl, _, _, rfl, hxl, .base (.int 5), nfI, fx, z, .int 5, rfl, tfL, Or.inr ⟨_, .base (.int 5), tc.int, _, rfl, iteF ?_⟩⟩
        refine ⟨_, rfl, fx, dxl, _, _, rfl, hxl, .base .non, nfN, fx, z, .non, rfl, tfL, Or.inr ⟨_, .base .non, tc.non, _, rfl, iteF ?_⟩⟩
        -- the values
        refine ⟨_, rfl, _, rfl, _, rfl, wo GL p, p, fx, qp, z, rfl, wo_same', wo_none, hsL, TabAt.woS tfL hsL, fpL.wo hsL, sm0, counts_val ct0, fun GM sM hsM => ⟨true, rfl, iteT ?_⟩⟩
        have tnM := TabAt.mono (TabAt.woS tnL hsL) sM
        have frM := (frL.wo hsL).mono sM
        have tbM := TabAt.mono (TabAt.woS tbL hsL) sM
        have fpM := (fpL.wo hsL).mono sM
        refine ⟨_, rfl, _, rfl, _, rfl, wo GM p, p, nx, qr, z3, rfl, wo_same', wo_none, hsM, TabAt.woS tnM hsM, frM.wo hsM, sm2, counts_val ct2, fun GN sN hsN => ⟨true, rfl, iteT ?_⟩⟩
        exact ⟨_, rfl, _, rfl, tx, qp, z, rfl, TabAt.mono (TabAt.woS tbM hsM) sN, (fpM.wo hsM).mono sN, sm0, ct0, fun GO sO => k GO⟩
end
end K01
set_option Elab.async false
set_option linter.all false
set_option maxRecDepth 100000
set_option maxHeartbeats 0
namespace K01
open PySem PySem.Spec PyProof.Rows L2 He NF RZ
def dG (x : Str) (st : Stmt) : Adr := (fun K => ga K x, ⟨(x, none), x, x, defArgs st, defBody st, defScope st, [], []⟩)
def dM (m q : Str) (st : Stmt) (dfl : List He.Dv) : Adr := (fun K => ma K (ga K "Table") m, ⟨("Table", some m), m, q, defArgs st, defBody st, defScope st, dfl, []⟩)
def getAd (f : Str) (K : PySem.W.Frag) : Addr := match PySem.W.recIn K (ma K (ga K "Table") f) "property" with
  | some (.ref g :: _) => g
  | _ => 0
def dP (m q : Str) (st : Stmt) : Adr := (getAd m, ⟨("Table", some m), m, q, defArgs st, defBody st, defScope st, [], []⟩)
def e0 (K : PySem.W.Frag) : Addr := He.dflAt ("Table", some "__init__") 0 K
def fn : List Adr := [dG "shortest_lap" s_shortest_lap, dG "plain_form" s_plain_form, dG "end_of" s_end_of, dG "value_at" s_value_at, dG "is_integer" s_is_integer, dG "is_count" s_is_count, dG "is_row" s_is_row, dG "is_climb" s_is_climb, dG "check_table" s_check_table, dG "_law_source" s__law_source, dG "_law_pick" s__law_pick, dG "_law_is_integer" s__law_is_integer, dG "_law_is_count" s__law_is_count, dG "_law_truth" s__law_truth, dG "_law_is_value" s__law_is_value, dG "_law_rising" s__law_rising, dG "_law_raw" s__law_raw, dG "_law_end" s__law_end, dG "_law_at" s__law_at, dG "_law_gcd" s__law_gcd, dG "_law_plain" s__law_plain, dG "_law_same" s__law_same, dG "_law_table" s__law_table, dG "_law_telling" s__law_telling, dG "_law_other" s__law_other, dG "_law_rate" s__law_rate, dG "_law_values" s__law_values, dG "law" s_law, dM "__init__" "Table.__init__" s_Table_init [.adr e0, .int 0], dM "__eq__" "Table.__eq__" s_Table_eq [], dM "__call__" "Table.__call__" s_Table_call [], dP "end" "Table.end" s_Table_end, dP "rate" "Table.rate" s_Table_rate, dP "steady" "Table.steady" s_Table_steady]
def gs : List Str := (["shortest_lap", "plain_form", "end_of", "value_at", "is_integer", "is_count", "is_row", "is_climb", "check_table", "Table", "_law_source", "_law_pick", "_law_is_integer", "_law_is_count", "_law_truth", "_law_is_value", "_law_rising", "_law_raw", "_law_end", "_law_at", "_law_gcd", "_law_plain", "_law_same", "_law_table", "_law_telling"] : List Str) ++ (["_law_other", "_law_rate", "_law_values", "law"] : List Str)
def namB (K : PySem.W.Frag) : Bool := (gs.all fun x => eqO (PySem.W.nsIn K mainGlobals x) (some (some (.ref (ga K x))))) && FS.all fun x => eqO (PySem.W.nsIn K mainGlobals x) (some none)
def gcdB (K : PySem.W.Frag) : Bool := eqO (PySem.W.nsIn K mainGlobals "gcd") (some (some (.builtin "math.gcd")))
def clsB (K : PySem.W.Frag) (C : Addr) : Bool := (PySem.W.plainGet K C Str.empty && PySem.W.hasDictIn K C) && (PySem.W.plainOver K C && eqO (PySem.W.findIn K (.ref C) "__setattr__") (some (some (.builtin "object.__setattr__"))))
def fldB (K : PySem.W.Frag) (C : Addr) : Bool := eqO (PySem.W.findIn K (.ref C) "head") (some none) && (eqO (PySem.W.findIn K (.ref C) "loop") (some none) && eqO (PySem.W.findIn K (.ref C) "rise") (some none))
def tyB (K : PySem.W.Frag) (C : Addr) : Bool := (eqO (PySem.W.findIn K (.ref C) "__class__") (some (some (.builtin "object.__class__"))) && eqO (PySem.W.specialIn K (.builtin "object.__class__") "__get__") (some (some (.builtin "getset_descriptor.__get__")))) &&
  (decide (PySem.W.takesIn K (.builtin "object.__class__") = some true) && decide (PySem.W.mroIn K C (.type "object") = some true))
def kitB2 (K : PySem.W.Frag) (C : Addr) : Bool := (decide (PySem.W.kitOne K (.ref C) (.ref C) = some true) && decide (PySem.W.kitOne K (.type "tuple") (.ref C) = some false)) && (decide (PySem.W.kitOne K (.type "int") (.ref C) = some false) && decide (PySem.W.kitOne K (.type "NoneType") (.ref C) = some false))
def nfB (K : PySem.W.Frag) (C : Addr) : Bool := PySem.W.notFirst K C (.type "tuple") && (PySem.W.notFirst K C (.type "int") && PySem.W.notFirst K C (.type "NoneType"))
def mkB (K : PySem.W.Frag) (C : Addr) : Bool := (PySem.W.makesIn K C && eqO (PySem.W.findIn K (.ref C) "__init__") (some (some (.ref (ma K C "__init__"))))) && (PySem.W.isFn K (.ref (ma K C "__init__")) && PySem.W.keepIn K (.ref C))
def eqB (K : PySem.W.Frag) (C : Addr) : Bool := (eqO (PySem.W.findIn K (.ref C) "__eq__") (some (some (.ref (ma K C "__eq__")))) && PySem.W.isFn K (.ref (ma K C "__eq__"))) && plObjB K C (ma K C "__eq__")
def callB (K : PySem.W.Frag) (C : Addr) : Bool := eqO (PySem.W.findIn K (.ref C) "__call__") (some (some (.ref (ma K C "__call__")))) && (PySem.W.isFn K (.ref (ma K C "__call__")) && PySem.W.fnIn K (ma K C "__call__"))
def propB (K : PySem.W.Frag) (C : Addr) (f : Str) (g : Addr) : Bool := (eqO (PySem.W.findIn K (.ref C) f) (some (some (.ref (ma K C f)))) && eqO (PySem.W.specialIn K (.ref (ma K C f)) "__get__") (some (some (.builtin "property.__get__")))) &&
  (decide (PySem.W.takesIn K (.ref (ma K C f)) = some true) && (match PySem.W.recIn K (ma K C f) "property" with
    | some (.ref g' :: _) => decide (g' = g)
    | _ => false))
def e0B (K : PySem.W.Frag) : Bool := match K.lookup (e0 K) with
  | some ⟨.type c, _, .seq its _, _⟩ => decide (c = "tuple") && decide (its.toList = [])
  | _ => false
def exB (K : PySem.W.Frag) : Bool := ((namB K && gcdB K) && (clsB K (ga K "Table") && fldB K (ga K "Table"))) && ((tyB K (ga K "Table") && kitB2 K (ga K "Table")) && (nfB K (ga K "Table") && mkB K (ga K "Table"))) &&
  ((eqB K (ga K "Table") && callB K (ga K "Table")) && ((propB K (ga K "Table") "end" (getAd "end" K) && propB K (ga K "Table") "rate" (getAd "rate" K)) && (propB K (ga K "Table") "steady" (getAd "steady" K) && e0B K)))
end K01
set_option Elab.async false
set_option linter.all false
set_option maxRecDepth 100000
set_option maxHeartbeats 4000000
namespace K01
open PySem PySem.Spec PyProof.Rows L2 He NF RZ NT
section
variable {P : Program} {w : World} {K : PySem.W.Frag} {mg : Str → Option Value} {base : Heap}
structure Ex (K : PySem.W.Frag) (C : Addr) : Prop where
  tc : TabC K C
  nfT : PySem.W.notFirst K C (.type "tuple") = true
  nfI : PySem.W.notFirst K C (.type "int") = true
  nfN : PySem.W.notFirst K C (.type "NoneType") = true
  mk_ : Mk K C (ma K C "__init__")
  eq1 : PySem.W.findIn K (.ref C) "__eq__" = some (some (.ref (ma K C "__eq__")))
  eq2 : PySem.W.isFn K (.ref (ma K C "__eq__")) = true
  eq3 : plObjB K C (ma K C "__eq__") = true
  call : StX.CallO K C (ma K C "__call__")
  p1 : PropOf K C "end" (ma K C "end") (getAd "end" K)
  p2 : PropOf K C "rate" (ma K C "rate") (getAd "rate" K)
  p3 : PropOf K C "steady" (ma K C "steady") (getAd "steady" K)
  e0 : ∀ H : Hp, SqT K H (e0 K) (vI [])
theorem prop_ok {C : Addr} {f : Str} {g : Addr} (h : propB K C f g = true) : PropOf K C f (ma K C f) g := by
  obtain ⟨h1, h2⟩ := ba h
  obtain ⟨h1, h3⟩ := ba h1
  obtain ⟨h2, h4⟩ := ba h2
  refine ⟨eqO_ok h1, eqO_ok h3, of_decide_eq_true h2, ?_⟩
  cases q : PySem.W.recIn K (ma K C f) "property" with
  | none =>
    rw [q] at h4
    cases h4
  | some l =>
    rw [q] at h4
    match l, h4 with
    | .ref g' :: rest, h4 =>
      have e : g' = g := of_decide_eq_true h4
      exact ⟨rest, by rw [e]⟩
theorem e0_ok (h : e0B K = true) (H : Hp) : SqT K H (e0 K) (vI []) := by
  unfold e0B at h
  split at h
  · rename_i c dd its n sl q
    obtain ⟨h1, h2⟩ := ba h
    have e : its.toList = [] := of_decide_eq_true h2
    refine .inr ⟨_, its, n, q, congrArg Value.type (of_decide_eq_true h1), rfl, ?_, ?_⟩
    · rw [← Array.length_toList, e]
      exact Nat.zero_le _
    · rw [e]
      exact .nil
  · cases h
theorem exs (c : SaysP exB fn K) : Ex K (ga K "Table") := by
  obtain ⟨h, h3⟩ := ba c.truth
  obtain ⟨h1, h2⟩ := ba h
  obtain ⟨_, a2⟩ := ba h1
  obtain ⟨cl, fl⟩ := ba a2
  obtain ⟨b1, b2⟩ := ba h2
  obtain ⟨ty, kt⟩ := ba b1
  obtain ⟨nf, mk⟩ := ba b2
  obtain ⟨c1, c2⟩ := ba h3
  obtain ⟨eq, ca⟩ := ba c1
  obtain ⟨d1, d2⟩ := ba c2
  obtain ⟨p1, p2⟩ := ba d1
  obtain ⟨p3, e0⟩ := ba d2
  obtain ⟨x1, x2⟩ := ba cl
  obtain ⟨x1, x3⟩ := ba x1
  obtain ⟨x2, x4⟩ := ba x2
  obtain ⟨f1, f2⟩ := ba fl
  obtain ⟨f2, f3⟩ := ba f2
  obtain ⟨t1, t2⟩ := ba ty
  obtain ⟨t1, t3⟩ := ba t1
  obtain ⟨t2, t4⟩ := ba t2
  obtain ⟨k1, k2⟩ := ba kt
  obtain ⟨k1, k3⟩ := ba k1
  obtain ⟨k2, k4⟩ := ba k2
  obtain ⟨n1, n2⟩ := ba nf
  obtain ⟨n2, n3⟩ := ba n2
  obtain ⟨m1, m2⟩ := ba mk
  obtain ⟨m1, m3⟩ := ba m1
  obtain ⟨m2, m4⟩ := ba m2
  obtain ⟨e1, e2⟩ := ba eq
  obtain ⟨e1, e3⟩ := ba e1
  obtain ⟨g1, g2⟩ := ba ca
  obtain ⟨g2, g3⟩ := ba g2
  exact ⟨⟨⟨x1, x3, x2, eqO_ok x4⟩, eqO_ok f1, eqO_ok f2, eqO_ok f3, eqO_ok t1, eqO_ok t3, of_decide_eq_true t2, of_decide_eq_true t4, of_decide_eq_true k1, of_decide_eq_true k3, of_decide_eq_true k2, of_decide_eq_true k4⟩,
    n1, n2, n3, ⟨m1, eqO_ok m3, m2, m4⟩, eqO_ok e1, e3, e2, ⟨eqO_ok g1, g2, g3⟩, prop_ok p1, prop_ok p2, prop_ok p3, e0_ok e0⟩
theorem txt {h : Heap} (c : SaysP exB fn K) (X : K.In h) (G : h.Ns mainGlobals mg) : Txt K mg gs FS ∧ mg "gcd" = some (.builtin "math.gcd") := by
  obtain ⟨h, _⟩ := ba c.truth
  obtain ⟨h1, _⟩ := ba h
  obtain ⟨a1, _⟩ := ba h1
  obtain ⟨a1, a2⟩ := ba a1
  obtain ⟨h1, h2⟩ := ba a1
  exact ⟨⟨fun x hx => PySem.W.mg_of X G (eqO_ok (List.all_eq_true.mp h1 x hx)), fun x hx => PySem.W.mg_none_of X G (eqO_ok (List.all_eq_true.mp h2 x hx))⟩, PySem.W.mg_of X G (eqO_ok a2)⟩
end
theorem all_ok {P : Program} {w : World} {K : PySem.W.Frag} {h : Heap} {mg : Str → Option Value} {f : Addr} (X : K.In h) (G : h.Ns mainGlobals mg) (hfa : mg ("law" : Str) = some (.ref f)) (c : SaysP exB fn K) :
    ∃ fd : FuncData, (∀ (s : Shared) (v : Value), BindsTo s fd ⟨[v], []⟩ [("_law_script", v)]) ∧ ∀ base : Heap, K.In base → base.Ns mainGlobals mg → FnOk P w K mg base CX0 7 f fd ["_law_script"] (spLaw K) := by
  obtain ⟨T, hgcd⟩ := txt c X G
  have x := exs c
  have hT := T.gl "Table" (by decide +kernel)
  obtain ⟨f0, F0⟩ := c.def_ 0 (d := dG "shortest_lap" s_shortest_lap) rfl
  obtain ⟨f1, F1⟩ := c.def_ 1 (d := dG "plain_form" s_plain_form) rfl
  obtain ⟨f2, F2⟩ := c.def_ 2 (d := dG "end_of" s_end_of) rfl
  obtain ⟨f3, F3⟩ := c.def_ 3 (d := dG "value_at" s_value_at) rfl
  obtain ⟨f4, F4⟩ := c.def_ 4 (d := dG "is_integer" s_is_integer) rfl
  obtain ⟨f5, F5⟩ := c.def_ 5 (d := dG "is_count" s_is_count) rfl
  obtain ⟨f6, F6⟩ := c.def_ 6 (d := dG "is_row" s_is_row) rfl
  obtain ⟨f7, F7⟩ := c.def_ 7 (d := dG "is_climb" s_is_climb) rfl
  obtain ⟨f8, F8⟩ := c.def_ 8 (d := dG "check_table" s_check_table) rfl
  obtain ⟨f9, F9⟩ := c.def_ 9 (d := dG "_law_source" s__law_source) rfl
  obtain ⟨f10, F10⟩ := c.def_ 10 (d := dG "_law_pick" s__law_pick) rfl
  obtain ⟨f11, F11⟩ := c.def_ 11 (d := dG "_law_is_integer" s__law_is_integer) rfl
  obtain ⟨f12, F12⟩ := c.def_ 12 (d := dG "_law_is_count" s__law_is_count) rfl
  obtain ⟨f13, F13⟩ := c.def_ 13 (d := dG "_law_truth" s__law_truth) rfl
  obtain ⟨f14, F14⟩ := c.def_ 14 (d := dG "_law_is_value" s__law_is_value) rfl
  obtain ⟨f15, F15⟩ := c.def_ 15 (d := dG "_law_rising" s__law_rising) rfl
  obtain ⟨f16, F16⟩ := c.def_ 16 (d := dG "_law_raw" s__law_raw) rfl
  obtain ⟨f17, F17⟩ := c.def_ 17 (d := dG "_law_end" s__law_end) rfl
  obtain ⟨f18, F18⟩ := c.def_ 18 (d := dG "_law_at" s__law_at) rfl
  obtain ⟨f19, F19⟩ := c.def_ 19 (d := dG "_law_gcd" s__law_gcd) rfl
  obtain ⟨f20, F20⟩ := c.def_ 20 (d := dG "_law_plain" s__law_plain) rfl
  obtain ⟨f21, F21⟩ := c.def_ 21 (d := dG "_law_same" s__law_same) rfl
  obtain ⟨f22, F22⟩ := c.def_ 22 (d := dG "_law_table" s__law_table) rfl
  obtain ⟨f23, F23⟩ := c.def_ 23 (d := dG "_law_telling" s__law_telling) rfl
  obtain ⟨f24, F24⟩ := c.def_ 24 (d := dG "_law_other" s__law_other) rfl
  obtain ⟨f25, F25⟩ := c.def_ 25 (d := dG "_law_rate" s__law_rate) rfl
  obtain ⟨f26, F26⟩ := c.def_ 26 (d := dG "_law_values" s__law_values) rfl
  obtain ⟨f27, F27⟩ := c.def_ 27 (d := dG "law" s_law) rfl
  obtain ⟨f28, F28⟩ := c.def_ 28 (d := dM "__init__" "Table.__init__" s_Table_init [.adr e0, .int 0]) rfl
  obtain ⟨f29, F29⟩ := c.def_ 29 (d := dM "__eq__" "Table.__eq__" s_Table_eq []) rfl
  obtain ⟨f30, F30⟩ := c.def_ 30 (d := dM "__call__" "Table.__call__" s_Table_call []) rfl
  obtain ⟨f31, F31⟩ := c.def_ 31 (d := dP "end" "Table.end" s_Table_end) rfl
  obtain ⟨f32, F32⟩ := c.def_ 32 (d := dP "rate" "Table.rate" s_Table_rate) rfl
  obtain ⟨f33, F33⟩ := c.def_ 33 (d := dP "steady" "Table.steady" s_Table_steady) rfl
  have e := hfa.symm.trans (T.gl "law" (by decide +kernel))
  cases e
  have bl := FunD.bindsA (ps := ["_law_script"]) F27 fun _ _ _ _ _ _ us hl => match us, hl with | [_], _ => rfl
  refine ⟨f27, fun s v => bl s [v] rfl, fun base _ _ => ?_⟩
  have c_shortest_lap : Cal P w K mg base 1 "shortest_lap" (spLap K) := Cal.mk' F0 (ok_shortest_lap F0 T rfl) (T.gl _ (by decide +kernel)) (F0.bindsN fun _ _ _ _ _ _ us hl => match us, hl with | [_, _], _ => rfl)
  have c_plain_form : Cal P w K mg base 2 "plain_form" (spForm K) := Cal.mk' F1 (ok_plain_form F1 T rfl c_shortest_lap) (T.gl _ (by decide +kernel)) (F1.bindsN fun _ _ _ _ _ _ us hl => match us, hl with | [_, _, _], _ => rfl)
  have c_end_of : Cal P w K mg base 1 "end_of" (spEnd K (ga K "Table")) := Cal.mk' F2 (ok_end_of F2 T x.tc) (T.gl _ (by decide +kernel)) (F2.bindsN fun _ _ _ _ _ _ us hl => match us, hl with | [_], _ => rfl)
  have c_value_at : Cal P w K mg base 2 "value_at" (spAt K (ga K "Table")) := Cal.mk' F3 (ok_value_at F3 T x.tc c_end_of) (T.gl _ (by decide +kernel)) (F3.bindsN fun _ _ _ _ _ _ us hl => match us, hl with | [_, _], _ => rfl)
  have c_is_integer : Cal P w K mg base 1 "is_integer" spIsInt := Cal.mk' F4 (ok_is_integer F4 T) (T.gl _ (by decide +kernel)) (F4.bindsN fun _ _ _ _ _ _ us hl => match us, hl with | [_], _ => rfl)
  have c_is_count : Cal P w K mg base 2 "is_count" spIsCount := Cal.mk' F5 (ok_is_count F5 T c_is_integer) (T.gl _ (by decide +kernel)) (F5.bindsN fun _ _ _ _ _ _ us hl => match us, hl with | [_], _ => rfl)
  have c_is_row : Cal P w K mg base 1 "is_row" (spIsRow K) := Cal.mk' F6 (ok_is_row F6 T) (T.gl _ (by decide +kernel)) (F6.bindsN fun _ _ _ _ _ _ us hl => match us, hl with | [_], _ => rfl)
  have c_is_climb : Cal P w K mg base 2 "is_climb" (spIsClimb K) := Cal.mk' F7 (ok_is_climb F7 T c_is_row c_is_integer) (T.gl _ (by decide +kernel)) (F7.bindsN fun _ _ _ _ _ _ us hl => match us, hl with | [_], _ => rfl)
  have c_check_table : Cal P w K mg base 3 "check_table" (spCheck K) := Cal.mk' F8 (ok_check_table F8 T c_is_climb c_is_count) (T.gl _ (by decide +kernel)) (F8.bindsN fun _ _ _ _ _ _ us hl => match us, hl with | [_, _, _], _ => rfl)
  have oi : FnOk P w K mg base CX0 4 _ f28 ["self", "head", "loop", "rise"] (spInit K (ga K "Table")) := ok_Table_init F28 T x.tc.cl x.tc.hd x.tc.lp x.tc.ri c_check_table c_plain_form
  obtain ⟨d3, v3, b3⟩ := F28.binds1 (ps := ["self", "head", "loop", "rise"]) 4 2 (List.cons_ne_nil _ _) rfl fun T kV doc pm an cdv ct us its hl hd => match us, hl, its, hd with | [_, _, _, _], _, [_, _], _ => ⟨_, rfl, rfl⟩
  obtain ⟨d1, v1, b1⟩ := F28.binds1 (ps := ["self", "head", "loop", "rise"]) 2 0 (List.cons_ne_nil _ _) rfl fun T kV doc pm an cdv ct us its hl hd => match us, hl, its, hd with | [_, _], _, [_, _], _ => ⟨_, rfl, rfl⟩
  have m_Table : Mak P w K mg base 4 0 "Table" (ga K "Table") (spInit K (ga K "Table")) [] := ⟨_, _, _, _, x.mk_, oi, hT, b3, v3⟩
  have m_Table1 : Mak P w K mg base 4 0 "Table" (ga K "Table") (spInit K (ga K "Table")) [.ref (e0 K), .int 0] := ⟨_, _, _, _, x.mk_, oi, hT, b1, v1⟩
  have o_eq : EqC P w K mg base 1 (ga K "Table") (spEq K (ga K "Table")) := ⟨_, f29, _, ok_Table_eq F29 T hT x.tc, x.eq1, x.eq2, x.eq3, F29.bindsN fun _ _ _ _ _ _ us hl => match us, hl with | [_, _], _ => rfl⟩
  have o_call : CalO P w K mg base 3 (ga K "Table") (spAt K (ga K "Table")) := ⟨_, f30, _, x.call, ok_Table_call F30 T c_is_count c_value_at, F30.bindsN fun _ _ _ _ _ _ us hl => match us, hl with | [_, _], _ => rfl⟩
  have o_end : PropC P w K mg base 2 (ga K "Table") "end" (spEnd K (ga K "Table")) := ⟨x.tc.cl, _, _, f31, _, x.p1, ok_Table_end F31 T c_end_of, F31.bindsN fun _ _ _ _ _ _ us hl => match us, hl with | [_], _ => rfl⟩
  have o_rate : PropC P w K mg base 1 (ga K "Table") "rate" (spRate K (ga K "Table")) := ⟨x.tc.cl, _, _, f32, _, x.p2, ok_Table_rate F32 T hgcd x.tc, F32.bindsN fun _ _ _ _ _ _ us hl => match us, hl with | [_], _ => rfl⟩
  have o_steady : PropC P w K mg base 1 (ga K "Table") "steady" (spSteady K (ga K "Table")) := ⟨x.tc.cl, _, _, f33, _, x.p3, ok_Table_steady F33 T x.tc, F33.bindsN fun _ _ _ _ _ _ us hl => match us, hl with | [_], _ => rfl⟩
  have c__law_source : Cal P w K mg base 1 "_law_source" (spSource K) := Cal.mk' F9 (ok_source F9 T (by decide +kernel) (by decide +kernel) (by decide +kernel)) (T.gl _ (by decide +kernel)) (F9.bindsN fun _ _ _ _ _ _ us hl => match us, hl with | [_, _], _ => rfl)
  have c__law_pick : Cal P w K mg base 1 "_law_pick" spPick := Cal.mk' F10 (ok_pick F10 T (by decide +kernel)) (T.gl _ (by decide +kernel)) (F10.bindsN fun _ _ _ _ _ _ us hl => match us, hl with | [_, _], _ => rfl)
  have c__law_is_integer : Cal P w K mg base 1 "_law_is_integer" spIsInt := Cal.mk' F11 (ok__law_is_integer F11 T) (T.gl _ (by decide +kernel)) (F11.bindsN fun _ _ _ _ _ _ us hl => match us, hl with | [_], _ => rfl)
  have c__law_is_count : Cal P w K mg base 2 "_law_is_count" spIsCount := Cal.mk' F12 (ok__law_is_count F12 T c__law_is_integer) (T.gl _ (by decide +kernel)) (F12.bindsN fun _ _ _ _ _ _ us hl => match us, hl with | [_], _ => rfl)
  have c__law_truth : Cal P w K mg base 1 "_law_truth" spTruth := Cal.mk' F13 (ok__law_truth F13 T) (T.gl _ (by decide +kernel)) (F13.bindsN fun _ _ _ _ _ _ us hl => match us, hl with | [_, _], _ => rfl)
  have c__law_is_value : Cal P w K mg base 3 "_law_is_value" spIsValue := Cal.mk' F14 (ok__law_is_value F14 T c__law_is_count) (T.gl _ (by decide +kernel)) (F14.bindsN fun _ _ _ _ _ _ us hl => match us, hl with | [_], _ => rfl)
  have c__law_rising : Cal P w K mg base 2 "_law_rising" spRising := Cal.mk' F15 (ok__law_rising F15 T c__law_pick) (T.gl _ (by decide +kernel)) (F15.bindsN fun _ _ _ _ _ _ us hl => match us, hl with | [_, _, _, _], _ => rfl)
  have c__law_raw : Cal P w K mg base 3 "_law_raw" (spRaw K) := Cal.mk' F16 (ok__law_raw F16 T c__law_pick c__law_rising) (T.gl _ (by decide +kernel)) (F16.bindsN fun _ _ _ _ _ _ us hl => match us, hl with | [_, _], _ => rfl)
  have c__law_end : Cal P w K mg base 1 "_law_end" (spLEnd K) := Cal.mk' F17 (ok__law_end F17 T) (T.gl _ (by decide +kernel)) (F17.bindsN fun _ _ _ _ _ _ us hl => match us, hl with | [_], _ => rfl)
  have c__law_at : Cal P w K mg base 2 "_law_at" (spLAt K) := Cal.mk' F18 (ok__law_at F18 T c__law_end) (T.gl _ (by decide +kernel)) (F18.bindsN fun _ _ _ _ _ _ us hl => match us, hl with | [_, _], _ => rfl)
  have c__law_gcd : Cal P w K mg base 1 "_law_gcd" spGcd := Cal.mk' F19 (ok__law_gcd F19 T) (T.gl _ (by decide +kernel)) (F19.bindsN fun _ _ _ _ _ _ us hl => match us, hl with | [_, _], _ => rfl)
  have c__law_plain : Cal P w K mg base 1 "_law_plain" (spPlain K) := Cal.mk' F20 (ok__law_plain F20 T) (T.gl _ (by decide +kernel)) (F20.bindsN fun _ _ _ _ _ _ us hl => match us, hl with | [_, _, _], _ => rfl)
  have c__law_same : Cal P w K mg base 3 "_law_same" (spSame K (ga K "Table")) := Cal.mk' F21 (ok__law_same F21 T hT x.tc c__law_is_count) (T.gl _ (by decide +kernel)) (F21.bindsN fun _ _ _ _ _ _ us hl => match us, hl with | [_, _], _ => rfl)
  have c__law_table : Cal P w K mg base 6 "_law_table" (spLTable K (ga K "Table")) := Cal.mk' F22 (ok__law_table F22 T m_Table) (T.gl _ (by decide +kernel)) (F22.bindsN fun _ _ _ _ _ _ us hl => match us, hl with | [_], _ => rfl)
  have c__law_telling : Cal P w K mg base 3 "_law_telling" (spTelling K) := Cal.mk' F23 (ok__law_telling F23 T c__law_pick c__law_at) (T.gl _ (by decide +kernel)) (F23.bindsN fun _ _ _ _ _ _ us hl => match us, hl with | [_, _], _ => rfl)
  have c__law_other : Cal P w K mg base 4 "_law_other" (spOther K) := Cal.mk' F24 (ok__law_other F24 T c__law_pick c__law_raw) (T.gl _ (by decide +kernel)) (F24.bindsN fun _ _ _ _ _ _ us hl => match us, hl with | [_, _], _ => rfl)
  have c__law_rate : Cal P w K mg base 2 "_law_rate" (spLRate K) := Cal.mk' F25 (ok__law_rate F25 T c__law_gcd) (T.gl _ (by decide +kernel)) (F25.bindsN fun _ _ _ _ _ _ us hl => match us, hl with | [_], _ => rfl)
  have c__law_values : Cal P w K mg base 4 "_law_values" (spValues K (ga K "Table")) := Cal.mk' F26 (ok__law_values F26 T c__law_pick c__law_at c__law_end c__law_is_value c__law_is_count c__law_rate c__law_truth o_call o_end o_rate o_steady) (T.gl _ (by decide +kernel)) (F26.bindsN fun _ _ _ _ _ _ us hl => match us, hl with | [_, _, _], _ => rfl)
  exact ok_law (e0 := e0 K) F27 T x.tc x.nfT x.nfI x.nfN x.e0 c__law_source c__law_pick c__law_raw c__law_plain c__law_telling c__law_other c__law_table c__law_same c__law_truth c__law_values m_Table m_Table1 o_eq
end K01
set_option Elab.async false
set_option linter.all false
set_option maxRecDepth 100000
set_option maxHeartbeats 0
namespace K01
open PySem PySem.Spec PyProof.Rows L2 He NF
abbrev R : PySem.W.OpenRow := PySem.W.OpenLaw.row PySem.Challenge.rw_needforth_k01_whole_one_form
abbrev hk : PySem.W.Hook := hookP 5 exB fn
def ob (s : PySem.W.SharedT) : He.AlD := obsPG 5 exB fn (HandSHeadRun.getT s)
theorem ob_eq (s : PySem.W.SharedT) : ob s = hk.obs s.abs := obsPG_eq (HandSHeadRun.getT_eq s)
def loose : List Str := (["_wall", "__name__", "NeedforthError", "BadCount", "BadTable", "end_of", "value_at", "values_from", "many_at_most", "last_at_most", "shortest_lap", "plain_form", "settled_form", "spread", "ladder_of", "least_in", "first_under", "last_under", "Chase", "drift_of", "longest_head", "values_behind", "behind_form"] : List Str) ++ (["chosen", "settling", "joined_form", "both_form", "either_form", "turn_form", "is_integer", "is_count", "is_row", "is_climb", "check_table", "Table", "_law_source", "_law_pick", "_law_is_integer", "_law_is_count", "_law_truth", "_law_is_value", "_law_rising", "_law_raw", "_law_end", "_law_at", "_law_gcd", "_law_plain", "_law_same"] : List Str) ++ (["_law_table", "_law_telling", "_law_other", "_law_rate", "_law_values"] : List Str)
theorem run (w : World) : HandSHeadRun.RunEqI R (PySem.W.view R.prog [0, 60]) hk ob 12000 loose w := by
  show _ = _
  kernel_rfl
end K01
set_option Elab.async false
set_option linter.all false
set_option maxRecDepth 100000
set_option maxHeartbeats 4000000
open PySem PySem.W PySem.Calls PyProof.Rows
theorem PySem.Challenge.cw_needforth_k01_whole_one_form_holds : PySem.Challenge.rw_needforth_k01_whole_one_form.Holds := by
  w_on; o_law
  refine HandSHeadRun.head_imp (r := OpenLaw.row PySem.Challenge.rw_needforth_k01_whole_one_form) (q := view (OpenLaw.row PySem.Challenge.rw_needforth_k01_whole_one_form).prog [0, 60]) (H := K01.hk) (ob := K01.ob) (M := 12000) (loose := K01.loose) (d := HandSHeadRun.topDef (OpenLaw.row PySem.Challenge.rw_needforth_k01_whole_one_form).prog 60) (kwd := []) K01.ob_eq
    K01.run (by kernel_rfl) (by kernel_rfl) (by kernel_rfl) (by rfl) (by first | assumption | decide +kernel) (by decide +kernel) ⟨rfl, rfl, rfl, rfl, rfl, by decide +kernel⟩ ?hw ?hc
  case hw => w_witness2
  case hc =>
    refine NF.walk_ofEB (l := PySem.Challenge.rw_needforth_k01_whole_one_form) (n := 63) (k := 7) (x := "_law_script") (CX := L2.CX0) rfl (by decide) (by kernel_rfl) ⟨rfl, by decide, by decide⟩ ?F (fun _ _ _ _ z => z)
    intro w mg fa h Y G hmg0
    obtain ⟨K, KX, c⟩ := Y
    have hmg : mg ("law" : PySem.Str) = some (.ref fa) := by
      have e : (HandSHeadRun.topDef (OpenLaw.row PySem.Challenge.rw_needforth_k01_whole_one_form).prog 60).name = ("law" : PySem.Str) := by kernel_rfl
      rw [← e]
      exact hmg0
    obtain ⟨fd, hb, hF⟩ := K01.all_ok (P := (PySem.Challenge.rw_needforth_k01_whole_one_form).prog) (w := w) KX G hmg c
    exact ⟨K, fd, K01.spLaw K, KX, hb, fun H a ns hl hbits _ hS => ⟨a, ns, rfl, hS, hl, hbits, fun _ => rfl⟩, hF⟩
