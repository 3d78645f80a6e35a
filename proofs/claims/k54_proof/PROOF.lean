import PyProof.Rows.All
import Wide.All
import OpenK.AllK
import Wide.FinOn
import PyProof.EqAt
import PyProof.EqKinds
import PyProof.TupleCall
import KE.KStateDown
import KE.KIsAll
import KE.KTryMore
import KE.KFromBytes
import HandS.ForMost
import HandS.ForExc
import HandS.IsInst
import HandS.Flow
import HandS.WideBits
import HandS.ExcInit
import HandS.ExcIs
import HandS.Head0
import HandS.Head1
import HandS.Head2
import HandS.HeadEnd
import HandS.HeadHook1
import HandS.HeadHook2
import HandS.ExcField
import HandS.ExcValue
import KE.KExcIs
import HandS.EndBits
import PySem.Challenge.RW_needforth_k54_whole_errors_apart
set_option Elab.async false
set_option linter.all false
set_option maxRecDepth 100000
set_option maxHeartbeats 4000000
/-! Facts of the top as one truth of the written part, and the head that hands them on. -/
namespace NF
open PySem PySem.Spec PyProof.Rows L2 He
def obsM (ex : PySem.W.Frag → Bool) (fn : List DefD) (K : PySem.W.Frag) : AlD := (ex K && fn.all fun d => d.ok K, fn.map fun d => fnW K d.at_)
def SaysM (ex : PySem.W.Frag → Bool) (fn : List DefD) (K : PySem.W.Frag) : Prop := obsM ex fn K = valD fn
def obsMG (n : Nat) (ex : PySem.W.Frag → Bool) (fn : List DefD) (g : Addr → Option Obj) : AlD := obsM ex fn (frG g (asD g n))
def hookM (n : Nat) (ex : PySem.W.Frag → Bool) (fn : List DefD) : PySem.W.Hook where
  α := AlD
  obs := fun s => obsMG n ex fn s.heap.get?
  val := fun _ => valD fn
  says := fun _ h => ∃ K : PySem.W.Frag, K.In h ∧ SaysM ex fn K
  of := fun _ _ e => ⟨_, frG_in, e⟩
  keeps := fun _ _ _ ⟨K, hK, c⟩ k => ⟨K, PySem.W.Frag.In.keeps hK k, c⟩
theorem obsMG_eq {n : Nat} {ex : PySem.W.Frag → Bool} {fn : List DefD} {g : Addr → Option Obj} {s : Shared} (h : ∀ a, g a = s.heap.get? a) : obsMG n ex fn g = (hookM n ex fn).obs s := by
  have e : g = s.heap.get? := funext h
  rw [e] <;> rfl
section
variable {ex : PySem.W.Frag → Bool} {fn : List DefD} {K : PySem.W.Frag}
theorem SaysM.truth (c : SaysM ex fn K) : ex K = true :=
  (ba (show (ex K && fn.all fun d => d.ok K) = true from congrArg (fun z : AlD => z.1) c)).1
theorem SaysM.def_ (c : SaysM ex fn K) (i : Nat) {d : DefD} (h : fn[i]? = some d := by rfl) : ∃ fd, FunD K d.name d.qual d.params d.body d.scope (d.dvs K) (d.kws K) (fAd K d.at_) fd := by
  have c2 := (ba (show (ex K && fn.all fun d => d.ok K) = true from congrArg (fun z : AlD => z.1) c)).2
  have e : fn.map (fun d => fnW K d.at_) = fn.map DefD.val := congrArg (fun z : AlD => z.2) c
  have e2 : (fn.map fun d => fnW K d.at_)[i]? = (fn.map DefD.val)[i]? := by rw [e]
  rw [List.getElem?_map, List.getElem?_map, h] at e2
  exact DefD.funD (Option.some.inj e2) (List.all_eq_true.mp c2 d (List.mem_of_getElem? h))
end
/-! ### an exception class of the program's own, over ValueError, by truths of the written part -/
/-- the class's own object -/
def exObjB (K : PySem.W.Frag) (C : Addr) : Bool := match K.lookup C with
  | some ⟨.type t, _, .cls cd, sl⟩ => t == "type" && (match cd.mro with
    | .ref C' :: bm => C' == C && PySem.HandSPX.refsVE bm
    | _ => false) && (cd.hasDict && !cd.hasDel) && (match sl.toList with
    | [_, _, _, _, some (.builtin n), _] => n == "ValueError.__new__"
    | _ => false)
  | _ => false
theorem exObjB_ok {K : PySem.W.Frag} {C : Addr} (h : exObjB K C = true) :
    ∃ nm q N bs bm sn sub ab col dd k0 k1 k2 k3 k5, K.lookup C = some (excClassObj nm q C N bs bm true sn sub ab col dd k0 k1 k2 k3 k5 "ValueError.__new__") ∧ PySem.HandSPX.refsVE bm = true := by
  unfold exObjB at h
  split at h
  · rename_i t dd cd sl hl
    obtain ⟨h, h4⟩ := ba h
    obtain ⟨h, h3⟩ := ba h
    obtain ⟨h1, h2⟩ := ba h
    split at h2
    · rename_i C' bm hm
      obtain ⟨h5, h6⟩ := ba h2
      split at h4
      · rename_i k0 k1 k2 k3 n k5 hs
        obtain ⟨h7, h8⟩ := ba h3
        have e1 : t = "type" := eq_of_beq h1
        have e5 : C' = C := eq_of_beq h5
        have e9 : n = "ValueError.__new__" := eq_of_beq h4
        subst e1 e5 e9
        obtain ⟨nm, bs, mro, N, q, hd, sn, sub, ab, col, hdel⟩ := cd
        dsimp only at hm h7 h8
        subst hm h7
        have hdel' : hdel = false := by
          cases hdel with
          | false => rfl
          | true => cases h8
        subst hdel'
        have hsl : sl = #[k0, k1, k2, k3, some (.builtin "ValueError.__new__"), k5] := by
          have := congrArg List.toArray hs
          simpa using this
        subst hsl
        exact ⟨nm, q, N, bs, bm, sn, sub, ab, col, dd, k0, k1, k2, k3, k5, hl, h6⟩
      · cases h4
    · cases h2
  · cases h
/-- all that making one, storing to it and raising it ask of the class -/
def oexB (K : PySem.W.Frag) (C : Addr) : Bool :=
  exObjB K C && eqO (PySem.W.findIn K (.ref C) "__setattr__") (some (some (.builtin "object.__setattr__"))) && decide (PySem.W.subIn K (.ref C) (.type "BaseException") = some true) &&
    decide (PySem.W.typeIn K (.ref C) = some (.type "type")) && PySem.W.keepIn K (.ref C)
theorem oexB_ok {K : PySem.W.Frag} {C : Addr} (h : oexB K C = true) : OexC K C := by
  obtain ⟨h, h5⟩ := ba h
  obtain ⟨h, h4⟩ := ba h
  obtain ⟨h, h3⟩ := ba h
  obtain ⟨h1, h2⟩ := ba h
  exact ⟨exObjB_ok h1, eqO_ok h2, of_decide_eq_true h3, of_decide_eq_true h4, h5⟩
/-- all that isinstance asks of an instance's class -/
def excB (K : PySem.W.Frag) (D : Addr) : Bool :=
  eqO (PySem.W.findIn K (.ref D) "__getattribute__") (some (some (.builtin "BaseException.__getattribute__"))) && eqO (PySem.W.findIn K (.ref D) "__getattr__") (some none) &&
    decide (PySem.W.subIn K (.ref D) (.type "BaseException") = some true) && PySem.W.hasDictIn K D && eqO (PySem.W.findIn K (.ref D) "__class__") (some (some (.builtin "object.__class__"))) &&
    eqO (PySem.W.specialIn K (.builtin "object.__class__") "__get__") (some (some (.builtin "getset_descriptor.__get__"))) && decide (PySem.W.takesIn K (.builtin "object.__class__") = some true) && decide (PySem.W.mroIn K D (.type "object") = some true)
theorem excB_ok {K : PySem.W.Frag} {D : Addr} (h : excB K D = true) : ExcC K D := by
  obtain ⟨h, h8⟩ := ba h
  obtain ⟨h, h7⟩ := ba h
  obtain ⟨h, h6⟩ := ba h
  obtain ⟨h, h5⟩ := ba h
  obtain ⟨h, h4⟩ := ba h
  obtain ⟨h, h3⟩ := ba h
  obtain ⟨h1, h2⟩ := ba h
  exact ⟨eqO_ok h1, eqO_ok h2, of_decide_eq_true h3, h4, eqO_ok h5, eqO_ok h6, of_decide_eq_true h7, of_decide_eq_true h8⟩
end NF
set_option Elab.async false
set_option linter.all false
set_option maxRecDepth 100000
set_option maxHeartbeats 4000000
/-! Own exceptions as values: made, asked for their class, read. -/
namespace NF
open PySem PySem.Spec PyProof.Rows L2 He
/-! ### C(e, ..) as a value: the class's own __init__ keeps sp -/
def tMkV (C : Addr) (sp : Sp) (ta : TA) : TE := fun σ H Q => ta σ H fun vs H1 => vs.length ≤ 1000 ∧ ∀ a, H1 a = none → sp (.ref a :: vs) (upd H1 a (exo a C none))
  (fun v H2 => v = .non ∧ Q (.ref a) H2) (fun _ _ _ => False)
section
variable {X : Cx} {e : Expr} {es : List Expr} {ta : TA} {p pos : Pos}
theorem pe_oex {CX : CXT} {x : Str} {C fI : Addr} {k : Nat} {fd : FuncData} {ps : List Str} {sp : Sp} (T : OexC X.K C) (iC : PySem.W.findIn X.K (.ref C) "__init__" = some (some (.ref fI))) (tI : PySem.W.typeIn X.K (.ref fI) = some (.type "function"))
    (F1 : FnOk X.prog X.w X.K X.mg X.base CX k fI fd ps sp) (hr : Room (k + 1) X.A) (hb : Binds X.K fd ps []) (hx : Passes CX X (fun _ _ _ => False)) (hg : Gl X x) (hm : X.mg x = some (.ref C)) (ha : PA X (e :: es) ta)
    (hdb : (x == ("__debug__" : Str)) = false := by decide) (he : starEach (e :: es) X.env = (false, eval e X.env) :: starEach es X.env := by rfl) (hpl : (backTo pos (starEach es X.env)).any (·.1) = false := by rfl) :
    PE X (.Call (.Name x p) (e :: es) [] pos) (tMkV C sp ta) := by
  refine ⟨fun pins s σ H Q I h => ?_⟩
  obtain ⟨nm, q, N, bs, bm, sn, sub, ab, col, dd, k0, k1, k2, k3, k5, hC, hbm⟩ := T.cls
  refine wpAny_Call_Name_kw (ld_glob I hg hm ?_ hdb)
  refine PySem.W.callWith_K (h₀ := X.base) I.ok.mod.kin T.kC (thn (ha.run pos pins s σ H _ I h) fun us s1 ⟨vs, H1, I1, r1, hz, q1⟩ => ⟨I1.kIn, ?_⟩) he hpl
  show wpAny _ _ (call (.ref C) us) _ _ _
  obtain ⟨hp, g, dr, tk, os⟩ := s1
  have hsz : hp.objs.size ≤ hp.objs.size + 1 := Nat.le_succ _
  have hn : H1 (hp.objs.size + 1) = none := I1.hok.fresh hsz
  have hq := q1 (hp.objs.size + 1) hn
  have kk : ∀ b o, hp.get? b = some o → ((hp.push (PySem.W.kdv_tup us)).push (PySem.HandSPX.excO C hp.objs.size)).get? b = some o := fun b o e => Heap.get?_push_of_some _ (Heap.get?_push_of_some _ e)
  have hget : ((hp.push (PySem.W.kdv_tup us)).push (PySem.HandSPX.excO C hp.objs.size)).get? (hp.objs.size + 1) = some (PySem.HandSPX.excO C hp.objs.size) := by heap_get
  have I2 : Inv X pins σ (upd H1 (hp.objs.size + 1) (exo (hp.objs.size + 1) C none)) ⟨(hp.push (PySem.W.kdv_tup us)).push (PySem.HandSPX.excO C hp.objs.size), g, dr, tk, os⟩ :=
    I1.laid (t' := tk) (a := hp.objs.size + 1) (o := exo (hp.objs.size + 1) C none) (h' := (hp.push (PySem.W.kdv_tup us)).push (PySem.HandSPX.excO C hp.objs.size)) kk hsz (exo_ok hget)
  have r2 : Vals (V.ref (hp.objs.size + 1) :: vs) (Value.ref (hp.objs.size + 1) :: us) := .cons rfl r1
  have hl : (Value.ref (hp.objs.size + 1) :: us ++ []).length = ps.length := by
    have e := r2.length
    rw [F1.len _ _ _ _ hq] at e
    rw [List.append_nil]
    exact e.symm
  have hus : us.length ≤ sizeLine := by
    rw [← Paired.length r1, sizeLine_eq]
    omega
  have hb' : BindsTo (⟨(hp.push (PySem.W.kdv_tup us)).push (PySem.HandSPX.excO C hp.objs.size), g, dr, tk, os⟩ : Shared) fd ⟨Value.ref (hp.objs.size + 1) :: us, []⟩ (ps.zip (Value.ref (hp.objs.size + 1) :: us)) := by
    have := hb ⟨(hp.push (PySem.W.kdv_tup us)).push (PySem.HandSPX.excO C hp.objs.size), g, dr, tk, os⟩ (Value.ref (hp.objs.size + 1) :: us) I2.kIn hl
    rw [List.append_nil] at this
    exact this
  refine wpAny_call (PySem.HandSPX.call_own F.excBase_ValueError (fun Y => PySem.HandSPX.refsVE_contains Y bm hbm) (I1.kIn _ _ hC) (PySem.W.looks_findIn I1.kIn iC) (fun self => PySem.W.bind_fn I1.kIn self tI) hus
    (codeAny_mono (F1.run _ X.stack _ _ ⟨Value.ref (hp.objs.size + 1) :: us, []⟩ (Value.ref (hp.objs.size + 1) :: us) _ _ (fun _ _ _ => False) (hr.make C us []) (I2.env0.make C us []) hb' r2 hq) fun r s' hq' => ?_))
  cases r with
  | error er => exact hx pins σ _ _ er s' I2 hq'
  | ok fl =>
    cases fl with
    | ret u =>
      obtain ⟨v, H2, os2, bare2, un2, hok2, rv, ev, q2⟩ := hq'
      subst ev
      obtain ⟨h2, g2, d2, t2, os'⟩ := s'
      exact ⟨rv, V.ref (hp.objs.size + 1), H2, I2.call' (ch := []) os2 un2 hok2 bare2 (fun b z => absurd z (by simp)), rfl, q2⟩
    | next => exact False.elim hq'
    | brk => exact False.elim hq'
    | cont => exact False.elim hq'
/-- C(), an own exception class without own __init__, as a value -/
def tMk0 (C : Addr) : TE := fun _ H Q => ∀ a, H a = none → Q (.ref a) (upd H a (exo a C none))
theorem pe_exc0 {C : Addr} {x : Str} (q : PySem.W.excIn X.K C He.veBase "ValueError.__new__" = true) (gC : X.mg x = some (.ref C)) (kC : PySem.W.keepIn X.K (.ref C) = true) (hg : Gl X x)
    (hdb : (x == ("__debug__" : Str)) = false := by decide) :
    PE X (.Call (.Name x p) [] [] pos) (tMk0 C) := by
  refine ⟨fun pins s σ H Q I h => ?_⟩
  refine wpAny_Call_Name_kw (ld_glob I hg gC ?_ hdb)
  refine PySem.W.callWith_K0 I.kIn kC ?_
  show wpAny _ _ (call (.ref C) []) _ _ _
  obtain ⟨bm, N, nm, qn, bs, hdct, sn, sub, ab, col, dd, k0, k1, k2, k3, k5, mN, hC, hN, hni, T⟩ := exc_obj I.kIn q
  obtain ⟨hp, g, dr, tk, os⟩ := s
  refine wpAny_call_exc_subT F.excBase_ValueError T hC hN hni (fun h' a hm => ?_) (Nat.zero_le _)
  have hn : H a = none := I.hok.gone hm.new
  obtain ⟨t, ht, _, _⟩ := hm.there
  exact ⟨.ref a, upd H a (exo a C none), I.laidN hm.keeps hm.new hn (exo_ok ht), rfl, h a hn⟩
/-! ### isinstance of such a value -/
def rIsV (K : PySem.W.Frag) : List V → Hp → VK → Prop := fun xs H Q => ∃ (a C : Addr) (od : Option Addr) (c : V) (u : Value) (b : Bool), xs = [.ref a, c] ∧ ClsV c u ∧ ExcC K C ∧ H a = some (exo a C od) ∧
  (∀ d, od = some d → ∃ fs, H d = some (exd d fs)) ∧ PySem.W.kitOne K (.ref C) u = some b ∧ Q (.bl b) H
theorem inst_exo {pins : List (Addr × Obj)} {σ : L2.St} {H : Hp} {s : Shared} {a C : Addr} {od : Option Addr} (I : Inv X pins σ H s) (e : H a = some (exo a C od)) (hd : ∀ d, od = some d → ∃ fs, H d = some (exd d fs)) :
    ∃ ox o, PySem.W.InstAt s.heap a ox C o := by
  obtain ⟨t1, h1⟩ := exo_at I.hok e
  cases od with
  | none => exact ⟨_, none, h1, rfl, rfl, trivial⟩
  | some d =>
    obtain ⟨fs, h2⟩ := hd d rfl
    obtain ⟨mA, hns, _⟩ := exd_at I.hok h2
    obtain ⟨o, ho, _⟩ := lookIn_ns hns
    exact ⟨_, some o, h1, rfl, rfl, ho⟩
theorem call_isV : CallR X (.builtin "isinstance") (rIsV X.K) := by
  intro pins s σ H xs us Q I r h
  obtain ⟨a, C, od, c, u, b, rfl, k, T, e, hd, hk, q⟩ := h
  obtain ⟨u1, u2, rfl, r1, r2⟩ := vals2 r
  have e2 := k.eq r2
  subst e2
  cases (show u1 = Value.ref a from r1)
  obtain ⟨ox, o, J⟩ := inst_exo I e hd
  have hcl : (PySem.W.clsIn X.K C).isSome = true := by
    obtain ⟨cd, hc, _⟩ := PySem.W.any_some T.hd
    rw [hc] <;> rfl
  exact PySem.W.kia_one (PySem.W.kitx_exc (ox := ox) (od := o) hcl T.hg T.hk T.hs T.ha T.hn T.ht T.hm) I.kIn J hk (fun z => nomatch z) fun tk => ⟨.bl b, H, I.tok tk, rfl, q⟩
/-! ### its field -/
def tXv (K : PySem.W.Frag) (f : Str) (te : TE) : TE := fun σ H Q => te σ H fun x H1 => ∃ (a C d : Addr) (fs : List (Str × V)) (v : V), x = .ref a ∧ XfC K C ∧ PySem.W.findIn K (.ref C) f = some none ∧ H1 a = some (exo a C (some d)) ∧ H1 d = some (exd d fs) ∧ fs.lookup f = some v ∧ Q v H1
theorem pe_xv {n : Str} {te : TE} (he : PE X e te) (hb : attributeBase e n X.env (eval e X.env) = eval e X.env := by rfl) : PE X (.Attribute e n pos) (tXv X.K n te) := by
  refine ⟨fun pins s σ H Q I h => ?_⟩
  refine attr_of hb (thn (he.run pins s σ H _ I h) fun u s1 hh => ?_)
  obtain ⟨x, H1, I1, rx, a, C, d, fs, v, ex, T, hno, ea, ed, l, q⟩ := hh
  subst ex
  obtain rfl : u = Value.ref a := rx
  obtain ⟨t1, h1⟩ := exo_at I1.hok ea
  obtain ⟨mA, hns, hr⟩ := exd_at I1.hok ed
  obtain ⟨od, ho, hl⟩ := lookIn_ns hns
  obtain ⟨u, hu, ru⟩ := RelO.some_of (v := v) (o := mA n) (by rw [← l]; exact hr n)
  have J : PySem.W.InstAt s1.heap a _ C (some od) := ⟨h1, rfl, rfl, ho⟩
  exact HandSPX.exc_get I1.kIn J T.ga T.gg T.exC (PySem.W.findObj_own T.hdC hno rfl (by rw [hl, hu])) (handed_of ru) ⟨v, H1, I1.tok _, ru, q⟩
end
end NF
set_option Elab.async false
set_option linter.all false
set_option maxRecDepth 100000
set_option maxHeartbeats 4000000
/-! What each law's own helpers keep: the source of draws. -/
namespace NF
open PySem PySem.Spec PyProof.Rows L2 He
/-- the names that a def reads off the module: those that stand for an object of the written part, those that are still Python's own -/
structure Txt (K : PySem.W.Frag) (mg : Str → Option Value) (gs fs : List Str) : Prop where
  gl : ∀ x, x ∈ gs → mg x = some (.ref (ga K x))
  fr : ∀ x, x ∈ fs → mg x = none
/-- a source of draws at p: three ints -/
def Src (H : Hp) (p : Addr) : Prop := ∃ a s c : Int, H p = some (.lst [.int a, .int s, .int c])
/-- a draw: some number from 0 below m; all but the source stands (H0: what the caller wants to stand) -/
def spPick : Sp := fun vs H Q _ => ∃ (H0 : Hp) (p : Addr) (m : Int), vs = [.ref p, .int m] ∧ Same H0 H ∧ H0 p = none ∧ Src H p ∧ 0 < m ∧ m < 1073741824 ∧
  ∀ d H', 0 ≤ d → d < m → Same H0 H' → Src H' p → Q (.int d) H'
/-- a new source of the script -/
def spSource (K : PySem.W.Frag) : Sp := fun vs H Q _ => ∃ (l : Addr) (ns : List Int) (i : Nat), vs = [.ref l, .int (i : Int)] ∧ SqL K H l (ns.map V.int) ∧ ns.length ≤ 63 ∧ (∀ k ∈ ns, Builtin.Int.intBits k ≤ 1048576) ∧ i < 1000 ∧
  ∀ p H', Same H H' → H p = none → Src H' p → Q (.ref p) H'
theorem Same.put {H0 H : Hp} {p : Addr} {o : HO} (h : Same H0 H) (n : H0 p = none) : Same H0 (upd H p o) := fun b u e => by
  rw [upd_ne (ne_of_none e n)]
  exact h b u e
theorem Same.new {H0 H : Hp} {p : Addr} {o : HO} (h : Same H0 H) (n : H p = none) : Same H0 (upd H p o) := NF.Same.put h (L2.Same.free h n)
/-- a def that may be called by its name; it lets nothing out -/
structure Cal (P : Program) (w : World) (K : PySem.W.Frag) (mg : Str → Option Value) (base : Heap) (k : Nat) (x : Str) (sp : Sp) : Prop where
  ex : ∃ (f : Addr) (fd : FuncData) (ps : List Str), FnOk P w K mg base CX0 k f fd ps sp ∧ mg x = some (.ref f) ∧ PySem.W.keepIn K (.ref f) = true ∧ Binds K fd ps []
theorem pe_c {X : Cx} {k j : Nat} {x : Str} {sp : Sp} {e : Expr} {es : List Expr} {t : TA} {p pos : Pos} (c : Cal X.prog X.w X.K X.mg X.base k x sp) (hr : Room j X.A) (hk : k ≤ j) (hg : Gl X x) (ha : PA X (e :: es) t)
    (hdb : (x == ("__debug__" : Str)) = false := by decide) (he : starEach (e :: es) X.env = (false, eval e X.env) :: starEach es X.env := by rfl) (hpl : (backTo pos (starEach es X.env)).any (·.1) = false := by rfl) :
    PE X (.Call (.Name x p) (e :: es) [] pos) (tCall sp [] E0 t) := by
  obtain ⟨f, fd, ps, F, hm, kp, b⟩ := c.ex
  exact pe_call F (hr.mono hk) hg hm kp b .nil pass0 ha hdb he hpl
theorem Cal.mk' {P : Program} {w : World} {K : PySem.W.Frag} {mg : Str → Option Value} {base : Heap} {k : Nat} {x q : Str} {pa : Arguments} {bd : List Stmt} {sc : Scope} {sp : Sp} {f : Addr} {fd : FuncData} {ps : List Str}
    (F : FunD K x q pa bd sc [] [] f fd) (ok : FnOk P w K mg base CX0 k f fd ps sp) (hm : mg x = some (.ref f)) (b : Binds K fd ps []) : Cal P w K mg base k x sp := ⟨f, fd, ps, ok, hm, F.kp, b⟩
theorem at0 {x y z : V} : atI [x, y, z] 0 = some x := rfl
theorem at1 {x y z : V} : atI [x, y, z] 1 = some y := rfl
theorem at2 {x y z : V} : atI [x, y, z] 2 = some z := rfl
end NF
namespace NF
open PySem PySem.Spec PyProof.Rows L2 He
/-- the heap without p -/
def wo (H : Hp) (p : Addr) : Hp := fun a => if a = p then none else H a
theorem wo_none {H : Hp} {p : Addr} : wo H p p = none := if_pos rfl
theorem wo_ne {H : Hp} {p a : Addr} (h : a ≠ p) : wo H p a = H a := if_neg h
theorem wo_same' {H : Hp} {p : Addr} : Same (wo H p) H := fun a o e => by
  by_cases h : a = p
  · rw [h, wo_none] at e
    cases e
  · rw [wo_ne h] at e
    exact e
theorem wo_same {H0 H H' : Hp} {p : Addr} (s : Same H0 H) (n : H0 p = none) (s' : Same (wo H p) H') : Same H0 H' := fun a o e =>
  s' a o ((wo_ne (ne_of_none e n)).trans (s a o e))
theorem Same.mut {H0 H : Hp} {p : Addr} {o : HO} (h : Same H0 H) (n : H0 p = none) : Same H0 (upd H p o) := NF.Same.put h n
theorem Src.mono {H H' : Hp} {p : Addr} (h : Src H p) (s : Same H H') : Src H' p := by
  obtain ⟨x, y, z, h⟩ := h
  exact ⟨x, y, z, s _ _ h⟩
end NF
namespace NF
open PySem PySem.Spec PyProof.Rows L2 He
theorem walk_ofEB {l : PySem.W.OpenLaw} {n k : Nat} {q : Program} {loose : List Str} {XP : (Str → Option Value) → Heap → Prop} {YP : World → Heap → Prop} {d : DefRec} {CX : CXT} {x : Str}
    (hn : l.most = some n) (hn2 : n ≤ sizeLine) (hdf : d.params.defaults = []) (hr : Room k callerA)
    (F : ∀ (w : World) (mg : Str → Option Value) (fa : Addr) (h : Heap), YP w h → h.Ns mainGlobals mg → mg d.name = some (.ref fa) →
      ∃ (K : PySem.W.Frag) (fd : FuncData) (sp : Sp), K.In h ∧ (∀ (s : Shared) (u : Value), BindsTo s fd ⟨[u], []⟩ [(x, u)]) ∧
        (∀ (H : Hp) (a : Addr) (ns : List Int), ns.length ≤ n → (∀ z ∈ ns, Builtin.Int.intBits z ≤ 1048576) → Only H → SqL K H a (ns.map V.int) → sp [.ref a] H (fun v _ => v = .bl true) fun _ _ _ => False) ∧
        ∀ base : Heap, K.In base → base.Ns mainGlobals mg → FnOk l.prog w K mg base CX k fa fd [x] sp)
    (hCX : ∀ (H : Hp) (s : Shared) (e : Value) (s' : Shared), CX [] H s (fun _ _ _ => False) e s' → False) :
    PySem.W.WalkO q loose XP YP l.row.toRowW d [] (fun f vs => PySem.call f vs) := by
  refine Att.attach_callB hn hdf fun w s₀ s₁ mg mb fa o pm cd doc a vs ns G Y ho hd hcd hmg hobj hints hlen hbits hg => ?_
  obtain ⟨K, fd, sp, KX, hb, hsp, hF⟩ := F w mg fa _ Y G.T.g hmg
  exact law_call KX G.T.g G.T.b G.T.builtins G.T.nolimit hg hobj hints (Nat.le_trans hlen hn2) hr hF hb (fun H hO hS => hsp H a ns hlen hbits hO hS) fun H e s' => hCX H s₁ e s'
end NF
set_option Elab.async false
set_option linter.all false
set_option maxRecDepth 100000
set_option maxHeartbeats 0
namespace K54
open PySem PySem.Spec PyProof.Rows L2 He NF
def top (i : Nat) : Stmt := PySem.Challenge.pw_needforth_k54_whole_errors_apart.main.body.getD i (.Pass ⟨0, 0, 0, 0⟩)
abbrev s_law_source : Stmt := top 44
abbrev s_law_pick : Stmt := top 45
abbrev s_law_truth : Stmt := top 46
abbrev s_law_one : Stmt := top 47
abbrev s_law_other : Stmt := top 48
abbrev s_law_kinds : Stmt := top 49
abbrev s_law_borne : Stmt := top 50
abbrev slaw : Stmt := top 51
def mk (i : Nat) (x : Str) (q : Str) : He.DefD := ⟨(x, some "__init__"), "__init__", q, defArgs (inClass (top i) 0), defBody (inClass (top i) 0), defScope (inClass (top i) 0), [], []⟩
def d_law_source : He.DefD := ⟨("_law_source", none), "_law_source", "_law_source", defArgs s_law_source, defBody s_law_source, defScope s_law_source, [], []⟩
def d_law_pick : He.DefD := ⟨("_law_pick", none), "_law_pick", "_law_pick", defArgs s_law_pick, defBody s_law_pick, defScope s_law_pick, [], []⟩
def d_law_truth : He.DefD := ⟨("_law_truth", none), "_law_truth", "_law_truth", defArgs s_law_truth, defBody s_law_truth, defScope s_law_truth, [], []⟩
def d_law_one : He.DefD := ⟨("_law_one", none), "_law_one", "_law_one", defArgs s_law_one, defBody s_law_one, defScope s_law_one, [], []⟩
def d_law_other : He.DefD := ⟨("_law_other", none), "_law_other", "_law_other", defArgs s_law_other, defBody s_law_other, defScope s_law_other, [], []⟩
def d_law_kinds : He.DefD := ⟨("_law_kinds", none), "_law_kinds", "_law_kinds", defArgs s_law_kinds, defBody s_law_kinds, defScope s_law_kinds, [], []⟩
def d_law_borne : He.DefD := ⟨("_law_borne", none), "_law_borne", "_law_borne", defArgs s_law_borne, defBody s_law_borne, defScope s_law_borne, [], []⟩
def dlaw : He.DefD := ⟨("law", none), "law", "law", defArgs slaw, defBody slaw, defScope slaw, [], []⟩
def fn : List He.DefD := [d_law_source, d_law_pick, d_law_truth, d_law_one, d_law_other, d_law_kinds, d_law_borne, dlaw] ++ [mk 4 "BadText" "BadText.__init__", mk 5 "BadLine" "BadLine.__init__", mk 6 "AtOdds" "AtOdds.__init__", mk 7 "NoPace" "NoPace.__init__", mk 9 "NoWay" "NoWay.__init__", mk 10 "NotShift" "NotShift.__init__", mk 11 "NotWhole" "NotWhole.__init__", mk 12 "Ringed" "Ringed.__init__", mk 13 "Unseen" "Unseen.__init__", mk 15 "TooMany" "TooMany.__init__", mk 16 "BadCount" "BadCount.__init__", mk 17 "BadTerm" "BadTerm.__init__", mk 18 "BadSaying" "BadSaying.__init__", mk 19 "BadInlet" "BadInlet.__init__", mk 20 "BadCourse" "BadCourse.__init__", mk 21 "Lacking" "Lacking.__init__", mk 22 "BadClaim" "BadClaim.__init__", mk 23 "BadTable" "BadTable.__init__", mk 24 "BadMaker" "BadMaker.__init__", mk 25 "BadBound" "BadBound.__init__"] ++ [mk 26 "BadTables" "BadTables.__init__", mk 27 "BadFact" "BadFact.__init__", mk 28 "BadName" "BadName.__init__", mk 29 "BadRow" "BadRow.__init__", mk 30 "BadMakers" "BadMakers.__init__", mk 31 "BadCounts" "BadCounts.__init__", mk 32 "BadCourses" "BadCourses.__init__", mk 33 "BadPaces" "BadPaces.__init__", mk 34 "BadPlan" "BadPlan.__init__", mk 35 "BadSight" "BadSight.__init__", mk 36 "BadDeed" "BadDeed.__init__", mk 37 "NoClaim" "NoClaim.__init__", mk 38 "Missing" "Missing.__init__", mk 39 "Twice" "Twice.__init__", mk 40 "Open" "Open.__init__"]
/-- the classes by the law's ways, with the field that an error of it bears -/
def kinds : List (Str × Option Str) := ([("BadText", some "place"), ("BadLine", some "line"), ("AtOdds", some "thing"), ("NoPace", some "stage"), ("NoHole", none), ("NoWay", some "thing"), ("NotShift", some "row"), ("NotWhole", some "row"), ("Ringed", some "row"), ("Unseen", some "number"), ("NothingDone", none), ("TooMany", some "word"), ("BadCount", some "thing"), ("BadTerm", some "thing"), ("BadSaying", some "thing"), ("BadInlet", some "thing"), ("BadCourse", some "thing"), ("Lacking", some "thing"), ("BadClaim", some "thing"), ("BadTable", some "word")] : List (Str × Option Str)) ++ ([("BadMaker", some "word"), ("BadBound", some "word"), ("BadTables", some "number"), ("BadFact", some "number"), ("BadName", some "number"), ("BadRow", some "number"), ("BadMakers", some "number"), ("BadCounts", some "number"), ("BadCourses", some "number"), ("BadPaces", some "number"), ("BadPlan", some "number"), ("BadSight", some "number"), ("BadDeed", some "number"), ("NoClaim", some "number"), ("Missing", some "name"), ("Twice", some "name"), ("Open", some "name"), ("BadPace", none), ("NoWeb", none)] : List (Str × Option Str))
def nms : List Str := kinds.map (·.1)
def kindB (K : PySem.W.Frag) (p : Str × Option Str) : Bool :=
  excB K (ga K p.1) && (match p.2 with
    | some f => oexB K (ga K p.1) && eqO (PySem.W.findIn K (.ref (ga K p.1)) "__init__") (some (some (.ref (fAd K (p.1, some "__init__"))))) && decide (PySem.W.typeIn K (.ref (fAd K (p.1, some "__init__"))) = some (.type "function")) &&
        eqO (PySem.W.findIn K (.ref (ga K p.1)) f) (some none) && xfB K (ga K p.1)
    | none => PySem.W.excIn K (ga K p.1) He.veBase "ValueError.__new__" && PySem.W.keepIn K (.ref (ga K p.1)))
def matB (K : PySem.W.Frag) : Bool := (List.range 39).all fun i => (List.range 39).all fun j => decide (PySem.W.kitOne K (.ref (ga K (nms.getD i ""))) (.ref (ga K (nms.getD j ""))) = some (j == i))
def supB (K : PySem.W.Frag) : Bool := (List.range 39).all fun i => decide (PySem.W.kitOne K (.ref (ga K (nms.getD i ""))) (.ref (ga K "Unreadable")) = some (decide (i < 2))) &&
  decide (PySem.W.kitOne K (.ref (ga K (nms.getD i ""))) (.ref (ga K "Impossible")) = some (decide (2 ≤ i) && decide (i < 11))) && decide (PySem.W.kitOne K (.ref (ga K (nms.getD i ""))) (.ref (ga K "NeedforthError")) = some true) &&
  decide (PySem.W.kitOne K (.ref (ga K (nms.getD i ""))) (.type "ValueError") = some true)
def endB (K : PySem.W.Frag) : Bool := ((["Unreadable", "Impossible"] : List Str).all fun x => excB K (ga K x) && PySem.W.excIn K (ga K x) He.veBase "ValueError.__new__" && PySem.W.keepIn K (.ref (ga K x))) &&
  decide (PySem.W.kitOne K (.ref (ga K "Unreadable")) (.ref (ga K "Impossible")) = some false) && decide (PySem.W.kitOne K (.ref (ga K "Impossible")) (.ref (ga K "NeedforthError")) = some true)
def gs : List Str := nms ++ (["NeedforthError", "Unreadable", "Impossible", "_law_source", "_law_pick", "_law_truth", "_law_one", "_law_other", "_law_kinds", "_law_borne", "law"] : List Str)
def fs : List Str := ["len", "int", "abs", "range", "isinstance", "all", "bool", "ValueError"]
def namB (K : PySem.W.Frag) : Bool := (gs.all fun x => eqO (PySem.W.nsIn K mainGlobals x) (some (some (.ref (ga K x))))) && fs.all fun x => eqO (PySem.W.nsIn K mainGlobals x) (some none)
def exB (K : PySem.W.Frag) : Bool := kinds.all (kindB K) && matB K && supB K && endB K && namB K

end K54
set_option Elab.async false
set_option linter.all false
set_option maxRecDepth 100000
set_option maxHeartbeats 4000000
namespace K54
open PySem PySem.Spec PyProof.Rows L2 He NF
section
variable {P : Program} {w : World} {K : PySem.W.Frag} {mg : Str → Option Value} {base : Heap}
theorem sc__law_pick : FnScope ["_law_source_here", "_law_many", "_law_value", "_law_digit"] ["_law_source_here", "_law_many"] (defScope s_law_pick) := ⟨rfl, rfl, rfl, by decide +kernel, rfl, by decide +kernel, by decide +kernel⟩
theorem ok_pick {f : Addr} {fd : FuncData} {gs fs : List Str} (F : FunD K "_law_pick" "_law_pick" (defArgs s_law_pick) (defBody s_law_pick) (defScope s_law_pick) [] [] f fd) (T : Txt K mg gs fs) (hi : ("int" : Str) ∈ fs) : FnOk P w K mg base CX0 1 f fd ["_law_source_here", "_law_many"] spPick := by
  refine F.ok sc__law_pick (fun vs H Q E h => ?_) (fun cdv A outer s H vs Q E hr h => ?_)
  · obtain ⟨H0, p, m, rfl, _⟩ := h
    rfl
  · obtain ⟨H0, p, m, rfl, hS, h0, ⟨a, sd, c, hp⟩, m0, m1, k⟩ := h
    refine ⟨_, PSs.nox (pss_cons (ps_if (pt_cmpR op_gt (pe_ix ix_list (pv 0) pe_int fun _ _ => rfl) pe_int (nomark _)) (pss_cons (ps_set (i := 3) sc__law_pick.nd rfl (Or.inl rfl) (pe_op op_mod (pe_callTy call_int1 rfl (T.fr _ hi) (by decide +kernel) (pa_cons (pe_ix ix_list (pv 0) pe_int fun _ _ => rfl) pa_nil)) (pv 1))) (pss_cons (ps_asg (pe_op op_fdiv (pe_ix ix_list (pv 0) pe_int fun _ _ => rfl) (pv 1)) (pg_sub (pv 0) pe_int set_list)) (pss_one (ps_ret (pv 3))))) pss_nil) (pss_cons (ps_asg (pe_op op_add (pe_ix ix_list (pv 0) pe_int fun _ _ => rfl) pe_int) (pg_sub (pv 0) pe_int set_list)) (pss_cons (ps_set (i := 2) sc__law_pick.nd rfl (Or.inl rfl) (pe_op op_mod (pe_callTy call_int1 rfl (T.fr _ hi) (by decide +kernel) (pa_cons (pe_op op_mul (pe_op op_add (pe_ix ix_list (pv 0) pe_int fun _ _ => rfl) (pe_op op_mul pe_int (pe_ix ix_list (pv 0) pe_int fun _ _ => rfl))) pe_int) pa_nil)) pe_int)) (pss_cons (ps_set (i := 2) sc__law_pick.nd rfl (Or.inl rfl) (pe_op op_mod (pe_callTy call_int1 rfl (T.fr _ hi) (by decide +kernel) (pa_cons (pe_op op_add (pe_op op_add (pe_op op_mul (pv 2) (pv 2)) (pe_op op_mul pe_int (pe_ix ix_list (pv 0) pe_int fun _ _ => rfl))) (pe_ix ix_list (pv 0) pe_int fun _ _ => rfl)) pa_nil)) pe_int)) (pss_cons (ps_set (i := 2) sc__law_pick.nd rfl (Or.inl rfl) (pe_op op_mod (pe_callTy call_int1 rfl (T.fr _ hi) (by decide +kernel) (pa_cons (pe_op op_add (pe_op op_mul (pv 2) pe_int) pe_int) pa_nil)) pe_int)) (pss_cons (ps_set (i := 2) sc__law_pick.nd rfl (Or.inl rfl) (pe_op op_mod (pe_callTy call_int1 rfl (T.fr _ hi) (by decide +kernel) (pa_cons (pe_op op_add (pe_op op_mul (pv 2) (pv 2)) (pv 2)) pa_nil)) pe_int)) (pss_one (ps_ret (pe_op op_mod (pe_callTy call_int1 rfl (T.fr _ hi) (by decide +kernel) (pa_cons (pe_op op_fdiv (pv 2) pe_int) pa_nil)) (pv 1)))))))))), ?_⟩
    refine ⟨_, rfl, p, _, _, _, rfl, rfl, SqL.of hp, at0, _, _, rfl, rfl, _, rfl, ?_⟩
    refine ite2 (fun _ => ?_) (fun _ => ?_)
    · refine ⟨_, rfl, p, _, _, _, rfl, rfl, SqL.of hp, at0, Or.inl ⟨_, rfl, _, rfl, _, _, rfl, rfl, m0, ?_⟩⟩
      refine ⟨_, rfl, p, _, _, _, rfl, rfl, SqL.of hp, at0, _, rfl, _, _, rfl, rfl, ⟨m0, m1⟩, ?_⟩
      refine ⟨_, rfl, p, _, _, 0, rfl, rfl, hp, rfl, ?_⟩
      refine ⟨_, rfl, k _ _ (Int.emod_nonneg _ (by omega)) (Int.emod_lt_of_pos _ m0) (NF.Same.put hS h0) ⟨_, _, _, upd_same⟩⟩
    · refine ⟨_, rfl, p, _, _, _, rfl, rfl, SqL.of hp, at2, _, _, rfl, rfl, ?_⟩
      refine ⟨_, rfl, p, _, _, 2, rfl, rfl, hp, rfl, ?_⟩
      have hp' : upd H p (.lst [.int a, .int sd, .int (c + 1)]) p = some (.lst [.int a, .int sd, .int (c + 1)]) := upd_same
      refine ⟨_, rfl, p, _, _, _, rfl, rfl, SqL.of hp', at1, ?_⟩
      refine ⟨_, rfl, p, _, _, _, rfl, rfl, SqL.of hp', at2, _, _, rfl, rfl, Or.inl (by decide), _, _, rfl, rfl, ?_⟩
      refine ⟨_, _, rfl, rfl, Or.inr (by decide), Or.inl ⟨_, rfl, _, _, rfl, rfl, (by first | exact (by decide : (0 : Int) < 2147483647) | exact (by decide : (0 : Int) < 2147483629) | exact (by decide : (0 : Int) < 2147483587)), ?_⟩⟩
      generalize hx : (sd + 104729 * (c + 1)) * 48271 % 2147483647 = x
      have x0 : 0 ≤ x ∧ x < 2147483647 := by omega
      refine ⟨_, rfl, _, rfl, _, _, rfl, rfl, Or.inl (by omega), ?_⟩
      refine ⟨_, rfl, p, _, _, _, rfl, rfl, SqL.of hp', at2, _, _, rfl, rfl, Or.inl (by decide), _, _, rfl, rfl, ?_⟩
      refine ⟨_, rfl, p, _, _, _, rfl, rfl, SqL.of hp', at1, _, _, rfl, rfl, Or.inl ⟨_, rfl, _, _, rfl, rfl, (by first | exact (by decide : (0 : Int) < 2147483647) | exact (by decide : (0 : Int) < 2147483629) | exact (by decide : (0 : Int) < 2147483587)), ?_⟩⟩
      generalize hy : (x * x + 7 * (c + 1) + sd) % 2147483629 = y
      have y0 : 0 ≤ y ∧ y < 2147483629 := by omega
      refine ⟨_, rfl, _, _, rfl, rfl, Or.inl (by omega), _, _, rfl, rfl, Or.inl ⟨_, rfl, _, _, rfl, rfl, (by first | exact (by decide : (0 : Int) < 2147483647) | exact (by decide : (0 : Int) < 2147483629) | exact (by decide : (0 : Int) < 2147483587)), ?_⟩⟩
      generalize hz : (y * 69621 + 5) % 2147483647 = z
      have z0 : 0 ≤ z ∧ z < 2147483647 := by omega
      refine ⟨_, rfl, _, rfl, _, _, rfl, rfl, Or.inl (by omega), ?_⟩
      refine ⟨_, rfl, _, _, rfl, rfl, Or.inl ⟨_, rfl, _, _, rfl, rfl, (by first | exact (by decide : (0 : Int) < 2147483647) | exact (by decide : (0 : Int) < 2147483629) | exact (by decide : (0 : Int) < 2147483587)), ?_⟩⟩
      refine ⟨_, rfl, _, _, rfl, rfl, ⟨by decide, by decide⟩, Or.inl ⟨_, rfl, _, rfl, _, _, rfl, rfl, m0, ?_⟩⟩
      exact k _ _ (Int.emod_nonneg _ (by omega)) (Int.emod_lt_of_pos _ m0) (NF.Same.put hS h0) ⟨_, _, _, hp'⟩
end
end K54
set_option Elab.async false
set_option linter.all false
set_option maxRecDepth 100000
set_option maxHeartbeats 4000000
namespace K54
open PySem PySem.Spec PyProof.Rows L2 He NF
theorem sc__law_source : FnScope ["_law_script", "_law_place", "_law_cell", "_law_seed", "_law_one_here", "_law_number"] ["_law_script", "_law_place"] (defScope s_law_source) := ⟨rfl, rfl, rfl, by decide +kernel, rfl, by decide +kernel, by decide +kernel⟩
theorem natAbs_bits {x : Int} {n : Nat} (h : x.natAbs < 2 ^ n) : Builtin.Int.intBits x ≤ n := by
  unfold Builtin.Int.intBits
  by_cases e : x = 0
  · rw [if_pos (by rw [e]; rfl)]
    exact Nat.zero_le _
  · rw [if_neg (by simpa using e)]
    exact (Nat.log2_lt (by omega)).mpr h
theorem bits_le {x y : Int} (h : x.natAbs ≤ y.natAbs) : Builtin.Int.intBits x ≤ Builtin.Int.intBits y := by
  refine natAbs_bits (Nat.lt_of_le_of_lt h ?_)
  unfold Builtin.Int.intBits
  by_cases e : y = 0
  · rw [if_pos (by rw [e]; rfl), e]
    decide
  · rw [if_neg (by simpa using e)]
    exact Nat.lt_log2_self
theorem bits_small {x : Int} (h0 : 0 ≤ x) (h : x < 1000000) : Builtin.Int.intBits x ≤ 1048576 := Nat.le_trans (natAbs_bits (n := 20) (by omega)) (by decide)
section
variable {P : Program} {w : World} {K : PySem.W.Frag} {mg : Str → Option Value} {base : Heap}
theorem ok_source {f : Addr} {fd : FuncData} {gs fs : List Str} (F : FunD K "_law_source" "_law_source" (defArgs s_law_source) (defBody s_law_source) (defScope s_law_source) [] [] f fd) (T : Txt K mg gs fs) (hl : ("len" : Str) ∈ fs) (hi : ("int" : Str) ∈ fs) (ha : ("abs" : Str) ∈ fs) : FnOk P w K mg base CX0 1 f fd ["_law_script", "_law_place"] (spSource K) := by
  refine F.ok sc__law_source (fun vs H Q E h => ?_) (fun cdv A outer s H vs Q E hr h => ?_)
  · obtain ⟨l, ns, i, rfl, _⟩ := h
    rfl
  · obtain ⟨l, ns, i, rfl, hS, hn, hb, hi', k⟩ := h
    refine ⟨_, PSs.nox (pss_cons (ps_set (i := 2) sc__law_source.nd rfl (Or.inl rfl) (pe_ifExp (pt_cmpR op_lt (pv 1) (pe_callB call_len_seq rfl (T.fr _ hl) boot_len (pa_cons (pv 0) pa_nil)) (nomark _)) (pe_ix ix_list (pv 0) (pv 1) fun _ _ => rfl) (pe_op op_add (pe_op op_mul pe_int (pv 1)) pe_int))) (pss_cons (ps_set (i := 3) sc__law_source.nd rfl (Or.inl rfl) (pe_op op_mod (pe_callTy call_int1 rfl (T.fr _ hi) (by decide +kernel) (pa_cons (pe_op op_add (pe_op op_mod (pe_callTy call_int1 rfl (T.fr _ hi) (by decide +kernel) (pa_cons (pv 2) pa_nil)) pe_int) (pe_op op_mul pe_int (pv 1))) pa_nil)) pe_int)) (pss_cons (ps_for PassesOwn.never rfl (pi_list (pe_slice sl_list (pv 0) po_none (po_some pe_int))) (pg_name (i := 4) sc__law_source.nd rfl (Or.inl rfl)) (pss_one (ps_set (i := 3) sc__law_source.nd rfl (Or.inl rfl) (pe_op op_mod (pe_callTy call_int1 rfl (T.fr _ hi) (by decide +kernel) (pa_cons (pe_op op_add (pe_op op_mul (pv 3) pe_int) (pe_op op_mod (pe_callTy call_int1 rfl (T.fr _ hi) (by decide +kernel) (pa_cons (pv 4) pa_nil)) pe_int)) pa_nil)) pe_int)))) (pss_cons (ps_set (i := 5) sc__law_source.nd rfl (Or.inl rfl) (pe_callB call_abs rfl (T.fr _ ha) (by decide +kernel) (pa_cons (pv 2) pa_nil))) (pss_cons (ps_if (pt_cmpR op_lt (pv 5) (pe_op op_pow pe_int pe_int) (nomark _)) (pss_one (ps_ret (pe_lst (pa_cons pe_int (pa_cons (pv 3) (pa_cons pe_int pa_nil)))))) pss_nil) (pss_cons (ps_if (pt_cmpR op_gt (pe_op op_shr (pv 5) pe_int) pe_int (nomark _)) (pss_one (ps_set (i := 5) sc__law_source.nd rfl (Or.inl rfl) (pe_op op_sub (pv 5) (pe_op op_shlW (pe_op op_shr (pv 5) pe_int) pe_int)))) pss_nil) (pss_one (ps_ret (pe_lst (pa_cons (pv 5) (pa_cons (pv 3) (pa_cons pe_int pa_nil)))))))))))), ?_⟩
    -- the cell: what stands at the place, or a number by the place
    have hcell : ∀ (Q1 : VK), (∀ c : Int, Builtin.Int.intBits c ≤ 1048576 → Q1 (.int c) H) →
        (if decide ((i : Int) < ((ns.map V.int).length : Int)) = true then tOp (rIxL K) (tVar 0) (tVar 1) (start ["_law_script", "_law_place", "_law_cell", "_law_seed", "_law_one_here", "_law_number"] [.ref l, .int (i : Int)]) H Q1
          else tOp (rI0 fun i j => .int (i + j)) (tOp (rI CMul fun i j => .int (i * j)) (tC (.int 3)) (tVar 1)) (tC (.int 1)) (start ["_law_script", "_law_place", "_law_cell", "_law_seed", "_law_one_here", "_law_number"] [.ref l, .int (i : Int)]) H Q1) := by
      intro Q1 q
      rw [List.length_map]
      by_cases hlt : i < ns.length
      · rw [decide_eq_true (show (i : Int) < (ns.length : Int) by omega), if_pos rfl]
        have e : (ns.map V.int)[i]? = some (V.int ns[i]) := by rw [List.getElem?_map, List.getElem?_eq_getElem hlt] <;> rfl
        exact ⟨_, rfl, _, rfl, l, _, _, _, rfl, rfl, hS, atI_nat e, q _ (hb _ (List.getElem_mem hlt))⟩
      · rw [decide_eq_false (show ¬ (i : Int) < (ns.length : Int) by omega), if_neg Bool.false_ne_true]
        refine ⟨_, rfl, _, _, rfl, rfl, Or.inl (by decide), _, _, rfl, rfl, q _ ?_⟩
        exact bits_small (by omega) (by omega)
    refine ⟨_, rfl, _, rfl, l, _, rfl, Or.inl hS, _, _, rfl, rfl, _, rfl, hcell _ fun c hc => ?_⟩
    refine ⟨_, rfl, Or.inl ⟨_, rfl, _, _, rfl, rfl, (by exact (by decide : (0 : Int) < 2147483629)), ?_⟩⟩
    refine ⟨_, rfl, _, _, rfl, rfl, Or.inl (by decide), _, _, rfl, rfl, Or.inl ⟨_, rfl, _, _, rfl, rfl, (by exact (by decide : (0 : Int) < 2147483629)), ?_⟩⟩
    refine ⟨_, rfl, _, rfl, l, _, rfl, hS, fun p hp => ⟨p, rfl, ⟨_, SqL.of upd_same⟩, ?_⟩⟩
    have hpl : H p = none := hp
    obtain ⟨cs, hcs⟩ : ∃ cs : List Int, cutV (ns.map V.int) none (some 2) = cs.map V.int := ⟨(ns.drop (HT.sIx (ns.map V.int).length 0 none)).take (HT.sIx (ns.map V.int).length (ns.map V.int).length (some 2) - HT.sIx (ns.map V.int).length 0 none), by unfold cutV; rw [List.map_take, List.map_drop]⟩
    refine for_list (K := K) (a := p) (xs := cs.map V.int) (fun j σ H' => H' = upd H p (.lst (cs.map V.int)) ∧ ∃ (sd : Int) (v : Option V), σ = [some (.ref l), some (.int (i : Int)), some (.int c), some (.int sd), v, none])
      ⟨by rw [hcs], _, _, rfl⟩ (fun j σ H' _ z => by rw [z.1]; exact SqL.of upd_same) ?_ ?_
    · rintro j y σ H' hj ⟨rfl, sd, v, rfl⟩
      obtain ⟨z, rfl⟩ : ∃ z, y = V.int z := by
        rw [List.getElem?_map] at hj
        cases e : cs[j]? with
        | none =>
          rw [e] at hj
          cases hj
        | some z =>
          rw [e] at hj
          exact ⟨z, (Option.some.inj hj).symm⟩
      refine ⟨_, rfl, _, _, rfl, rfl, Or.inr (by decide), _, rfl, Or.inl ⟨_, rfl, _, _, rfl, rfl, (by exact (by decide : (0 : Int) < 1000003)), ?_⟩⟩
      refine ⟨_, _, rfl, rfl, Or.inl ⟨_, rfl, _, _, rfl, rfl, (by exact (by decide : (0 : Int) < 2147483629)), ?_⟩⟩
      exact ⟨rfl, _, _, rfl⟩
    · rintro σ H' ⟨rfl, sd, v, rfl⟩
      have hS1 : Same H (upd H p (.lst (cs.map V.int))) := NF.Same.new (Same.refl H) hp
      have hend : ∀ (a sd : Int) (q : Addr), upd H p (.lst (cs.map V.int)) q = none → Q (.ref q) (upd (upd H p (.lst (cs.map V.int))) q (.lst [.int a, .int sd, .int 0])) := fun a sd q hq =>
        k q _ (NF.Same.new hS1 hq) (L2.Same.free hS1 hq) ⟨_, _, _, upd_same⟩
      refine ⟨_, rfl, _, rfl, ?_⟩
      have hab : Builtin.Int.intBits (if c < 0 then -c else c) ≤ 1048576 := Nat.le_trans (bits_le (by split <;> omega)) hc
      generalize hm : (if c < 0 then -c else c) = m at hab ⊢
      have m0 : 0 ≤ m := by rw [← hm]; split <;> omega
      refine ⟨_, rfl, _, _, rfl, rfl, ⟨by decide, by decide, by decide⟩, _, _, rfl, rfl, _, rfl, ?_⟩
      refine ite2 (fun _ => ?_) (fun _ => ?_)
      · exact ⟨_, rfl, (by show 3 ≤ sizeLine; decide), fun q hq => hend _ _ q hq⟩
      · refine ⟨_, rfl, _, _, rfl, rfl, (by exact (by decide : (0 : Int) ≤ 4000)), _, _, rfl, rfl, _, rfl, ?_⟩
        refine ite2 (fun _ => ?_) (fun _ => ?_)
        · refine ⟨_, rfl, _, rfl, _, _, rfl, rfl, (by exact (by decide : (0 : Int) ≤ 4000)), _, _, rfl, rfl, ⟨(by exact (by decide : (0 : Int) ≤ 4000)), ?_⟩, _, _, rfl, rfl, ?_⟩
          · have hd : Builtin.Int.intBits (m / 2 ^ (4000 : Int).toNat) ≤ Builtin.Int.intBits m := bits_le (by
              have h1 : 0 ≤ m / 2 ^ (4000 : Int).toNat := Int.ediv_nonneg m0 (Int.le_of_lt (Int.pow_pos (by decide)))
              have h2 : m / 2 ^ (4000 : Int).toNat ≤ m := Int.ediv_le_self _ m0
              omega)
            have h27 : (1048576 : Int) + 4000 ≤ 2 ^ 27 := by decide
            omega
          · exact ⟨_, rfl, _, rfl, (by show 3 ≤ sizeLine; decide), fun q hq => hend _ _ q hq⟩
        · exact ⟨_, rfl, _, rfl, (by show 3 ≤ sizeLine; decide), fun q hq => hend _ _ q hq⟩
end
end K54
set_option Elab.async false
set_option linter.all false
set_option maxRecDepth 100000
set_option maxHeartbeats 4000000
namespace K54
open PySem PySem.Spec PyProof.Rows L2 He NF
def knd (k : Nat) : Str × Option Str := kinds.getD k ("", none)
/-- an error of the k-th class stands at a and bears v -/
def ErrAt (K : PySem.W.Frag) (H : Hp) (k : Nat) (a : Addr) (v : V) : Prop := match (knd k).2 with
  | some f => ∃ d, H a = some (exo a (ga K (knd k).1) (some d)) ∧ H d = some (exd d [(f, v)])
  | none => H a = some (exo a (ga K (knd k).1) none)
theorem ErrAt.mono {K : PySem.W.Frag} {H H' : Hp} {k : Nat} {a : Addr} {v : V} (h : ErrAt K H k a v) (s : Same H H') : ErrAt K H' k a v := by
  unfold ErrAt at h ⊢
  split at h
  · obtain ⟨d, h1, h2⟩ := h
    exact ⟨d, s _ _ h1, s _ _ h2⟩
  · exact s _ _ h
/-- what __init__ of a class whose errors bear f does -/
def spInit (C : Addr) (f : Str) : Sp := fun vs H Q _ => ∃ (a : Addr) (v : V), vs = [.ref a, v] ∧ H a = some (exo a C none) ∧ ∀ d, H d = none → d ≠ a → Q .non (upd (upd H d (exd d [(f, v)])) a (exo a C (some d)))
structure MkE (P : Program) (w : World) (K : PySem.W.Frag) (mg : Str → Option Value) (base : Heap) (x f : Str) : Prop where
  T : OexC K (ga K x)
  ex : ∃ (fI : Addr) (fd : FuncData), PySem.W.findIn K (.ref (ga K x)) "__init__" = some (some (.ref fI)) ∧ PySem.W.typeIn K (.ref fI) = some (.type "function") ∧ FnOk P w K mg base CX0 1 fI fd ["self", f] (spInit (ga K x) f) ∧ Binds K fd ["self", f] []
  gm : mg x = some (.ref (ga K x))
theorem pe_mkE {X : Cx} {x f : Str} {e : Expr} {te : TE} {p pos : Pos} {j : Nat} (M : MkE X.prog X.w X.K X.mg X.base x f) (hr : Room j X.A) (hj : 2 ≤ j) (hg : Gl X x) (he : PE X e te) (hdb : (x == ("__debug__" : Str)) = false := by decide) 
    (hs : starEach (e :: []) X.env = (false, eval e X.env) :: starEach [] X.env := by rfl) : PE X (.Call (.Name x p) [e] [] pos) (tMkV (ga X.K x) (spInit (ga X.K x) f) (tCons te tNil)) := by
  obtain ⟨fI, fd, h1, h2, h3, h4⟩ := M.ex
  exact pe_oex M.T h1 h2 h3 (hr.mono hj) h4 pass0 hg M.gm (pa_cons he pa_nil hs) hdb hs
theorem mk_done {C : Addr} {f : Str} {v : V} {H : Hp} {Q : VK} (k : ∀ a d H2, H a = none → Same H H2 → H2 a = some (exo a C (some d)) → H2 d = some (exd d [(f, v)]) → Q (.ref a) H2) :
    ([v] : List V).length ≤ 1000 ∧ ∀ a, H a = none → spInit C f (.ref a :: [v]) (upd H a (exo a C none)) (fun u H2 => u = .non ∧ Q (.ref a) H2) (fun _ _ _ => False) := by
  refine ⟨by show 1 ≤ 1000; decide, fun a ha => ⟨a, v, rfl, upd_same, fun d hd hda => ⟨rfl, k a d _ ha ?_ upd_same ?_⟩⟩⟩
  · have hd0 : H d = none := by
      rw [upd_ne hda] at hd
      exact hd
    exact NF.Same.put (NF.Same.put (NF.Same.put (Same.refl H) ha) hd0) ha
  · rw [upd_ne hda, upd_same]
theorem int_eq {k c : Nat} (h : decide (V.int (k : Int) = V.int ((c : Nat) : Int)) = true) : k = c := by
  have e := of_decide_eq_true h
  injection e with e
  omega
theorem mk0_done {C : Addr} {H : Hp} {Q : VK} (k : ∀ a H2, H a = none → Same H H2 → H2 a = some (exo a C none) → Q (.ref a) H2) : ∀ a, H a = none → Q (.ref a) (upd H a (exo a C none)) := fun a ha =>
  k a _ ha (NF.Same.put (Same.refl H) ha) upd_same
/-- the k-th error of what is passed -/
def spOne (K : PySem.W.Frag) (lo : Nat) : Sp := fun vs H Q _ => ∃ (k : Nat) (v : V), vs = [.int (k : Int), v] ∧ lo ≤ k ∧ k < 39 ∧ ∀ a H2, H a = none → Same H H2 → ErrAt K H2 k a v → Q (.ref a) H2
/-- the text of an __init__ that keeps its one argument under the argument's name -/
abbrev iB (f : Str) (q1 q2 q3 q4 : Pos) : List Stmt := [.Assign [.Attribute (.Name "self" q1) f q2] (.Name f q3) q4]
section
variable {P : Program} {w : World} {K : PySem.W.Frag} {mg : Str → Option Value} {base : Heap}
theorem ok_init {x q f : Str} {pa : Arguments} {bd : List Stmt} {sc : Scope} {fI : Addr} {fd : FuncData} {q1 q2 q3 q4 : Pos} (F : FunD K "__init__" q pa bd sc [] [] fI fd) (hb : bd = iB f q1 q2 q3 q4) (S : FnScope ["self", f] ["self", f] sc)
    (T : OexC K (ga K x)) (hno : PySem.W.findIn K (.ref (ga K x)) f = some none) (hv0 : Vis sc "self") (hv1 : Vis sc f) (hd : (f == ("__debug__" : Str)) = false) (hcd : (f == ("__classdict__" : Str)) = false) :
    FnOk P w K mg base CX0 1 fI fd ["self", f] (spInit (ga K x) f) := by
  subst hb
  refine F.ok S (fun vs H Q E h => ?_) (fun cdv A outer s H vs Q E hr h => ?_)
  · obtain ⟨a, v, rfl, _⟩ := h
    rfl
  · obtain ⟨a, v, rfl, ha, k⟩ := h
    refine ⟨_, PSs.nox (pss_one (ps_ost (pe_var (i := 0) rfl hv0) (pe_var (i := 1) rfl hv1 hd hcd))), ?_⟩
    exact ⟨_, rfl, _, rfl, a, ga K x, rfl, T, hno, Or.inl ⟨ha, fun d hd hda => k d hd hda⟩⟩
end
end K54
set_option Elab.async false
set_option linter.all false
set_option maxRecDepth 100000
set_option maxHeartbeats 4000000
namespace K54
open PySem PySem.Spec PyProof.Rows L2 He NF

section
variable {P : Program} {w : World} {K : PySem.W.Frag} {mg : Str → Option Value} {base : Heap}
theorem exs (c : SaysM exB fn K) : (kinds.all (kindB K) = true ∧ matB K = true) ∧ (supB K = true ∧ endB K = true) ∧ namB K = true := by
  obtain ⟨h, h5⟩ := ba c.truth
  obtain ⟨h, h4⟩ := ba h
  obtain ⟨h, h3⟩ := ba h
  obtain ⟨h1, h2⟩ := ba h
  exact ⟨⟨h1, h2⟩, ⟨h3, h4⟩, h5⟩
theorem txt {h : Heap} (c : SaysM exB fn K) (X : K.In h) (G : h.Ns mainGlobals mg) : Txt K mg gs fs := by
  obtain ⟨h1, h2⟩ := ba (exs c).2.2
  exact ⟨fun x hx => PySem.W.mg_of X G (eqO_ok (List.all_eq_true.mp h1 x hx)), fun x hx => PySem.W.mg_none_of X G (eqO_ok (List.all_eq_true.mp h2 x hx))⟩
theorem kindS (c : SaysM exB fn K) {x f : Str} (h : (x, some f) ∈ kinds) : excB K (ga K x) = true ∧ oexB K (ga K x) = true ∧ PySem.W.findIn K (.ref (ga K x)) "__init__" = some (some (.ref (fAd K (x, some "__init__")))) ∧
    PySem.W.typeIn K (.ref (fAd K (x, some "__init__"))) = some (.type "function") ∧ PySem.W.findIn K (.ref (ga K x)) f = some none ∧ xfB K (ga K x) = true := by
  have q : kindB K (x, some f) = true := List.all_eq_true.mp (exs c).1.1 _ h
  obtain ⟨h1, q⟩ := ba q
  obtain ⟨q, h6⟩ := ba (show (oexB K (ga K x) && eqO (PySem.W.findIn K (.ref (ga K x)) "__init__") (some (some (.ref (fAd K (x, some "__init__"))))) && decide (PySem.W.typeIn K (.ref (fAd K (x, some "__init__"))) = some (.type "function")) &&
        eqO (PySem.W.findIn K (.ref (ga K x)) f) (some none) && xfB K (ga K x)) = true from q)
  obtain ⟨q, h5⟩ := ba q
  obtain ⟨q, h4⟩ := ba q
  obtain ⟨h2, h3⟩ := ba q
  exact ⟨h1, h2, eqO_ok h3, of_decide_eq_true h4, eqO_ok h5, h6⟩
theorem kindN (c : SaysM exB fn K) {x : Str} (h : (x, none) ∈ kinds) : excB K (ga K x) = true ∧ PySem.W.excIn K (ga K x) He.veBase "ValueError.__new__" = true ∧ PySem.W.keepIn K (.ref (ga K x)) = true := by
  have q : kindB K (x, none) = true := List.all_eq_true.mp (exs c).1.1 _ h
  obtain ⟨h1, q⟩ := ba q
  obtain ⟨h2, h3⟩ := ba (show (PySem.W.excIn K (ga K x) He.veBase "ValueError.__new__" && PySem.W.keepIn K (.ref (ga K x))) = true from q)
  exact ⟨h1, h2, h3⟩

theorem mk_BadText (c : SaysM exB fn K) (T : Txt K mg gs fs) : MkE P w K mg base "BadText" "place" := by
  obtain ⟨_, hT, hi, ht, hno, _⟩ := kindS c (x := "BadText") (f := "place") (by decide +kernel)
  obtain ⟨fd, F⟩ := c.def_ 8 (d := mk 4 "BadText" "BadText.__init__") rfl
  exact ⟨oexB_ok hT, ⟨_, fd, hi, ht, ok_init (x := "BadText") F rfl ⟨rfl, rfl, rfl, by decide +kernel, rfl, by decide +kernel, by decide +kernel⟩ (oexB_ok hT) hno (Or.inl rfl) (Or.inl rfl) (by decide) (by decide),
    F.bindsN fun _ _ _ _ _ _ us hl => match us, hl with | [_, _], _ => rfl⟩, T.gl _ (by decide +kernel)⟩
theorem mk_BadLine (c : SaysM exB fn K) (T : Txt K mg gs fs) : MkE P w K mg base "BadLine" "line" := by
  obtain ⟨_, hT, hi, ht, hno, _⟩ := kindS c (x := "BadLine") (f := "line") (by decide +kernel)
  obtain ⟨fd, F⟩ := c.def_ 9 (d := mk 5 "BadLine" "BadLine.__init__") rfl
  exact ⟨oexB_ok hT, ⟨_, fd, hi, ht, ok_init (x := "BadLine") F rfl ⟨rfl, rfl, rfl, by decide +kernel, rfl, by decide +kernel, by decide +kernel⟩ (oexB_ok hT) hno (Or.inl rfl) (Or.inl rfl) (by decide) (by decide),
    F.bindsN fun _ _ _ _ _ _ us hl => match us, hl with | [_, _], _ => rfl⟩, T.gl _ (by decide +kernel)⟩
theorem mk_AtOdds (c : SaysM exB fn K) (T : Txt K mg gs fs) : MkE P w K mg base "AtOdds" "thing" := by
  obtain ⟨_, hT, hi, ht, hno, _⟩ := kindS c (x := "AtOdds") (f := "thing") (by decide +kernel)
  obtain ⟨fd, F⟩ := c.def_ 10 (d := mk 6 "AtOdds" "AtOdds.__init__") rfl
  exact ⟨oexB_ok hT, ⟨_, fd, hi, ht, ok_init (x := "AtOdds") F rfl ⟨rfl, rfl, rfl, by decide +kernel, rfl, by decide +kernel, by decide +kernel⟩ (oexB_ok hT) hno (Or.inl rfl) (Or.inl rfl) (by decide) (by decide),
    F.bindsN fun _ _ _ _ _ _ us hl => match us, hl with | [_, _], _ => rfl⟩, T.gl _ (by decide +kernel)⟩
theorem mk_NoPace (c : SaysM exB fn K) (T : Txt K mg gs fs) : MkE P w K mg base "NoPace" "stage" := by
  obtain ⟨_, hT, hi, ht, hno, _⟩ := kindS c (x := "NoPace") (f := "stage") (by decide +kernel)
  obtain ⟨fd, F⟩ := c.def_ 11 (d := mk 7 "NoPace" "NoPace.__init__") rfl
  exact ⟨oexB_ok hT, ⟨_, fd, hi, ht, ok_init (x := "NoPace") F rfl ⟨rfl, rfl, rfl, by decide +kernel, rfl, by decide +kernel, by decide +kernel⟩ (oexB_ok hT) hno (Or.inl rfl) (Or.inl rfl) (by decide) (by decide),
    F.bindsN fun _ _ _ _ _ _ us hl => match us, hl with | [_, _], _ => rfl⟩, T.gl _ (by decide +kernel)⟩
theorem mk_NoWay (c : SaysM exB fn K) (T : Txt K mg gs fs) : MkE P w K mg base "NoWay" "thing" := by
  obtain ⟨_, hT, hi, ht, hno, _⟩ := kindS c (x := "NoWay") (f := "thing") (by decide +kernel)
  obtain ⟨fd, F⟩ := c.def_ 12 (d := mk 9 "NoWay" "NoWay.__init__") rfl
  exact ⟨oexB_ok hT, ⟨_, fd, hi, ht, ok_init (x := "NoWay") F rfl ⟨rfl, rfl, rfl, by decide +kernel, rfl, by decide +kernel, by decide +kernel⟩ (oexB_ok hT) hno (Or.inl rfl) (Or.inl rfl) (by decide) (by decide),
    F.bindsN fun _ _ _ _ _ _ us hl => match us, hl with | [_, _], _ => rfl⟩, T.gl _ (by decide +kernel)⟩
theorem mk_NotShift (c : SaysM exB fn K) (T : Txt K mg gs fs) : MkE P w K mg base "NotShift" "row" := by
  obtain ⟨_, hT, hi, ht, hno, _⟩ := kindS c (x := "NotShift") (f := "row") (by decide +kernel)
  obtain ⟨fd, F⟩ := c.def_ 13 (d := mk 10 "NotShift" "NotShift.__init__") rfl
  exact ⟨oexB_ok hT, ⟨_, fd, hi, ht, ok_init (x := "NotShift") F rfl ⟨rfl, rfl, rfl, by decide +kernel, rfl, by decide +kernel, by decide +kernel⟩ (oexB_ok hT) hno (Or.inl rfl) (Or.inl rfl) (by decide) (by decide),
    F.bindsN fun _ _ _ _ _ _ us hl => match us, hl with | [_, _], _ => rfl⟩, T.gl _ (by decide +kernel)⟩
theorem mk_NotWhole (c : SaysM exB fn K) (T : Txt K mg gs fs) : MkE P w K mg base "NotWhole" "row" := by
  obtain ⟨_, hT, hi, ht, hno, _⟩ := kindS c (x := "NotWhole") (f := "row") (by decide +kernel)
  obtain ⟨fd, F⟩ := c.def_ 14 (d := mk 11 "NotWhole" "NotWhole.__init__") rfl
  exact ⟨oexB_ok hT, ⟨_, fd, hi, ht, ok_init (x := "NotWhole") F rfl ⟨rfl, rfl, rfl, by decide +kernel, rfl, by decide +kernel, by decide +kernel⟩ (oexB_ok hT) hno (Or.inl rfl) (Or.inl rfl) (by decide) (by decide),
    F.bindsN fun _ _ _ _ _ _ us hl => match us, hl with | [_, _], _ => rfl⟩, T.gl _ (by decide +kernel)⟩
theorem mk_Ringed (c : SaysM exB fn K) (T : Txt K mg gs fs) : MkE P w K mg base "Ringed" "row" := by
  obtain ⟨_, hT, hi, ht, hno, _⟩ := kindS c (x := "Ringed") (f := "row") (by decide +kernel)
  obtain ⟨fd, F⟩ := c.def_ 15 (d := mk 12 "Ringed" "Ringed.__init__") rfl
  exact ⟨oexB_ok hT, ⟨_, fd, hi, ht, ok_init (x := "Ringed") F rfl ⟨rfl, rfl, rfl, by decide +kernel, rfl, by decide +kernel, by decide +kernel⟩ (oexB_ok hT) hno (Or.inl rfl) (Or.inl rfl) (by decide) (by decide),
    F.bindsN fun _ _ _ _ _ _ us hl => match us, hl with | [_, _], _ => rfl⟩, T.gl _ (by decide +kernel)⟩
theorem mk_Unseen (c : SaysM exB fn K) (T : Txt K mg gs fs) : MkE P w K mg base "Unseen" "number" := by
  obtain ⟨_, hT, hi, ht, hno, _⟩ := kindS c (x := "Unseen") (f := "number") (by decide +kernel)
  obtain ⟨fd, F⟩ := c.def_ 16 (d := mk 13 "Unseen" "Unseen.__init__") rfl
  exact ⟨oexB_ok hT, ⟨_, fd, hi, ht, ok_init (x := "Unseen") F rfl ⟨rfl, rfl, rfl, by decide +kernel, rfl, by decide +kernel, by decide +kernel⟩ (oexB_ok hT) hno (Or.inl rfl) (Or.inl rfl) (by decide) (by decide),
    F.bindsN fun _ _ _ _ _ _ us hl => match us, hl with | [_, _], _ => rfl⟩, T.gl _ (by decide +kernel)⟩
theorem mk_TooMany (c : SaysM exB fn K) (T : Txt K mg gs fs) : MkE P w K mg base "TooMany" "word" := by
  obtain ⟨_, hT, hi, ht, hno, _⟩ := kindS c (x := "TooMany") (f := "word") (by decide +kernel)
  obtain ⟨fd, F⟩ := c.def_ 17 (d := mk 15 "TooMany" "TooMany.__init__") rfl
  exact ⟨oexB_ok hT, ⟨_, fd, hi, ht, ok_init (x := "TooMany") F rfl ⟨rfl, rfl, rfl, by decide +kernel, rfl, by decide +kernel, by decide +kernel⟩ (oexB_ok hT) hno (Or.inl rfl) (Or.inl rfl) (by decide) (by decide),
    F.bindsN fun _ _ _ _ _ _ us hl => match us, hl with | [_, _], _ => rfl⟩, T.gl _ (by decide +kernel)⟩
theorem mk_BadCount (c : SaysM exB fn K) (T : Txt K mg gs fs) : MkE P w K mg base "BadCount" "thing" := by
  obtain ⟨_, hT, hi, ht, hno, _⟩ := kindS c (x := "BadCount") (f := "thing") (by decide +kernel)
  obtain ⟨fd, F⟩ := c.def_ 18 (d := mk 16 "BadCount" "BadCount.__init__") rfl
  exact ⟨oexB_ok hT, ⟨_, fd, hi, ht, ok_init (x := "BadCount") F rfl ⟨rfl, rfl, rfl, by decide +kernel, rfl, by decide +kernel, by decide +kernel⟩ (oexB_ok hT) hno (Or.inl rfl) (Or.inl rfl) (by decide) (by decide),
    F.bindsN fun _ _ _ _ _ _ us hl => match us, hl with | [_, _], _ => rfl⟩, T.gl _ (by decide +kernel)⟩
theorem mk_BadTerm (c : SaysM exB fn K) (T : Txt K mg gs fs) : MkE P w K mg base "BadTerm" "thing" := by
  obtain ⟨_, hT, hi, ht, hno, _⟩ := kindS c (x := "BadTerm") (f := "thing") (by decide +kernel)
  obtain ⟨fd, F⟩ := c.def_ 19 (d := mk 17 "BadTerm" "BadTerm.__init__") rfl
  exact ⟨oexB_ok hT, ⟨_, fd, hi, ht, ok_init (x := "BadTerm") F rfl ⟨rfl, rfl, rfl, by decide +kernel, rfl, by decide +kernel, by decide +kernel⟩ (oexB_ok hT) hno (Or.inl rfl) (Or.inl rfl) (by decide) (by decide),
    F.bindsN fun _ _ _ _ _ _ us hl => match us, hl with | [_, _], _ => rfl⟩, T.gl _ (by decide +kernel)⟩
theorem mk_BadSaying (c : SaysM exB fn K) (T : Txt K mg gs fs) : MkE P w K mg base "BadSaying" "thing" := by
  obtain ⟨_, hT, hi, ht, hno, _⟩ := kindS c (x := "BadSaying") (f := "thing") (by decide +kernel)
  obtain ⟨fd, F⟩ := c.def_ 20 (d := mk 18 "BadSaying" "BadSaying.__init__") rfl
  exact ⟨oexB_ok hT, ⟨_, fd, hi, ht, ok_init (x := "BadSaying") F rfl ⟨rfl, rfl, rfl, by decide +kernel, rfl, by decide +kernel, by decide +kernel⟩ (oexB_ok hT) hno (Or.inl rfl) (Or.inl rfl) (by decide) (by decide),
    F.bindsN fun _ _ _ _ _ _ us hl => match us, hl with | [_, _], _ => rfl⟩, T.gl _ (by decide +kernel)⟩
theorem mk_BadInlet (c : SaysM exB fn K) (T : Txt K mg gs fs) : MkE P w K mg base "BadInlet" "thing" := by
  obtain ⟨_, hT, hi, ht, hno, _⟩ := kindS c (x := "BadInlet") (f := "thing") (by decide +kernel)
  obtain ⟨fd, F⟩ := c.def_ 21 (d := mk 19 "BadInlet" "BadInlet.__init__") rfl
  exact ⟨oexB_ok hT, ⟨_, fd, hi, ht, ok_init (x := "BadInlet") F rfl ⟨rfl, rfl, rfl, by decide +kernel, rfl, by decide +kernel, by decide +kernel⟩ (oexB_ok hT) hno (Or.inl rfl) (Or.inl rfl) (by decide) (by decide),
    F.bindsN fun _ _ _ _ _ _ us hl => match us, hl with | [_, _], _ => rfl⟩, T.gl _ (by decide +kernel)⟩
theorem mk_BadCourse (c : SaysM exB fn K) (T : Txt K mg gs fs) : MkE P w K mg base "BadCourse" "thing" := by
  obtain ⟨_, hT, hi, ht, hno, _⟩ := kindS c (x := "BadCourse") (f := "thing") (by decide +kernel)
  obtain ⟨fd, F⟩ := c.def_ 22 (d := mk 20 "BadCourse" "BadCourse.__init__") rfl
  exact ⟨oexB_ok hT, ⟨_, fd, hi, ht, ok_init (x := "BadCourse") F rfl ⟨rfl, rfl, rfl, by decide +kernel, rfl, by decide +kernel, by decide +kernel⟩ (oexB_ok hT) hno (Or.inl rfl) (Or.inl rfl) (by decide) (by decide),
    F.bindsN fun _ _ _ _ _ _ us hl => match us, hl with | [_, _], _ => rfl⟩, T.gl _ (by decide +kernel)⟩
theorem mk_Lacking (c : SaysM exB fn K) (T : Txt K mg gs fs) : MkE P w K mg base "Lacking" "thing" := by
  obtain ⟨_, hT, hi, ht, hno, _⟩ := kindS c (x := "Lacking") (f := "thing") (by decide +kernel)
  obtain ⟨fd, F⟩ := c.def_ 23 (d := mk 21 "Lacking" "Lacking.__init__") rfl
  exact ⟨oexB_ok hT, ⟨_, fd, hi, ht, ok_init (x := "Lacking") F rfl ⟨rfl, rfl, rfl, by decide +kernel, rfl, by decide +kernel, by decide +kernel⟩ (oexB_ok hT) hno (Or.inl rfl) (Or.inl rfl) (by decide) (by decide),
    F.bindsN fun _ _ _ _ _ _ us hl => match us, hl with | [_, _], _ => rfl⟩, T.gl _ (by decide +kernel)⟩
theorem mk_BadClaim (c : SaysM exB fn K) (T : Txt K mg gs fs) : MkE P w K mg base "BadClaim" "thing" := by
  obtain ⟨_, hT, hi, ht, hno, _⟩ := kindS c (x := "BadClaim") (f := "thing") (by decide +kernel)
  obtain ⟨fd, F⟩ := c.def_ 24 (d := mk 22 "BadClaim" "BadClaim.__init__") rfl
  exact ⟨oexB_ok hT, ⟨_, fd, hi, ht, ok_init (x := "BadClaim") F rfl ⟨rfl, rfl, rfl, by decide +kernel, rfl, by decide +kernel, by decide +kernel⟩ (oexB_ok hT) hno (Or.inl rfl) (Or.inl rfl) (by decide) (by decide),
    F.bindsN fun _ _ _ _ _ _ us hl => match us, hl with | [_, _], _ => rfl⟩, T.gl _ (by decide +kernel)⟩
theorem mk_BadTable (c : SaysM exB fn K) (T : Txt K mg gs fs) : MkE P w K mg base "BadTable" "word" := by
  obtain ⟨_, hT, hi, ht, hno, _⟩ := kindS c (x := "BadTable") (f := "word") (by decide +kernel)
  obtain ⟨fd, F⟩ := c.def_ 25 (d := mk 23 "BadTable" "BadTable.__init__") rfl
  exact ⟨oexB_ok hT, ⟨_, fd, hi, ht, ok_init (x := "BadTable") F rfl ⟨rfl, rfl, rfl, by decide +kernel, rfl, by decide +kernel, by decide +kernel⟩ (oexB_ok hT) hno (Or.inl rfl) (Or.inl rfl) (by decide) (by decide),
    F.bindsN fun _ _ _ _ _ _ us hl => match us, hl with | [_, _], _ => rfl⟩, T.gl _ (by decide +kernel)⟩
theorem mk_BadMaker (c : SaysM exB fn K) (T : Txt K mg gs fs) : MkE P w K mg base "BadMaker" "word" := by
  obtain ⟨_, hT, hi, ht, hno, _⟩ := kindS c (x := "BadMaker") (f := "word") (by decide +kernel)
  obtain ⟨fd, F⟩ := c.def_ 26 (d := mk 24 "BadMaker" "BadMaker.__init__") rfl
  exact ⟨oexB_ok hT, ⟨_, fd, hi, ht, ok_init (x := "BadMaker") F rfl ⟨rfl, rfl, rfl, by decide +kernel, rfl, by decide +kernel, by decide +kernel⟩ (oexB_ok hT) hno (Or.inl rfl) (Or.inl rfl) (by decide) (by decide),
    F.bindsN fun _ _ _ _ _ _ us hl => match us, hl with | [_, _], _ => rfl⟩, T.gl _ (by decide +kernel)⟩
theorem mk_BadBound (c : SaysM exB fn K) (T : Txt K mg gs fs) : MkE P w K mg base "BadBound" "word" := by
  obtain ⟨_, hT, hi, ht, hno, _⟩ := kindS c (x := "BadBound") (f := "word") (by decide +kernel)
  obtain ⟨fd, F⟩ := c.def_ 27 (d := mk 25 "BadBound" "BadBound.__init__") rfl
  exact ⟨oexB_ok hT, ⟨_, fd, hi, ht, ok_init (x := "BadBound") F rfl ⟨rfl, rfl, rfl, by decide +kernel, rfl, by decide +kernel, by decide +kernel⟩ (oexB_ok hT) hno (Or.inl rfl) (Or.inl rfl) (by decide) (by decide),
    F.bindsN fun _ _ _ _ _ _ us hl => match us, hl with | [_, _], _ => rfl⟩, T.gl _ (by decide +kernel)⟩
theorem mk_BadTables (c : SaysM exB fn K) (T : Txt K mg gs fs) : MkE P w K mg base "BadTables" "number" := by
  obtain ⟨_, hT, hi, ht, hno, _⟩ := kindS c (x := "BadTables") (f := "number") (by decide +kernel)
  obtain ⟨fd, F⟩ := c.def_ 28 (d := mk 26 "BadTables" "BadTables.__init__") rfl
  exact ⟨oexB_ok hT, ⟨_, fd, hi, ht, ok_init (x := "BadTables") F rfl ⟨rfl, rfl, rfl, by decide +kernel, rfl, by decide +kernel, by decide +kernel⟩ (oexB_ok hT) hno (Or.inl rfl) (Or.inl rfl) (by decide) (by decide),
    F.bindsN fun _ _ _ _ _ _ us hl => match us, hl with | [_, _], _ => rfl⟩, T.gl _ (by decide +kernel)⟩
theorem mk_BadFact (c : SaysM exB fn K) (T : Txt K mg gs fs) : MkE P w K mg base "BadFact" "number" := by
  obtain ⟨_, hT, hi, ht, hno, _⟩ := kindS c (x := "BadFact") (f := "number") (by decide +kernel)
  obtain ⟨fd, F⟩ := c.def_ 29 (d := mk 27 "BadFact" "BadFact.__init__") rfl
  exact ⟨oexB_ok hT, ⟨_, fd, hi, ht, ok_init (x := "BadFact") F rfl ⟨rfl, rfl, rfl, by decide +kernel, rfl, by decide +kernel, by decide +kernel⟩ (oexB_ok hT) hno (Or.inl rfl) (Or.inl rfl) (by decide) (by decide),
    F.bindsN fun _ _ _ _ _ _ us hl => match us, hl with | [_, _], _ => rfl⟩, T.gl _ (by decide +kernel)⟩
theorem mk_BadName (c : SaysM exB fn K) (T : Txt K mg gs fs) : MkE P w K mg base "BadName" "number" := by
  obtain ⟨_, hT, hi, ht, hno, _⟩ := kindS c (x := "BadName") (f := "number") (by decide +kernel)
  obtain ⟨fd, F⟩ := c.def_ 30 (d := mk 28 "BadName" "BadName.__init__") rfl
  exact ⟨oexB_ok hT, ⟨_, fd, hi, ht, ok_init (x := "BadName") F rfl ⟨rfl, rfl, rfl, by decide +kernel, rfl, by decide +kernel, by decide +kernel⟩ (oexB_ok hT) hno (Or.inl rfl) (Or.inl rfl) (by decide) (by decide),
    F.bindsN fun _ _ _ _ _ _ us hl => match us, hl with | [_, _], _ => rfl⟩, T.gl _ (by decide +kernel)⟩
theorem mk_BadRow (c : SaysM exB fn K) (T : Txt K mg gs fs) : MkE P w K mg base "BadRow" "number" := by
  obtain ⟨_, hT, hi, ht, hno, _⟩ := kindS c (x := "BadRow") (f := "number") (by decide +kernel)
  obtain ⟨fd, F⟩ := c.def_ 31 (d := mk 29 "BadRow" "BadRow.__init__") rfl
  exact ⟨oexB_ok hT, ⟨_, fd, hi, ht, ok_init (x := "BadRow") F rfl ⟨rfl, rfl, rfl, by decide +kernel, rfl, by decide +kernel, by decide +kernel⟩ (oexB_ok hT) hno (Or.inl rfl) (Or.inl rfl) (by decide) (by decide),
    F.bindsN fun _ _ _ _ _ _ us hl => match us, hl with | [_, _], _ => rfl⟩, T.gl _ (by decide +kernel)⟩
theorem mk_BadMakers (c : SaysM exB fn K) (T : Txt K mg gs fs) : MkE P w K mg base "BadMakers" "number" := by
  obtain ⟨_, hT, hi, ht, hno, _⟩ := kindS c (x := "BadMakers") (f := "number") (by decide +kernel)
  obtain ⟨fd, F⟩ := c.def_ 32 (d := mk 30 "BadMakers" "BadMakers.__init__") rfl
  exact ⟨oexB_ok hT, ⟨_, fd, hi, ht, ok_init (x := "BadMakers") F rfl ⟨rfl, rfl, rfl, by decide +kernel, rfl, by decide +kernel, by decide +kernel⟩ (oexB_ok hT) hno (Or.inl rfl) (Or.inl rfl) (by decide) (by decide),
    F.bindsN fun _ _ _ _ _ _ us hl => match us, hl with | [_, _], _ => rfl⟩, T.gl _ (by decide +kernel)⟩
theorem mk_BadCounts (c : SaysM exB fn K) (T : Txt K mg gs fs) : MkE P w K mg base "BadCounts" "number" := by
  obtain ⟨_, hT, hi, ht, hno, _⟩ := kindS c (x := "BadCounts") (f := "number") (by decide +kernel)
  obtain ⟨fd, F⟩ := c.def_ 33 (d := mk 31 "BadCounts" "BadCounts.__init__") rfl
  exact ⟨oexB_ok hT, ⟨_, fd, hi, ht, ok_init (x := "BadCounts") F rfl ⟨rfl, rfl, rfl, by decide +kernel, rfl, by decide +kernel, by decide +kernel⟩ (oexB_ok hT) hno (Or.inl rfl) (Or.inl rfl) (by decide) (by decide),
    F.bindsN fun _ _ _ _ _ _ us hl => match us, hl with | [_, _], _ => rfl⟩, T.gl _ (by decide +kernel)⟩
theorem mk_BadCourses (c : SaysM exB fn K) (T : Txt K mg gs fs) : MkE P w K mg base "BadCourses" "number" := by
  obtain ⟨_, hT, hi, ht, hno, _⟩ := kindS c (x := "BadCourses") (f := "number") (by decide +kernel)
  obtain ⟨fd, F⟩ := c.def_ 34 (d := mk 32 "BadCourses" "BadCourses.__init__") rfl
  exact ⟨oexB_ok hT, ⟨_, fd, hi, ht, ok_init (x := "BadCourses") F rfl ⟨rfl, rfl, rfl, by decide +kernel, rfl, by decide +kernel, by decide +kernel⟩ (oexB_ok hT) hno (Or.inl rfl) (Or.inl rfl) (by decide) (by decide),
    F.bindsN fun _ _ _ _ _ _ us hl => match us, hl with | [_, _], _ => rfl⟩, T.gl _ (by decide +kernel)⟩
theorem mk_BadPaces (c : SaysM exB fn K) (T : Txt K mg gs fs) : MkE P w K mg base "BadPaces" "number" := by
  obtain ⟨_, hT, hi, ht, hno, _⟩ := kindS c (x := "BadPaces") (f := "number") (by decide +kernel)
  obtain ⟨fd, F⟩ := c.def_ 35 (d := mk 33 "BadPaces" "BadPaces.__init__") rfl
  exact ⟨oexB_ok hT, ⟨_, fd, hi, ht, ok_init (x := "BadPaces") F rfl ⟨rfl, rfl, rfl, by decide +kernel, rfl, by decide +kernel, by decide +kernel⟩ (oexB_ok hT) hno (Or.inl rfl) (Or.inl rfl) (by decide) (by decide),
    F.bindsN fun _ _ _ _ _ _ us hl => match us, hl with | [_, _], _ => rfl⟩, T.gl _ (by decide +kernel)⟩
theorem mk_BadPlan (c : SaysM exB fn K) (T : Txt K mg gs fs) : MkE P w K mg base "BadPlan" "number" := by
  obtain ⟨_, hT, hi, ht, hno, _⟩ := kindS c (x := "BadPlan") (f := "number") (by decide +kernel)
  obtain ⟨fd, F⟩ := c.def_ 36 (d := mk 34 "BadPlan" "BadPlan.__init__") rfl
  exact ⟨oexB_ok hT, ⟨_, fd, hi, ht, ok_init (x := "BadPlan") F rfl ⟨rfl, rfl, rfl, by decide +kernel, rfl, by decide +kernel, by decide +kernel⟩ (oexB_ok hT) hno (Or.inl rfl) (Or.inl rfl) (by decide) (by decide),
    F.bindsN fun _ _ _ _ _ _ us hl => match us, hl with | [_, _], _ => rfl⟩, T.gl _ (by decide +kernel)⟩
theorem mk_BadSight (c : SaysM exB fn K) (T : Txt K mg gs fs) : MkE P w K mg base "BadSight" "number" := by
  obtain ⟨_, hT, hi, ht, hno, _⟩ := kindS c (x := "BadSight") (f := "number") (by decide +kernel)
  obtain ⟨fd, F⟩ := c.def_ 37 (d := mk 35 "BadSight" "BadSight.__init__") rfl
  exact ⟨oexB_ok hT, ⟨_, fd, hi, ht, ok_init (x := "BadSight") F rfl ⟨rfl, rfl, rfl, by decide +kernel, rfl, by decide +kernel, by decide +kernel⟩ (oexB_ok hT) hno (Or.inl rfl) (Or.inl rfl) (by decide) (by decide),
    F.bindsN fun _ _ _ _ _ _ us hl => match us, hl with | [_, _], _ => rfl⟩, T.gl _ (by decide +kernel)⟩
theorem mk_BadDeed (c : SaysM exB fn K) (T : Txt K mg gs fs) : MkE P w K mg base "BadDeed" "number" := by
  obtain ⟨_, hT, hi, ht, hno, _⟩ := kindS c (x := "BadDeed") (f := "number") (by decide +kernel)
  obtain ⟨fd, F⟩ := c.def_ 38 (d := mk 36 "BadDeed" "BadDeed.__init__") rfl
  exact ⟨oexB_ok hT, ⟨_, fd, hi, ht, ok_init (x := "BadDeed") F rfl ⟨rfl, rfl, rfl, by decide +kernel, rfl, by decide +kernel, by decide +kernel⟩ (oexB_ok hT) hno (Or.inl rfl) (Or.inl rfl) (by decide) (by decide),
    F.bindsN fun _ _ _ _ _ _ us hl => match us, hl with | [_, _], _ => rfl⟩, T.gl _ (by decide +kernel)⟩
theorem mk_NoClaim (c : SaysM exB fn K) (T : Txt K mg gs fs) : MkE P w K mg base "NoClaim" "number" := by
  obtain ⟨_, hT, hi, ht, hno, _⟩ := kindS c (x := "NoClaim") (f := "number") (by decide +kernel)
  obtain ⟨fd, F⟩ := c.def_ 39 (d := mk 37 "NoClaim" "NoClaim.__init__") rfl
  exact ⟨oexB_ok hT, ⟨_, fd, hi, ht, ok_init (x := "NoClaim") F rfl ⟨rfl, rfl, rfl, by decide +kernel, rfl, by decide +kernel, by decide +kernel⟩ (oexB_ok hT) hno (Or.inl rfl) (Or.inl rfl) (by decide) (by decide),
    F.bindsN fun _ _ _ _ _ _ us hl => match us, hl with | [_, _], _ => rfl⟩, T.gl _ (by decide +kernel)⟩
theorem mk_Missing (c : SaysM exB fn K) (T : Txt K mg gs fs) : MkE P w K mg base "Missing" "name" := by
  obtain ⟨_, hT, hi, ht, hno, _⟩ := kindS c (x := "Missing") (f := "name") (by decide +kernel)
  obtain ⟨fd, F⟩ := c.def_ 40 (d := mk 38 "Missing" "Missing.__init__") rfl
  exact ⟨oexB_ok hT, ⟨_, fd, hi, ht, ok_init (x := "Missing") F rfl ⟨rfl, rfl, rfl, by decide +kernel, rfl, by decide +kernel, by decide +kernel⟩ (oexB_ok hT) hno (Or.inl rfl) (Or.inl rfl) (by decide) (by decide),
    F.bindsN fun _ _ _ _ _ _ us hl => match us, hl with | [_, _], _ => rfl⟩, T.gl _ (by decide +kernel)⟩
theorem mk_Twice (c : SaysM exB fn K) (T : Txt K mg gs fs) : MkE P w K mg base "Twice" "name" := by
  obtain ⟨_, hT, hi, ht, hno, _⟩ := kindS c (x := "Twice") (f := "name") (by decide +kernel)
  obtain ⟨fd, F⟩ := c.def_ 41 (d := mk 39 "Twice" "Twice.__init__") rfl
  exact ⟨oexB_ok hT, ⟨_, fd, hi, ht, ok_init (x := "Twice") F rfl ⟨rfl, rfl, rfl, by decide +kernel, rfl, by decide +kernel, by decide +kernel⟩ (oexB_ok hT) hno (Or.inl rfl) (Or.inl rfl) (by decide) (by decide),
    F.bindsN fun _ _ _ _ _ _ us hl => match us, hl with | [_, _], _ => rfl⟩, T.gl _ (by decide +kernel)⟩
theorem mk_Open (c : SaysM exB fn K) (T : Txt K mg gs fs) : MkE P w K mg base "Open" "name" := by
  obtain ⟨_, hT, hi, ht, hno, _⟩ := kindS c (x := "Open") (f := "name") (by decide +kernel)
  obtain ⟨fd, F⟩ := c.def_ 42 (d := mk 40 "Open" "Open.__init__") rfl
  exact ⟨oexB_ok hT, ⟨_, fd, hi, ht, ok_init (x := "Open") F rfl ⟨rfl, rfl, rfl, by decide +kernel, rfl, by decide +kernel, by decide +kernel⟩ (oexB_ok hT) hno (Or.inl rfl) (Or.inl rfl) (by decide) (by decide),
    F.bindsN fun _ _ _ _ _ _ us hl => match us, hl with | [_, _], _ => rfl⟩, T.gl _ (by decide +kernel)⟩
end
end K54
set_option Elab.async false
set_option linter.all false
set_option maxRecDepth 100000
set_option maxHeartbeats 4000000
namespace K54
open PySem PySem.Spec PyProof.Rows L2 He NF

section
variable {P : Program} {w : World} {K : PySem.W.Frag} {mg : Str → Option Value} {base : Heap}
theorem sc__law_other : FnScope ["_law_way", "_law_thing"] ["_law_way", "_law_thing"] (defScope s_law_other) := ⟨rfl, rfl, rfl, by decide +kernel, rfl, by decide +kernel, by decide +kernel⟩
theorem ok_law_other {f : Addr} {fd : FuncData} (F : FunD K "_law_other" "_law_other" (defArgs s_law_other) (defBody s_law_other) (defScope s_law_other) [] [] f fd) (c : SaysM exB fn K) (T : Txt K mg gs fs) : FnOk P w K mg base CX0 3 f fd ["_law_way", "_law_thing"] (spOne K 20) := by
  refine F.ok sc__law_other (fun vs H Q E h => ?_) (fun cdv A outer s H vs Q E hr h => ?_)
  · obtain ⟨k, v, rfl, _⟩ := h
    rfl
  · obtain ⟨k, v, rfl, h0, h1, q⟩ := h
    refine ⟨_, PSs.nox (pss_cons (ps_if (pt_cmpR op_eq (pv 0) pe_int (nomark _)) (pss_one (ps_ret (pe_mkE (mk_BadMaker c T) hr (by decide) rfl (pv 1)))) pss_nil) (pss_cons (ps_if (pt_cmpR op_eq (pv 0) pe_int (nomark _)) (pss_one (ps_ret (pe_mkE (mk_BadBound c T) hr (by decide) rfl (pv 1)))) pss_nil) (pss_cons (ps_if (pt_cmpR op_eq (pv 0) pe_int (nomark _)) (pss_one (ps_ret (pe_mkE (mk_BadTables c T) hr (by decide) rfl (pv 1)))) pss_nil) (pss_cons (ps_if (pt_cmpR op_eq (pv 0) pe_int (nomark _)) (pss_one (ps_ret (pe_mkE (mk_BadFact c T) hr (by decide) rfl (pv 1)))) pss_nil) (pss_cons (ps_if (pt_cmpR op_eq (pv 0) pe_int (nomark _)) (pss_one (ps_ret (pe_mkE (mk_BadName c T) hr (by decide) rfl (pv 1)))) pss_nil) (pss_cons (ps_if (pt_cmpR op_eq (pv 0) pe_int (nomark _)) (pss_one (ps_ret (pe_mkE (mk_BadRow c T) hr (by decide) rfl (pv 1)))) pss_nil) (pss_cons (ps_if (pt_cmpR op_eq (pv 0) pe_int (nomark _)) (pss_one (ps_ret (pe_mkE (mk_BadMakers c T) hr (by decide) rfl (pv 1)))) pss_nil) (pss_cons (ps_if (pt_cmpR op_eq (pv 0) pe_int (nomark _)) (pss_one (ps_ret (pe_mkE (mk_BadCounts c T) hr (by decide) rfl (pv 1)))) pss_nil) (pss_cons (ps_if (pt_cmpR op_eq (pv 0) pe_int (nomark _)) (pss_one (ps_ret (pe_mkE (mk_BadCourses c T) hr (by decide) rfl (pv 1)))) pss_nil) (pss_cons (ps_if (pt_cmpR op_eq (pv 0) pe_int (nomark _)) (pss_one (ps_ret (pe_mkE (mk_BadPaces c T) hr (by decide) rfl (pv 1)))) pss_nil) (pss_cons (ps_if (pt_cmpR op_eq (pv 0) pe_int (nomark _)) (pss_one (ps_ret (pe_mkE (mk_BadPlan c T) hr (by decide) rfl (pv 1)))) pss_nil) (pss_cons (ps_if (pt_cmpR op_eq (pv 0) pe_int (nomark _)) (pss_one (ps_ret (pe_mkE (mk_BadSight c T) hr (by decide) rfl (pv 1)))) pss_nil) (pss_cons (ps_if (pt_cmpR op_eq (pv 0) pe_int (nomark _)) (pss_one (ps_ret (pe_mkE (mk_BadDeed c T) hr (by decide) rfl (pv 1)))) pss_nil) (pss_cons (ps_if (pt_cmpR op_eq (pv 0) pe_int (nomark _)) (pss_one (ps_ret (pe_mkE (mk_NoClaim c T) hr (by decide) rfl (pv 1)))) pss_nil) (pss_cons (ps_if (pt_cmpR op_eq (pv 0) pe_int (nomark _)) (pss_one (ps_ret (pe_mkE (mk_Missing c T) hr (by decide) rfl (pv 1)))) pss_nil) (pss_cons (ps_if (pt_cmpR op_eq (pv 0) pe_int (nomark _)) (pss_one (ps_ret (pe_mkE (mk_Twice c T) hr (by decide) rfl (pv 1)))) pss_nil) (pss_cons (ps_if (pt_cmpR op_eq (pv 0) pe_int (nomark _)) (pss_one (ps_ret (pe_mkE (mk_Open c T) hr (by decide) rfl (pv 1)))) pss_nil) (pss_cons (ps_if (pt_cmpR op_eq (pv 0) pe_int (nomark _)) (pss_one (ps_ret (pe_exc0 (kindN c (x := "BadPace") (by decide +kernel)).2.1 (T.gl _ (by decide +kernel)) (kindN c (x := "BadPace") (by decide +kernel)).2.2 rfl))) pss_nil) (pss_one (ps_ret (pe_exc0 (kindN c (x := "NoWeb") (by decide +kernel)).2.1 (T.gl _ (by decide +kernel)) (kindN c (x := "NoWeb") (by decide +kernel)).2.2 rfl))))))))))))))))))))), ?_⟩
    refine ⟨_, rfl, rfl, _, rfl, ite2 (fun h => ?_) (fun h => ?_)⟩
    · obtain rfl : k = 20 := int_eq (c := 20) h
      exact ⟨_, rfl, mk_done fun a d H2 ha hS h3 h4 => q a H2 ha hS ⟨d, h3, h4⟩⟩
    have n20 : k ≠ 20 := fun e => h (by rw [e]; rfl)
    refine ⟨_, rfl, rfl, _, rfl, ite2 (fun h => ?_) (fun h => ?_)⟩
    · obtain rfl : k = 21 := int_eq (c := 21) h
      exact ⟨_, rfl, mk_done fun a d H2 ha hS h3 h4 => q a H2 ha hS ⟨d, h3, h4⟩⟩
    have n21 : k ≠ 21 := fun e => h (by rw [e]; rfl)
    refine ⟨_, rfl, rfl, _, rfl, ite2 (fun h => ?_) (fun h => ?_)⟩
    · obtain rfl : k = 22 := int_eq (c := 22) h
      exact ⟨_, rfl, mk_done fun a d H2 ha hS h3 h4 => q a H2 ha hS ⟨d, h3, h4⟩⟩
    have n22 : k ≠ 22 := fun e => h (by rw [e]; rfl)
    refine ⟨_, rfl, rfl, _, rfl, ite2 (fun h => ?_) (fun h => ?_)⟩
    · obtain rfl : k = 23 := int_eq (c := 23) h
      exact ⟨_, rfl, mk_done fun a d H2 ha hS h3 h4 => q a H2 ha hS ⟨d, h3, h4⟩⟩
    have n23 : k ≠ 23 := fun e => h (by rw [e]; rfl)
    refine ⟨_, rfl, rfl, _, rfl, ite2 (fun h => ?_) (fun h => ?_)⟩
    · obtain rfl : k = 24 := int_eq (c := 24) h
      exact ⟨_, rfl, mk_done fun a d H2 ha hS h3 h4 => q a H2 ha hS ⟨d, h3, h4⟩⟩
    have n24 : k ≠ 24 := fun e => h (by rw [e]; rfl)
    refine ⟨_, rfl, rfl, _, rfl, ite2 (fun h => ?_) (fun h => ?_)⟩
    · obtain rfl : k = 25 := int_eq (c := 25) h
      exact ⟨_, rfl, mk_done fun a d H2 ha hS h3 h4 => q a H2 ha hS ⟨d, h3, h4⟩⟩
    have n25 : k ≠ 25 := fun e => h (by rw [e]; rfl)
    refine ⟨_, rfl, rfl, _, rfl, ite2 (fun h => ?_) (fun h => ?_)⟩
    · obtain rfl : k = 26 := int_eq (c := 26) h
      exact ⟨_, rfl, mk_done fun a d H2 ha hS h3 h4 => q a H2 ha hS ⟨d, h3, h4⟩⟩
    have n26 : k ≠ 26 := fun e => h (by rw [e]; rfl)
    refine ⟨_, rfl, rfl, _, rfl, ite2 (fun h => ?_) (fun h => ?_)⟩
    · obtain rfl : k = 27 := int_eq (c := 27) h
      exact ⟨_, rfl, mk_done fun a d H2 ha hS h3 h4 => q a H2 ha hS ⟨d, h3, h4⟩⟩
    have n27 : k ≠ 27 := fun e => h (by rw [e]; rfl)
    refine ⟨_, rfl, rfl, _, rfl, ite2 (fun h => ?_) (fun h => ?_)⟩
    · obtain rfl : k = 28 := int_eq (c := 28) h
      exact ⟨_, rfl, mk_done fun a d H2 ha hS h3 h4 => q a H2 ha hS ⟨d, h3, h4⟩⟩
    have n28 : k ≠ 28 := fun e => h (by rw [e]; rfl)
    refine ⟨_, rfl, rfl, _, rfl, ite2 (fun h => ?_) (fun h => ?_)⟩
    · obtain rfl : k = 29 := int_eq (c := 29) h
      exact ⟨_, rfl, mk_done fun a d H2 ha hS h3 h4 => q a H2 ha hS ⟨d, h3, h4⟩⟩
    have n29 : k ≠ 29 := fun e => h (by rw [e]; rfl)
    refine ⟨_, rfl, rfl, _, rfl, ite2 (fun h => ?_) (fun h => ?_)⟩
    · obtain rfl : k = 30 := int_eq (c := 30) h
      exact ⟨_, rfl, mk_done fun a d H2 ha hS h3 h4 => q a H2 ha hS ⟨d, h3, h4⟩⟩
    have n30 : k ≠ 30 := fun e => h (by rw [e]; rfl)
    refine ⟨_, rfl, rfl, _, rfl, ite2 (fun h => ?_) (fun h => ?_)⟩
    · obtain rfl : k = 31 := int_eq (c := 31) h
      exact ⟨_, rfl, mk_done fun a d H2 ha hS h3 h4 => q a H2 ha hS ⟨d, h3, h4⟩⟩
    have n31 : k ≠ 31 := fun e => h (by rw [e]; rfl)
    refine ⟨_, rfl, rfl, _, rfl, ite2 (fun h => ?_) (fun h => ?_)⟩
    · obtain rfl : k = 32 := int_eq (c := 32) h
      exact ⟨_, rfl, mk_done fun a d H2 ha hS h3 h4 => q a H2 ha hS ⟨d, h3, h4⟩⟩
    have n32 : k ≠ 32 := fun e => h (by rw [e]; rfl)
    refine ⟨_, rfl, rfl, _, rfl, ite2 (fun h => ?_) (fun h => ?_)⟩
    · obtain rfl : k = 33 := int_eq (c := 33) h
      exact ⟨_, rfl, mk_done fun a d H2 ha hS h3 h4 => q a H2 ha hS ⟨d, h3, h4⟩⟩
    have n33 : k ≠ 33 := fun e => h (by rw [e]; rfl)
    refine ⟨_, rfl, rfl, _, rfl, ite2 (fun h => ?_) (fun h => ?_)⟩
    · obtain rfl : k = 34 := int_eq (c := 34) h
      exact ⟨_, rfl, mk_done fun a d H2 ha hS h3 h4 => q a H2 ha hS ⟨d, h3, h4⟩⟩
    have n34 : k ≠ 34 := fun e => h (by rw [e]; rfl)
    refine ⟨_, rfl, rfl, _, rfl, ite2 (fun h => ?_) (fun h => ?_)⟩
    · obtain rfl : k = 35 := int_eq (c := 35) h
      exact ⟨_, rfl, mk_done fun a d H2 ha hS h3 h4 => q a H2 ha hS ⟨d, h3, h4⟩⟩
    have n35 : k ≠ 35 := fun e => h (by rw [e]; rfl)
    refine ⟨_, rfl, rfl, _, rfl, ite2 (fun h => ?_) (fun h => ?_)⟩
    · obtain rfl : k = 36 := int_eq (c := 36) h
      exact ⟨_, rfl, mk_done fun a d H2 ha hS h3 h4 => q a H2 ha hS ⟨d, h3, h4⟩⟩
    have n36 : k ≠ 36 := fun e => h (by rw [e]; rfl)
    refine ⟨_, rfl, rfl, _, rfl, ite2 (fun h => ?_) (fun h => ?_)⟩
    · obtain rfl : k = 37 := int_eq (c := 37) h
      exact mk0_done fun a H2 ha hS h3 => q a H2 ha hS h3
    have n37 : k ≠ 37 := fun e => h (by rw [e]; rfl)
    obtain rfl : k = 38 := by omega
    exact mk0_done fun a H2 ha hS h3 => q a H2 ha hS h3
theorem sc__law_one : FnScope ["_law_way", "_law_thing"] ["_law_way", "_law_thing"] (defScope s_law_one) := ⟨rfl, rfl, rfl, by decide +kernel, rfl, by decide +kernel, by decide +kernel⟩
theorem ok_law_one {f : Addr} {fd : FuncData} (F : FunD K "_law_one" "_law_one" (defArgs s_law_one) (defBody s_law_one) (defScope s_law_one) [] [] f fd) (c : SaysM exB fn K) (T : Txt K mg gs fs) (cO : Cal P w K mg base 3 "_law_other" (spOne K 20)) : FnOk P w K mg base CX0 4 f fd ["_law_way", "_law_thing"] (spOne K 0) := by
  refine F.ok sc__law_one (fun vs H Q E h => ?_) (fun cdv A outer s H vs Q E hr h => ?_)
  · obtain ⟨k, v, rfl, _⟩ := h
    rfl
  · obtain ⟨k, v, rfl, h0, h1, q⟩ := h
    refine ⟨_, PSs.nox (pss_cons (ps_if (pt_cmpR op_eq (pv 0) pe_int (nomark _)) (pss_one (ps_ret (pe_mkE (mk_BadText c T) hr (by decide) rfl (pv 1)))) pss_nil) (pss_cons (ps_if (pt_cmpR op_eq (pv 0) pe_int (nomark _)) (pss_one (ps_ret (pe_mkE (mk_BadLine c T) hr (by decide) rfl (pv 1)))) pss_nil) (pss_cons (ps_if (pt_cmpR op_eq (pv 0) pe_int (nomark _)) (pss_one (ps_ret (pe_mkE (mk_AtOdds c T) hr (by decide) rfl (pv 1)))) pss_nil) (pss_cons (ps_if (pt_cmpR op_eq (pv 0) pe_int (nomark _)) (pss_one (ps_ret (pe_mkE (mk_NoPace c T) hr (by decide) rfl (pv 1)))) pss_nil) (pss_cons (ps_if (pt_cmpR op_eq (pv 0) pe_int (nomark _)) (pss_one (ps_ret (pe_exc0 (kindN c (x := "NoHole") (by decide +kernel)).2.1 (T.gl _ (by decide +kernel)) (kindN c (x := "NoHole") (by decide +kernel)).2.2 rfl))) pss_nil) (pss_cons (ps_if (pt_cmpR op_eq (pv 0) pe_int (nomark _)) (pss_one (ps_ret (pe_mkE (mk_NoWay c T) hr (by decide) rfl (pv 1)))) pss_nil) (pss_cons (ps_if (pt_cmpR op_eq (pv 0) pe_int (nomark _)) (pss_one (ps_ret (pe_mkE (mk_NotShift c T) hr (by decide) rfl (pv 1)))) pss_nil) (pss_cons (ps_if (pt_cmpR op_eq (pv 0) pe_int (nomark _)) (pss_one (ps_ret (pe_mkE (mk_NotWhole c T) hr (by decide) rfl (pv 1)))) pss_nil) (pss_cons (ps_if (pt_cmpR op_eq (pv 0) pe_int (nomark _)) (pss_one (ps_ret (pe_mkE (mk_Ringed c T) hr (by decide) rfl (pv 1)))) pss_nil) (pss_cons (ps_if (pt_cmpR op_eq (pv 0) pe_int (nomark _)) (pss_one (ps_ret (pe_mkE (mk_Unseen c T) hr (by decide) rfl (pv 1)))) pss_nil) (pss_cons (ps_if (pt_cmpR op_eq (pv 0) pe_int (nomark _)) (pss_one (ps_ret (pe_exc0 (kindN c (x := "NothingDone") (by decide +kernel)).2.1 (T.gl _ (by decide +kernel)) (kindN c (x := "NothingDone") (by decide +kernel)).2.2 rfl))) pss_nil) (pss_cons (ps_if (pt_cmpR op_eq (pv 0) pe_int (nomark _)) (pss_one (ps_ret (pe_mkE (mk_TooMany c T) hr (by decide) rfl (pv 1)))) pss_nil) (pss_cons (ps_if (pt_cmpR op_eq (pv 0) pe_int (nomark _)) (pss_one (ps_ret (pe_mkE (mk_BadCount c T) hr (by decide) rfl (pv 1)))) pss_nil) (pss_cons (ps_if (pt_cmpR op_eq (pv 0) pe_int (nomark _)) (pss_one (ps_ret (pe_mkE (mk_BadTerm c T) hr (by decide) rfl (pv 1)))) pss_nil) (pss_cons (ps_if (pt_cmpR op_eq (pv 0) pe_int (nomark _)) (pss_one (ps_ret (pe_mkE (mk_BadSaying c T) hr (by decide) rfl (pv 1)))) pss_nil) (pss_cons (ps_if (pt_cmpR op_eq (pv 0) pe_int (nomark _)) (pss_one (ps_ret (pe_mkE (mk_BadInlet c T) hr (by decide) rfl (pv 1)))) pss_nil) (pss_cons (ps_if (pt_cmpR op_eq (pv 0) pe_int (nomark _)) (pss_one (ps_ret (pe_mkE (mk_BadCourse c T) hr (by decide) rfl (pv 1)))) pss_nil) (pss_cons (ps_if (pt_cmpR op_eq (pv 0) pe_int (nomark _)) (pss_one (ps_ret (pe_mkE (mk_Lacking c T) hr (by decide) rfl (pv 1)))) pss_nil) (pss_cons (ps_if (pt_cmpR op_eq (pv 0) pe_int (nomark _)) (pss_one (ps_ret (pe_mkE (mk_BadClaim c T) hr (by decide) rfl (pv 1)))) pss_nil) (pss_cons (ps_if (pt_cmpR op_eq (pv 0) pe_int (nomark _)) (pss_one (ps_ret (pe_mkE (mk_BadTable c T) hr (by decide) rfl (pv 1)))) pss_nil) (pss_one (ps_ret (pe_c cO hr (by decide) rfl (pa_cons (pv 0) (pa_cons (pv 1) pa_nil))))))))))))))))))))))))), ?_⟩
    refine ⟨_, rfl, rfl, _, rfl, ite2 (fun h => ?_) (fun h => ?_)⟩
    · obtain rfl : k = 0 := int_eq (c := 0) h
      exact ⟨_, rfl, mk_done fun a d H2 ha hS h3 h4 => q a H2 ha hS ⟨d, h3, h4⟩⟩
    have n0 : k ≠ 0 := fun e => h (by rw [e]; rfl)
    refine ⟨_, rfl, rfl, _, rfl, ite2 (fun h => ?_) (fun h => ?_)⟩
    · obtain rfl : k = 1 := int_eq (c := 1) h
      exact ⟨_, rfl, mk_done fun a d H2 ha hS h3 h4 => q a H2 ha hS ⟨d, h3, h4⟩⟩
    have n1 : k ≠ 1 := fun e => h (by rw [e]; rfl)
    refine ⟨_, rfl, rfl, _, rfl, ite2 (fun h => ?_) (fun h => ?_)⟩
    · obtain rfl : k = 2 := int_eq (c := 2) h
      exact ⟨_, rfl, mk_done fun a d H2 ha hS h3 h4 => q a H2 ha hS ⟨d, h3, h4⟩⟩
    have n2 : k ≠ 2 := fun e => h (by rw [e]; rfl)
    refine ⟨_, rfl, rfl, _, rfl, ite2 (fun h => ?_) (fun h => ?_)⟩
    · obtain rfl : k = 3 := int_eq (c := 3) h
      exact ⟨_, rfl, mk_done fun a d H2 ha hS h3 h4 => q a H2 ha hS ⟨d, h3, h4⟩⟩
    have n3 : k ≠ 3 := fun e => h (by rw [e]; rfl)
    refine ⟨_, rfl, rfl, _, rfl, ite2 (fun h => ?_) (fun h => ?_)⟩
    · obtain rfl : k = 4 := int_eq (c := 4) h
      exact mk0_done fun a H2 ha hS h3 => q a H2 ha hS h3
    have n4 : k ≠ 4 := fun e => h (by rw [e]; rfl)
    refine ⟨_, rfl, rfl, _, rfl, ite2 (fun h => ?_) (fun h => ?_)⟩
    · obtain rfl : k = 5 := int_eq (c := 5) h
      exact ⟨_, rfl, mk_done fun a d H2 ha hS h3 h4 => q a H2 ha hS ⟨d, h3, h4⟩⟩
    have n5 : k ≠ 5 := fun e => h (by rw [e]; rfl)
    refine ⟨_, rfl, rfl, _, rfl, ite2 (fun h => ?_) (fun h => ?_)⟩
    · obtain rfl : k = 6 := int_eq (c := 6) h
      exact ⟨_, rfl, mk_done fun a d H2 ha hS h3 h4 => q a H2 ha hS ⟨d, h3, h4⟩⟩
    have n6 : k ≠ 6 := fun e => h (by rw [e]; rfl)
    refine ⟨_, rfl, rfl, _, rfl, ite2 (fun h => ?_) (fun h => ?_)⟩
    · obtain rfl : k = 7 := int_eq (c := 7) h
      exact ⟨_, rfl, mk_done fun a d H2 ha hS h3 h4 => q a H2 ha hS ⟨d, h3, h4⟩⟩
    have n7 : k ≠ 7 := fun e => h (by rw [e]; rfl)
    refine ⟨_, rfl, rfl, _, rfl, ite2 (fun h => ?_) (fun h => ?_)⟩
    · obtain rfl : k = 8 := int_eq (c := 8) h
      exact ⟨_, rfl, mk_done fun a d H2 ha hS h3 h4 => q a H2 ha hS ⟨d, h3, h4⟩⟩
    have n8 : k ≠ 8 := fun e => h (by rw [e]; rfl)
    refine ⟨_, rfl, rfl, _, rfl, ite2 (fun h => ?_) (fun h => ?_)⟩
    · obtain rfl : k = 9 := int_eq (c := 9) h
      exact ⟨_, rfl, mk_done fun a d H2 ha hS h3 h4 => q a H2 ha hS ⟨d, h3, h4⟩⟩
    have n9 : k ≠ 9 := fun e => h (by rw [e]; rfl)
    refine ⟨_, rfl, rfl, _, rfl, ite2 (fun h => ?_) (fun h => ?_)⟩
    · obtain rfl : k = 10 := int_eq (c := 10) h
      exact mk0_done fun a H2 ha hS h3 => q a H2 ha hS h3
    have n10 : k ≠ 10 := fun e => h (by rw [e]; rfl)
    refine ⟨_, rfl, rfl, _, rfl, ite2 (fun h => ?_) (fun h => ?_)⟩
    · obtain rfl : k = 11 := int_eq (c := 11) h
      exact ⟨_, rfl, mk_done fun a d H2 ha hS h3 h4 => q a H2 ha hS ⟨d, h3, h4⟩⟩
    have n11 : k ≠ 11 := fun e => h (by rw [e]; rfl)
    refine ⟨_, rfl, rfl, _, rfl, ite2 (fun h => ?_) (fun h => ?_)⟩
    · obtain rfl : k = 12 := int_eq (c := 12) h
      exact ⟨_, rfl, mk_done fun a d H2 ha hS h3 h4 => q a H2 ha hS ⟨d, h3, h4⟩⟩
    have n12 : k ≠ 12 := fun e => h (by rw [e]; rfl)
    refine ⟨_, rfl, rfl, _, rfl, ite2 (fun h => ?_) (fun h => ?_)⟩
    · obtain rfl : k = 13 := int_eq (c := 13) h
      exact ⟨_, rfl, mk_done fun a d H2 ha hS h3 h4 => q a H2 ha hS ⟨d, h3, h4⟩⟩
    have n13 : k ≠ 13 := fun e => h (by rw [e]; rfl)
    refine ⟨_, rfl, rfl, _, rfl, ite2 (fun h => ?_) (fun h => ?_)⟩
    · obtain rfl : k = 14 := int_eq (c := 14) h
      exact ⟨_, rfl, mk_done fun a d H2 ha hS h3 h4 => q a H2 ha hS ⟨d, h3, h4⟩⟩
    have n14 : k ≠ 14 := fun e => h (by rw [e]; rfl)
    refine ⟨_, rfl, rfl, _, rfl, ite2 (fun h => ?_) (fun h => ?_)⟩
    · obtain rfl : k = 15 := int_eq (c := 15) h
      exact ⟨_, rfl, mk_done fun a d H2 ha hS h3 h4 => q a H2 ha hS ⟨d, h3, h4⟩⟩
    have n15 : k ≠ 15 := fun e => h (by rw [e]; rfl)
    refine ⟨_, rfl, rfl, _, rfl, ite2 (fun h => ?_) (fun h => ?_)⟩
    · obtain rfl : k = 16 := int_eq (c := 16) h
      exact ⟨_, rfl, mk_done fun a d H2 ha hS h3 h4 => q a H2 ha hS ⟨d, h3, h4⟩⟩
    have n16 : k ≠ 16 := fun e => h (by rw [e]; rfl)
    refine ⟨_, rfl, rfl, _, rfl, ite2 (fun h => ?_) (fun h => ?_)⟩
    · obtain rfl : k = 17 := int_eq (c := 17) h
      exact ⟨_, rfl, mk_done fun a d H2 ha hS h3 h4 => q a H2 ha hS ⟨d, h3, h4⟩⟩
    have n17 : k ≠ 17 := fun e => h (by rw [e]; rfl)
    refine ⟨_, rfl, rfl, _, rfl, ite2 (fun h => ?_) (fun h => ?_)⟩
    · obtain rfl : k = 18 := int_eq (c := 18) h
      exact ⟨_, rfl, mk_done fun a d H2 ha hS h3 h4 => q a H2 ha hS ⟨d, h3, h4⟩⟩
    have n18 : k ≠ 18 := fun e => h (by rw [e]; rfl)
    refine ⟨_, rfl, rfl, _, rfl, ite2 (fun h => ?_) (fun h => ?_)⟩
    · obtain rfl : k = 19 := int_eq (c := 19) h
      exact ⟨_, rfl, mk_done fun a d H2 ha hS h3 h4 => q a H2 ha hS ⟨d, h3, h4⟩⟩
    have n19 : k ≠ 19 := fun e => h (by rw [e]; rfl)
    exact ⟨_, rfl, _, rfl, k, v, rfl, by omega, h1, fun a H2 ha hS he => q a H2 ha hS he⟩
end
end K54
set_option Elab.async false
set_option linter.all false
set_option maxRecDepth 100000
set_option maxHeartbeats 4000000
namespace K54
open PySem PySem.Spec PyProof.Rows L2 He NF

theorem pe_gl {X : Cx} {x : Str} {a : Addr} {pos : Pos} (hm : X.mg x = some (.ref a)) (hg : Gl X x := by rfl) (hd : (x == ("__debug__" : Str)) = false := by decide) : PE X (.Name x pos) (tC (.ref a)) := pe_glob (v := .ref a) hg hm rfl hd
theorem is_done {K : PySem.W.Frag} {H : Hp} {k : Nat} {a : Addr} {v c : V} {u : Value} {b : Bool} {Q : VK} (he : ErrAt K H k a v) (hx : excB K (ga K (knd k).1) = true) (hc : ClsV c u) (hk : PySem.W.kitOne K (.ref (ga K (knd k).1)) u = some b) {σ : L2.St} (q : Q (.bl b) H) : tCons (tC c) tNil σ H fun xs H2 => rIsV K (V.ref a :: xs) H2 Q := by
  show rIsV K [.ref a, c] H Q
  unfold ErrAt at he
  split at he
  · obtain ⟨d, h1, h2⟩ := he
    exact ⟨a, _, some d, c, u, b, rfl, hc, excB_ok hx, h1, (fun d' e => by cases e; exact ⟨_, h2⟩), hk, q⟩
  · exact ⟨a, _, none, c, u, b, rfl, hc, excB_ok hx, he, (fun d' e => nomatch e), hk, q⟩
section
variable {P : Program} {w : World} {K : PySem.W.Frag} {mg : Str → Option Value} {base : Heap}
theorem knd_mem {k : Nat} (h : k < 39) : knd k ∈ kinds := by
  have e : k < kinds.length := h
  unfold knd
  rw [List.getD_eq_getElem?_getD, List.getElem?_eq_getElem e]
  exact List.getElem_mem e
theorem exc_k (c : SaysM exB fn K) {k : Nat} (h : k < 39) : excB K (ga K (knd k).1) = true := (ba (List.all_eq_true.mp (exs c).1.1 _ (knd_mem h))).1
theorem nms_k {k : Nat} : nms.getD k "" = (knd k).1 := by
  unfold nms knd
  rw [List.getD_eq_getElem?_getD, List.getD_eq_getElem?_getD, List.getElem?_map]
  cases kinds[k]? <;> rfl
theorem kit_k (c : SaysM exB fn K) {i j : Nat} (hi : i < 39) (hj : j < 39) : PySem.W.kitOne K (.ref (ga K (knd i).1)) (.ref (ga K (knd j).1)) = some (j == i) := by
  have q := List.all_eq_true.mp (List.all_eq_true.mp (exs c).1.2 i (List.mem_range.mpr hi)) j (List.mem_range.mpr hj)
  rw [nms_k, nms_k] at q
  exact of_decide_eq_true q
theorem sup_k (c : SaysM exB fn K) {i : Nat} (hi : i < 39) : PySem.W.kitOne K (.ref (ga K (knd i).1)) (.ref (ga K "Unreadable")) = some (decide (i < 2)) ∧ PySem.W.kitOne K (.ref (ga K (knd i).1)) (.ref (ga K "Impossible")) = some (decide (2 ≤ i) && decide (i < 11)) ∧
    PySem.W.kitOne K (.ref (ga K (knd i).1)) (.ref (ga K "NeedforthError")) = some true ∧ PySem.W.kitOne K (.ref (ga K (knd i).1)) (.type "ValueError") = some true := by
  have q := List.all_eq_true.mp (exs c).2.1.1 i (List.mem_range.mpr hi)
  rw [nms_k] at q
  obtain ⟨q, h4⟩ := ba q
  obtain ⟨q, h3⟩ := ba q
  obtain ⟨h1, h2⟩ := ba q
  exact ⟨of_decide_eq_true h1, of_decide_eq_true h2, of_decide_eq_true h3, of_decide_eq_true h4⟩
/-- of which classes an error is -/
def spKinds (K : PySem.W.Frag) : Sp := fun vs H Q _ => ∃ (k : Nat) (a : Addr) (v : V), vs = [.ref a] ∧ k < 39 ∧ ErrAt K H k a v ∧ ∀ t H2, H t = none → Same H H2 → H2 t = some (.lst ((List.range 39).map fun j => V.bl (j == k))) → Q (.ref t) H2
theorem sc__law_kinds : FnScope ["_law_error", "_law_told"] ["_law_error"] (defScope s_law_kinds) := ⟨rfl, rfl, rfl, by decide +kernel, rfl, by decide +kernel, by decide +kernel⟩
theorem ok_kinds {f : Addr} {fd : FuncData} (F : FunD K "_law_kinds" "_law_kinds" (defArgs s_law_kinds) (defBody s_law_kinds) (defScope s_law_kinds) [] [] f fd) (c : SaysM exB fn K) (T : Txt K mg gs fs) : FnOk P w K mg base CX0 1 f fd ["_law_error"] (spKinds K) := by
  refine F.ok sc__law_kinds (fun vs H Q E h => ?_) (fun cdv A outer s H vs Q E hr h => ?_)
  · obtain ⟨k, a, v, rfl, _⟩ := h
    rfl
  · obtain ⟨k, a, v, rfl, hk, he, q⟩ := h
    refine ⟨_, PSs.nox (pss_cons (ps_set (i := 1) sc__law_kinds.nd rfl (Or.inl rfl) (pe_lst (pa_cons (pe_callB call_isV rfl (T.fr _ (by decide +kernel)) (by decide +kernel) (pa_cons (pv 0) (pa_cons (pe_gl (T.gl _ (by decide +kernel))) pa_nil))) (pa_cons (pe_callB call_isV rfl (T.fr _ (by decide +kernel)) (by decide +kernel) (pa_cons (pv 0) (pa_cons (pe_gl (T.gl _ (by decide +kernel))) pa_nil))) (pa_cons (pe_callB call_isV rfl (T.fr _ (by decide +kernel)) (by decide +kernel) (pa_cons (pv 0) (pa_cons (pe_gl (T.gl _ (by decide +kernel))) pa_nil))) pa_nil))))) (pss_cons (ps_set (i := 1) sc__law_kinds.nd rfl (Or.inl rfl) (pe_op op_cat (pv 1) (pe_lst (pa_cons (pe_callB call_isV rfl (T.fr _ (by decide +kernel)) (by decide +kernel) (pa_cons (pv 0) (pa_cons (pe_gl (T.gl _ (by decide +kernel))) pa_nil))) (pa_cons (pe_callB call_isV rfl (T.fr _ (by decide +kernel)) (by decide +kernel) (pa_cons (pv 0) (pa_cons (pe_gl (T.gl _ (by decide +kernel))) pa_nil))) (pa_cons (pe_callB call_isV rfl (T.fr _ (by decide +kernel)) (by decide +kernel) (pa_cons (pv 0) (pa_cons (pe_gl (T.gl _ (by decide +kernel))) pa_nil))) pa_nil)))))) (pss_cons (ps_set (i := 1) sc__law_kinds.nd rfl (Or.inl rfl) (pe_op op_cat (pv 1) (pe_lst (pa_cons (pe_callB call_isV rfl (T.fr _ (by decide +kernel)) (by decide +kernel) (pa_cons (pv 0) (pa_cons (pe_gl (T.gl _ (by decide +kernel))) pa_nil))) (pa_cons (pe_callB call_isV rfl (T.fr _ (by decide +kernel)) (by decide +kernel) (pa_cons (pv 0) (pa_cons (pe_gl (T.gl _ (by decide +kernel))) pa_nil))) (pa_cons (pe_callB call_isV rfl (T.fr _ (by decide +kernel)) (by decide +kernel) (pa_cons (pv 0) (pa_cons (pe_gl (T.gl _ (by decide +kernel))) pa_nil))) pa_nil)))))) (pss_cons (ps_set (i := 1) sc__law_kinds.nd rfl (Or.inl rfl) (pe_op op_cat (pv 1) (pe_lst (pa_cons (pe_callB call_isV rfl (T.fr _ (by decide +kernel)) (by decide +kernel) (pa_cons (pv 0) (pa_cons (pe_gl (T.gl _ (by decide +kernel))) pa_nil))) (pa_cons (pe_callB call_isV rfl (T.fr _ (by decide +kernel)) (by decide +kernel) (pa_cons (pv 0) (pa_cons (pe_gl (T.gl _ (by decide +kernel))) pa_nil))) (pa_cons (pe_callB call_isV rfl (T.fr _ (by decide +kernel)) (by decide +kernel) (pa_cons (pv 0) (pa_cons (pe_gl (T.gl _ (by decide +kernel))) pa_nil))) pa_nil)))))) (pss_cons (ps_set (i := 1) sc__law_kinds.nd rfl (Or.inl rfl) (pe_op op_cat (pv 1) (pe_lst (pa_cons (pe_callB call_isV rfl (T.fr _ (by decide +kernel)) (by decide +kernel) (pa_cons (pv 0) (pa_cons (pe_gl (T.gl _ (by decide +kernel))) pa_nil))) (pa_cons (pe_callB call_isV rfl (T.fr _ (by decide +kernel)) (by decide +kernel) (pa_cons (pv 0) (pa_cons (pe_gl (T.gl _ (by decide +kernel))) pa_nil))) (pa_cons (pe_callB call_isV rfl (T.fr _ (by decide +kernel)) (by decide +kernel) (pa_cons (pv 0) (pa_cons (pe_gl (T.gl _ (by decide +kernel))) pa_nil))) pa_nil)))))) (pss_cons (ps_set (i := 1) sc__law_kinds.nd rfl (Or.inl rfl) (pe_op op_cat (pv 1) (pe_lst (pa_cons (pe_callB call_isV rfl (T.fr _ (by decide +kernel)) (by decide +kernel) (pa_cons (pv 0) (pa_cons (pe_gl (T.gl _ (by decide +kernel))) pa_nil))) (pa_cons (pe_callB call_isV rfl (T.fr _ (by decide +kernel)) (by decide +kernel) (pa_cons (pv 0) (pa_cons (pe_gl (T.gl _ (by decide +kernel))) pa_nil))) (pa_cons (pe_callB call_isV rfl (T.fr _ (by decide +kernel)) (by decide +kernel) (pa_cons (pv 0) (pa_cons (pe_gl (T.gl _ (by decide +kernel))) pa_nil))) pa_nil)))))) (pss_cons (ps_set (i := 1) sc__law_kinds.nd rfl (Or.inl rfl) (pe_op op_cat (pv 1) (pe_lst (pa_cons (pe_callB call_isV rfl (T.fr _ (by decide +kernel)) (by decide +kernel) (pa_cons (pv 0) (pa_cons (pe_gl (T.gl _ (by decide +kernel))) pa_nil))) (pa_cons (pe_callB call_isV rfl (T.fr _ (by decide +kernel)) (by decide +kernel) (pa_cons (pv 0) (pa_cons (pe_gl (T.gl _ (by decide +kernel))) pa_nil))) (pa_cons (pe_callB call_isV rfl (T.fr _ (by decide +kernel)) (by decide +kernel) (pa_cons (pv 0) (pa_cons (pe_gl (T.gl _ (by decide +kernel))) pa_nil))) pa_nil)))))) (pss_cons (ps_set (i := 1) sc__law_kinds.nd rfl (Or.inl rfl) (pe_op op_cat (pv 1) (pe_lst (pa_cons (pe_callB call_isV rfl (T.fr _ (by decide +kernel)) (by decide +kernel) (pa_cons (pv 0) (pa_cons (pe_gl (T.gl _ (by decide +kernel))) pa_nil))) (pa_cons (pe_callB call_isV rfl (T.fr _ (by decide +kernel)) (by decide +kernel) (pa_cons (pv 0) (pa_cons (pe_gl (T.gl _ (by decide +kernel))) pa_nil))) (pa_cons (pe_callB call_isV rfl (T.fr _ (by decide +kernel)) (by decide +kernel) (pa_cons (pv 0) (pa_cons (pe_gl (T.gl _ (by decide +kernel))) pa_nil))) pa_nil)))))) (pss_cons (ps_set (i := 1) sc__law_kinds.nd rfl (Or.inl rfl) (pe_op op_cat (pv 1) (pe_lst (pa_cons (pe_callB call_isV rfl (T.fr _ (by decide +kernel)) (by decide +kernel) (pa_cons (pv 0) (pa_cons (pe_gl (T.gl _ (by decide +kernel))) pa_nil))) (pa_cons (pe_callB call_isV rfl (T.fr _ (by decide +kernel)) (by decide +kernel) (pa_cons (pv 0) (pa_cons (pe_gl (T.gl _ (by decide +kernel))) pa_nil))) (pa_cons (pe_callB call_isV rfl (T.fr _ (by decide +kernel)) (by decide +kernel) (pa_cons (pv 0) (pa_cons (pe_gl (T.gl _ (by decide +kernel))) pa_nil))) pa_nil)))))) (pss_cons (ps_set (i := 1) sc__law_kinds.nd rfl (Or.inl rfl) (pe_op op_cat (pv 1) (pe_lst (pa_cons (pe_callB call_isV rfl (T.fr _ (by decide +kernel)) (by decide +kernel) (pa_cons (pv 0) (pa_cons (pe_gl (T.gl _ (by decide +kernel))) pa_nil))) (pa_cons (pe_callB call_isV rfl (T.fr _ (by decide +kernel)) (by decide +kernel) (pa_cons (pv 0) (pa_cons (pe_gl (T.gl _ (by decide +kernel))) pa_nil))) (pa_cons (pe_callB call_isV rfl (T.fr _ (by decide +kernel)) (by decide +kernel) (pa_cons (pv 0) (pa_cons (pe_gl (T.gl _ (by decide +kernel))) pa_nil))) pa_nil)))))) (pss_cons (ps_set (i := 1) sc__law_kinds.nd rfl (Or.inl rfl) (pe_op op_cat (pv 1) (pe_lst (pa_cons (pe_callB call_isV rfl (T.fr _ (by decide +kernel)) (by decide +kernel) (pa_cons (pv 0) (pa_cons (pe_gl (T.gl _ (by decide +kernel))) pa_nil))) (pa_cons (pe_callB call_isV rfl (T.fr _ (by decide +kernel)) (by decide +kernel) (pa_cons (pv 0) (pa_cons (pe_gl (T.gl _ (by decide +kernel))) pa_nil))) (pa_cons (pe_callB call_isV rfl (T.fr _ (by decide +kernel)) (by decide +kernel) (pa_cons (pv 0) (pa_cons (pe_gl (T.gl _ (by decide +kernel))) pa_nil))) pa_nil)))))) (pss_cons (ps_set (i := 1) sc__law_kinds.nd rfl (Or.inl rfl) (pe_op op_cat (pv 1) (pe_lst (pa_cons (pe_callB call_isV rfl (T.fr _ (by decide +kernel)) (by decide +kernel) (pa_cons (pv 0) (pa_cons (pe_gl (T.gl _ (by decide +kernel))) pa_nil))) (pa_cons (pe_callB call_isV rfl (T.fr _ (by decide +kernel)) (by decide +kernel) (pa_cons (pv 0) (pa_cons (pe_gl (T.gl _ (by decide +kernel))) pa_nil))) (pa_cons (pe_callB call_isV rfl (T.fr _ (by decide +kernel)) (by decide +kernel) (pa_cons (pv 0) (pa_cons (pe_gl (T.gl _ (by decide +kernel))) pa_nil))) pa_nil)))))) (pss_cons (ps_set (i := 1) sc__law_kinds.nd rfl (Or.inl rfl) (pe_op op_cat (pv 1) (pe_lst (pa_cons (pe_callB call_isV rfl (T.fr _ (by decide +kernel)) (by decide +kernel) (pa_cons (pv 0) (pa_cons (pe_gl (T.gl _ (by decide +kernel))) pa_nil))) (pa_cons (pe_callB call_isV rfl (T.fr _ (by decide +kernel)) (by decide +kernel) (pa_cons (pv 0) (pa_cons (pe_gl (T.gl _ (by decide +kernel))) pa_nil))) (pa_cons (pe_callB call_isV rfl (T.fr _ (by decide +kernel)) (by decide +kernel) (pa_cons (pv 0) (pa_cons (pe_gl (T.gl _ (by decide +kernel))) pa_nil))) pa_nil)))))) (pss_one (ps_ret (pv 1)))))))))))))))), ?_⟩
    have hx := exc_k c hk
    refine ⟨_, rfl, is_done (k := k) (v := v) (he.mono (Same.refl H)) hx (.own _) (kit_k c hk (j := 0) (by decide)) ⟨_, rfl, is_done (k := k) (v := v) (he.mono (Same.refl H)) hx (.own _) (kit_k c hk (j := 1) (by decide)) ⟨_, rfl, is_done (k := k) (v := v) (he.mono (Same.refl H)) hx (.own _) (kit_k c hk (j := 2) (by decide)) ⟨(by show 3 ≤ sizeLine; decide), fun l0 hl0 => ?_⟩⟩⟩⟩
    have hS0 : Same H (upd H l0 (.lst [V.bl (0 == k), V.bl (1 == k), V.bl (2 == k)])) := NF.Same.new (Same.refl H) hl0
    have ht0 : (upd H l0 (.lst [V.bl (0 == k), V.bl (1 == k), V.bl (2 == k)])) l0 = some (.lst [V.bl (0 == k), V.bl (1 == k), V.bl (2 == k)]) := upd_same
    refine ⟨_, rfl, ⟨_, rfl, is_done (k := k) (v := v) (he.mono hS0) hx (.own _) (kit_k c hk (j := 3) (by decide)) ⟨_, rfl, is_done (k := k) (v := v) (he.mono hS0) hx (.own _) (kit_k c hk (j := 4) (by decide)) ⟨_, rfl, is_done (k := k) (v := v) (he.mono hS0) hx (.own _) (kit_k c hk (j := 5) (by decide)) ⟨(by show 3 ≤ sizeLine; decide), fun m1 hm1 => ⟨l0, m1, _, _, rfl, rfl, (by rw [upd_ne (ne_of_none ht0 hm1)]; exact ht0), upd_same, (by show 6 ≤ sizeLine; decide), fun l1 hl1 => ?_⟩⟩⟩⟩⟩⟩
    have hS1 := NF.Same.new (o := .lst [V.bl (0 == k), V.bl (1 == k), V.bl (2 == k), V.bl (3 == k), V.bl (4 == k), V.bl (5 == k)]) (NF.Same.new (o := .lst [V.bl (3 == k), V.bl (4 == k), V.bl (5 == k)]) hS0 hm1) hl1
    have ht1 := @upd_same (upd (upd H l0 (.lst [V.bl (0 == k), V.bl (1 == k), V.bl (2 == k)])) m1 (.lst [V.bl (3 == k), V.bl (4 == k), V.bl (5 == k)])) l1 (.lst [V.bl (0 == k), V.bl (1 == k), V.bl (2 == k), V.bl (3 == k), V.bl (4 == k), V.bl (5 == k)])
    refine ⟨_, rfl, ⟨_, rfl, is_done (k := k) (v := v) (he.mono hS1) hx (.own _) (kit_k c hk (j := 6) (by decide)) ⟨_, rfl, is_done (k := k) (v := v) (he.mono hS1) hx (.own _) (kit_k c hk (j := 7) (by decide)) ⟨_, rfl, is_done (k := k) (v := v) (he.mono hS1) hx (.own _) (kit_k c hk (j := 8) (by decide)) ⟨(by show 3 ≤ sizeLine; decide), fun m2 hm2 => ⟨l1, m2, _, _, rfl, rfl, (by rw [upd_ne (ne_of_none ht1 hm2)]; exact ht1), upd_same, (by show 9 ≤ sizeLine; decide), fun l2 hl2 => ?_⟩⟩⟩⟩⟩⟩
    have hS2 := NF.Same.new (o := .lst [V.bl (0 == k), V.bl (1 == k), V.bl (2 == k), V.bl (3 == k), V.bl (4 == k), V.bl (5 == k), V.bl (6 == k), V.bl (7 == k), V.bl (8 == k)]) (NF.Same.new (o := .lst [V.bl (6 == k), V.bl (7 == k), V.bl (8 == k)]) hS1 hm2) hl2
    have ht2 := @upd_same (upd (upd (upd (upd H l0 (.lst [V.bl (0 == k), V.bl (1 == k), V.bl (2 == k)])) m1 (.lst [V.bl (3 == k), V.bl (4 == k), V.bl (5 == k)])) l1 (.lst [V.bl (0 == k), V.bl (1 == k), V.bl (2 == k), V.bl (3 == k), V.bl (4 == k), V.bl (5 == k)])) m2 (.lst [V.bl (6 == k), V.bl (7 == k), V.bl (8 == k)])) l2 (.lst [V.bl (0 == k), V.bl (1 == k), V.bl (2 == k), V.bl (3 == k), V.bl (4 == k), V.bl (5 == k), V.bl (6 == k), V.bl (7 == k), V.bl (8 == k)])
    refine ⟨_, rfl, ⟨_, rfl, is_done (k := k) (v := v) (he.mono hS2) hx (.own _) (kit_k c hk (j := 9) (by decide)) ⟨_, rfl, is_done (k := k) (v := v) (he.mono hS2) hx (.own _) (kit_k c hk (j := 10) (by decide)) ⟨_, rfl, is_done (k := k) (v := v) (he.mono hS2) hx (.own _) (kit_k c hk (j := 11) (by decide)) ⟨(by show 3 ≤ sizeLine; decide), fun m3 hm3 => ⟨l2, m3, _, _, rfl, rfl, (by rw [upd_ne (ne_of_none ht2 hm3)]; exact ht2), upd_same, (by show 12 ≤ sizeLine; decide), fun l3 hl3 => ?_⟩⟩⟩⟩⟩⟩
    have hS3 := NF.Same.new (o := .lst [V.bl (0 == k), V.bl (1 == k), V.bl (2 == k), V.bl (3 == k), V.bl (4 == k), V.bl (5 == k), V.bl (6 == k), V.bl (7 == k), V.bl (8 == k), V.bl (9 == k), V.bl (10 == k), V.bl (11 == k)]) (NF.Same.new (o := .lst [V.bl (9 == k), V.bl (10 == k), V.bl (11 == k)]) hS2 hm3) hl3
    have ht3 := @upd_same (upd (upd (upd (upd (upd (upd H l0 (.lst [V.bl (0 == k), V.bl (1 == k), V.bl (2 == k)])) m1 (.lst [V.bl (3 == k), V.bl (4 == k), V.bl (5 == k)])) l1 (.lst [V.bl (0 == k), V.bl (1 == k), V.bl (2 == k), V.bl (3 == k), V.bl (4 == k), V.bl (5 == k)])) m2 (.lst [V.bl (6 == k), V.bl (7 == k), V.bl (8 == k)])) l2 (.lst [V.bl (0 == k), V.bl (1 == k), V.bl (2 == k), V.bl (3 == k), V.bl (4 == k), V.bl (5 == k), V.bl (6 == k), V.bl (7 == k), V.bl (8 == k)])) m3 (.lst [V.bl (9 == k), V.bl (10 == k), V.bl (11 == k)])) l3 (.lst [V.bl (0 == k), V.bl (1 == k), V.bl (2 == k), V.bl (3 == k), V.bl (4 == k), V.bl (5 == k), V.bl (6 == k), V.bl (7 == k), V.bl (8 == k), V.bl (9 == k), V.bl (10 == k), V.bl (11 == k)])
    refine ⟨_, rfl, ⟨_, rfl, is_done (k := k) (v := v) (he.mono hS3) hx (.own _) (kit_k c hk (j := 12) (by decide)) ⟨_, rfl, is_done (k := k) (v := v) (he.mono hS3) hx (.own _) (kit_k c hk (j := 13) (by decide)) ⟨_, rfl, is_done (k := k) (v := v) (he.mono hS3) hx (.own _) (kit_k c hk (j := 14) (by decide)) ⟨(by show 3 ≤ sizeLine; decide), fun m4 hm4 => ⟨l3, m4, _, _, rfl, rfl, (by rw [upd_ne (ne_of_none ht3 hm4)]; exact ht3), upd_same, (by show 15 ≤ sizeLine; decide), fun l4 hl4 => ?_⟩⟩⟩⟩⟩⟩
    have hS4 := NF.Same.new (o := .lst [V.bl (0 == k), V.bl (1 == k), V.bl (2 == k), V.bl (3 == k), V.bl (4 == k), V.bl (5 == k), V.bl (6 == k), V.bl (7 == k), V.bl (8 == k), V.bl (9 == k), V.bl (10 == k), V.bl (11 == k), V.bl (12 == k), V.bl (13 == k), V.bl (14 == k)]) (NF.Same.new (o := .lst [V.bl (12 == k), V.bl (13 == k), V.bl (14 == k)]) hS3 hm4) hl4
    have ht4 := @upd_same (upd (upd (upd (upd (upd (upd (upd (upd H l0 (.lst [V.bl (0 == k), V.bl (1 == k), V.bl (2 == k)])) m1 (.lst [V.bl (3 == k), V.bl (4 == k), V.bl (5 == k)])) l1 (.lst [V.bl (0 == k), V.bl (1 == k), V.bl (2 == k), V.bl (3 == k), V.bl (4 == k), V.bl (5 == k)])) m2 (.lst [V.bl (6 == k), V.bl (7 == k), V.bl (8 == k)])) l2 (.lst [V.bl (0 == k), V.bl (1 == k), V.bl (2 == k), V.bl (3 == k), V.bl (4 == k), V.bl (5 == k), V.bl (6 == k), V.bl (7 == k), V.bl (8 == k)])) m3 (.lst [V.bl (9 == k), V.bl (10 == k), V.bl (11 == k)])) l3 (.lst [V.bl (0 == k), V.bl (1 == k), V.bl (2 == k), V.bl (3 == k), V.bl (4 == k), V.bl (5 == k), V.bl (6 == k), V.bl (7 == k), V.bl (8 == k), V.bl (9 == k), V.bl (10 == k), V.bl (11 == k)])) m4 (.lst [V.bl (12 == k), V.bl (13 == k), V.bl (14 == k)])) l4 (.lst [V.bl (0 == k), V.bl (1 == k), V.bl (2 == k), V.bl (3 == k), V.bl (4 == k), V.bl (5 == k), V.bl (6 == k), V.bl (7 == k), V.bl (8 == k), V.bl (9 == k), V.bl (10 == k), V.bl (11 == k), V.bl (12 == k), V.bl (13 == k), V.bl (14 == k)])
    refine ⟨_, rfl, ⟨_, rfl, is_done (k := k) (v := v) (he.mono hS4) hx (.own _) (kit_k c hk (j := 15) (by decide)) ⟨_, rfl, is_done (k := k) (v := v) (he.mono hS4) hx (.own _) (kit_k c hk (j := 16) (by decide)) ⟨_, rfl, is_done (k := k) (v := v) (he.mono hS4) hx (.own _) (kit_k c hk (j := 17) (by decide)) ⟨(by show 3 ≤ sizeLine; decide), fun m5 hm5 => ⟨l4, m5, _, _, rfl, rfl, (by rw [upd_ne (ne_of_none ht4 hm5)]; exact ht4), upd_same, (by show 18 ≤ sizeLine; decide), fun l5 hl5 => ?_⟩⟩⟩⟩⟩⟩
    have hS5 := NF.Same.new (o := .lst [V.bl (0 == k), V.bl (1 == k), V.bl (2 == k), V.bl (3 == k), V.bl (4 == k), V.bl (5 == k), V.bl (6 == k), V.bl (7 == k), V.bl (8 == k), V.bl (9 == k), V.bl (10 == k), V.bl (11 == k), V.bl (12 == k), V.bl (13 == k), V.bl (14 == k), V.bl (15 == k), V.bl (16 == k), V.bl (17 == k)]) (NF.Same.new (o := .lst [V.bl (15 == k), V.bl (16 == k), V.bl (17 == k)]) hS4 hm5) hl5
    have ht5 := @upd_same (upd (upd (upd (upd (upd (upd (upd (upd (upd (upd H l0 (.lst [V.bl (0 == k), V.bl (1 == k), V.bl (2 == k)])) m1 (.lst [V.bl (3 == k), V.bl (4 == k), V.bl (5 == k)])) l1 (.lst [V.bl (0 == k), V.bl (1 == k), V.bl (2 == k), V.bl (3 == k), V.bl (4 == k), V.bl (5 == k)])) m2 (.lst [V.bl (6 == k), V.bl (7 == k), V.bl (8 == k)])) l2 (.lst [V.bl (0 == k), V.bl (1 == k), V.bl (2 == k), V.bl (3 == k), V.bl (4 == k), V.bl (5 == k), V.bl (6 == k), V.bl (7 == k), V.bl (8 == k)])) m3 (.lst [V.bl (9 == k), V.bl (10 == k), V.bl (11 == k)])) l3 (.lst [V.bl (0 == k), V.bl (1 == k), V.bl (2 == k), V.bl (3 == k), V.bl (4 == k), V.bl (5 == k), V.bl (6 == k), V.bl (7 == k), V.bl (8 == k), V.bl (9 == k), V.bl (10 == k), V.bl (11 == k)])) m4 (.lst [V.bl (12 == k), V.bl (13 == k), V.bl (14 == k)])) l4 (.lst [V.bl (0 == k), V.bl (1 == k), V.bl (2 == k), V.bl (3 == k), V.bl (4 == k), V.bl (5 == k), V.bl (6 == k), V.bl (7 == k), V.bl (8 == k), V.bl (9 == k), V.bl (10 == k), V.bl (11 == k), V.bl (12 == k), V.bl (13 == k), V.bl (14 == k)])) m5 (.lst [V.bl (15 == k), V.bl (16 == k), V.bl (17 == k)])) l5 (.lst [V.bl (0 == k), V.bl (1 == k), V.bl (2 == k), V.bl (3 == k), V.bl (4 == k), V.bl (5 == k), V.bl (6 == k), V.bl (7 == k), V.bl (8 == k), V.bl (9 == k), V.bl (10 == k), V.bl (11 == k), V.bl (12 == k), V.bl (13 == k), V.bl (14 == k), V.bl (15 == k), V.bl (16 == k), V.bl (17 == k)])
    refine ⟨_, rfl, ⟨_, rfl, is_done (k := k) (v := v) (he.mono hS5) hx (.own _) (kit_k c hk (j := 18) (by decide)) ⟨_, rfl, is_done (k := k) (v := v) (he.mono hS5) hx (.own _) (kit_k c hk (j := 19) (by decide)) ⟨_, rfl, is_done (k := k) (v := v) (he.mono hS5) hx (.own _) (kit_k c hk (j := 20) (by decide)) ⟨(by show 3 ≤ sizeLine; decide), fun m6 hm6 => ⟨l5, m6, _, _, rfl, rfl, (by rw [upd_ne (ne_of_none ht5 hm6)]; exact ht5), upd_same, (by show 21 ≤ sizeLine; decide), fun l6 hl6 => ?_⟩⟩⟩⟩⟩⟩
    have hS6 := NF.Same.new (o := .lst [V.bl (0 == k), V.bl (1 == k), V.bl (2 == k), V.bl (3 == k), V.bl (4 == k), V.bl (5 == k), V.bl (6 == k), V.bl (7 == k), V.bl (8 == k), V.bl (9 == k), V.bl (10 == k), V.bl (11 == k), V.bl (12 == k), V.bl (13 == k), V.bl (14 == k), V.bl (15 == k), V.bl (16 == k), V.bl (17 == k), V.bl (18 == k), V.bl (19 == k), V.bl (20 == k)]) (NF.Same.new (o := .lst [V.bl (18 == k), V.bl (19 == k), V.bl (20 == k)]) hS5 hm6) hl6
    have ht6 := @upd_same (upd (upd (upd (upd (upd (upd (upd (upd (upd (upd (upd (upd H l0 (.lst [V.bl (0 == k), V.bl (1 == k), V.bl (2 == k)])) m1 (.lst [V.bl (3 == k), V.bl (4 == k), V.bl (5 == k)])) l1 (.lst [V.bl (0 == k), V.bl (1 == k), V.bl (2 == k), V.bl (3 == k), V.bl (4 == k), V.bl (5 == k)])) m2 (.lst [V.bl (6 == k), V.bl (7 == k), V.bl (8 == k)])) l2 (.lst [V.bl (0 == k), V.bl (1 == k), V.bl (2 == k), V.bl (3 == k), V.bl (4 == k), V.bl (5 == k), V.bl (6 == k), V.bl (7 == k), V.bl (8 == k)])) m3 (.lst [V.bl (9 == k), V.bl (10 == k), V.bl (11 == k)])) l3 (.lst [V.bl (0 == k), V.bl (1 == k), V.bl (2 == k), V.bl (3 == k), V.bl (4 == k), V.bl (5 == k), V.bl (6 == k), V.bl (7 == k), V.bl (8 == k), V.bl (9 == k), V.bl (10 == k), V.bl (11 == k)])) m4 (.lst [V.bl (12 == k), V.bl (13 == k), V.bl (14 == k)])) l4 (.lst [V.bl (0 == k), V.bl (1 == k), V.bl (2 == k), V.bl (3 == k), V.bl (4 == k), V.bl (5 == k), V.bl (6 == k), V.bl (7 == k), V.bl (8 == k), V.bl (9 == k), V.bl (10 == k), V.bl (11 == k), V.bl (12 == k), V.bl (13 == k), V.bl (14 == k)])) m5 (.lst [V.bl (15 == k), V.bl (16 == k), V.bl (17 == k)])) l5 (.lst [V.bl (0 == k), V.bl (1 == k), V.bl (2 == k), V.bl (3 == k), V.bl (4 == k), V.bl (5 == k), V.bl (6 == k), V.bl (7 == k), V.bl (8 == k), V.bl (9 == k), V.bl (10 == k), V.bl (11 == k), V.bl (12 == k), V.bl (13 == k), V.bl (14 == k), V.bl (15 == k), V.bl (16 == k), V.bl (17 == k)])) m6 (.lst [V.bl (18 == k), V.bl (19 == k), V.bl (20 == k)])) l6 (.lst [V.bl (0 == k), V.bl (1 == k), V.bl (2 == k), V.bl (3 == k), V.bl (4 == k), V.bl (5 == k), V.bl (6 == k), V.bl (7 == k), V.bl (8 == k), V.bl (9 == k), V.bl (10 == k), V.bl (11 == k), V.bl (12 == k), V.bl (13 == k), V.bl (14 == k), V.bl (15 == k), V.bl (16 == k), V.bl (17 == k), V.bl (18 == k), V.bl (19 == k), V.bl (20 == k)])
    refine ⟨_, rfl, ⟨_, rfl, is_done (k := k) (v := v) (he.mono hS6) hx (.own _) (kit_k c hk (j := 21) (by decide)) ⟨_, rfl, is_done (k := k) (v := v) (he.mono hS6) hx (.own _) (kit_k c hk (j := 22) (by decide)) ⟨_, rfl, is_done (k := k) (v := v) (he.mono hS6) hx (.own _) (kit_k c hk (j := 23) (by decide)) ⟨(by show 3 ≤ sizeLine; decide), fun m7 hm7 => ⟨l6, m7, _, _, rfl, rfl, (by rw [upd_ne (ne_of_none ht6 hm7)]; exact ht6), upd_same, (by show 24 ≤ sizeLine; decide), fun l7 hl7 => ?_⟩⟩⟩⟩⟩⟩
    have hS7 := NF.Same.new (o := .lst [V.bl (0 == k), V.bl (1 == k), V.bl (2 == k), V.bl (3 == k), V.bl (4 == k), V.bl (5 == k), V.bl (6 == k), V.bl (7 == k), V.bl (8 == k), V.bl (9 == k), V.bl (10 == k), V.bl (11 == k), V.bl (12 == k), V.bl (13 == k), V.bl (14 == k), V.bl (15 == k), V.bl (16 == k), V.bl (17 == k), V.bl (18 == k), V.bl (19 == k), V.bl (20 == k), V.bl (21 == k), V.bl (22 == k), V.bl (23 == k)]) (NF.Same.new (o := .lst [V.bl (21 == k), V.bl (22 == k), V.bl (23 == k)]) hS6 hm7) hl7
    have ht7 := @upd_same (upd (upd (upd (upd (upd (upd (upd (upd (upd (upd (upd (upd (upd (upd H l0 (.lst [V.bl (0 == k), V.bl (1 == k), V.bl (2 == k)])) m1 (.lst [V.bl (3 == k), V.bl (4 == k), V.bl (5 == k)])) l1 (.lst [V.bl (0 == k), V.bl (1 == k), V.bl (2 == k), V.bl (3 == k), V.bl (4 == k), V.bl (5 == k)])) m2 (.lst [V.bl (6 == k), V.bl (7 == k), V.bl (8 == k)])) l2 (.lst [V.bl (0 == k), V.bl (1 == k), V.bl (2 == k), V.bl (3 == k), V.bl (4 == k), V.bl (5 == k), V.bl (6 == k), V.bl (7 == k), V.bl (8 == k)])) m3 (.lst [V.bl (9 == k), V.bl (10 == k), V.bl (11 == k)])) l3 (.lst [V.bl (0 == k), V.bl (1 == k), V.bl (2 == k), V.bl (3 == k), V.bl (4 == k), V.bl (5 == k), V.bl (6 == k), V.bl (7 == k), V.bl (8 == k), V.bl (9 == k), V.bl (10 == k), V.bl (11 == k)])) m4 (.lst [V.bl (12 == k), V.bl (13 == k), V.bl (14 == k)])) l4 (.lst [V.bl (0 == k), V.bl (1 == k), V.bl (2 == k), V.bl (3 == k), V.bl (4 == k), V.bl (5 == k), V.bl (6 == k), V.bl (7 == k), V.bl (8 == k), V.bl (9 == k), V.bl (10 == k), V.bl (11 == k), V.bl (12 == k), V.bl (13 == k), V.bl (14 == k)])) m5 (.lst [V.bl (15 == k), V.bl (16 == k), V.bl (17 == k)])) l5 (.lst [V.bl (0 == k), V.bl (1 == k), V.bl (2 == k), V.bl (3 == k), V.bl (4 == k), V.bl (5 == k), V.bl (6 == k), V.bl (7 == k), V.bl (8 == k), V.bl (9 == k), V.bl (10 == k), V.bl (11 == k), V.bl (12 == k), V.bl (13 == k), V.bl (14 == k), V.bl (15 == k), V.bl (16 == k), V.bl (17 == k)])) m6 (.lst [V.bl (18 == k), V.bl (19 == k), V.bl (20 == k)])) l6 (.lst [V.bl (0 == k), V.bl (1 == k), V.bl (2 == k), V.bl (3 == k), V.bl (4 == k), V.bl (5 == k), V.bl (6 == k), V.bl (7 == k), V.bl (8 == k), V.bl (9 == k), V.bl (10 == k), V.bl (11 == k), V.bl (12 == k), V.bl (13 == k), V.bl (14 == k), V.bl (15 == k), V.bl (16 == k), V.bl (17 == k), V.bl (18 == k), V.bl (19 == k), V.bl (20 == k)])) m7 (.lst [V.bl (21 == k), V.bl (22 == k), V.bl (23 == k)])) l7 (.lst [V.bl (0 == k), V.bl (1 == k), V.bl (2 == k), V.bl (3 == k), V.bl (4 == k), V.bl (5 == k), V.bl (6 == k), V.bl (7 == k), V.bl (8 == k), V.bl (9 == k), V.bl (10 == k), V.bl (11 == k), V.bl (12 == k), V.bl (13 == k), V.bl (14 == k), V.bl (15 == k), V.bl (16 == k), V.bl (17 == k), V.bl (18 == k), V.bl (19 == k), V.bl (20 == k), V.bl (21 == k), V.bl (22 == k), V.bl (23 == k)])
    refine ⟨_, rfl, ⟨_, rfl, is_done (k := k) (v := v) (he.mono hS7) hx (.own _) (kit_k c hk (j := 24) (by decide)) ⟨_, rfl, is_done (k := k) (v := v) (he.mono hS7) hx (.own _) (kit_k c hk (j := 25) (by decide)) ⟨_, rfl, is_done (k := k) (v := v) (he.mono hS7) hx (.own _) (kit_k c hk (j := 26) (by decide)) ⟨(by show 3 ≤ sizeLine; decide), fun m8 hm8 => ⟨l7, m8, _, _, rfl, rfl, (by rw [upd_ne (ne_of_none ht7 hm8)]; exact ht7), upd_same, (by show 27 ≤ sizeLine; decide), fun l8 hl8 => ?_⟩⟩⟩⟩⟩⟩
    have hS8 := NF.Same.new (o := .lst [V.bl (0 == k), V.bl (1 == k), V.bl (2 == k), V.bl (3 == k), V.bl (4 == k), V.bl (5 == k), V.bl (6 == k), V.bl (7 == k), V.bl (8 == k), V.bl (9 == k), V.bl (10 == k), V.bl (11 == k), V.bl (12 == k), V.bl (13 == k), V.bl (14 == k), V.bl (15 == k), V.bl (16 == k), V.bl (17 == k), V.bl (18 == k), V.bl (19 == k), V.bl (20 == k), V.bl (21 == k), V.bl (22 == k), V.bl (23 == k), V.bl (24 == k), V.bl (25 == k), V.bl (26 == k)]) (NF.Same.new (o := .lst [V.bl (24 == k), V.bl (25 == k), V.bl (26 == k)]) hS7 hm8) hl8
    have ht8 := @upd_same (upd (upd (upd (upd (upd (upd (upd (upd (upd (upd (upd (upd (upd (upd (upd (upd H l0 (.lst [V.bl (0 == k), V.bl (1 == k), V.bl (2 == k)])) m1 (.lst [V.bl (3 == k), V.bl (4 == k), V.bl (5 == k)])) l1 (.lst [V.bl (0 == k), V.bl (1 == k), V.bl (2 == k), V.bl (3 == k), V.bl (4 == k), V.bl (5 == k)])) m2 (.lst [V.bl (6 == k), V.bl (7 == k), V.bl (8 == k)])) l2 (.lst [V.bl (0 == k), V.bl (1 == k), V.bl (2 == k), V.bl (3 == k), V.bl (4 == k), V.bl (5 == k), V.bl (6 == k), V.bl (7 == k), V.bl (8 == k)])) m3 (.lst [V.bl (9 == k), V.bl (10 == k), V.bl (11 == k)])) l3 (.lst [V.bl (0 == k), V.bl (1 == k), V.bl (2 == k), V.bl (3 == k), V.bl (4 == k), V.bl (5 == k), V.bl (6 == k), V.bl (7 == k), V.bl (8 == k), V.bl (9 == k), V.bl (10 == k), V.bl (11 == k)])) m4 (.lst [V.bl (12 == k), V.bl (13 == k), V.bl (14 == k)])) l4 (.lst [V.bl (0 == k), V.bl (1 == k), V.bl (2 == k), V.bl (3 == k), V.bl (4 == k), V.bl (5 == k), V.bl (6 == k), V.bl (7 == k), V.bl (8 == k), V.bl (9 == k), V.bl (10 == k), V.bl (11 == k), V.bl (12 == k), V.bl (13 == k), V.bl (14 == k)])) m5 (.lst [V.bl (15 == k), V.bl (16 == k), V.bl (17 == k)])) l5 (.lst [V.bl (0 == k), V.bl (1 == k), V.bl (2 == k), V.bl (3 == k), V.bl (4 == k), V.bl (5 == k), V.bl (6 == k), V.bl (7 == k), V.bl (8 == k), V.bl (9 == k), V.bl (10 == k), V.bl (11 == k), V.bl (12 == k), V.bl (13 == k), V.bl (14 == k), V.bl (15 == k), V.bl (16 == k), V.bl (17 == k)])) m6 (.lst [V.bl (18 == k), V.bl (19 == k), V.bl (20 == k)])) l6 (.lst [V.bl (0 == k), V.bl (1 == k), V.bl (2 == k), V.bl (3 == k), V.bl (4 == k), V.bl (5 == k), V.bl (6 == k), V.bl (7 == k), V.bl (8 == k), V.bl (9 == k), V.bl (10 == k), V.bl (11 == k), V.bl (12 == k), V.bl (13 == k), V.bl (14 == k), V.bl (15 == k), V.bl (16 == k), V.bl (17 == k), V.bl (18 == k), V.bl (19 == k), V.bl (20 == k)])) m7 (.lst [V.bl (21 == k), V.bl (22 == k), V.bl (23 == k)])) l7 (.lst [V.bl (0 == k), V.bl (1 == k), V.bl (2 == k), V.bl (3 == k), V.bl (4 == k), V.bl (5 == k), V.bl (6 == k), V.bl (7 == k), V.bl (8 == k), V.bl (9 == k), V.bl (10 == k), V.bl (11 == k), V.bl (12 == k), V.bl (13 == k), V.bl (14 == k), V.bl (15 == k), V.bl (16 == k), V.bl (17 == k), V.bl (18 == k), V.bl (19 == k), V.bl (20 == k), V.bl (21 == k), V.bl (22 == k), V.bl (23 == k)])) m8 (.lst [V.bl (24 == k), V.bl (25 == k), V.bl (26 == k)])) l8 (.lst [V.bl (0 == k), V.bl (1 == k), V.bl (2 == k), V.bl (3 == k), V.bl (4 == k), V.bl (5 == k), V.bl (6 == k), V.bl (7 == k), V.bl (8 == k), V.bl (9 == k), V.bl (10 == k), V.bl (11 == k), V.bl (12 == k), V.bl (13 == k), V.bl (14 == k), V.bl (15 == k), V.bl (16 == k), V.bl (17 == k), V.bl (18 == k), V.bl (19 == k), V.bl (20 == k), V.bl (21 == k), V.bl (22 == k), V.bl (23 == k), V.bl (24 == k), V.bl (25 == k), V.bl (26 == k)])
    refine ⟨_, rfl, ⟨_, rfl, is_done (k := k) (v := v) (he.mono hS8) hx (.own _) (kit_k c hk (j := 27) (by decide)) ⟨_, rfl, is_done (k := k) (v := v) (he.mono hS8) hx (.own _) (kit_k c hk (j := 28) (by decide)) ⟨_, rfl, is_done (k := k) (v := v) (he.mono hS8) hx (.own _) (kit_k c hk (j := 29) (by decide)) ⟨(by show 3 ≤ sizeLine; decide), fun m9 hm9 => ⟨l8, m9, _, _, rfl, rfl, (by rw [upd_ne (ne_of_none ht8 hm9)]; exact ht8), upd_same, (by show 30 ≤ sizeLine; decide), fun l9 hl9 => ?_⟩⟩⟩⟩⟩⟩
    have hS9 := NF.Same.new (o := .lst [V.bl (0 == k), V.bl (1 == k), V.bl (2 == k), V.bl (3 == k), V.bl (4 == k), V.bl (5 == k), V.bl (6 == k), V.bl (7 == k), V.bl (8 == k), V.bl (9 == k), V.bl (10 == k), V.bl (11 == k), V.bl (12 == k), V.bl (13 == k), V.bl (14 == k), V.bl (15 == k), V.bl (16 == k), V.bl (17 == k), V.bl (18 == k), V.bl (19 == k), V.bl (20 == k), V.bl (21 == k), V.bl (22 == k), V.bl (23 == k), V.bl (24 == k), V.bl (25 == k), V.bl (26 == k), V.bl (27 == k), V.bl (28 == k), V.bl (29 == k)]) (NF.Same.new (o := .lst [V.bl (27 == k), V.bl (28 == k), V.bl (29 == k)]) hS8 hm9) hl9
    have ht9 := @upd_same (upd (upd (upd (upd (upd (upd (upd (upd (upd (upd (upd (upd (upd (upd (upd (upd (upd (upd H l0 (.lst [V.bl (0 == k), V.bl (1 == k), V.bl (2 == k)])) m1 (.lst [V.bl (3 == k), V.bl (4 == k), V.bl (5 == k)])) l1 (.lst [V.bl (0 == k), V.bl (1 == k), V.bl (2 == k), V.bl (3 == k), V.bl (4 == k), V.bl (5 == k)])) m2 (.lst [V.bl (6 == k), V.bl (7 == k), V.bl (8 == k)])) l2 (.lst [V.bl (0 == k), V.bl (1 == k), V.bl (2 == k), V.bl (3 == k), V.bl (4 == k), V.bl (5 == k), V.bl (6 == k), V.bl (7 == k), V.bl (8 == k)])) m3 (.lst [V.bl (9 == k), V.bl (10 == k), V.bl (11 == k)])) l3 (.lst [V.bl (0 == k), V.bl (1 == k), V.bl (2 == k), V.bl (3 == k), V.bl (4 == k), V.bl (5 == k), V.bl (6 == k), V.bl (7 == k), V.bl (8 == k), V.bl (9 == k), V.bl (10 == k), V.bl (11 == k)])) m4 (.lst [V.bl (12 == k), V.bl (13 == k), V.bl (14 == k)])) l4 (.lst [V.bl (0 == k), V.bl (1 == k), V.bl (2 == k), V.bl (3 == k), V.bl (4 == k), V.bl (5 == k), V.bl (6 == k), V.bl (7 == k), V.bl (8 == k), V.bl (9 == k), V.bl (10 == k), V.bl (11 == k), V.bl (12 == k), V.bl (13 == k), V.bl (14 == k)])) m5 (.lst [V.bl (15 == k), V.bl (16 == k), V.bl (17 == k)])) l5 (.lst [V.bl (0 == k), V.bl (1 == k), V.bl (2 == k), V.bl (3 == k), V.bl (4 == k), V.bl (5 == k), V.bl (6 == k), V.bl (7 == k), V.bl (8 == k), V.bl (9 == k), V.bl (10 == k), V.bl (11 == k), V.bl (12 == k), V.bl (13 == k), V.bl (14 == k), V.bl (15 == k), V.bl (16 == k), V.bl (17 == k)])) m6 (.lst [V.bl (18 == k), V.bl (19 == k), V.bl (20 == k)])) l6 (.lst [V.bl (0 == k), V.bl (1 == k), V.bl (2 == k), V.bl (3 == k), V.bl (4 == k), V.bl (5 == k), V.bl (6 == k), V.bl (7 == k), V.bl (8 == k), V.bl (9 == k), V.bl (10 == k), V.bl (11 == k), V.bl (12 == k), V.bl (13 == k), V.bl (14 == k), V.bl (15 == k), V.bl (16 == k), V.bl (17 == k), V.bl (18 == k), V.bl (19 == k), V.bl (20 == k)])) m7 (.lst [V.bl (21 == k), V.bl (22 == k), V.bl (23 == k)])) l7 (.lst [V.bl (0 == k), V.bl (1 == k), V.bl (2 == k), V.bl (3 == k), V.bl (4 == k), V.bl (5 == k), V.bl (6 == k), V.bl (7 == k), V.bl (8 == k), V.bl (9 == k), V.bl (10 == k), V.bl (11 == k), V.bl (12 == k), V.bl (13 == k), V.bl (14 == k), V.bl (15 == k), V.bl (16 == k), V.bl (17 == k), V.bl (18 == k), V.bl (19 == k), V.bl (20 == k), V.bl (21 == k), V.bl (22 == k), V.bl (23 == k)])) m8 (.lst [V.bl (24 == k), V.bl (25 == k), V.bl (26 == k)])) l8 (.lst [V.bl (0 == k), V.bl (1 == k), V.bl (2 == k), V.bl (3 == k), V.bl (4 == k), V.bl (5 == k), V.bl (6 == k), V.bl (7 == k), V.bl (8 == k), V.bl (9 == k), V.bl (10 == k), V.bl (11 == k), V.bl (12 == k), V.bl (13 == k), V.bl (14 == k), V.bl (15 == k), V.bl (16 == k), V.bl (17 == k), V.bl (18 == k), V.bl (19 == k), V.bl (20 == k), V.bl (21 == k), V.bl (22 == k), V.bl (23 == k), V.bl (24 == k), V.bl (25 == k), V.bl (26 == k)])) m9 (.lst [V.bl (27 == k), V.bl (28 == k), V.bl (29 == k)])) l9 (.lst [V.bl (0 == k), V.bl (1 == k), V.bl (2 == k), V.bl (3 == k), V.bl (4 == k), V.bl (5 == k), V.bl (6 == k), V.bl (7 == k), V.bl (8 == k), V.bl (9 == k), V.bl (10 == k), V.bl (11 == k), V.bl (12 == k), V.bl (13 == k), V.bl (14 == k), V.bl (15 == k), V.bl (16 == k), V.bl (17 == k), V.bl (18 == k), V.bl (19 == k), V.bl (20 == k), V.bl (21 == k), V.bl (22 == k), V.bl (23 == k), V.bl (24 == k), V.bl (25 == k), V.bl (26 == k), V.bl (27 == k), V.bl (28 == k), V.bl (29 == k)])
    refine ⟨_, rfl, ⟨_, rfl, is_done (k := k) (v := v) (he.mono hS9) hx (.own _) (kit_k c hk (j := 30) (by decide)) ⟨_, rfl, is_done (k := k) (v := v) (he.mono hS9) hx (.own _) (kit_k c hk (j := 31) (by decide)) ⟨_, rfl, is_done (k := k) (v := v) (he.mono hS9) hx (.own _) (kit_k c hk (j := 32) (by decide)) ⟨(by show 3 ≤ sizeLine; decide), fun m10 hm10 => ⟨l9, m10, _, _, rfl, rfl, (by rw [upd_ne (ne_of_none ht9 hm10)]; exact ht9), upd_same, (by show 33 ≤ sizeLine; decide), fun l10 hl10 => ?_⟩⟩⟩⟩⟩⟩
    have hS10 := NF.Same.new (o := .lst [V.bl (0 == k), V.bl (1 == k), V.bl (2 == k), V.bl (3 == k), V.bl (4 == k), V.bl (5 == k), V.bl (6 == k), V.bl (7 == k), V.bl (8 == k), V.bl (9 == k), V.bl (10 == k), V.bl (11 == k), V.bl (12 == k), V.bl (13 == k), V.bl (14 == k), V.bl (15 == k), V.bl (16 == k), V.bl (17 == k), V.bl (18 == k), V.bl (19 == k), V.bl (20 == k), V.bl (21 == k), V.bl (22 == k), V.bl (23 == k), V.bl (24 == k), V.bl (25 == k), V.bl (26 == k), V.bl (27 == k), V.bl (28 == k), V.bl (29 == k), V.bl (30 == k), V.bl (31 == k), V.bl (32 == k)]) (NF.Same.new (o := .lst [V.bl (30 == k), V.bl (31 == k), V.bl (32 == k)]) hS9 hm10) hl10
    have ht10 := @upd_same (upd (upd (upd (upd (upd (upd (upd (upd (upd (upd (upd (upd (upd (upd (upd (upd (upd (upd (upd (upd H l0 (.lst [V.bl (0 == k), V.bl (1 == k), V.bl (2 == k)])) m1 (.lst [V.bl (3 == k), V.bl (4 == k), V.bl (5 == k)])) l1 (.lst [V.bl (0 == k), V.bl (1 == k), V.bl (2 == k), V.bl (3 == k), V.bl (4 == k), V.bl (5 == k)])) m2 (.lst [V.bl (6 == k), V.bl (7 == k), V.bl (8 == k)])) l2 (.lst [V.bl (0 == k), V.bl (1 == k), V.bl (2 == k), V.bl (3 == k), V.bl (4 == k), V.bl (5 == k), V.bl (6 == k), V.bl (7 == k), V.bl (8 == k)])) m3 (.lst [V.bl (9 == k), V.bl (10 == k), V.bl (11 == k)])) l3 (.lst [V.bl (0 == k), V.bl (1 == k), V.bl (2 == k), V.bl (3 == k), V.bl (4 == k), V.bl (5 == k), V.bl (6 == k), V.bl (7 == k), V.bl (8 == k), V.bl (9 == k), V.bl (10 == k), V.bl (11 == k)])) m4 (.lst [V.bl (12 == k), V.bl (13 == k), V.bl (14 == k)])) l4 (.lst [V.bl (0 == k), V.bl (1 == k), V.bl (2 == k), V.bl (3 == k), V.bl (4 == k), V.bl (5 == k), V.bl (6 == k), V.bl (7 == k), V.bl (8 == k), V.bl (9 == k), V.bl (10 == k), V.bl (11 == k), V.bl (12 == k), V.bl (13 == k), V.bl (14 == k)])) m5 (.lst [V.bl (15 == k), V.bl (16 == k), V.bl (17 == k)])) l5 (.lst [V.bl (0 == k), V.bl (1 == k), V.bl (2 == k), V.bl (3 == k), V.bl (4 == k), V.bl (5 == k), V.bl (6 == k), V.bl (7 == k), V.bl (8 == k), V.bl (9 == k), V.bl (10 == k), V.bl (11 == k), V.bl (12 == k), V.bl (13 == k), V.bl (14 == k), V.bl (15 == k), V.bl (16 == k), V.bl (17 == k)])) m6 (.lst [V.bl (18 == k), V.bl (19 == k), V.bl (20 == k)])) l6 (.lst [V.bl (0 == k), V.bl (1 == k), V.bl (2 == k), V.bl (3 == k), V.bl (4 == k), V.bl (5 == k), V.bl (6 == k), V.bl (7 == k), V.bl (8 == k), V.bl (9 == k), V.bl (10 == k), V.bl (11 == k), V.bl (12 == k), V.bl (13 == k), V.bl (14 == k), V.bl (15 == k), V.bl (16 == k), V.bl (17 == k), V.bl (18 == k), V.bl (19 == k), V.bl (20 == k)])) m7 (.lst [V.bl (21 == k), V.bl (22 == k), V.bl (23 == k)])) l7 (.lst [V.bl (0 == k), V.bl (1 == k), V.bl (2 == k), V.bl (3 == k), V.bl (4 == k), V.bl (5 == k), V.bl (6 == k), V.bl (7 == k), V.bl (8 == k), V.bl (9 == k), V.bl (10 == k), V.bl (11 == k), V.bl (12 == k), V.bl (13 == k), V.bl (14 == k), V.bl (15 == k), V.bl (16 == k), V.bl (17 == k), V.bl (18 == k), V.bl (19 == k), V.bl (20 == k), V.bl (21 == k), V.bl (22 == k), V.bl (23 == k)])) m8 (.lst [V.bl (24 == k), V.bl (25 == k), V.bl (26 == k)])) l8 (.lst [V.bl (0 == k), V.bl (1 == k), V.bl (2 == k), V.bl (3 == k), V.bl (4 == k), V.bl (5 == k), V.bl (6 == k), V.bl (7 == k), V.bl (8 == k), V.bl (9 == k), V.bl (10 == k), V.bl (11 == k), V.bl (12 == k), V.bl (13 == k), V.bl (14 == k), V.bl (15 == k), V.bl (16 == k), V.bl (17 == k), V.bl (18 == k), V.bl (19 == k), V.bl (20 == k), V.bl (21 == k), V.bl (22 == k), V.bl (23 == k), V.bl (24 == k), V.bl (25 == k), V.bl (26 == k)])) m9 (.lst [V.bl (27 == k), V.bl (28 == k), V.bl (29 == k)])) l9 (.lst [V.bl (0 == k), V.bl (1 == k), V.bl (2 == k), V.bl (3 == k), V.bl (4 == k), V.bl (5 == k), V.bl (6 == k), V.bl (7 == k), V.bl (8 == k), V.bl (9 == k), V.bl (10 == k), V.bl (11 == k), V.bl (12 == k), V.bl (13 == k), V.bl (14 == k), V.bl (15 == k), V.bl (16 == k), V.bl (17 == k), V.bl (18 == k), V.bl (19 == k), V.bl (20 == k), V.bl (21 == k), V.bl (22 == k), V.bl (23 == k), V.bl (24 == k), V.bl (25 == k), V.bl (26 == k), V.bl (27 == k), V.bl (28 == k), V.bl (29 == k)])) m10 (.lst [V.bl (30 == k), V.bl (31 == k), V.bl (32 == k)])) l10 (.lst [V.bl (0 == k), V.bl (1 == k), V.bl (2 == k), V.bl (3 == k), V.bl (4 == k), V.bl (5 == k), V.bl (6 == k), V.bl (7 == k), V.bl (8 == k), V.bl (9 == k), V.bl (10 == k), V.bl (11 == k), V.bl (12 == k), V.bl (13 == k), V.bl (14 == k), V.bl (15 == k), V.bl (16 == k), V.bl (17 == k), V.bl (18 == k), V.bl (19 == k), V.bl (20 == k), V.bl (21 == k), V.bl (22 == k), V.bl (23 == k), V.bl (24 == k), V.bl (25 == k), V.bl (26 == k), V.bl (27 == k), V.bl (28 == k), V.bl (29 == k), V.bl (30 == k), V.bl (31 == k), V.bl (32 == k)])
    refine ⟨_, rfl, ⟨_, rfl, is_done (k := k) (v := v) (he.mono hS10) hx (.own _) (kit_k c hk (j := 33) (by decide)) ⟨_, rfl, is_done (k := k) (v := v) (he.mono hS10) hx (.own _) (kit_k c hk (j := 34) (by decide)) ⟨_, rfl, is_done (k := k) (v := v) (he.mono hS10) hx (.own _) (kit_k c hk (j := 35) (by decide)) ⟨(by show 3 ≤ sizeLine; decide), fun m11 hm11 => ⟨l10, m11, _, _, rfl, rfl, (by rw [upd_ne (ne_of_none ht10 hm11)]; exact ht10), upd_same, (by show 36 ≤ sizeLine; decide), fun l11 hl11 => ?_⟩⟩⟩⟩⟩⟩
    have hS11 := NF.Same.new (o := .lst [V.bl (0 == k), V.bl (1 == k), V.bl (2 == k), V.bl (3 == k), V.bl (4 == k), V.bl (5 == k), V.bl (6 == k), V.bl (7 == k), V.bl (8 == k), V.bl (9 == k), V.bl (10 == k), V.bl (11 == k), V.bl (12 == k), V.bl (13 == k), V.bl (14 == k), V.bl (15 == k), V.bl (16 == k), V.bl (17 == k), V.bl (18 == k), V.bl (19 == k), V.bl (20 == k), V.bl (21 == k), V.bl (22 == k), V.bl (23 == k), V.bl (24 == k), V.bl (25 == k), V.bl (26 == k), V.bl (27 == k), V.bl (28 == k), V.bl (29 == k), V.bl (30 == k), V.bl (31 == k), V.bl (32 == k), V.bl (33 == k), V.bl (34 == k), V.bl (35 == k)]) (NF.Same.new (o := .lst [V.bl (33 == k), V.bl (34 == k), V.bl (35 == k)]) hS10 hm11) hl11
    have ht11 := @upd_same (upd (upd (upd (upd (upd (upd (upd (upd (upd (upd (upd (upd (upd (upd (upd (upd (upd (upd (upd (upd (upd (upd H l0 (.lst [V.bl (0 == k), V.bl (1 == k), V.bl (2 == k)])) m1 (.lst [V.bl (3 == k), V.bl (4 == k), V.bl (5 == k)])) l1 (.lst [V.bl (0 == k), V.bl (1 == k), V.bl (2 == k), V.bl (3 == k), V.bl (4 == k), V.bl (5 == k)])) m2 (.lst [V.bl (6 == k), V.bl (7 == k), V.bl (8 == k)])) l2 (.lst [V.bl (0 == k), V.bl (1 == k), V.bl (2 == k), V.bl (3 == k), V.bl (4 == k), V.bl (5 == k), V.bl (6 == k), V.bl (7 == k), V.bl (8 == k)])) m3 (.lst [V.bl (9 == k), V.bl (10 == k), V.bl (11 == k)])) l3 (.lst [V.bl (0 == k), V.bl (1 == k), V.bl (2 == k), V.bl (3 == k), V.bl (4 == k), V.bl (5 == k), V.bl (6 == k), V.bl (7 == k), V.bl (8 == k), V.bl (9 == k), V.bl (10 == k), V.bl (11 == k)])) m4 (.lst [V.bl (12 == k), V.bl (13 == k), V.bl (14 == k)])) l4 (.lst [V.bl (0 == k), V.bl (1 == k), V.bl (2 == k), V.bl (3 == k), V.bl (4 == k), V.bl (5 == k), V.bl (6 == k), V.bl (7 == k), V.bl (8 == k), V.bl (9 == k), V.bl (10 == k), V.bl (11 == k), V.bl (12 == k), V.bl (13 == k), V.bl (14 == k)])) m5 (.lst [V.bl (15 == k), V.bl (16 == k), V.bl (17 == k)])) l5 (.lst [V.bl (0 == k), V.bl (1 == k), V.bl (2 == k), V.bl (3 == k), V.bl (4 == k), V.bl (5 == k), V.bl (6 == k), V.bl (7 == k), V.bl (8 == k), V.bl (9 == k), V.bl (10 == k), V.bl (11 == k), V.bl (12 == k), V.bl (13 == k), V.bl (14 == k), V.bl (15 == k), V.bl (16 == k), V.bl (17 == k)])) m6 (.lst [V.bl (18 == k), V.bl (19 == k), V.bl (20 == k)])) l6 (.lst [V.bl (0 == k), V.bl (1 == k), V.bl (2 == k), V.bl (3 == k), V.bl (4 == k), V.bl (5 == k), V.bl (6 == k), V.bl (7 == k), V.bl (8 == k), V.bl (9 == k), V.bl (10 == k), V.bl (11 == k), V.bl (12 == k), V.bl (13 == k), V.bl (14 == k), V.bl (15 == k), V.bl (16 == k), V.bl (17 == k), V.bl (18 == k), V.bl (19 == k), V.bl (20 == k)])) m7 (.lst [V.bl (21 == k), V.bl (22 == k), V.bl (23 == k)])) l7 (.lst [V.bl (0 == k), V.bl (1 == k), V.bl (2 == k), V.bl (3 == k), V.bl (4 == k), V.bl (5 == k), V.bl (6 == k), V.bl (7 == k), V.bl (8 == k), V.bl (9 == k), V.bl (10 == k), V.bl (11 == k), V.bl (12 == k), V.bl (13 == k), V.bl (14 == k), V.bl (15 == k), V.bl (16 == k), V.bl (17 == k), V.bl (18 == k), V.bl (19 == k), V.bl (20 == k), V.bl (21 == k), V.bl (22 == k), V.bl (23 == k)])) m8 (.lst [V.bl (24 == k), V.bl (25 == k), V.bl (26 == k)])) l8 (.lst [V.bl (0 == k), V.bl (1 == k), V.bl (2 == k), V.bl (3 == k), V.bl (4 == k), V.bl (5 == k), V.bl (6 == k), V.bl (7 == k), V.bl (8 == k), V.bl (9 == k), V.bl (10 == k), V.bl (11 == k), V.bl (12 == k), V.bl (13 == k), V.bl (14 == k), V.bl (15 == k), V.bl (16 == k), V.bl (17 == k), V.bl (18 == k), V.bl (19 == k), V.bl (20 == k), V.bl (21 == k), V.bl (22 == k), V.bl (23 == k), V.bl (24 == k), V.bl (25 == k), V.bl (26 == k)])) m9 (.lst [V.bl (27 == k), V.bl (28 == k), V.bl (29 == k)])) l9 (.lst [V.bl (0 == k), V.bl (1 == k), V.bl (2 == k), V.bl (3 == k), V.bl (4 == k), V.bl (5 == k), V.bl (6 == k), V.bl (7 == k), V.bl (8 == k), V.bl (9 == k), V.bl (10 == k), V.bl (11 == k), V.bl (12 == k), V.bl (13 == k), V.bl (14 == k), V.bl (15 == k), V.bl (16 == k), V.bl (17 == k), V.bl (18 == k), V.bl (19 == k), V.bl (20 == k), V.bl (21 == k), V.bl (22 == k), V.bl (23 == k), V.bl (24 == k), V.bl (25 == k), V.bl (26 == k), V.bl (27 == k), V.bl (28 == k), V.bl (29 == k)])) m10 (.lst [V.bl (30 == k), V.bl (31 == k), V.bl (32 == k)])) l10 (.lst [V.bl (0 == k), V.bl (1 == k), V.bl (2 == k), V.bl (3 == k), V.bl (4 == k), V.bl (5 == k), V.bl (6 == k), V.bl (7 == k), V.bl (8 == k), V.bl (9 == k), V.bl (10 == k), V.bl (11 == k), V.bl (12 == k), V.bl (13 == k), V.bl (14 == k), V.bl (15 == k), V.bl (16 == k), V.bl (17 == k), V.bl (18 == k), V.bl (19 == k), V.bl (20 == k), V.bl (21 == k), V.bl (22 == k), V.bl (23 == k), V.bl (24 == k), V.bl (25 == k), V.bl (26 == k), V.bl (27 == k), V.bl (28 == k), V.bl (29 == k), V.bl (30 == k), V.bl (31 == k), V.bl (32 == k)])) m11 (.lst [V.bl (33 == k), V.bl (34 == k), V.bl (35 == k)])) l11 (.lst [V.bl (0 == k), V.bl (1 == k), V.bl (2 == k), V.bl (3 == k), V.bl (4 == k), V.bl (5 == k), V.bl (6 == k), V.bl (7 == k), V.bl (8 == k), V.bl (9 == k), V.bl (10 == k), V.bl (11 == k), V.bl (12 == k), V.bl (13 == k), V.bl (14 == k), V.bl (15 == k), V.bl (16 == k), V.bl (17 == k), V.bl (18 == k), V.bl (19 == k), V.bl (20 == k), V.bl (21 == k), V.bl (22 == k), V.bl (23 == k), V.bl (24 == k), V.bl (25 == k), V.bl (26 == k), V.bl (27 == k), V.bl (28 == k), V.bl (29 == k), V.bl (30 == k), V.bl (31 == k), V.bl (32 == k), V.bl (33 == k), V.bl (34 == k), V.bl (35 == k)])
    refine ⟨_, rfl, ⟨_, rfl, is_done (k := k) (v := v) (he.mono hS11) hx (.own _) (kit_k c hk (j := 36) (by decide)) ⟨_, rfl, is_done (k := k) (v := v) (he.mono hS11) hx (.own _) (kit_k c hk (j := 37) (by decide)) ⟨_, rfl, is_done (k := k) (v := v) (he.mono hS11) hx (.own _) (kit_k c hk (j := 38) (by decide)) ⟨(by show 3 ≤ sizeLine; decide), fun m12 hm12 => ⟨l11, m12, _, _, rfl, rfl, (by rw [upd_ne (ne_of_none ht11 hm12)]; exact ht11), upd_same, (by show 39 ≤ sizeLine; decide), fun l12 hl12 => ?_⟩⟩⟩⟩⟩⟩
    have hS12 := NF.Same.new (o := .lst [V.bl (0 == k), V.bl (1 == k), V.bl (2 == k), V.bl (3 == k), V.bl (4 == k), V.bl (5 == k), V.bl (6 == k), V.bl (7 == k), V.bl (8 == k), V.bl (9 == k), V.bl (10 == k), V.bl (11 == k), V.bl (12 == k), V.bl (13 == k), V.bl (14 == k), V.bl (15 == k), V.bl (16 == k), V.bl (17 == k), V.bl (18 == k), V.bl (19 == k), V.bl (20 == k), V.bl (21 == k), V.bl (22 == k), V.bl (23 == k), V.bl (24 == k), V.bl (25 == k), V.bl (26 == k), V.bl (27 == k), V.bl (28 == k), V.bl (29 == k), V.bl (30 == k), V.bl (31 == k), V.bl (32 == k), V.bl (33 == k), V.bl (34 == k), V.bl (35 == k), V.bl (36 == k), V.bl (37 == k), V.bl (38 == k)]) (NF.Same.new (o := .lst [V.bl (36 == k), V.bl (37 == k), V.bl (38 == k)]) hS11 hm12) hl12
    have h0 : H l12 = none := L2.Same.free (NF.Same.new (o := .lst [V.bl (36 == k), V.bl (37 == k), V.bl (38 == k)]) hS11 hm12) hl12
    have ht12 := @upd_same (upd (upd (upd (upd (upd (upd (upd (upd (upd (upd (upd (upd (upd (upd (upd (upd (upd (upd (upd (upd (upd (upd (upd (upd H l0 (.lst [V.bl (0 == k), V.bl (1 == k), V.bl (2 == k)])) m1 (.lst [V.bl (3 == k), V.bl (4 == k), V.bl (5 == k)])) l1 (.lst [V.bl (0 == k), V.bl (1 == k), V.bl (2 == k), V.bl (3 == k), V.bl (4 == k), V.bl (5 == k)])) m2 (.lst [V.bl (6 == k), V.bl (7 == k), V.bl (8 == k)])) l2 (.lst [V.bl (0 == k), V.bl (1 == k), V.bl (2 == k), V.bl (3 == k), V.bl (4 == k), V.bl (5 == k), V.bl (6 == k), V.bl (7 == k), V.bl (8 == k)])) m3 (.lst [V.bl (9 == k), V.bl (10 == k), V.bl (11 == k)])) l3 (.lst [V.bl (0 == k), V.bl (1 == k), V.bl (2 == k), V.bl (3 == k), V.bl (4 == k), V.bl (5 == k), V.bl (6 == k), V.bl (7 == k), V.bl (8 == k), V.bl (9 == k), V.bl (10 == k), V.bl (11 == k)])) m4 (.lst [V.bl (12 == k), V.bl (13 == k), V.bl (14 == k)])) l4 (.lst [V.bl (0 == k), V.bl (1 == k), V.bl (2 == k), V.bl (3 == k), V.bl (4 == k), V.bl (5 == k), V.bl (6 == k), V.bl (7 == k), V.bl (8 == k), V.bl (9 == k), V.bl (10 == k), V.bl (11 == k), V.bl (12 == k), V.bl (13 == k), V.bl (14 == k)])) m5 (.lst [V.bl (15 == k), V.bl (16 == k), V.bl (17 == k)])) l5 (.lst [V.bl (0 == k), V.bl (1 == k), V.bl (2 == k), V.bl (3 == k), V.bl (4 == k), V.bl (5 == k), V.bl (6 == k), V.bl (7 == k), V.bl (8 == k), V.bl (9 == k), V.bl (10 == k), V.bl (11 == k), V.bl (12 == k), V.bl (13 == k), V.bl (14 == k), V.bl (15 == k), V.bl (16 == k), V.bl (17 == k)])) m6 (.lst [V.bl (18 == k), V.bl (19 == k), V.bl (20 == k)])) l6 (.lst [V.bl (0 == k), V.bl (1 == k), V.bl (2 == k), V.bl (3 == k), V.bl (4 == k), V.bl (5 == k), V.bl (6 == k), V.bl (7 == k), V.bl (8 == k), V.bl (9 == k), V.bl (10 == k), V.bl (11 == k), V.bl (12 == k), V.bl (13 == k), V.bl (14 == k), V.bl (15 == k), V.bl (16 == k), V.bl (17 == k), V.bl (18 == k), V.bl (19 == k), V.bl (20 == k)])) m7 (.lst [V.bl (21 == k), V.bl (22 == k), V.bl (23 == k)])) l7 (.lst [V.bl (0 == k), V.bl (1 == k), V.bl (2 == k), V.bl (3 == k), V.bl (4 == k), V.bl (5 == k), V.bl (6 == k), V.bl (7 == k), V.bl (8 == k), V.bl (9 == k), V.bl (10 == k), V.bl (11 == k), V.bl (12 == k), V.bl (13 == k), V.bl (14 == k), V.bl (15 == k), V.bl (16 == k), V.bl (17 == k), V.bl (18 == k), V.bl (19 == k), V.bl (20 == k), V.bl (21 == k), V.bl (22 == k), V.bl (23 == k)])) m8 (.lst [V.bl (24 == k), V.bl (25 == k), V.bl (26 == k)])) l8 (.lst [V.bl (0 == k), V.bl (1 == k), V.bl (2 == k), V.bl (3 == k), V.bl (4 == k), V.bl (5 == k), V.bl (6 == k), V.bl (7 == k), V.bl (8 == k), V.bl (9 == k), V.bl (10 == k), V.bl (11 == k), V.bl (12 == k), V.bl (13 == k), V.bl (14 == k), V.bl (15 == k), V.bl (16 == k), V.bl (17 == k), V.bl (18 == k), V.bl (19 == k), V.bl (20 == k), V.bl (21 == k), V.bl (22 == k), V.bl (23 == k), V.bl (24 == k), V.bl (25 == k), V.bl (26 == k)])) m9 (.lst [V.bl (27 == k), V.bl (28 == k), V.bl (29 == k)])) l9 (.lst [V.bl (0 == k), V.bl (1 == k), V.bl (2 == k), V.bl (3 == k), V.bl (4 == k), V.bl (5 == k), V.bl (6 == k), V.bl (7 == k), V.bl (8 == k), V.bl (9 == k), V.bl (10 == k), V.bl (11 == k), V.bl (12 == k), V.bl (13 == k), V.bl (14 == k), V.bl (15 == k), V.bl (16 == k), V.bl (17 == k), V.bl (18 == k), V.bl (19 == k), V.bl (20 == k), V.bl (21 == k), V.bl (22 == k), V.bl (23 == k), V.bl (24 == k), V.bl (25 == k), V.bl (26 == k), V.bl (27 == k), V.bl (28 == k), V.bl (29 == k)])) m10 (.lst [V.bl (30 == k), V.bl (31 == k), V.bl (32 == k)])) l10 (.lst [V.bl (0 == k), V.bl (1 == k), V.bl (2 == k), V.bl (3 == k), V.bl (4 == k), V.bl (5 == k), V.bl (6 == k), V.bl (7 == k), V.bl (8 == k), V.bl (9 == k), V.bl (10 == k), V.bl (11 == k), V.bl (12 == k), V.bl (13 == k), V.bl (14 == k), V.bl (15 == k), V.bl (16 == k), V.bl (17 == k), V.bl (18 == k), V.bl (19 == k), V.bl (20 == k), V.bl (21 == k), V.bl (22 == k), V.bl (23 == k), V.bl (24 == k), V.bl (25 == k), V.bl (26 == k), V.bl (27 == k), V.bl (28 == k), V.bl (29 == k), V.bl (30 == k), V.bl (31 == k), V.bl (32 == k)])) m11 (.lst [V.bl (33 == k), V.bl (34 == k), V.bl (35 == k)])) l11 (.lst [V.bl (0 == k), V.bl (1 == k), V.bl (2 == k), V.bl (3 == k), V.bl (4 == k), V.bl (5 == k), V.bl (6 == k), V.bl (7 == k), V.bl (8 == k), V.bl (9 == k), V.bl (10 == k), V.bl (11 == k), V.bl (12 == k), V.bl (13 == k), V.bl (14 == k), V.bl (15 == k), V.bl (16 == k), V.bl (17 == k), V.bl (18 == k), V.bl (19 == k), V.bl (20 == k), V.bl (21 == k), V.bl (22 == k), V.bl (23 == k), V.bl (24 == k), V.bl (25 == k), V.bl (26 == k), V.bl (27 == k), V.bl (28 == k), V.bl (29 == k), V.bl (30 == k), V.bl (31 == k), V.bl (32 == k), V.bl (33 == k), V.bl (34 == k), V.bl (35 == k)])) m12 (.lst [V.bl (36 == k), V.bl (37 == k), V.bl (38 == k)])) l12 (.lst [V.bl (0 == k), V.bl (1 == k), V.bl (2 == k), V.bl (3 == k), V.bl (4 == k), V.bl (5 == k), V.bl (6 == k), V.bl (7 == k), V.bl (8 == k), V.bl (9 == k), V.bl (10 == k), V.bl (11 == k), V.bl (12 == k), V.bl (13 == k), V.bl (14 == k), V.bl (15 == k), V.bl (16 == k), V.bl (17 == k), V.bl (18 == k), V.bl (19 == k), V.bl (20 == k), V.bl (21 == k), V.bl (22 == k), V.bl (23 == k), V.bl (24 == k), V.bl (25 == k), V.bl (26 == k), V.bl (27 == k), V.bl (28 == k), V.bl (29 == k), V.bl (30 == k), V.bl (31 == k), V.bl (32 == k), V.bl (33 == k), V.bl (34 == k), V.bl (35 == k), V.bl (36 == k), V.bl (37 == k), V.bl (38 == k)])
    exact ⟨_, rfl, q l12 _ h0 hS12 ht12⟩
end
end K54
set_option Elab.async false
set_option linter.all false
set_option maxRecDepth 100000
set_option maxHeartbeats 4000000
namespace K54
open PySem PySem.Spec PyProof.Rows L2 He NF

theorem in_int {k : Nat} {cs : List Nat} : inV (.int (k : Int)) (cs.map fun c => V.int ((c : Nat) : Int)) = true ↔ k ∈ cs := by
  unfold inV
  rw [List.any_map, List.any_eq_true]
  constructor
  · rintro ⟨x, hx, e⟩
    have e1 : ((x : Int) == (k : Int)) = true := e
    have e2 : (x : Int) = (k : Int) := by simpa using e1
    have e3 : x = k := by omega
    rw [← e3]
    exact hx
  · intro h
    refine ⟨k, h, ?_⟩
    show ((k : Int) == (k : Int)) = true
    simp
section
variable {P : Program} {w : World} {K : PySem.W.Frag} {mg : Str → Option Value} {base : Heap}
theorem xv_done {H : Hp} {k : Nat} {a : Addr} {v : V} {x f : Str} {Q : VK} (c : SaysM exB fn K) (he : ErrAt K H k a v) (hk : knd k = (x, some f)) (hm : (x, some f) ∈ kinds) (q : Q v H) :
    ∃ (a' C d : Addr) (fs : List (Str × V)) (v' : V), V.ref a = .ref a' ∧ XfC K C ∧ PySem.W.findIn K (.ref C) f = some none ∧ H a' = some (exo a' C (some d)) ∧ H d = some (exd d fs) ∧ fs.lookup f = some v' ∧ Q v' H := by
  unfold ErrAt at he
  rw [hk] at he
  obtain ⟨d, h1, h2⟩ := he
  obtain ⟨_, _, _, _, h5, h6⟩ := kindS c hm
  exact ⟨a, ga K x, d, _, v, rfl, xfB_ok h6, h5, h1, h2, by simp [List.lookup], q⟩
/-- what an error bears -/
def spBorne (K : PySem.W.Frag) : Sp := fun vs H Q _ => ∃ (k : Nat) (a : Addr) (v : V), vs = [.int (k : Int), .ref a] ∧ k < 39 ∧ (knd k).2 ≠ none ∧ ErrAt K H k a v ∧ ∀ H2, Same H H2 → Q v H2
/-- told and due -/
def spTruth : Sp := fun vs H Q _ => ∃ b c : Bool, vs = [.bl b, .bl c] ∧ Q (.bl (b == c)) H
theorem sc__law_borne : FnScope ["_law_way", "_law_error"] ["_law_way", "_law_error"] (defScope s_law_borne) := ⟨rfl, rfl, rfl, by decide +kernel, rfl, by decide +kernel, by decide +kernel⟩
theorem ok_borne {f : Addr} {fd : FuncData} (F : FunD K "_law_borne" "_law_borne" (defArgs s_law_borne) (defBody s_law_borne) (defScope s_law_borne) [] [] f fd) (c : SaysM exB fn K) : FnOk P w K mg base CX0 1 f fd ["_law_way", "_law_error"] (spBorne K) := by
  refine F.ok sc__law_borne (fun vs H Q E h => ?_) (fun cdv A outer s H vs Q E hr h => ?_)
  · obtain ⟨k, a, v, rfl, _⟩ := h
    rfl
  · obtain ⟨k, a, v, rfl, hk, hn, he, q⟩ := h
    refine ⟨_, PSs.nox (pss_cons (ps_if (pt_cmpR op_in_seq (pv 0) (pe_tup (pa_cons pe_int pa_nil)) rfl) (pss_one (ps_ret (pe_xv (pv 1)))) pss_nil) (pss_cons (ps_if (pt_cmpR op_in_seq (pv 0) (pe_tup (pa_cons pe_int pa_nil)) rfl) (pss_one (ps_ret (pe_xv (pv 1)))) pss_nil) (pss_cons (ps_if (pt_cmpR op_in_seq (pv 0) (pe_tup (pa_cons pe_int (pa_cons pe_int (pa_cons pe_int (pa_cons pe_int (pa_cons pe_int (pa_cons pe_int (pa_cons pe_int (pa_cons pe_int (pa_cons pe_int pa_nil)))))))))) rfl) (pss_one (ps_ret (pe_xv (pv 1)))) pss_nil) (pss_cons (ps_if (pt_cmpR op_in_seq (pv 0) (pe_tup (pa_cons pe_int pa_nil)) rfl) (pss_one (ps_ret (pe_xv (pv 1)))) pss_nil) (pss_cons (ps_if (pt_cmpR op_in_seq (pv 0) (pe_tup (pa_cons pe_int (pa_cons pe_int (pa_cons pe_int pa_nil)))) rfl) (pss_one (ps_ret (pe_xv (pv 1)))) pss_nil) (pss_cons (ps_if (pt_cmpR op_in_seq (pv 0) (pe_tup (pa_cons pe_int (pa_cons pe_int (pa_cons pe_int (pa_cons pe_int (pa_cons pe_int (pa_cons pe_int (pa_cons pe_int (pa_cons pe_int (pa_cons pe_int (pa_cons pe_int (pa_cons pe_int (pa_cons pe_int (pa_cons pe_int pa_nil)))))))))))))) rfl) (pss_one (ps_ret (pe_xv (pv 1)))) pss_nil) (pss_cons (ps_if (pt_cmpR op_in_seq (pv 0) (pe_tup (pa_cons pe_int (pa_cons pe_int (pa_cons pe_int (pa_cons pe_int pa_nil))))) rfl) (pss_one (ps_ret (pe_xv (pv 1)))) pss_nil) (pss_cons (ps_if (pt_cmpR op_in_seq (pv 0) (pe_tup (pa_cons pe_int (pa_cons pe_int (pa_cons pe_int pa_nil)))) rfl) (pss_one (ps_ret (pe_xv (pv 1)))) pss_nil) (pss_one (ps_ret pe_non)))))))))), ?_⟩
    have hS0 : Same H H := Same.refl H
    refine ⟨_, rfl, (by show 1 ≤ sizeLine; decide), fun p0 hp0 => ⟨p0, _, rfl, Or.inr (SqT.of upd_same), rfl, rfl, _, rfl, ?_⟩⟩
    have hS1 := NF.Same.new (o := .tup (([0] : List Nat).map fun c => V.int ((c : Nat) : Int))) hS0 hp0
    refine ite2 (fun h => ?_) (fun h => ?_)
    · have h2 : k ∈ ([0] : List Nat) := in_int.mp h
      simp only [List.mem_cons, List.not_mem_nil, or_false] at h2
      subst h2
      · exact ⟨_, rfl, xv_done (x := "BadText") (f := "place") c (he.mono hS1) (by decide +kernel) (by decide +kernel) (q _ hS1)⟩
    have n0 : ¬ (k ∈ ([0] : List Nat)) := fun e => h (in_int.mpr e)
    refine ⟨_, rfl, (by show 1 ≤ sizeLine; decide), fun p1 hp1 => ⟨p1, _, rfl, Or.inr (SqT.of upd_same), rfl, rfl, _, rfl, ?_⟩⟩
    have hS2 := NF.Same.new (o := .tup (([1] : List Nat).map fun c => V.int ((c : Nat) : Int))) hS1 hp1
    refine ite2 (fun h => ?_) (fun h => ?_)
    · have h2 : k ∈ ([1] : List Nat) := in_int.mp h
      simp only [List.mem_cons, List.not_mem_nil, or_false] at h2
      subst h2
      · exact ⟨_, rfl, xv_done (x := "BadLine") (f := "line") c (he.mono hS2) (by decide +kernel) (by decide +kernel) (q _ hS2)⟩
    have n1 : ¬ (k ∈ ([1] : List Nat)) := fun e => h (in_int.mpr e)
    refine ⟨_, rfl, (by show 9 ≤ sizeLine; decide), fun p2 hp2 => ⟨p2, _, rfl, Or.inr (SqT.of upd_same), rfl, rfl, _, rfl, ?_⟩⟩
    have hS3 := NF.Same.new (o := .tup (([2, 5, 12, 13, 14, 15, 16, 17, 18] : List Nat).map fun c => V.int ((c : Nat) : Int))) hS2 hp2
    refine ite2 (fun h => ?_) (fun h => ?_)
    · have h2 : k ∈ ([2, 5, 12, 13, 14, 15, 16, 17, 18] : List Nat) := in_int.mp h
      simp only [List.mem_cons, List.not_mem_nil, or_false] at h2
      rcases h2 with rfl | rfl | rfl | rfl | rfl | rfl | rfl | rfl | rfl
      · exact ⟨_, rfl, xv_done (x := "AtOdds") (f := "thing") c (he.mono hS3) (by decide +kernel) (by decide +kernel) (q _ hS3)⟩
      · exact ⟨_, rfl, xv_done (x := "NoWay") (f := "thing") c (he.mono hS3) (by decide +kernel) (by decide +kernel) (q _ hS3)⟩
      · exact ⟨_, rfl, xv_done (x := "BadCount") (f := "thing") c (he.mono hS3) (by decide +kernel) (by decide +kernel) (q _ hS3)⟩
      · exact ⟨_, rfl, xv_done (x := "BadTerm") (f := "thing") c (he.mono hS3) (by decide +kernel) (by decide +kernel) (q _ hS3)⟩
      · exact ⟨_, rfl, xv_done (x := "BadSaying") (f := "thing") c (he.mono hS3) (by decide +kernel) (by decide +kernel) (q _ hS3)⟩
      · exact ⟨_, rfl, xv_done (x := "BadInlet") (f := "thing") c (he.mono hS3) (by decide +kernel) (by decide +kernel) (q _ hS3)⟩
      · exact ⟨_, rfl, xv_done (x := "BadCourse") (f := "thing") c (he.mono hS3) (by decide +kernel) (by decide +kernel) (q _ hS3)⟩
      · exact ⟨_, rfl, xv_done (x := "Lacking") (f := "thing") c (he.mono hS3) (by decide +kernel) (by decide +kernel) (q _ hS3)⟩
      · exact ⟨_, rfl, xv_done (x := "BadClaim") (f := "thing") c (he.mono hS3) (by decide +kernel) (by decide +kernel) (q _ hS3)⟩
    have n2 : ¬ (k ∈ ([2, 5, 12, 13, 14, 15, 16, 17, 18] : List Nat)) := fun e => h (in_int.mpr e)
    refine ⟨_, rfl, (by show 1 ≤ sizeLine; decide), fun p3 hp3 => ⟨p3, _, rfl, Or.inr (SqT.of upd_same), rfl, rfl, _, rfl, ?_⟩⟩
    have hS4 := NF.Same.new (o := .tup (([3] : List Nat).map fun c => V.int ((c : Nat) : Int))) hS3 hp3
    refine ite2 (fun h => ?_) (fun h => ?_)
    · have h2 : k ∈ ([3] : List Nat) := in_int.mp h
      simp only [List.mem_cons, List.not_mem_nil, or_false] at h2
      subst h2
      · exact ⟨_, rfl, xv_done (x := "NoPace") (f := "stage") c (he.mono hS4) (by decide +kernel) (by decide +kernel) (q _ hS4)⟩
    have n3 : ¬ (k ∈ ([3] : List Nat)) := fun e => h (in_int.mpr e)
    refine ⟨_, rfl, (by show 3 ≤ sizeLine; decide), fun p4 hp4 => ⟨p4, _, rfl, Or.inr (SqT.of upd_same), rfl, rfl, _, rfl, ?_⟩⟩
    have hS5 := NF.Same.new (o := .tup (([6, 7, 8] : List Nat).map fun c => V.int ((c : Nat) : Int))) hS4 hp4
    refine ite2 (fun h => ?_) (fun h => ?_)
    · have h2 : k ∈ ([6, 7, 8] : List Nat) := in_int.mp h
      simp only [List.mem_cons, List.not_mem_nil, or_false] at h2
      rcases h2 with rfl | rfl | rfl
      · exact ⟨_, rfl, xv_done (x := "NotShift") (f := "row") c (he.mono hS5) (by decide +kernel) (by decide +kernel) (q _ hS5)⟩
      · exact ⟨_, rfl, xv_done (x := "NotWhole") (f := "row") c (he.mono hS5) (by decide +kernel) (by decide +kernel) (q _ hS5)⟩
      · exact ⟨_, rfl, xv_done (x := "Ringed") (f := "row") c (he.mono hS5) (by decide +kernel) (by decide +kernel) (q _ hS5)⟩
    have n4 : ¬ (k ∈ ([6, 7, 8] : List Nat)) := fun e => h (in_int.mpr e)
    refine ⟨_, rfl, (by show 13 ≤ sizeLine; decide), fun p5 hp5 => ⟨p5, _, rfl, Or.inr (SqT.of upd_same), rfl, rfl, _, rfl, ?_⟩⟩
    have hS6 := NF.Same.new (o := .tup (([9, 22, 23, 24, 25, 26, 27, 28, 29, 30, 31, 32, 33] : List Nat).map fun c => V.int ((c : Nat) : Int))) hS5 hp5
    refine ite2 (fun h => ?_) (fun h => ?_)
    · have h2 : k ∈ ([9, 22, 23, 24, 25, 26, 27, 28, 29, 30, 31, 32, 33] : List Nat) := in_int.mp h
      simp only [List.mem_cons, List.not_mem_nil, or_false] at h2
      rcases h2 with rfl | rfl | rfl | rfl | rfl | rfl | rfl | rfl | rfl | rfl | rfl | rfl | rfl
      · exact ⟨_, rfl, xv_done (x := "Unseen") (f := "number") c (he.mono hS6) (by decide +kernel) (by decide +kernel) (q _ hS6)⟩
      · exact ⟨_, rfl, xv_done (x := "BadTables") (f := "number") c (he.mono hS6) (by decide +kernel) (by decide +kernel) (q _ hS6)⟩
      · exact ⟨_, rfl, xv_done (x := "BadFact") (f := "number") c (he.mono hS6) (by decide +kernel) (by decide +kernel) (q _ hS6)⟩
      · exact ⟨_, rfl, xv_done (x := "BadName") (f := "number") c (he.mono hS6) (by decide +kernel) (by decide +kernel) (q _ hS6)⟩
      · exact ⟨_, rfl, xv_done (x := "BadRow") (f := "number") c (he.mono hS6) (by decide +kernel) (by decide +kernel) (q _ hS6)⟩
      · exact ⟨_, rfl, xv_done (x := "BadMakers") (f := "number") c (he.mono hS6) (by decide +kernel) (by decide +kernel) (q _ hS6)⟩
      · exact ⟨_, rfl, xv_done (x := "BadCounts") (f := "number") c (he.mono hS6) (by decide +kernel) (by decide +kernel) (q _ hS6)⟩
      · exact ⟨_, rfl, xv_done (x := "BadCourses") (f := "number") c (he.mono hS6) (by decide +kernel) (by decide +kernel) (q _ hS6)⟩
      · exact ⟨_, rfl, xv_done (x := "BadPaces") (f := "number") c (he.mono hS6) (by decide +kernel) (by decide +kernel) (q _ hS6)⟩
      · exact ⟨_, rfl, xv_done (x := "BadPlan") (f := "number") c (he.mono hS6) (by decide +kernel) (by decide +kernel) (q _ hS6)⟩
      · exact ⟨_, rfl, xv_done (x := "BadSight") (f := "number") c (he.mono hS6) (by decide +kernel) (by decide +kernel) (q _ hS6)⟩
      · exact ⟨_, rfl, xv_done (x := "BadDeed") (f := "number") c (he.mono hS6) (by decide +kernel) (by decide +kernel) (q _ hS6)⟩
      · exact ⟨_, rfl, xv_done (x := "NoClaim") (f := "number") c (he.mono hS6) (by decide +kernel) (by decide +kernel) (q _ hS6)⟩
    have n5 : ¬ (k ∈ ([9, 22, 23, 24, 25, 26, 27, 28, 29, 30, 31, 32, 33] : List Nat)) := fun e => h (in_int.mpr e)
    refine ⟨_, rfl, (by show 4 ≤ sizeLine; decide), fun p6 hp6 => ⟨p6, _, rfl, Or.inr (SqT.of upd_same), rfl, rfl, _, rfl, ?_⟩⟩
    have hS7 := NF.Same.new (o := .tup (([11, 19, 20, 21] : List Nat).map fun c => V.int ((c : Nat) : Int))) hS6 hp6
    refine ite2 (fun h => ?_) (fun h => ?_)
    · have h2 : k ∈ ([11, 19, 20, 21] : List Nat) := in_int.mp h
      simp only [List.mem_cons, List.not_mem_nil, or_false] at h2
      rcases h2 with rfl | rfl | rfl | rfl
      · exact ⟨_, rfl, xv_done (x := "TooMany") (f := "word") c (he.mono hS7) (by decide +kernel) (by decide +kernel) (q _ hS7)⟩
      · exact ⟨_, rfl, xv_done (x := "BadTable") (f := "word") c (he.mono hS7) (by decide +kernel) (by decide +kernel) (q _ hS7)⟩
      · exact ⟨_, rfl, xv_done (x := "BadMaker") (f := "word") c (he.mono hS7) (by decide +kernel) (by decide +kernel) (q _ hS7)⟩
      · exact ⟨_, rfl, xv_done (x := "BadBound") (f := "word") c (he.mono hS7) (by decide +kernel) (by decide +kernel) (q _ hS7)⟩
    have n6 : ¬ (k ∈ ([11, 19, 20, 21] : List Nat)) := fun e => h (in_int.mpr e)
    refine ⟨_, rfl, (by show 3 ≤ sizeLine; decide), fun p7 hp7 => ⟨p7, _, rfl, Or.inr (SqT.of upd_same), rfl, rfl, _, rfl, ?_⟩⟩
    have hS8 := NF.Same.new (o := .tup (([34, 35, 36] : List Nat).map fun c => V.int ((c : Nat) : Int))) hS7 hp7
    refine ite2 (fun h => ?_) (fun h => ?_)
    · have h2 : k ∈ ([34, 35, 36] : List Nat) := in_int.mp h
      simp only [List.mem_cons, List.not_mem_nil, or_false] at h2
      rcases h2 with rfl | rfl | rfl
      · exact ⟨_, rfl, xv_done (x := "Missing") (f := "name") c (he.mono hS8) (by decide +kernel) (by decide +kernel) (q _ hS8)⟩
      · exact ⟨_, rfl, xv_done (x := "Twice") (f := "name") c (he.mono hS8) (by decide +kernel) (by decide +kernel) (q _ hS8)⟩
      · exact ⟨_, rfl, xv_done (x := "Open") (f := "name") c (he.mono hS8) (by decide +kernel) (by decide +kernel) (q _ hS8)⟩
    have n7 : ¬ (k ∈ ([34, 35, 36] : List Nat)) := fun e => h (in_int.mpr e)
    exfalso
    simp only [List.mem_cons, List.not_mem_nil, or_false] at n0 n1 n2 n3 n4 n5 n6 n7
    have e : k = 4 ∨ k = 10 ∨ k = 37 ∨ k = 38 := by omega
    rcases e with rfl | rfl | rfl | rfl <;> exact hn (by decide +kernel)
theorem sc__law_truth : FnScope ["_law_told", "_law_due"] ["_law_told", "_law_due"] (defScope s_law_truth) := ⟨rfl, rfl, rfl, by decide +kernel, rfl, by decide +kernel, by decide +kernel⟩
theorem ok_truth {f : Addr} {fd : FuncData} (F : FunD K "_law_truth" "_law_truth" (defArgs s_law_truth) (defBody s_law_truth) (defScope s_law_truth) [] [] f fd) (T : Txt K mg gs fs) : FnOk P w K mg base CX0 1 f fd ["_law_told", "_law_due"] spTruth := by
  refine F.ok sc__law_truth (fun vs H Q E h => ?_) (fun cdv A outer s H vs Q E hr h => ?_)
  · obtain ⟨b, c, rfl, _⟩ := h
    rfl
  · obtain ⟨b, c, rfl, q⟩ := h
    refine ⟨_, PSs.nox (pss_one (ps_ret (pe_and (pe_callB call_isi rfl (T.fr _ (by decide +kernel)) (by decide +kernel) (pa_cons (pv 0) (pa_cons (pe_bltn (v := .ty "bool") rfl (T.fr _ (by decide +kernel)) (by decide +kernel) rfl) pa_nil))) (pe_one (pe_cmpR op_eq (pv 0) (pv 1) (nomark _)))))), ?_⟩
    refine ⟨_, rfl, _, _, _, _, true, rfl, .ty "bool", .base (.bl b), if_pos (by decide +kernel), true, rfl, ?_⟩
    refine iteT ⟨_, rfl, _, rfl, rfl, ?_⟩
    have e : decide (V.bl b = V.bl c) = (b == c) := dec_bl
    show Q (V.bl (decide (V.bl b = V.bl c))) H
    rw [e]
    exact q
end
end K54
set_option Elab.async false
set_option linter.all false
set_option maxRecDepth 100000
set_option maxHeartbeats 4000000
namespace K54
open PySem PySem.Spec PyProof.Rows L2 He NF

section
variable {P : Program} {w : World} {K : PySem.W.Frag} {mg : Str → Option Value} {base : Heap}
theorem endN (c : SaysM exB fn K) {x : Str} (h : x ∈ (["Unreadable", "Impossible"] : List Str)) : excB K (ga K x) = true ∧ PySem.W.excIn K (ga K x) He.veBase "ValueError.__new__" = true ∧ PySem.W.keepIn K (.ref (ga K x)) = true := by
  obtain ⟨q, _⟩ := ba (exs c).2.1.2
  obtain ⟨q, _⟩ := ba q
  obtain ⟨q, h3⟩ := ba (List.all_eq_true.mp q x h)
  obtain ⟨h1, h2⟩ := ba q
  exact ⟨h1, h2, h3⟩
theorem endK (c : SaysM exB fn K) : PySem.W.kitOne K (.ref (ga K "Unreadable")) (.ref (ga K "Impossible")) = some false ∧ PySem.W.kitOne K (.ref (ga K "Impossible")) (.ref (ga K "NeedforthError")) = some true := by
  obtain ⟨q, h3⟩ := ba (exs c).2.1.2
  obtain ⟨_, h2⟩ := ba q
  exact ⟨of_decide_eq_true h2, of_decide_eq_true h3⟩
theorem ixl {X : Cx} {K : PySem.W.Frag} (h : X.K = K := by rfl) : IxR X (rIxL K) := h ▸ ix_list
/-- the law's promise -/
def spLaw (K : PySem.W.Frag) : Sp := fun vs H Q _ => ∃ (l : Addr) (ns : List Int), vs = [.ref l] ∧ SqL K H l (ns.map V.int) ∧ ns.length ≤ 63 ∧ (∀ k ∈ ns, Builtin.Int.intBits k ≤ 1048576) ∧ ∀ H', Q (.bl true) H'
/-- one of the seven things -/
def Thing (H : Hp) (v : V) : Prop := v = .str "f" ∨ v = .int 7 ∨ v = .int (-1) ∨ v = .non ∨ (∃ t, v = .ref t ∧ H t = some (.tup [.str "x", .int 1])) ∨ v = .str "" ∨ v = .int 100000000000000000000
theorem Thing.same {H : Hp} {v : V} (h : Thing H v) : ∃ d, Dp K H v d ∧ SeqAt.shaped d = true ∧ PyData.eqv d d = true := by
  rcases h with rfl | rfl | rfl | rfl | ⟨t, rfl, ht⟩ | rfl | rfl
  · exact ⟨_, .str _, by decide +kernel, by decide +kernel⟩
  · exact ⟨_, .int _, by decide +kernel, by decide +kernel⟩
  · exact ⟨_, .int _, by decide +kernel, by decide +kernel⟩
  · exact ⟨_, .non, by decide +kernel, by decide +kernel⟩
  · exact ⟨_, .tup (SqT.of ht) (.cons (.str _) (.cons (.int _) .nil)), by decide +kernel, by decide +kernel⟩
  · exact ⟨_, .str _, by decide +kernel, by decide +kernel⟩
  · exact ⟨_, .int _, by decide +kernel, by decide +kernel⟩
theorem Thing.mono {H H' : Hp} {v : V} (h : Thing H v) (s : Same H H') : Thing H' v := by
  rcases h with h | h | h | h | ⟨t, h, ht⟩ | h | h
  · exact .inl h
  · exact .inr (.inl h)
  · exact .inr (.inr (.inl h))
  · exact .inr (.inr (.inr (.inl h)))
  · exact .inr (.inr (.inr (.inr (.inl ⟨t, h, s _ _ ht⟩))))
  · exact .inr (.inr (.inr (.inr (.inr (.inl h)))))
  · exact .inr (.inr (.inr (.inr (.inr (.inr h)))))
theorem bare_of : ∀ {i : Nat}, i < 39 → (knd i).2 = none → i ∈ ([4, 10, 37, 38] : List Nat) := by
  have h : ∀ i : Fin 39, (knd i.val).2 = none → i.val ∈ ([4, 10, 37, 38] : List Nat) := by decide +kernel
  exact fun {i} hi e => h ⟨i, hi⟩ e
theorem test_bare {σ : L2.St} {H : Hp} {i : Nat} {a b : Addr} {u : V} {Q : Bool → Hp → Prop} (h3 : σ[3]? = some (some (.int (i : Int)))) (h2 : σ[2]? = some (some (.ref b))) (h5 : σ[5]? = some (some (.ref a))) (h4 : σ[4]? = some (some u)) (hi : i < 39) (he : ErrAt K H i a u)
    (hb : H b = some (.tup [.int 4, .int 10, .int 37, .int 38])) (hu : Thing H u) (q : ∀ H4, Same H H4 → Q false H4) :
    tAnd (tTest (tOp (rIn K true) (tVar 3) (tVar 2))) (tTest (tOp (rNeD K) (tCall (spBorne K) [] E0 (tCons (tVar 3) (tCons (tVar 5) tNil))) (tVar 4))) σ H Q := by
  by_cases hbare : i ∈ ([4, 10, 37, 38] : List Nat)
  · refine ⟨_, h3, _, h2, b, _, rfl, Or.inr (SqT.of hb), rfl, rfl, false, ?_, iteF (q H (Same.refl H))⟩
    have z := in_int.mpr hbare
    show V.bl (!inV (.int (i : Int)) [.int 4, .int 10, .int 37, .int 38]) = .bl false
    rw [show inV (.int (i : Int)) [.int 4, .int 10, .int 37, .int 38] = true from z]
    rfl
  · have hne : (knd i).2 ≠ none := fun z => hbare (bare_of hi z)
    refine ⟨_, h3, _, h2, b, _, rfl, Or.inr (SqT.of hb), rfl, rfl, true, ?_, iteT ?_⟩
    · have z : inV (.int (i : Int)) [.int 4, .int 10, .int 37, .int 38] = false := Bool.eq_false_iff.mpr fun z => hbare (in_int.mp z)
      show V.bl (!inV (.int (i : Int)) [.int 4, .int 10, .int 37, .int 38]) = .bl true
      rw [z]
      rfl
    · refine ⟨_, h3, _, h5, i, a, u, rfl, hi, hne, he, fun H4 hS => ?_⟩
      obtain ⟨dd, hd1, hd2, hd3⟩ := (hu.mono hS).same
      exact ⟨_, h4, dd, dd, hd1, hd1, hd2, hd2, false, by rw [hd3]; rfl, q H4 hS⟩
theorem sc_law : FnScope ["_law_script", "_law_source_here", "_law_bare", "_law_way", "_law_thing", "_law_error", "_law_kinds_here", "_law_k"] ["_law_script"] (defScope slaw) := ⟨rfl, rfl, rfl, by decide +kernel, rfl, by decide +kernel, by decide +kernel⟩
theorem ok_law {f : Addr} {fd : FuncData} (F : FunD K "law" "law" (defArgs slaw) (defBody slaw) (defScope slaw) [] [] f fd) (c : SaysM exB fn K) (T : Txt K mg gs fs) (c__law_source : Cal P w K mg base 1 "_law_source" (spSource K)) (c__law_pick : Cal P w K mg base 1 "_law_pick" spPick) (c__law_one : Cal P w K mg base 4 "_law_one" (spOne K 0)) (c__law_kinds : Cal P w K mg base 1 "_law_kinds" (spKinds K)) (c__law_borne : Cal P w K mg base 1 "_law_borne" (spBorne K)) (c__law_truth : Cal P w K mg base 1 "_law_truth" spTruth) : FnOk P w K mg base CX0 5 f fd ["_law_script"] (spLaw K) := by
  refine F.ok sc_law (fun vs H Q E h => ?_) (fun cdv A outer s H vs Q E hr h => ?_)
  · obtain ⟨l, ns, rfl, _⟩ := h
    rfl
  · obtain ⟨l, ns, rfl, hl, hn, hb, q⟩ := h
    have hu : (A.deeper (envOfC "law" (defScope slaw) s.heap.objs.size f cdv)).units + 64 < cLine := by
      have := hr.un
      omega
    refine ⟨_, PSs.nox (pss_cons (ps_set (i := 1) sc_law.nd rfl (Or.inl rfl) (pe_c c__law_source hr (by decide) rfl (pa_cons (pv 0) (pa_cons pe_int pa_nil)))) (pss_cons (ps_set (i := 2) sc_law.nd rfl (Or.inl rfl) (pe_tup (pa_cons pe_int (pa_cons pe_int (pa_cons pe_int (pa_cons pe_int pa_nil)))))) (pss_cons (ps_for PassesOwn.never rfl (pi_range1 rfl (T.fr _ (by decide +kernel)) (pa_cons pe_int pa_nil)) (pg_name (i := 3) sc_law.nd rfl (Or.inr rfl)) (pss_cons (ps_set (i := 4) sc_law.nd rfl (Or.inl rfl) (pe_ix ix_list (pe_lst (pa_cons pe_str (pa_cons pe_int (pa_cons (pe_un un_neg pe_int) (pa_cons pe_non (pa_cons (pe_tup (pa_cons pe_str (pa_cons pe_int pa_nil))) (pa_cons pe_str (pa_cons (pe_op op_pow pe_int pe_int) pa_nil)))))))) (pe_c c__law_pick hr (by decide) rfl (pa_cons (pv 1) (pa_cons pe_int pa_nil))) fun _ _ => rfl)) (pss_cons (ps_set (i := 5) sc_law.nd rfl (Or.inl rfl) (pe_c c__law_one hr (by decide) rfl (pa_cons (pv 3) (pa_cons (pv 4) pa_nil)))) (pss_cons (ps_if (PW.pt (pw_or (pt_not (pt_val (pe_callB call_isV rfl (T.fr _ (by decide +kernel)) (by decide +kernel) (pa_cons (pv 5) (pa_cons (pe_bltn (v := .ty "ValueError") rfl (T.fr _ (by decide +kernel)) (by decide +kernel) rfl) pa_nil))))) (pw_or1 (pt_not (pt_val (pe_callB call_isV rfl (T.fr _ (by decide +kernel)) (by decide +kernel) (pa_cons (pv 5) (pa_cons (pe_gl (T.gl _ (by decide +kernel))) pa_nil)))))))) (pss_one (ps_ret pe_bl)) pss_nil) (pss_cons (ps_if (PW.pt (pw_and (pt_cmpR op_notIn_seq (pv 3) (pv 2) rfl) (pw_and1 (pt_cmpR (op_neD hu) (pe_c c__law_borne hr (by decide) rfl (pa_cons (pv 3) (pa_cons (pv 5) pa_nil))) (pv 4) (nomark _))))) (pss_one (ps_ret pe_bl)) pss_nil) (pss_cons (ps_set (i := 6) sc_law.nd rfl (Or.inr rfl) (pe_c c__law_kinds hr (by decide) rfl (pa_cons (pv 5) pa_nil))) (pss_cons (ps_if (pt_not (pt_val (pe_callB (cr_all rfl) rfl (T.fr _ (by decide +kernel)) (by decide +kernel) (pa_cons (pe_lc (own := [("_law_k", 7)]) rfl sc_law.nd (pi_range1 rfl (T.fr _ (by decide +kernel)) (pa_cons pe_int pa_nil)) (blkOk_by (N := ["_law_script", "_law_source_here", "_law_bare", "_law_way", "_law_thing", "_law_error", "_law_kinds_here", "_law_k"]) (sc := defScope slaw) (by decide +kernel)) (fun _ _ _ _ _ => (pg_name (i := 7) sc_law.nd rfl (Or.inl rfl))) (fun _ _ _ _ _ => pts_nil) (fun _ _ _ _ _ => (pe_c c__law_truth hr (by decide) rfl (pa_cons (pe_ix (ixl (K := K)) (pv 6) (pv 7) fun _ _ => rfl) (pa_cons (pe_cmpR op_eq (pv 7) (pv 3) (nomark _)) pa_nil))))) pa_nil)))) (pss_one (ps_ret pe_bl)) pss_nil) (pss_cons (ps_if (pt_not (pt_val (pe_c c__law_truth hr (by decide) rfl (pa_cons (pe_callB call_isV rfl (T.fr _ (by decide +kernel)) (by decide +kernel) (pa_cons (pv 5) (pa_cons (pe_gl (T.gl _ (by decide +kernel))) pa_nil))) (pa_cons (pe_cmpR op_lt (pv 3) pe_int (nomark _)) pa_nil))))) (pss_one (ps_ret pe_bl)) pss_nil) (pss_one (ps_if (pt_not (pt_val (pe_c c__law_truth hr (by decide) rfl (pa_cons (pe_callB call_isV rfl (T.fr _ (by decide +kernel)) (by decide +kernel) (pa_cons (pv 5) (pa_cons (pe_gl (T.gl _ (by decide +kernel))) pa_nil))) (pa_cons (pe_chain op_le op_lt pe_int (pv 3) pe_int) pa_nil))))) (pss_one (ps_ret pe_bl)) pss_nil)))))))))) (pss_one (ps_ret (pe_and (pe_not (pe_callB call_isV rfl (T.fr _ (by decide +kernel)) (by decide +kernel) (pa_cons (pe_exc0 (endN c (x := "Unreadable") (by decide +kernel)).2.1 (T.gl _ (by decide +kernel)) (endN c (x := "Unreadable") (by decide +kernel)).2.2 rfl) (pa_cons (pe_gl (T.gl _ (by decide +kernel))) pa_nil)))) (pe_one (pe_callB call_isV rfl (T.fr _ (by decide +kernel)) (by decide +kernel) (pa_cons (pe_exc0 (endN c (x := "Impossible") (by decide +kernel)).2.1 (T.gl _ (by decide +kernel)) (endN c (x := "Impossible") (by decide +kernel)).2.2 rfl) (pa_cons (pe_gl (T.gl _ (by decide +kernel))) pa_nil)))))))))), ?_⟩
    refine ⟨_, rfl, l, ns, 0, rfl, hl, hn, hb, by decide, fun p H1 hS1 hp hsrc => ?_⟩
    refine ⟨(by show 4 ≤ sizeLine; decide), fun b hb0 => ?_⟩
    refine ⟨39, rfl, by decide, by decide, ?_⟩
    have hpb : p ≠ b := fun e => by
      obtain ⟨_, _, _, h⟩ := hsrc
      rw [e, hb0] at h
      cases h
    have hbH : H b = none := L2.Same.free hS1 hb0
    have h0p : upd H b (.tup [.int 4, .int 10, .int 37, .int 38]) p = none := by rw [upd_ne hpb]; exact hp
    have h0b : upd H b (.tup [.int 4, .int 10, .int 37, .int 38]) b = some (.tup [.int 4, .int 10, .int 37, .int 38]) := upd_same
    have h0S : Same (upd H b (.tup [.int 4, .int 10, .int 37, .int 38])) (upd H1 b (.tup [.int 4, .int 10, .int 37, .int 38])) := fun x o e => by
      by_cases hx : x = b
      · rw [hx, upd_same] at e ⊢
        exact e
      · rw [upd_ne hx] at e ⊢
        exact hS1 x o e
    have h0s : Src (upd H1 b (.tup [.int 4, .int 10, .int 37, .int 38])) p := by
      obtain ⟨x, y, z, h⟩ := hsrc
      exact ⟨x, y, z, by rw [upd_ne hpb]; exact h⟩
    generalize hH0 : upd H b (.tup [.int 4, .int 10, .int 37, .int 38]) = H0 at h0p h0b h0S
    generalize hHs : upd H1 b (.tup [.int 4, .int 10, .int 37, .int 38]) = Hs at h0S h0s
    show ∃ W, _
    refine for_range (lo := 0) (n := 39) (fun i σ H' => Same H0 H' ∧ Src H' p ∧ ∃ w v e ks kk : Option V, σ = [some (.ref l), some (.ref p), some (.ref b), w, v, e, ks, kk])
      ⟨h0S, h0s, none, none, none, none, none, rfl⟩ ?_ ?_
    · rintro i σ H' hi ⟨hS, hs, w, v, e, ks, kk, rfl⟩
      have e0 : (0 : Int) + (i : Int) = (i : Int) := Int.zero_add _
      rw [e0]
      -- the thing
      refine ⟨_, rfl, (by show 2 ≤ sizeLine; decide), fun t ht => ⟨_, _, rfl, rfl, ⟨by decide, by decide, by decide⟩, (by show 7 ≤ sizeLine; decide), fun xs hxs => ?_⟩⟩
      have hpn : H' p ≠ none := fun z => by
        obtain ⟨_, _, _, h⟩ := hs
        rw [z] at h
        cases h
      have hpt : p ≠ t := fun z => hpn (z ▸ ht)
      have hpx : p ≠ xs := fun z => hpn (by
        rw [← z, upd_ne hpt] at hxs
        exact hxs)
      have htx : t ≠ xs := fun z => by
        rw [← z, upd_same] at hxs
        cases hxs
      have hS2 := NF.Same.new (o := .lst [.str "f", .int 7, .int (-1), .non, .ref t, .str "", .int ((10 : Int) ^ (20 : Int).toNat)]) (NF.Same.new (o := .tup [.str "x", .int 1]) hS ht) hxs
      have hs2 : Src (upd (upd H' t (.tup [.str "x", .int 1])) xs (.lst [.str "f", .int 7, .int (-1), .non, .ref t, .str "", .int ((10 : Int) ^ (20 : Int).toNat)])) p := by
        obtain ⟨x, y, z, h⟩ := hs
        exact ⟨x, y, z, by rw [upd_ne hpx, upd_ne hpt]; exact h⟩
      have hxx := @upd_same (upd H' t (.tup [.str "x", .int 1])) xs (.lst [.str "f", .int 7, .int (-1), .non, .ref t, .str "", .int ((10 : Int) ^ (20 : Int).toNat)])
      have htt : (upd (upd H' t (.tup [.str "x", .int 1])) xs (.lst [.str "f", .int 7, .int (-1), .non, .ref t, .str "", .int ((10 : Int) ^ (20 : Int).toNat)])) t = some (.tup [.str "x", .int 1]) := by rw [upd_ne htx, upd_same]
      refine ⟨_, rfl, wo _ p, p, 7, rfl, wo_same', wo_none, hs2, by decide, by decide, fun d H2 d0 d7 hw2 hs3 => ?_⟩
      have hS3 := wo_same hS2 h0p hw2
      have hx3 := hw2 _ _ ((wo_ne (Ne.symm hpx)).trans hxx)
      have ht3 := hw2 _ _ ((wo_ne (Ne.symm hpt)).trans htt)
      obtain ⟨u, hu1, hu2⟩ : ∃ u, atI [.str "f", .int 7, .int (-1), .non, .ref t, .str "", .int ((10 : Int) ^ (20 : Int).toNat)] d = some u ∧ Thing H2 u := by
        have hd : d = 0 ∨ d = 1 ∨ d = 2 ∨ d = 3 ∨ d = 4 ∨ d = 5 ∨ d = 6 := by omega
        rcases hd with rfl | rfl | rfl | rfl | rfl | rfl | rfl
        · exact ⟨_, rfl, .inl rfl⟩
        · exact ⟨_, rfl, .inr (.inl rfl)⟩
        · exact ⟨_, rfl, .inr (.inr (.inl rfl))⟩
        · exact ⟨_, rfl, .inr (.inr (.inr (.inl rfl)))⟩
        · exact ⟨_, rfl, .inr (.inr (.inr (.inr (.inl ⟨t, rfl, ht3⟩))))⟩
        · exact ⟨_, rfl, .inr (.inr (.inr (.inr (.inr (.inl rfl)))))⟩
        · exact ⟨_, rfl, .inr (.inr (.inr (.inr (.inr (.inr (by decide +kernel))))))⟩
      refine ⟨xs, _, d, u, rfl, rfl, SqL.of hx3, hu1, ?_⟩
      -- the error
      refine ⟨_, rfl, _, rfl, i, u, rfl, Nat.zero_le _, hi, fun a H3 ha hS4 he => ?_⟩
      have hx := exc_k c hi
      obtain ⟨kU, kI, kN, kV⟩ := sup_k c hi
      refine ⟨_, rfl, is_done he hx (.ty _) kV ⟨true, rfl, iteF ?_⟩⟩
      refine ⟨_, rfl, is_done he hx (.own _) kN ⟨true, rfl, iteF ?_⟩⟩
      have hS5 := Same.trans hS3 hS4
      have hs5 : Src H3 p := by
        obtain ⟨x, y, z, h⟩ := hs3
        exact ⟨x, y, z, hS4 _ _ h⟩
      have hb3 : H3 b = some (.tup [.int 4, .int 10, .int 37, .int 38]) := hS5 _ _ h0b
      refine test_bare rfl rfl rfl rfl hi he hb3 (hu2.mono hS4) fun H4 hS6 => iteF ?_
      -- of which classes it is
      refine ⟨_, rfl, i, a, u, rfl, hi, he.mono hS6, fun tk H5 htk hS7 hk5 => ?_⟩
      refine ⟨39, rfl, by decide, by decide, fun D hD => ?_⟩
      refine lc_range (lo := 0) (n := 39) (fun j G => Same H5 G ∧ G D = some (.lst ((List.replicate j true).map V.bl))) ⟨NF.Same.new (Same.refl H5) hD, upd_same⟩ ?_ ?_
      · rintro j G hj ⟨hG, hD2⟩
        have e1 : (0 : Int) + (j : Int) = (j : Int) := Int.zero_add _
        rw [e1]
        refine ⟨rfl, ?_⟩
        have hat : ((List.range 39).map fun j => V.bl (j == i))[j]? = some (V.bl (j == i)) := by
          rw [List.getElem?_map, List.getElem?_range hj] <;> rfl
        refine ⟨_, rfl, _, rfl, tk, _, _, _, rfl, rfl, SqL.of (hG _ _ hk5), atI_nat hat, _, rfl, _, rfl, rfl, _, _, rfl, ?_⟩
        have hb1 : ((j == i) == decide (V.int (j : Int) = V.int (i : Int))) = true := by
          rw [dec_int]
          by_cases z : j = i
          · rw [z]; simp
          · have z1 : (j == i) = false := by simpa using z
            have z2 : ((j : Int) == (i : Int)) = false := by
              have : (j : Int) ≠ (i : Int) := fun y => z (by omega)
              simpa using this
            rw [z1, z2]; rfl
        refine ⟨_, hD2, by rw [List.length_map, List.length_replicate]; exact Nat.lt_of_lt_of_le hj (by decide), NF.Same.mut hG hD, ?_⟩
        rw [hb1, upd_same, List.replicate_succ', List.map_append] <;> rfl
      · rintro G ⟨hG, hD2⟩
        refine ⟨D, List.replicate 39 true, rfl, SqL.of hD2, true, rfl, iteF ?_⟩
        have hS8 := Same.trans (Same.trans hS6 hS7) hG
        have he8 := he.mono hS8
        refine ⟨_, rfl, is_done he8 hx (.own _) kU ⟨_, rfl, _, _, rfl, rfl, _, _, rfl, true, ?_, iteF ?_⟩⟩
        · have z : (decide (i < 2) == decide ((i : Int) < 2)) = true := by
            by_cases y : i < 2
            · rw [decide_eq_true y, decide_eq_true (show (i : Int) < 2 by omega)]; rfl
            · rw [decide_eq_false y, decide_eq_false (show ¬ (i : Int) < 2 by omega)]; rfl
          exact congrArg V.bl z
        have hfin : Same H0 G ∧ Src G p := ⟨Same.trans hS5 hS8, hs5.mono hS8⟩
        by_cases y : 2 ≤ i
        · refine ⟨_, rfl, is_done he8 hx (.own _) kI ⟨_, rfl, _, _, rfl, rfl, true, congrArg V.bl (decide_eq_true (show (2 : Int) ≤ (i : Int) by omega)), iteT ⟨_, _, rfl, rfl, _, _, rfl, true, ?_, iteF ?_⟩⟩⟩
          · have z : ((decide (2 ≤ i) && decide (i < 11)) == decide ((i : Int) < 11)) = true := by
              rw [decide_eq_true y]
              by_cases y2 : i < 11
              · rw [decide_eq_true y2, decide_eq_true (show (i : Int) < 11 by omega)]; rfl
              · rw [decide_eq_false y2, decide_eq_false (show ¬ (i : Int) < 11 by omega)]; rfl
            exact congrArg V.bl z
          · exact ⟨hfin.1, hfin.2, _, _, _, _, _, rfl⟩
        · refine ⟨_, rfl, is_done he8 hx (.own _) kI ⟨_, rfl, _, _, rfl, rfl, false, congrArg V.bl (decide_eq_false (show ¬ (2 : Int) ≤ (i : Int) by omega)), iteF ⟨_, _, rfl, true, ?_, iteF ?_⟩⟩⟩
          · have z : ((decide (2 ≤ i) && decide (i < 11)) == false) = true := by rw [decide_eq_false y]; rfl
            exact congrArg V.bl z
          · exact ⟨hfin.1, hfin.2, _, _, _, _, _, rfl⟩
    · rintro σ H' ⟨hS, hs, w, v, e, ks, kk, rfl⟩
      obtain ⟨k1, k2⟩ := endK c
      refine fun a ha => ⟨a, _, none, _, _, false, rfl, .own _, excB_ok (endN c (x := "Unreadable") (by decide +kernel)).1, upd_same, (fun d e => nomatch e), k1, false, rfl, true, rfl, iteT ?_⟩
      exact fun a2 ha2 => ⟨a2, _, none, _, _, true, rfl, .own _, excB_ok (endN c (x := "Impossible") (by decide +kernel)).1, upd_same, (fun d e => nomatch e), k2, q _⟩

end
end K54
set_option Elab.async false
set_option linter.all false
set_option maxRecDepth 100000
set_option maxHeartbeats 0
namespace K54
open PySem PySem.Spec PyProof.Rows L2 He NF
abbrev R : PySem.W.OpenRow := PySem.W.OpenLaw.row PySem.Challenge.rw_needforth_k54_whole_errors_apart
abbrev hk : PySem.W.Hook := hookM 4 exB fn
def ob (s : PySem.W.SharedT) : He.AlD := obsMG 4 exB fn (HandSHeadRun.getT s)
theorem ob_eq (s : PySem.W.SharedT) : ob s = hk.obs s.abs := obsMG_eq (HandSHeadRun.getT_eq s)
def loose : List Str := (["__name__", "NeedforthError", "Unreadable", "Impossible", "BadText", "BadLine", "AtOdds", "NoPace", "NoHole", "NoWay", "NotShift", "NotWhole", "Ringed", "Unseen", "NothingDone", "TooMany", "BadCount", "BadTerm", "BadSaying", "BadInlet", "BadCourse", "Lacking", "BadClaim", "BadTable", "BadMaker"] : List Str) ++ (["BadBound", "BadTables", "BadFact", "BadName", "BadRow", "BadMakers", "BadCounts", "BadCourses", "BadPaces", "BadPlan", "BadSight", "BadDeed", "NoClaim", "Missing", "Twice", "Open", "BadPace", "NoWeb", "_law_source", "_law_pick", "_law_truth", "_law_one", "_law_other", "_law_kinds", "_law_borne"] : List Str)
theorem run (w : World) : HandSHeadRun.RunEq R (PySem.W.view R.prog [51]) hk ob 12000 loose w := by
  intro os
  kernel_rfl
end K54
set_option Elab.async false
set_option linter.all false
set_option maxRecDepth 100000
set_option maxHeartbeats 4000000
namespace K54
open PySem PySem.Spec PyProof.Rows L2 He NF

theorem all_ok {P : Program} {w : World} {K : PySem.W.Frag} {h : Heap} {mg : Str → Option Value} {f : Addr} (X : K.In h) (G : h.Ns mainGlobals mg) (hfa : mg ("law" : Str) = some (.ref f)) (c : SaysM exB fn K) :
    ∃ fd : FuncData, (∀ (s : Shared) (v : Value), BindsTo s fd ⟨[v], []⟩ [("_law_script", v)]) ∧ ∀ base : Heap, K.In base → base.Ns mainGlobals mg → FnOk P w K mg base CX0 5 f fd ["_law_script"] (spLaw K) := by
  have T := txt c X G
  obtain ⟨f0, F0⟩ := c.def_ 0 (d := d_law_source) rfl
  obtain ⟨f1, F1⟩ := c.def_ 1 (d := d_law_pick) rfl
  obtain ⟨f2, F2⟩ := c.def_ 2 (d := d_law_truth) rfl
  obtain ⟨f3, F3⟩ := c.def_ 3 (d := d_law_one) rfl
  obtain ⟨f4, F4⟩ := c.def_ 4 (d := d_law_other) rfl
  obtain ⟨f5, F5⟩ := c.def_ 5 (d := d_law_kinds) rfl
  obtain ⟨f6, F6⟩ := c.def_ 6 (d := d_law_borne) rfl
  obtain ⟨f7, F7⟩ := c.def_ 7 (d := dlaw) rfl
  have e := hfa.symm.trans (T.gl "law" (by decide +kernel))
  cases e
  have bl := FunD.bindsA (ps := ["_law_script"]) F7 fun _ _ _ _ _ _ us hl => match us, hl with | [_], _ => rfl
  refine ⟨f7, fun s v => bl s [v] rfl, fun base _ _ => ?_⟩
  have c0 : Cal P w K mg base 1 "_law_source" (spSource K) := Cal.mk' F0 (ok_source F0 T (by decide +kernel) (by decide +kernel) (by decide +kernel)) (T.gl _ (by decide +kernel)) (F0.bindsN fun _ _ _ _ _ _ us hl => match us, hl with | [_, _], _ => rfl)
  have c1 : Cal P w K mg base 1 "_law_pick" spPick := Cal.mk' F1 (ok_pick F1 T (by decide +kernel)) (T.gl _ (by decide +kernel)) (F1.bindsN fun _ _ _ _ _ _ us hl => match us, hl with | [_, _], _ => rfl)
  have c2 : Cal P w K mg base 1 "_law_truth" spTruth := Cal.mk' F2 (ok_truth F2 T) (T.gl _ (by decide +kernel)) (F2.bindsN fun _ _ _ _ _ _ us hl => match us, hl with | [_, _], _ => rfl)
  have c4 : Cal P w K mg base 3 "_law_other" (spOne K 20) := Cal.mk' F4 (ok_law_other F4 c T) (T.gl _ (by decide +kernel)) (F4.bindsN fun _ _ _ _ _ _ us hl => match us, hl with | [_, _], _ => rfl)
  have c3 : Cal P w K mg base 4 "_law_one" (spOne K 0) := Cal.mk' F3 (ok_law_one F3 c T c4) (T.gl _ (by decide +kernel)) (F3.bindsN fun _ _ _ _ _ _ us hl => match us, hl with | [_, _], _ => rfl)
  have c5 : Cal P w K mg base 1 "_law_kinds" (spKinds K) := Cal.mk' F5 (ok_kinds F5 c T) (T.gl _ (by decide +kernel)) (F5.bindsN fun _ _ _ _ _ _ us hl => match us, hl with | [_], _ => rfl)
  have c6 : Cal P w K mg base 1 "_law_borne" (spBorne K) := Cal.mk' F6 (ok_borne F6 c) (T.gl _ (by decide +kernel)) (F6.bindsN fun _ _ _ _ _ _ us hl => match us, hl with | [_, _], _ => rfl)
  exact ok_law F7 c T c0 c1 c3 c5 c6 c2
end K54
open PySem PySem.W PySem.Calls PyProof.Rows
theorem PySem.Challenge.cw_needforth_k54_whole_errors_apart_holds : PySem.Challenge.rw_needforth_k54_whole_errors_apart.Holds := by
  w_on; o_law
  refine HandSHeadRun.head_any (r := OpenLaw.row PySem.Challenge.rw_needforth_k54_whole_errors_apart) (q := view (OpenLaw.row PySem.Challenge.rw_needforth_k54_whole_errors_apart).prog [51]) (H := K54.hk) (ob := K54.ob) (M := 12000) (loose := K54.loose) (d := HandSHeadRun.topDef (OpenLaw.row PySem.Challenge.rw_needforth_k54_whole_errors_apart).prog 51) (kwd := []) K54.ob_eq
    (by kernel_rfl) (fun s => by kernel_rfl) K54.run (by kernel_rfl) (by kernel_rfl) (by kernel_rfl) (by rfl) (by first | assumption | decide +kernel) (by decide +kernel) ⟨rfl, rfl, rfl, rfl, rfl, by decide +kernel⟩ ?hw ?hc
  case hw => w_witness2
  case hc =>
    refine NF.walk_ofEB (l := PySem.Challenge.rw_needforth_k54_whole_errors_apart) (n := 63) (k := 5) (x := "_law_script") (CX := L2.CX0) rfl (by decide) (by kernel_rfl) ⟨rfl, by decide, by decide⟩ ?F (fun _ _ _ _ z => z)
    intro w mg fa h Y G hmg0
    obtain ⟨K, KX, c⟩ := Y
    have hmg : mg ("law" : PySem.Str) = some (.ref fa) := by
      have e : (HandSHeadRun.topDef (OpenLaw.row PySem.Challenge.rw_needforth_k54_whole_errors_apart).prog 51).name = ("law" : PySem.Str) := by kernel_rfl
      rw [← e]
      exact hmg0
    obtain ⟨fd, hb, hF⟩ := K54.all_ok (P := (PySem.Challenge.rw_needforth_k54_whole_errors_apart).prog) (w := w) KX G hmg c
    exact ⟨K, fd, K54.spLaw K, KX, hb, fun H a ns hl hbits _ hS => ⟨a, ns, rfl, hS, hl, hbits, fun _ => rfl⟩, hF⟩
