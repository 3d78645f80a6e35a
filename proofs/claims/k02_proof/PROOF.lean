import PyProof.Rows.All
import Wide.All
import OpenK.AllK
import Wide.FinOn
import PyProof.EqAt
import PyProof.EqKinds
import PyProof.TupleCall
import KE.KStateDown
import KE.KIsAll
import KE.KTryMore
import KE.KFromBytes
import HandS.ForMost
import HandS.ForExc
import HandS.IsInst
import HandS.Flow
import HandS.WideBits
import HandS.ExcInit
import HandS.ExcIs
import HandS.Head0
import HandS.Head1
import HandS.Head2
import HandS.HeadEnd
import HandS.HeadHook1
import HandS.HeadHook2
import HandS.ExcField
import HandS.ExcValue
import KE.KExcIs
import HandS.EndBits
import HandS.TupAny
import HandS.Zip
import HandS.TupMul
import HandS.Gcd
import HandS.Property
import HandS.Conv
import KE.KAssignIn
import HandS.Star
import HandS.WordsList
import PyProof.InstNe
import PySem.Challenge.RW_needforth_k02_whole_bad_tables
import HandS.WordsExc
import HandS.Style
import HandS.Head3
set_option Elab.async false
set_option linter.all false
set_option maxRecDepth 100000
set_option maxHeartbeats 4000000
/-! Facts of the top as one truth of the written part, and the head that hands them on. -/
namespace NF
open PySem PySem.Spec PyProof.Rows L2 He
def obsM (ex : PySem.W.Frag → Bool) (fn : List DefD) (K : PySem.W.Frag) : AlD := (ex K && fn.all fun d => d.ok K, fn.map fun d => fnW K d.at_)
def SaysM (ex : PySem.W.Frag → Bool) (fn : List DefD) (K : PySem.W.Frag) : Prop := obsM ex fn K = valD fn
def obsMG (n : Nat) (ex : PySem.W.Frag → Bool) (fn : List DefD) (g : Addr → Option Obj) : AlD := obsM ex fn (frG g (asD g n))
def hookM (n : Nat) (ex : PySem.W.Frag → Bool) (fn : List DefD) : PySem.W.Hook where
  α := AlD
  obs := fun s => obsMG n ex fn s.heap.get?
  val := fun _ => valD fn
  says := fun _ h => ∃ K : PySem.W.Frag, K.In h ∧ SaysM ex fn K
  of := fun _ _ e => ⟨_, frG_in, e⟩
  keeps := fun _ _ _ ⟨K, hK, c⟩ k => ⟨K, PySem.W.Frag.In.keeps hK k, c⟩
theorem obsMG_eq {n : Nat} {ex : PySem.W.Frag → Bool} {fn : List DefD} {g : Addr → Option Obj} {s : Shared} (h : ∀ a, g a = s.heap.get? a) : obsMG n ex fn g = (hookM n ex fn).obs s := by
  have e : g = s.heap.get? := funext h
  rw [e] <;> rfl
section
variable {ex : PySem.W.Frag → Bool} {fn : List DefD} {K : PySem.W.Frag}
theorem SaysM.truth (c : SaysM ex fn K) : ex K = true :=
  (ba (show (ex K && fn.all fun d => d.ok K) = true from congrArg (fun z : AlD => z.1) c)).1
theorem SaysM.def_ (c : SaysM ex fn K) (i : Nat) {d : DefD} (h : fn[i]? = some d := by rfl) : ∃ fd, FunD K d.name d.qual d.params d.body d.scope (d.dvs K) (d.kws K) (fAd K d.at_) fd := by
  have c2 := (ba (show (ex K && fn.all fun d => d.ok K) = true from congrArg (fun z : AlD => z.1) c)).2
  have e : fn.map (fun d => fnW K d.at_) = fn.map DefD.val := congrArg (fun z : AlD => z.2) c
  have e2 : (fn.map fun d => fnW K d.at_)[i]? = (fn.map DefD.val)[i]? := by rw [e]
  rw [List.getElem?_map, List.getElem?_map, h] at e2
  exact DefD.funD (Option.some.inj e2) (List.all_eq_true.mp c2 d (List.mem_of_getElem? h))
end
/-! ### an exception class of the program's own, over ValueError, by truths of the written part -/
/-- the class's own object -/
def exObjB (K : PySem.W.Frag) (C : Addr) : Bool := match K.lookup C with
  | some ⟨.type t, _, .cls cd, sl⟩ => t == "type" && (match cd.mro with
    | .ref C' :: bm => C' == C && PySem.HandSPX.refsVE bm
    | _ => false) && (cd.hasDict && !cd.hasDel) && (match sl.toList with
    | [_, _, _, _, some (.builtin n), _] => n == "ValueError.__new__"
    | _ => false)
  | _ => false
theorem exObjB_ok {K : PySem.W.Frag} {C : Addr} (h : exObjB K C = true) :
    ∃ nm q N bs bm sn sub ab col dd k0 k1 k2 k3 k5, K.lookup C = some (excClassObj nm q C N bs bm true sn sub ab col dd k0 k1 k2 k3 k5 "ValueError.__new__") ∧ PySem.HandSPX.refsVE bm = true := by
  unfold exObjB at h
  split at h
  · rename_i t dd cd sl hl
    obtain ⟨h, h4⟩ := ba h
    obtain ⟨h, h3⟩ := ba h
    obtain ⟨h1, h2⟩ := ba h
    split at h2
    · rename_i C' bm hm
      obtain ⟨h5, h6⟩ := ba h2
      split at h4
      · rename_i k0 k1 k2 k3 n k5 hs
        obtain ⟨h7, h8⟩ := ba h3
        have e1 : t = "type" := eq_of_beq h1
        have e5 : C' = C := eq_of_beq h5
        have e9 : n = "ValueError.__new__" := eq_of_beq h4
        subst e1 e5 e9
        obtain ⟨nm, bs, mro, N, q, hd, sn, sub, ab, col, hdel⟩ := cd
        dsimp only at hm h7 h8
        subst hm h7
        have hdel' : hdel = false := by
          cases hdel with
          | false => rfl
          | true => cases h8
        subst hdel'
        have hsl : sl = #[k0, k1, k2, k3, some (.builtin "ValueError.__new__"), k5] := by
          have := congrArg List.toArray hs
          simpa using this
        subst hsl
        exact ⟨nm, q, N, bs, bm, sn, sub, ab, col, dd, k0, k1, k2, k3, k5, hl, h6⟩
      · cases h4
    · cases h2
  · cases h
/-- all that making one, storing to it and raising it ask of the class -/
def oexB (K : PySem.W.Frag) (C : Addr) : Bool :=
  exObjB K C && eqO (PySem.W.findIn K (.ref C) "__setattr__") (some (some (.builtin "object.__setattr__"))) && decide (PySem.W.subIn K (.ref C) (.type "BaseException") = some true) &&
    decide (PySem.W.typeIn K (.ref C) = some (.type "type")) && PySem.W.keepIn K (.ref C)
theorem oexB_ok {K : PySem.W.Frag} {C : Addr} (h : oexB K C = true) : OexC K C := by
  obtain ⟨h, h5⟩ := ba h
  obtain ⟨h, h4⟩ := ba h
  obtain ⟨h, h3⟩ := ba h
  obtain ⟨h1, h2⟩ := ba h
  exact ⟨exObjB_ok h1, eqO_ok h2, of_decide_eq_true h3, of_decide_eq_true h4, h5⟩
/-- all that isinstance asks of an instance's class -/
def excB (K : PySem.W.Frag) (D : Addr) : Bool :=
  eqO (PySem.W.findIn K (.ref D) "__getattribute__") (some (some (.builtin "BaseException.__getattribute__"))) && eqO (PySem.W.findIn K (.ref D) "__getattr__") (some none) &&
    decide (PySem.W.subIn K (.ref D) (.type "BaseException") = some true) && PySem.W.hasDictIn K D && eqO (PySem.W.findIn K (.ref D) "__class__") (some (some (.builtin "object.__class__"))) &&
    eqO (PySem.W.specialIn K (.builtin "object.__class__") "__get__") (some (some (.builtin "getset_descriptor.__get__"))) && decide (PySem.W.takesIn K (.builtin "object.__class__") = some true) && decide (PySem.W.mroIn K D (.type "object") = some true)
theorem excB_ok {K : PySem.W.Frag} {D : Addr} (h : excB K D = true) : ExcC K D := by
  obtain ⟨h, h8⟩ := ba h
  obtain ⟨h, h7⟩ := ba h
  obtain ⟨h, h6⟩ := ba h
  obtain ⟨h, h5⟩ := ba h
  obtain ⟨h, h4⟩ := ba h
  obtain ⟨h, h3⟩ := ba h
  obtain ⟨h1, h2⟩ := ba h
  exact ⟨eqO_ok h1, eqO_ok h2, of_decide_eq_true h3, h4, eqO_ok h5, eqO_ok h6, of_decide_eq_true h7, of_decide_eq_true h8⟩
end NF
set_option Elab.async false
set_option linter.all false
set_option maxRecDepth 100000
set_option maxHeartbeats 4000000
/-! Own exceptions as values: made, asked for their class, read. -/
namespace NF
open PySem PySem.Spec PyProof.Rows L2 He
/-! ### C(e, ..) as a value: the class's own __init__ keeps sp -/
def tMkV (C : Addr) (sp : Sp) (ta : TA) : TE := fun σ H Q => ta σ H fun vs H1 => vs.length ≤ 1000 ∧ ∀ a, H1 a = none → sp (.ref a :: vs) (upd H1 a (exo a C none))
  (fun v H2 => v = .non ∧ Q (.ref a) H2) (fun _ _ _ => False)
section
variable {X : Cx} {e : Expr} {es : List Expr} {ta : TA} {p pos : Pos}
theorem pe_oex {CX : CXT} {x : Str} {C fI : Addr} {k : Nat} {fd : FuncData} {ps : List Str} {sp : Sp} (T : OexC X.K C) (iC : PySem.W.findIn X.K (.ref C) "__init__" = some (some (.ref fI))) (tI : PySem.W.typeIn X.K (.ref fI) = some (.type "function"))
    (F1 : FnOk X.prog X.w X.K X.mg X.base CX k fI fd ps sp) (hr : Room (k + 1) X.A) (hb : Binds X.K fd ps []) (hx : Passes CX X (fun _ _ _ => False)) (hg : Gl X x) (hm : X.mg x = some (.ref C)) (ha : PA X (e :: es) ta)
    (hdb : (x == ("__debug__" : Str)) = false := by decide) (he : starEach (e :: es) X.env = (false, eval e X.env) :: starEach es X.env := by rfl) (hpl : (backTo pos (starEach es X.env)).any (·.1) = false := by rfl) :
    PE X (.Call (.Name x p) (e :: es) [] pos) (tMkV C sp ta) := by
  refine ⟨fun pins s σ H Q I h => ?_⟩
  obtain ⟨nm, q, N, bs, bm, sn, sub, ab, col, dd, k0, k1, k2, k3, k5, hC, hbm⟩ := T.cls
  refine wpAny_Call_Name_kw (ld_glob I hg hm ?_ hdb)
  refine PySem.W.callWith_K (h₀ := X.base) I.ok.mod.kin T.kC (thn (ha.run pos pins s σ H _ I h) fun us s1 ⟨vs, H1, I1, r1, hz, q1⟩ => ⟨I1.kIn, ?_⟩) he hpl
  show wpAny _ _ (call (.ref C) us) _ _ _
  obtain ⟨hp, g, dr, tk, os⟩ := s1
  have hsz : hp.objs.size ≤ hp.objs.size + 1 := Nat.le_succ _
  have hn : H1 (hp.objs.size + 1) = none := I1.hok.fresh hsz
  have hq := q1 (hp.objs.size + 1) hn
  have kk : ∀ b o, hp.get? b = some o → ((hp.push (PySem.W.kdv_tup us)).push (PySem.HandSPX.excO C hp.objs.size)).get? b = some o := fun b o e => Heap.get?_push_of_some _ (Heap.get?_push_of_some _ e)
  have hget : ((hp.push (PySem.W.kdv_tup us)).push (PySem.HandSPX.excO C hp.objs.size)).get? (hp.objs.size + 1) = some (PySem.HandSPX.excO C hp.objs.size) := by heap_get
  have I2 : Inv X pins σ (upd H1 (hp.objs.size + 1) (exo (hp.objs.size + 1) C none)) ⟨(hp.push (PySem.W.kdv_tup us)).push (PySem.HandSPX.excO C hp.objs.size), g, dr, tk, os⟩ :=
    I1.laid (t' := tk) (a := hp.objs.size + 1) (o := exo (hp.objs.size + 1) C none) (h' := (hp.push (PySem.W.kdv_tup us)).push (PySem.HandSPX.excO C hp.objs.size)) kk hsz (exo_ok hget)
  have r2 : Vals (V.ref (hp.objs.size + 1) :: vs) (Value.ref (hp.objs.size + 1) :: us) := .cons rfl r1
  have hl : (Value.ref (hp.objs.size + 1) :: us ++ []).length = ps.length := by
    have e := r2.length
    rw [F1.len _ _ _ _ hq] at e
    rw [List.append_nil]
    exact e.symm
  have hus : us.length ≤ sizeLine := by
    rw [← Paired.length r1, sizeLine_eq]
    omega
  have hb' : BindsTo (⟨(hp.push (PySem.W.kdv_tup us)).push (PySem.HandSPX.excO C hp.objs.size), g, dr, tk, os⟩ : Shared) fd ⟨Value.ref (hp.objs.size + 1) :: us, []⟩ (ps.zip (Value.ref (hp.objs.size + 1) :: us)) := by
    have := hb ⟨(hp.push (PySem.W.kdv_tup us)).push (PySem.HandSPX.excO C hp.objs.size), g, dr, tk, os⟩ (Value.ref (hp.objs.size + 1) :: us) I2.kIn hl
    rw [List.append_nil] at this
    exact this
  refine wpAny_call (PySem.HandSPX.call_own F.excBase_ValueError (fun Y => PySem.HandSPX.refsVE_contains Y bm hbm) (I1.kIn _ _ hC) (PySem.W.looks_findIn I1.kIn iC) (fun self => PySem.W.bind_fn I1.kIn self tI) hus
    (codeAny_mono (F1.run _ X.stack _ _ ⟨Value.ref (hp.objs.size + 1) :: us, []⟩ (Value.ref (hp.objs.size + 1) :: us) _ _ (fun _ _ _ => False) (hr.make C us []) (I2.env0.make C us []) hb' r2 hq) fun r s' hq' => ?_))
  cases r with
  | error er => exact hx pins σ _ _ er s' I2 hq'
  | ok fl =>
    cases fl with
    | ret u =>
      obtain ⟨v, H2, os2, bare2, un2, hok2, rv, ev, q2⟩ := hq'
      subst ev
      obtain ⟨h2, g2, d2, t2, os'⟩ := s'
      exact ⟨rv, V.ref (hp.objs.size + 1), H2, I2.call' (ch := []) os2 un2 hok2 bare2 (fun b z => absurd z (by simp)), rfl, q2⟩
    | next => exact False.elim hq'
    | brk => exact False.elim hq'
    | cont => exact False.elim hq'
/-- C(), an own exception class without own __init__, as a value -/
def tMk0 (C : Addr) : TE := fun _ H Q => ∀ a, H a = none → Q (.ref a) (upd H a (exo a C none))
theorem pe_exc0 {C : Addr} {x : Str} (q : PySem.W.excIn X.K C He.veBase "ValueError.__new__" = true) (gC : X.mg x = some (.ref C)) (kC : PySem.W.keepIn X.K (.ref C) = true) (hg : Gl X x)
    (hdb : (x == ("__debug__" : Str)) = false := by decide) :
    PE X (.Call (.Name x p) [] [] pos) (tMk0 C) := by
  refine ⟨fun pins s σ H Q I h => ?_⟩
  refine wpAny_Call_Name_kw (ld_glob I hg gC ?_ hdb)
  refine PySem.W.callWith_K0 I.kIn kC ?_
  show wpAny _ _ (call (.ref C) []) _ _ _
  obtain ⟨bm, N, nm, qn, bs, hdct, sn, sub, ab, col, dd, k0, k1, k2, k3, k5, mN, hC, hN, hni, T⟩ := exc_obj I.kIn q
  obtain ⟨hp, g, dr, tk, os⟩ := s
  refine wpAny_call_exc_subT F.excBase_ValueError T hC hN hni (fun h' a hm => ?_) (Nat.zero_le _)
  have hn : H a = none := I.hok.gone hm.new
  obtain ⟨t, ht, _, _⟩ := hm.there
  exact ⟨.ref a, upd H a (exo a C none), I.laidN hm.keeps hm.new hn (exo_ok ht), rfl, h a hn⟩
/-! ### isinstance of such a value -/
def rIsV (K : PySem.W.Frag) : List V → Hp → VK → Prop := fun xs H Q => ∃ (a C : Addr) (od : Option Addr) (c : V) (u : Value) (b : Bool), xs = [.ref a, c] ∧ ClsV c u ∧ ExcC K C ∧ H a = some (exo a C od) ∧
  (∀ d, od = some d → ∃ fs, H d = some (exd d fs)) ∧ PySem.W.kitOne K (.ref C) u = some b ∧ Q (.bl b) H
theorem inst_exo {pins : List (Addr × Obj)} {σ : L2.St} {H : Hp} {s : Shared} {a C : Addr} {od : Option Addr} (I : Inv X pins σ H s) (e : H a = some (exo a C od)) (hd : ∀ d, od = some d → ∃ fs, H d = some (exd d fs)) :
    ∃ ox o, PySem.W.InstAt s.heap a ox C o := by
  obtain ⟨t1, h1⟩ := exo_at I.hok e
  cases od with
  | none => exact ⟨_, none, h1, rfl, rfl, trivial⟩
  | some d =>
    obtain ⟨fs, h2⟩ := hd d rfl
    obtain ⟨mA, hns, _⟩ := exd_at I.hok h2
    obtain ⟨o, ho, _⟩ := lookIn_ns hns
    exact ⟨_, some o, h1, rfl, rfl, ho⟩
theorem call_isV : CallR X (.builtin "isinstance") (rIsV X.K) := by
  intro pins s σ H xs us Q I r h
  obtain ⟨a, C, od, c, u, b, rfl, k, T, e, hd, hk, q⟩ := h
  obtain ⟨u1, u2, rfl, r1, r2⟩ := vals2 r
  have e2 := k.eq r2
  subst e2
  cases (show u1 = Value.ref a from r1)
  obtain ⟨ox, o, J⟩ := inst_exo I e hd
  have hcl : (PySem.W.clsIn X.K C).isSome = true := by
    obtain ⟨cd, hc, _⟩ := PySem.W.any_some T.hd
    rw [hc] <;> rfl
  exact PySem.W.kia_one (PySem.W.kitx_exc (ox := ox) (od := o) hcl T.hg T.hk T.hs T.ha T.hn T.ht T.hm) I.kIn J hk (fun z => nomatch z) fun tk => ⟨.bl b, H, I.tok tk, rfl, q⟩
/-! ### its field -/
def tXv (K : PySem.W.Frag) (f : Str) (te : TE) : TE := fun σ H Q => te σ H fun x H1 => ∃ (a C d : Addr) (fs : List (Str × V)) (v : V), x = .ref a ∧ XfC K C ∧ PySem.W.findIn K (.ref C) f = some none ∧ H1 a = some (exo a C (some d)) ∧ H1 d = some (exd d fs) ∧ fs.lookup f = some v ∧ Q v H1
theorem pe_xv {n : Str} {te : TE} (he : PE X e te) (hb : attributeBase e n X.env (eval e X.env) = eval e X.env := by rfl) : PE X (.Attribute e n pos) (tXv X.K n te) := by
  refine ⟨fun pins s σ H Q I h => ?_⟩
  refine attr_of hb (thn (he.run pins s σ H _ I h) fun u s1 hh => ?_)
  obtain ⟨x, H1, I1, rx, a, C, d, fs, v, ex, T, hno, ea, ed, l, q⟩ := hh
  subst ex
  obtain rfl : u = Value.ref a := rx
  obtain ⟨t1, h1⟩ := exo_at I1.hok ea
  obtain ⟨mA, hns, hr⟩ := exd_at I1.hok ed
  obtain ⟨od, ho, hl⟩ := lookIn_ns hns
  obtain ⟨u, hu, ru⟩ := RelO.some_of (v := v) (o := mA n) (by rw [← l]; exact hr n)
  have J : PySem.W.InstAt s1.heap a _ C (some od) := ⟨h1, rfl, rfl, ho⟩
  exact HandSPX.exc_get I1.kIn J T.ga T.gg T.exC (PySem.W.findObj_own T.hdC hno rfl (by rw [hl, hu])) (handed_of ru) ⟨v, H1, I1.tok _, ru, q⟩
end
end NF
set_option Elab.async false
set_option linter.all false
set_option maxRecDepth 100000
set_option maxHeartbeats 4000000
/-! What each law's own helpers keep: the source of draws. -/
namespace NF
open PySem PySem.Spec PyProof.Rows L2 He
/-- the names that a def reads off the module: those that stand for an object of the written part, those that are still Python's own -/
structure Txt (K : PySem.W.Frag) (mg : Str → Option Value) (gs fs : List Str) : Prop where
  gl : ∀ x, x ∈ gs → mg x = some (.ref (ga K x))
  fr : ∀ x, x ∈ fs → mg x = none
/-- a source of draws at p: three ints -/
def Src (H : Hp) (p : Addr) : Prop := ∃ a s c : Int, H p = some (.lst [.int a, .int s, .int c])
/-- a draw: some number from 0 below m; all but the source stands (H0: what the caller wants to stand) -/
def spPick : Sp := fun vs H Q _ => ∃ (H0 : Hp) (p : Addr) (m : Int), vs = [.ref p, .int m] ∧ Same H0 H ∧ H0 p = none ∧ Src H p ∧ 0 < m ∧ m < 1073741824 ∧
  ∀ d H', 0 ≤ d → d < m → Same H0 H' → Src H' p → Q (.int d) H'
/-- a new source of the script -/
def spSource (K : PySem.W.Frag) : Sp := fun vs H Q _ => ∃ (l : Addr) (ns : List Int) (i : Nat), vs = [.ref l, .int (i : Int)] ∧ SqL K H l (ns.map V.int) ∧ ns.length ≤ 63 ∧ (∀ k ∈ ns, Builtin.Int.intBits k ≤ 1048576) ∧ i < 1000 ∧
  ∀ p H', Same H H' → H p = none → Src H' p → Q (.ref p) H'
theorem Same.put {H0 H : Hp} {p : Addr} {o : HO} (h : Same H0 H) (n : H0 p = none) : Same H0 (upd H p o) := fun b u e => by
  rw [upd_ne (ne_of_none e n)]
  exact h b u e
theorem Same.new {H0 H : Hp} {p : Addr} {o : HO} (h : Same H0 H) (n : H p = none) : Same H0 (upd H p o) := NF.Same.put h (L2.Same.free h n)
/-- a def that may be called by its name; it lets nothing out -/
structure Cal (P : Program) (w : World) (K : PySem.W.Frag) (mg : Str → Option Value) (base : Heap) (k : Nat) (x : Str) (sp : Sp) : Prop where
  ex : ∃ (f : Addr) (fd : FuncData) (ps : List Str), FnOk P w K mg base CX0 k f fd ps sp ∧ mg x = some (.ref f) ∧ PySem.W.keepIn K (.ref f) = true ∧ Binds K fd ps []
theorem pe_c {X : Cx} {k j : Nat} {x : Str} {sp : Sp} {e : Expr} {es : List Expr} {t : TA} {p pos : Pos} (c : Cal X.prog X.w X.K X.mg X.base k x sp) (hr : Room j X.A) (hk : k ≤ j) (hg : Gl X x) (ha : PA X (e :: es) t)
    (hdb : (x == ("__debug__" : Str)) = false := by decide) (he : starEach (e :: es) X.env = (false, eval e X.env) :: starEach es X.env := by rfl) (hpl : (backTo pos (starEach es X.env)).any (·.1) = false := by rfl) :
    PE X (.Call (.Name x p) (e :: es) [] pos) (tCall sp [] E0 t) := by
  obtain ⟨f, fd, ps, F, hm, kp, b⟩ := c.ex
  exact pe_call F (hr.mono hk) hg hm kp b .nil pass0 ha hdb he hpl
theorem Cal.mk' {P : Program} {w : World} {K : PySem.W.Frag} {mg : Str → Option Value} {base : Heap} {k : Nat} {x q : Str} {pa : Arguments} {bd : List Stmt} {sc : Scope} {sp : Sp} {f : Addr} {fd : FuncData} {ps : List Str}
    (F : FunD K x q pa bd sc [] [] f fd) (ok : FnOk P w K mg base CX0 k f fd ps sp) (hm : mg x = some (.ref f)) (b : Binds K fd ps []) : Cal P w K mg base k x sp := ⟨f, fd, ps, ok, hm, F.kp, b⟩
theorem at0 {x y z : V} : atI [x, y, z] 0 = some x := rfl
theorem at1 {x y z : V} : atI [x, y, z] 1 = some y := rfl
theorem at2 {x y z : V} : atI [x, y, z] 2 = some z := rfl
end NF
namespace NF
open PySem PySem.Spec PyProof.Rows L2 He
/-- the heap without p -/
def wo (H : Hp) (p : Addr) : Hp := fun a => if a = p then none else H a
theorem wo_none {H : Hp} {p : Addr} : wo H p p = none := if_pos rfl
theorem wo_ne {H : Hp} {p a : Addr} (h : a ≠ p) : wo H p a = H a := if_neg h
theorem wo_same' {H : Hp} {p : Addr} : Same (wo H p) H := fun a o e => by
  by_cases h : a = p
  · rw [h, wo_none] at e
    cases e
  · rw [wo_ne h] at e
    exact e
theorem wo_same {H0 H H' : Hp} {p : Addr} (s : Same H0 H) (n : H0 p = none) (s' : Same (wo H p) H') : Same H0 H' := fun a o e =>
  s' a o ((wo_ne (ne_of_none e n)).trans (s a o e))
theorem Same.mut {H0 H : Hp} {p : Addr} {o : HO} (h : Same H0 H) (n : H0 p = none) : Same H0 (upd H p o) := NF.Same.put h n
theorem Src.mono {H H' : Hp} {p : Addr} (h : Src H p) (s : Same H H') : Src H' p := by
  obtain ⟨x, y, z, h⟩ := h
  exact ⟨x, y, z, s _ _ h⟩
end NF
namespace NF
open PySem PySem.Spec PyProof.Rows L2 He
theorem walk_ofEB {l : PySem.W.OpenLaw} {n k : Nat} {q : Program} {loose : List Str} {XP : (Str → Option Value) → Heap → Prop} {YP : World → Heap → Prop} {d : DefRec} {CX : CXT} {x : Str}
    (hn : l.most = some n) (hn2 : n ≤ sizeLine) (hdf : d.params.defaults = []) (hr : Room k callerA)
    (F : ∀ (w : World) (mg : Str → Option Value) (fa : Addr) (h : Heap), YP w h → h.Ns mainGlobals mg → mg d.name = some (.ref fa) →
      ∃ (K : PySem.W.Frag) (fd : FuncData) (sp : Sp), K.In h ∧ (∀ (s : Shared) (u : Value), BindsTo s fd ⟨[u], []⟩ [(x, u)]) ∧
        (∀ (H : Hp) (a : Addr) (ns : List Int), ns.length ≤ n → (∀ z ∈ ns, Builtin.Int.intBits z ≤ 1048576) → Only H → SqL K H a (ns.map V.int) → sp [.ref a] H (fun v _ => v = .bl true) fun _ _ _ => False) ∧
        ∀ base : Heap, K.In base → base.Ns mainGlobals mg → FnOk l.prog w K mg base CX k fa fd [x] sp)
    (hCX : ∀ (H : Hp) (s : Shared) (e : Value) (s' : Shared), CX [] H s (fun _ _ _ => False) e s' → False) :
    PySem.W.WalkO q loose XP YP l.row.toRowW d [] (fun f vs => PySem.call f vs) := by
  refine Att.attach_callB hn hdf fun w s₀ s₁ mg mb fa o pm cd doc a vs ns G Y ho hd hcd hmg hobj hints hlen hbits hg => ?_
  obtain ⟨K, fd, sp, KX, hb, hsp, hF⟩ := F w mg fa _ Y G.T.g hmg
  exact law_call KX G.T.g G.T.b G.T.builtins G.T.nolimit hg hobj hints (Nat.le_trans hlen hn2) hr hF hb (fun H hO hS => hsp H a ns hlen hbits hO hS) fun H e s' => hCX H s₁ e s'
end NF
set_option linter.all false
/-! Tables as plain Lean: head, loop, rise; the plain form is the only one. -/
namespace NT
/-- what a loop tells, from its first place on -/
def walk (l : List Int) (r : Int) (k : Nat) : Int := l.getD (k % l.length) 0 + r * ((k / l.length : Nat) : Int)
/-- the value at n, from 1 on; none: never -/
def at_ (h l : List Int) (r : Int) (n : Nat) : Option Int :=
  if n ≤ h.length then some (h.getD (n - 1) 0) else if l = [] then none else some (walk l r (n - h.length - 1))
/-- m steps on the values are a fixed number more -/
def Per (f : Nat → Int) (m : Nat) : Prop := ∃ c, ∀ k, f (k + m) = f k + c
def LoopMin (l : List Int) (r : Int) : Prop := ∀ m, 0 < m → m ∣ l.length → Per (walk l r) m → m = l.length
def HeadMin (h l : List Int) (r : Int) : Prop := ∀ k, h.length = k + 1 → h.getD k 0 + r ≠ l.getD (l.length - 1) 0

theorem walk_add {l : List Int} {r : Int} (hl : 0 < l.length) (k : Nat) : walk l r (k + l.length) = walk l r k + r := by
  unfold walk
  rw [Nat.add_mod_right, Nat.add_div_right _ hl]
  rw [Int.natCast_add, Int.mul_add]
  omega
theorem walk_add_mul {l : List Int} {r : Int} (hl : 0 < l.length) (k j : Nat) : walk l r (k + l.length * j) = walk l r k + r * (j : Int) := by
  induction j with
  | zero => simp
  | succ j ih =>
    rw [Nat.mul_succ, ← Nat.add_assoc, walk_add hl, ih, Int.natCast_add, Int.mul_add]
    omega
theorem walk_lt {l : List Int} {r : Int} {k : Nat} (h : k < l.length) : walk l r k = l.getD k 0 := by
  unfold walk
  rw [Nat.mod_eq_of_lt h, Nat.div_eq_of_lt h]
  simp
/-- periods, further on alone -/
def PerF (f : Nat → Int) (N m : Nat) : Prop := ∃ c, ∀ k, N ≤ k → f (k + m) = f k + c
theorem PerF.sub {f : Nat → Int} {N a b : Nat} (ha : PerF f N (a + b)) (hb : PerF f N b) : PerF f N a := by
  obtain ⟨c, hc⟩ := ha
  obtain ⟨d, hd⟩ := hb
  refine ⟨c - d, fun k hk => ?_⟩
  have h1 := hc k hk
  have h2 := hd (k + a) (by omega)
  rw [show k + a + b = k + (a + b) by omega, h1] at h2
  omega
theorem PerF.mul {f : Nat → Int} {N a : Nat} (ha : PerF f N a) (j : Nat) : PerF f N (a * j) := by
  obtain ⟨c, hc⟩ := ha
  refine ⟨c * (j : Int), ?_⟩
  induction j with
  | zero => intro k _; simp
  | succ j ih =>
    intro k hk
    have h1 := ih k hk
    have h2 := hc (k + a * j) (by omega)
    rw [Nat.mul_succ, ← Nat.add_assoc, h2, h1, Int.natCast_add, Int.mul_add]
    omega
theorem PerF.gcd {f : Nat → Int} {N : Nat} : ∀ (a b : Nat), PerF f N a → PerF f N b → PerF f N (Nat.gcd a b) := by
  intro a
  induction a using Nat.strongRecOn with
  | _ a ih =>
    intro b ha hb
    cases a with
    | zero => rw [Nat.gcd_zero_left]; exact hb
    | succ a =>
      rw [Nat.gcd_rec]
      have hlt : b % (a + 1) < a + 1 := Nat.mod_lt _ (Nat.succ_pos a)
      have hm : PerF f N (b % (a + 1)) := by
        have h1 : b = b % (a + 1) + (a + 1) * (b / (a + 1)) := (Nat.mod_add_div b (a + 1)).symm
        exact PerF.sub (b := (a + 1) * (b / (a + 1))) (by rw [← h1]; exact hb) (ha.mul _)
      exact ih _ hlt (a + 1) hm ha
theorem at_loop {h l : List Int} {r : Int} {n : Nat} (hl : l ≠ []) (hn : h.length < n) : at_ h l r n = some (walk l r (n - h.length - 1)) := by
  unfold at_
  rw [if_neg (by omega), if_neg hl]
theorem len_pos {l : List Int} (h : l ≠ []) : 0 < l.length := List.length_pos_iff.mpr h

section
variable {h1 l1 h2 l2 : List Int} {r1 r2 : Int}
theorem walk_eq (n1 : l1 ≠ []) (n2 : l2 ≠ []) (e : ∀ n, 1 ≤ n → at_ h1 l1 r1 n = at_ h2 l2 r2 n) {n : Nat} (g1 : h1.length < n) (g2 : h2.length < n) : walk l1 r1 (n - h1.length - 1) = walk l2 r2 (n - h2.length - 1) := by
  have q := e n (by omega)
  rw [at_loop n1 g1, at_loop n2 g2] at q
  exact Option.some.inj q
theorem one_loop_le (n1 : l1 ≠ []) (n2 : l2 ≠ []) (m1 : LoopMin l1 r1) (e : ∀ n, 1 ≤ n → at_ h1 l1 r1 n = at_ h2 l2 r2 n) : l1.length ∣ l2.length := by
  have p1 := len_pos n1
  have p2 := len_pos n2
  -- l1's walk is, further on, of both periods
  have hA : PerF (walk l1 r1) (h1.length + h2.length) l1.length := ⟨r1, fun k _ => walk_add p1 k⟩
  have hB : PerF (walk l1 r1) (h1.length + h2.length) l2.length := by
    refine ⟨r2, fun k hk => ?_⟩
    have q1 := walk_eq n1 n2 e (n := k + h1.length + 1) (by omega) (by omega)
    have q2 := walk_eq n1 n2 e (n := k + l2.length + h1.length + 1) (by omega) (by omega)
    rw [show k + h1.length + 1 - h1.length - 1 = k by omega] at q1
    rw [show k + l2.length + h1.length + 1 - h1.length - 1 = k + l2.length by omega, show k + l2.length + h1.length + 1 - h2.length - 1 = (k + h1.length + 1 - h2.length - 1) + l2.length by omega, walk_add p2, ← q1] at q2
    exact q2
  have hG := PerF.gcd _ _ hA hB
  obtain ⟨c, hc⟩ := hG
  have hP : Per (walk l1 r1) (Nat.gcd l1.length l2.length) := by
    refine ⟨c, fun k => ?_⟩
    have q := hc (k + l1.length * (h1.length + h2.length)) (by
      have : h1.length + h2.length ≤ l1.length * (h1.length + h2.length) := Nat.le_mul_of_pos_left _ p1
      omega)
    rw [show k + l1.length * (h1.length + h2.length) + Nat.gcd l1.length l2.length = (k + Nat.gcd l1.length l2.length) + l1.length * (h1.length + h2.length) by omega, walk_add_mul p1, walk_add_mul p1] at q
    omega
  have := m1 _ (Nat.gcd_pos_of_pos_left _ p1) (Nat.gcd_dvd_left _ _) hP
  rw [← this]
  exact Nat.gcd_dvd_right _ _
theorem one_head_le (n1 : l1 ≠ []) (n2 : l2 ≠ []) (el : l1.length = l2.length) (m2 : HeadMin h2 l2 r2) (er : r1 = r2) (e : ∀ n, 1 ≤ n → at_ h1 l1 r1 n = at_ h2 l2 r2 n) : h2.length ≤ h1.length := by
  have p1 := len_pos n1
  have p2 := len_pos n2
  refine Nat.le_of_not_lt fun hlt => ?_
  obtain ⟨k, hk⟩ : ∃ k, h2.length = k + 1 := ⟨h2.length - 1, by omega⟩
  have q1 := e (k + 1) (by omega)
  have q2 := e (k + 1 + l2.length) (by omega)
  rw [at_loop n1 (by omega), at_loop n2 (by omega)] at q2
  rw [at_loop n1 (by omega)] at q1
  unfold at_ at q1
  rw [if_pos (by omega)] at q1
  have q1 := Option.some.inj q1
  have q2 := Option.some.inj q2
  rw [show k + 1 + l2.length - h1.length - 1 = (k + 1 - h1.length - 1) + l1.length by omega, walk_add p1, q1] at q2
  rw [walk_lt (by omega), show k + 1 + l2.length - h2.length - 1 = l2.length - 1 by omega, show k + 1 - 1 = k by omega] at q2
  exact m2 k hk (by rw [← q2, er])
/-- two forms that can't be made smaller and tell the same are the same -/
theorem one_form (n1 : l1 ≠ []) (n2 : l2 ≠ []) (a1 : LoopMin l1 r1) (a2 : LoopMin l2 r2) (b1 : HeadMin h1 l1 r1) (b2 : HeadMin h2 l2 r2) (e : ∀ n, 1 ≤ n → at_ h1 l1 r1 n = at_ h2 l2 r2 n) : h1 = h2 ∧ l1 = l2 ∧ r1 = r2 := by
  have p1 := len_pos n1
  have p2 := len_pos n2
  have el : l1.length = l2.length := Nat.dvd_antisymm (one_loop_le n1 n2 a1 e) (one_loop_le n2 n1 a2 fun n hn => (e n hn).symm)
  have er : r1 = r2 := by
    have q1 := walk_eq n1 n2 e (n := h1.length + h2.length + 1) (by omega) (by omega)
    have q2 := walk_eq n1 n2 e (n := h1.length + h2.length + 1 + l1.length) (by omega) (by omega)
    rw [show h1.length + h2.length + 1 + l1.length - h1.length - 1 = (h1.length + h2.length + 1 - h1.length - 1) + l1.length by omega, walk_add p1,
      show h1.length + h2.length + 1 + l1.length - h2.length - 1 = (h1.length + h2.length + 1 - h2.length - 1) + l2.length by omega, walk_add p2, q1] at q2
    omega
  have eh : h1.length = h2.length := Nat.le_antisymm (one_head_le n2 n1 el.symm b1 er.symm fun n hn => (e n hn).symm) (one_head_le n1 n2 el b2 er e)
  refine ⟨List.ext_getElem eh fun i i1 i2 => ?_, List.ext_getElem el fun i i1 i2 => ?_, er⟩
  · have q := e (i + 1) (by omega)
    unfold at_ at q
    rw [if_pos (by omega), if_pos (by omega)] at q
    have q := Option.some.inj q
    rw [show i + 1 - 1 = i by omega, List.getD_eq_getElem?_getD, List.getD_eq_getElem?_getD, List.getElem?_eq_getElem i1, List.getElem?_eq_getElem i2] at q
    exact q
  · have q := walk_eq n1 n2 e (n := h1.length + 1 + i) (by omega) (by omega)
    rw [show h1.length + 1 + i - h1.length - 1 = i by omega, show h1.length + 1 + i - h2.length - 1 = i by omega, walk_lt i1, walk_lt i2,
      List.getD_eq_getElem?_getD, List.getD_eq_getElem?_getD, List.getElem?_eq_getElem i1, List.getElem?_eq_getElem i2] at q
    exact q
theorem one_never (e : ∀ n, 1 ≤ n → at_ h1 [] r1 n = at_ h2 [] r2 n) : h1 = h2 := by
  have el : h1.length = h2.length := by
    have q1 := e (h1.length + 1) (by omega)
    have q2 := e (h2.length + 1) (by omega)
    unfold at_ at q1 q2
    rw [if_neg (by omega), if_pos rfl] at q1
    rw [if_neg (show ¬ h2.length + 1 ≤ h2.length by omega), if_pos rfl] at q2
    by_cases c1 : h1.length + 1 ≤ h2.length
    · rw [if_pos c1] at q1
      cases q1
    · by_cases c2 : h2.length + 1 ≤ h1.length
      · rw [if_pos c2] at q2
        cases q2
      · omega
  refine List.ext_getElem el fun i i1 i2 => ?_
  have q := e (i + 1) (by omega)
  unfold at_ at q
  rw [if_pos (by omega), if_pos (by omega)] at q
  have q := Option.some.inj q
  rw [show i + 1 - 1 = i by omega, List.getD_eq_getElem?_getD, List.getD_eq_getElem?_getD, List.getElem?_eq_getElem i1, List.getElem?_eq_getElem i2] at q
  exact q
end
end NT
set_option linter.all false
namespace NT
structure LapIs (l : List Int) (r : Int) (m : Nat) : Prop where
  pos : 0 < m
  dvd : m ∣ l.length
  per : Per (walk l r) m
  least : ∀ m', 0 < m' → m' ∣ l.length → Per (walk l r) m' → m ≤ m'
theorem LapIs.one {l : List Int} {r : Int} {m m' : Nat} (a : LapIs l r m) (b : LapIs l r m') : m = m' := Nat.le_antisymm (a.least _ b.pos b.dvd b.per) (b.least _ a.pos a.dvd a.per)
theorem per_mul {f : Nat → Int} {m : Nat} {c : Int} (h : ∀ k, f (k + m) = f k + c) (k j : Nat) : f (k + m * j) = f k + c * (j : Int) := by
  induction j with
  | zero => simp
  | succ j ih =>
    rw [Nat.mul_succ, ← Nat.add_assoc, h, ih, Int.natCast_add, Int.mul_add]
    omega
/-- the rise of a part that comes round -/
theorem per_rise {l : List Int} {r c : Int} {m : Nat} (hl : l ≠ []) (h : ∀ k, walk l r (k + m) = walk l r k + c) {t : Nat} (ht : m * t = l.length) : r = c * (t : Int) := by
  have q := per_mul h 0 t
  rw [ht, walk_add (len_pos hl)] at q
  omega
theorem per_self {l : List Int} {r : Int} (hl : l ≠ []) : Per (walk l r) l.length := ⟨r, walk_add (len_pos hl)⟩
theorem getD_take {l : List Int} {m i : Nat} (h : i < m) : (l.take m).getD i 0 = l.getD i 0 := by
  rw [List.getD_eq_getElem?_getD, List.getD_eq_getElem?_getD, List.getElem?_take, if_pos h]
theorem getD_drop {l : List Int} {m i : Nat} : (l.drop m).getD i 0 = l.getD (m + i) 0 := by
  rw [List.getD_eq_getElem?_getD, List.getD_eq_getElem?_getD, List.getElem?_drop]
theorem getD_app1 {h l : List Int} {i : Nat} (q : i < h.length) : (h ++ l).getD i 0 = h.getD i 0 := by
  rw [List.getD_eq_getElem?_getD, List.getD_eq_getElem?_getD, List.getElem?_append_left q]
theorem getD_app2 {h l : List Int} {i : Nat} (q : h.length ≤ i) : (h ++ l).getD i 0 = l.getD (i - h.length) 0 := by
  rw [List.getD_eq_getElem?_getD, List.getD_eq_getElem?_getD, List.getElem?_append_right q]
/-- the shorter loop tells the same -/
theorem walk_short {l : List Int} {r c : Int} {m : Nat} (hm : 0 < m) (hle : m ≤ l.length) (h : ∀ k, walk l r (k + m) = walk l r k + c) (k : Nat) : walk (l.take m) c k = walk l r k := by
  have e : k = k % m + m * (k / m) := (Nat.mod_add_div k m).symm
  have hlt : k % m < m := Nat.mod_lt _ hm
  have q := per_mul h (k % m) (k / m)
  rw [← e] at q
  have w1 : walk l r (k % m) = l.getD (k % m) 0 := walk_lt (by omega)
  rw [q, w1]
  show (l.take m).getD (k % (l.take m).length) 0 + c * ((k / (l.take m).length : Nat) : Int) = _
  rw [List.length_take, Nat.min_eq_left hle, getD_take hlt]
theorem short_min {l : List Int} {r c : Int} {m : Nat} (hl : l ≠ []) (a : LapIs l r m) (h : ∀ k, walk l r (k + m) = walk l r k + c) : LoopMin (l.take m) c := by
  have hle : m ≤ l.length := Nat.le_of_dvd (len_pos hl) a.dvd
  intro m' p d q
  rw [List.length_take, Nat.min_eq_left hle] at d ⊢
  have e : walk (l.take m) c = walk l r := funext fun k => walk_short a.pos hle h k
  rw [e] at q
  exact Nat.le_antisymm (Nat.le_of_dvd a.pos d) (a.least _ p (Nat.dvd_trans d a.dvd) q)
/-! ### the head is cut -/
def cut (e : List Int) (p : Nat) (r : Int) : Nat → Nat
  | 0 => 0
  | k + 1 => if e.getD k 0 + r = e.getD (k + p) 0 then cut e p r k else k + 1
/-- the window of p entries behind the first `left` ones -/
def win (e : List Int) (left p : Nat) : List Int := (e.drop left).take p
theorem win_len {e : List Int} {left p : Nat} (h : left + p ≤ e.length) : (win e left p).length = p := by
  unfold win
  rw [List.length_take, List.length_drop]
  omega
theorem win_get {e : List Int} {left p i : Nat} (hi : i < p) : (win e left p).getD i 0 = e.getD (left + i) 0 := by
  unfold win
  rw [getD_take hi, getD_drop]
theorem win_step {e : List Int} {left p : Nat} {r : Int} (hp : 0 < p) (hle : left + 1 + p ≤ e.length) (hs : e.getD left 0 + r = e.getD (left + p) 0) (k : Nat) : walk (win e (left + 1) p) r k = walk (win e left p) r (k + 1) := by
  unfold walk
  rw [win_len (by omega), win_len (by omega)]
  have hlt : k % p < p := Nat.mod_lt _ hp
  rw [win_get hlt]
  by_cases c : k % p + 1 < p
  · have e1 : (k + 1) % p = k % p + 1 := by
      rw [Nat.add_mod, Nat.mod_eq_of_lt (show 1 < p by omega), Nat.mod_eq_of_lt c]
    have e2 : (k + 1) / p = k / p := by
      have q1 := Nat.div_add_mod (k + 1) p
      have q2 := Nat.div_add_mod k p
      rw [e1] at q1
      have : p * ((k + 1) / p) = p * (k / p) := by omega
      exact Nat.eq_of_mul_eq_mul_left hp this
    rw [e1, e2, win_get c]
    congr 2
    omega
  · have cp : k % p + 1 = p := by omega
    have hk : k + 1 = p * (k / p + 1) := by
      have q2 := Nat.div_add_mod k p
      rw [Nat.mul_add, Nat.mul_one]
      omega
    have e1 : (k + 1) % p = 0 := by rw [hk]; exact Nat.mul_mod_right _ _
    have e2 : (k + 1) / p = k / p + 1 := by rw [hk]; exact Nat.mul_div_cancel_left _ hp
    rw [e1, e2, win_get hp, Int.natCast_add, Int.mul_add, show left + 1 + k % p = left + p by omega, ← hs, show left + 0 = left from rfl]
    omega
theorem at_step {e : List Int} {left p : Nat} {r : Int} (hp : 0 < p) (hle : left + 1 + p ≤ e.length) (hs : e.getD left 0 + r = e.getD (left + p) 0) (n : Nat) (hn : 1 ≤ n) :
    at_ (e.take left) (win e left p) r n = at_ (e.take (left + 1)) (win e (left + 1) p) r n := by
  have n1 : win e left p ≠ [] := fun z => by
    have := win_len (e := e) (left := left) (p := p) (by omega)
    rw [z] at this
    simp at this
    omega
  have n2 : win e (left + 1) p ≠ [] := fun z => by
    have := win_len (e := e) (left := left + 1) (p := p) (by omega)
    rw [z] at this
    simp at this
    omega
  unfold at_
  rw [List.length_take, List.length_take, Nat.min_eq_left (by omega), Nat.min_eq_left (by omega), if_neg n1, if_neg n2]
  by_cases c1 : n ≤ left
  · rw [if_pos c1, if_pos (by omega), getD_take (by omega), getD_take (by omega)]
  · by_cases c2 : n ≤ left + 1
    · rw [if_neg c1, if_pos c2, getD_take (by omega), show n - left - 1 = 0 by omega, walk_lt (by rw [win_len (by omega)]; exact hp), win_get hp, show n - 1 = left + 0 by omega]
    · rw [if_neg c1, if_neg c2, win_step hp hle hs, show n - (left + 1) - 1 + 1 = n - left - 1 by omega]
theorem min_step {e : List Int} {left p : Nat} {r : Int} (hp : 0 < p) (hle : left + 1 + p ≤ e.length) (hs : e.getD left 0 + r = e.getD (left + p) 0) (h : LoopMin (win e (left + 1) p) r) : LoopMin (win e left p) r := by
  have l0 := win_len (e := e) (left := left) (p := p) (by omega)
  have l1 := win_len (e := e) (left := left + 1) (p := p) (by omega)
  intro m hm hd hq
  rw [l0] at hd ⊢
  have := h m hm (by rw [l1]; exact hd) (by
    obtain ⟨c, hc⟩ := hq
    refine ⟨c, fun k => ?_⟩
    rw [win_step hp hle hs, win_step hp hle hs, show k + m + 1 = k + 1 + m by omega, hc])
  rw [l1] at this
  exact this
theorem cut_le {e : List Int} {p : Nat} {r : Int} : ∀ k, cut e p r k ≤ k
  | 0 => Nat.le_refl _
  | k + 1 => by
    unfold cut
    split
    · exact Nat.le_succ_of_le (cut_le k)
    · exact Nat.le_refl _
theorem cut_at {e : List Int} {p : Nat} {r : Int} (hp : 0 < p) : ∀ k, k + p ≤ e.length → ∀ n, 1 ≤ n → at_ (e.take (cut e p r k)) (win e (cut e p r k) p) r n = at_ (e.take k) (win e k p) r n
  | 0, _, _, _ => rfl
  | k + 1, h, n, hn => by
    unfold cut
    split
    · rename_i c
      rw [cut_at hp k (by omega) n hn]
      exact at_step hp h c n hn
    · rfl
theorem cut_min {e : List Int} {p : Nat} {r : Int} (hp : 0 < p) : ∀ k, k + p ≤ e.length → LoopMin (win e k p) r → LoopMin (win e (cut e p r k) p) r
  | 0, _, h => h
  | k + 1, hk, h => by
    unfold cut
    split
    · rename_i c
      exact cut_min hp k (by omega) (min_step hp hk c h)
    · exact h
theorem cut_head {e : List Int} {p : Nat} {r : Int} (hp : 0 < p) : ∀ k, k + p ≤ e.length → HeadMin (e.take (cut e p r k)) (win e (cut e p r k) p) r
  | 0, h => fun k hk => by
    unfold cut at hk
    simp at hk
  | k + 1, h => by
    unfold cut
    split
    · exact cut_head hp k (by omega)
    · rename_i c
      intro j hj
      rw [List.length_take, Nat.min_eq_left (by omega)] at hj
      have ej : j = k := by omega
      subst ej
      rw [getD_take (by omega), win_len (by omega), win_get (by omega)]
      intro z
      exact c (by rw [z]; congr 1; omega)
/-! ### the plain form -/
def IsPlain (h l : List Int) (r : Int) (x : List Int × List Int × Int) : Prop :=
  (l = [] ∧ x = (h, [], 0)) ∨ (l ≠ [] ∧ x.2.1 ≠ [] ∧ LoopMin x.2.1 x.2.2 ∧ HeadMin x.1 x.2.1 x.2.2 ∧ ∀ n, 1 ≤ n → at_ x.1 x.2.1 x.2.2 n = at_ h l r n)
theorem plain_one {h1 l1 h2 l2 : List Int} {r1 r2 : Int} {x y : List Int × List Int × Int} (a : IsPlain h1 l1 r1 x) (b : IsPlain h2 l2 r2 y) (e : ∀ n, 1 ≤ n → at_ h1 l1 r1 n = at_ h2 l2 r2 n) : x = y := by
  rcases a with ⟨rfl, rfl⟩ | ⟨n1, n1', m1, k1, e1⟩
  · rcases b with ⟨rfl, rfl⟩ | ⟨n2, n2', m2, k2, e2⟩
    · rw [one_never e]
    · have q := e (h1.length + h2.length + 1) (by omega)
      rw [at_loop n2 (by omega)] at q
      unfold at_ at q
      rw [if_neg (by omega), if_pos rfl] at q
      cases q
  · rcases b with ⟨rfl, rfl⟩ | ⟨n2, n2', m2, k2, e2⟩
    · have q := e (h1.length + h2.length + 1) (by omega)
      rw [at_loop n1 (by omega)] at q
      unfold at_ at q
      rw [if_neg (by omega), if_pos rfl] at q
      cases q
    · obtain ⟨q1, q2, q3⟩ := one_form n1' n2' m1 m2 k1 k2 fun n hn => by rw [e1 n hn, e n hn, e2 n hn]
      obtain ⟨x1, x2, x3⟩ := x
      obtain ⟨y1, y2, y3⟩ := y
      dsimp only at q1 q2 q3
      rw [q1, q2, q3]
theorem plain_is {h l : List Int} {r : Int} {m : Nat} (hl : l ≠ []) (a : LapIs l r m) {c : Int} (hc : ∀ k, walk l r (k + m) = walk l r k + c) :
    IsPlain h l r ((h ++ l.take m).take (cut (h ++ l.take m) m c h.length), win (h ++ l.take m) (cut (h ++ l.take m) m c h.length) m, c) := by
  have hle : m ≤ l.length := Nat.le_of_dvd (len_pos hl) a.dvd
  have hlen : (h ++ l.take m).length = h.length + m := by rw [List.length_append, List.length_take, Nat.min_eq_left hle]
  have hcut := cut_le (e := h ++ l.take m) (p := m) (r := c) h.length
  have hw : win (h ++ l.take m) h.length m = l.take m := by
    unfold win
    rw [List.drop_left, List.take_of_length_le (by rw [List.length_take]; omega)]
  have ht : (h ++ l.take m).take h.length = h := List.take_left
  refine .inr ⟨hl, fun z => ?_, ?_, ?_, fun n hn => ?_⟩
  · have q := win_len (e := h ++ l.take m) (left := cut (h ++ l.take m) m c h.length) (p := m) (by rw [hlen]; omega)
    have z' : win (h ++ l.take m) (cut (h ++ l.take m) m c h.length) m = [] := z
    rw [z'] at q
    have := a.pos
    simp at q
    omega
  · exact cut_min a.pos _ (by rw [hlen]; exact Nat.le_refl _) (by rw [hw]; exact short_min hl a hc)
  · exact cut_head a.pos _ (by rw [hlen]; exact Nat.le_refl _)
  · show at_ ((h ++ l.take m).take (cut (h ++ l.take m) m c h.length)) (win (h ++ l.take m) (cut (h ++ l.take m) m c h.length) m) c n = _
    rw [cut_at a.pos _ (by rw [hlen]; exact Nat.le_refl _) n hn, hw, ht]
    unfold at_
    have n1 : l.take m ≠ [] := fun z => by
      have q := congrArg List.length z
      rw [List.length_take, Nat.min_eq_left hle] at q
      have := a.pos
      simp at q
      omega
    rw [if_neg hl, if_neg n1, walk_short a.pos hle hc]
end NT
set_option linter.all false
namespace NT
def sk (l : List Int) (r : Int) (k : Nat) : Int := walk l r (k + 1) - walk l r k
def steps (l : List Int) (r : Int) : List Int := (List.range l.length).map (sk l r)
section
variable {l : List Int} {r : Int} {m : Nat}
theorem sk_add (hl : l ≠ []) (k q : Nat) : sk l r (k + l.length * q) = sk l r k := by
  unfold sk
  rw [show k + l.length * q + 1 = (k + 1) + l.length * q by omega, walk_add_mul (len_pos hl), walk_add_mul (len_pos hl)]
  omega
theorem per_of_sk (h : ∀ k, sk l r (k + m) = sk l r k) : Per (walk l r) m := by
  refine ⟨walk l r m - walk l r 0, fun k => ?_⟩
  induction k with
  | zero => rw [Nat.zero_add]; omega
  | succ k ih =>
    have q := h k
    unfold sk at q
    rw [show k + 1 + m = k + m + 1 by omega]
    omega
theorem sk_of_per (h : Per (walk l r) m) (k : Nat) : sk l r (k + m) = sk l r k := by
  obtain ⟨c, hc⟩ := h
  unfold sk
  rw [show k + m + 1 = (k + 1) + m by omega, hc, hc]
  omega
theorem chain_up {f : Nat → Int} {n : Nat} {c : Int} (h : ∀ k, k + m < n → f (k + m) = f k + c) (j : Nat) : ∀ u, j + m * u < n → f (j + m * u) = f j + c * (u : Int)
  | 0, _ => by simp
  | u + 1, hu => by
    have e : j + m * (u + 1) = j + m * u + m := by rw [Nat.mul_succ]; omega
    have ih := chain_up h j u (by omega)
    rw [e, h _ (by omega), ih, Int.natCast_add, Int.mul_add]
    omega
/-- a place in the last part of a loop -/
theorem last_part {n i t : Nat} (hm : 0 < m) (ht : m * t = n) (hi : i < n) (hg : ¬ i + m < n) : ∃ j, j < m ∧ i + m = n + j ∧ i = j + m * (t - 1) ∧ 0 < t := by
  have t0 : 0 < t := Nat.pos_of_ne_zero fun z => by rw [z, Nat.mul_zero] at ht; omega
  obtain ⟨t', rfl⟩ : ∃ t', t = t' + 1 := ⟨t - 1, by omega⟩
  rw [Nat.mul_succ] at ht
  refine ⟨i + m - n, by omega, by omega, ?_, t0⟩
  rw [show t' + 1 - 1 = t' by omega]
  omega
theorem cond_iff (hl : l ≠ []) (hm : 0 < m) (hd : m ∣ l.length) : ((steps l r).drop m = (steps l r).take (l.length - m)) ↔ Per (walk l r) m := by
  obtain ⟨t, ht⟩ := hd
  have hle : m ≤ l.length := by rw [ht]; exact Nat.le_mul_of_pos_right _ (Nat.pos_of_ne_zero fun z => by rw [z, Nat.mul_zero] at ht; exact absurd ht (Nat.ne_of_gt (len_pos hl)))
  constructor
  · intro h
    have h0 : ∀ k, k + m < l.length → sk l r (k + m) = sk l r k + 0 := fun k hk => by
      have q := congrArg (fun z : List Int => z[k]?) h
      simp only [steps, List.getElem?_drop, List.getElem?_take, if_pos (show k < l.length - m by omega), List.getElem?_map, List.getElem?_range (show m + k < l.length by omega), List.getElem?_range (show k < l.length by omega), Option.map_some, Option.some.injEq] at q
      rw [show k + m = m + k by omega, q]
      omega
    refine per_of_sk fun k => ?_
    have hp := len_pos hl
    have e : k = k % l.length + l.length * (k / l.length) := (Nat.mod_add_div k _).symm
    have hi : k % l.length < l.length := Nat.mod_lt _ hp
    have e1 : sk l r k = sk l r (k % l.length) := by
      have := sk_add (r := r) hl (k % l.length) (k / l.length)
      rw [← e] at this
      exact this
    have e2 : sk l r (k + m) = sk l r (k % l.length + m) := by
      have := sk_add (r := r) hl (k % l.length + m) (k / l.length)
      rw [show k % l.length + m + l.length * (k / l.length) = k + m by omega] at this
      exact this
    rw [e1, e2]
    by_cases c : k % l.length + m < l.length
    · rw [h0 _ c]; omega
    · obtain ⟨j, j1, j2, j3, t0⟩ := last_part hm ht.symm hi c
      have q := chain_up (f := sk l r) (n := l.length) h0 j (t - 1) (by omega)
      rw [j2, show l.length + j = j + l.length * 1 by omega, sk_add hl, j3, q]
      omega
  · intro h
    refine List.ext_getElem? fun k => ?_
    simp only [steps, List.getElem?_drop, List.getElem?_take, List.getElem?_map]
    by_cases c : k < l.length - m
    · rw [if_pos c, List.getElem?_range (by omega), List.getElem?_range (by omega)]
      simp only [Option.map_some]
      rw [show m + k = k + m by omega, sk_of_per h]
    · rw [if_neg c, List.getElem?_eq_none (by rw [List.length_range]; omega)]
      rfl
theorem walk_i {i : Nat} (h : i < l.length) : walk l r i = l.getD i 0 := walk_lt h
/-- the law's own look at a part of a loop -/
theorem law_iff (hl : l ≠ []) (hm : 0 < m) {t : Nat} (ht : m * t = l.length) : (r % (t : Int) = 0 ∧ ∀ k, k + m < l.length → l.getD (k + m) 0 = l.getD k 0 + r / (t : Int)) ↔ Per (walk l r) m := by
  have hp := len_pos hl
  have t0 : 0 < t := Nat.pos_of_ne_zero fun z => by rw [z, Nat.mul_zero] at ht; omega
  constructor
  · rintro ⟨h1, h2⟩
    have hr : r = r / (t : Int) * (t : Int) := (Int.ediv_mul_cancel (Int.dvd_of_emod_eq_zero h1)).symm
    refine ⟨r / (t : Int), fun k => ?_⟩
    have e : k = k % l.length + l.length * (k / l.length) := (Nat.mod_add_div k _).symm
    have hi : k % l.length < l.length := Nat.mod_lt _ hp
    have e1 : walk l r k = walk l r (k % l.length) + r * ((k / l.length : Nat) : Int) := by
      have := walk_add_mul (r := r) hp (k % l.length) (k / l.length)
      rw [← e] at this
      exact this
    have e2 : walk l r (k + m) = walk l r (k % l.length + m) + r * ((k / l.length : Nat) : Int) := by
      have := walk_add_mul (r := r) hp (k % l.length + m) (k / l.length)
      rw [show k % l.length + m + l.length * (k / l.length) = k + m by omega] at this
      exact this
    rw [e1, e2, walk_i hi]
    by_cases c : k % l.length + m < l.length
    · rw [walk_i c, h2 _ c]; omega
    · obtain ⟨j, j1, j2, j3, _⟩ := last_part hm ht hi c
      have q := chain_up (f := fun i => l.getD i 0) (n := l.length) h2 j (t - 1) (by omega)
      have q' : l.getD (k % l.length) 0 = l.getD j 0 + r / (t : Int) * ((t - 1 : Nat) : Int) := by rw [← q]; exact congrArg (fun i => l.getD i 0) j3
      have hjl : j < l.length := by omega
      rw [j2, show l.length + j = j + l.length by omega, walk_add hp, walk_i hjl, q']
      have e3 : r / (t : Int) * (t : Int) = r / (t : Int) * ((t - 1 : Nat) : Int) + r / (t : Int) := by
        rw [show (t : Int) = ((t - 1 : Nat) : Int) + 1 by omega, Int.mul_add, Int.mul_one]
      omega
  · rintro ⟨c, hc⟩
    have hr := per_rise hl hc ht
    have hd : r / (t : Int) = c := by
      rw [hr]
      exact Int.mul_ediv_cancel _ (by omega)
    refine ⟨by rw [hr]; exact Int.mul_emod_left _ _, fun k hk => ?_⟩
    have q := hc k
    rw [walk_i hk, walk_i (by omega)] at q
    rw [q, hd]
/-- what goes on by a part goes on so by its rise -/
theorem per_at (hl : l ≠ []) (hm : 0 < m) (h : Per (walk l r) m) {t : Nat} (ht : m * t = l.length) : ∀ k, walk l r (k + m) = walk l r k + r / (t : Int) := by
  obtain ⟨c, hc⟩ := h
  have hr := per_rise hl hc ht
  have t0 : 0 < t := Nat.pos_of_ne_zero fun z => by rw [z, Nat.mul_zero] at ht; exact absurd ht.symm (Nat.ne_of_gt (len_pos hl))
  have hd : r / (t : Int) = c := by
    rw [hr]
    exact Int.mul_ediv_cancel _ (by omega)
  rw [hd]
  exact hc
/-- the program's search -/
theorem lap_prog (hl : l ≠ []) (hm : 0 < m) (hle : m ≤ l.length / 2) (hd : m ∣ l.length) (hp : Per (walk l r) m) (hno : ∀ m', 0 < m' → m' < m → m' ∣ l.length → ¬ Per (walk l r) m') : LapIs l r m :=
  ⟨hm, hd, hp, fun m' p d q => Nat.le_of_not_lt fun c => hno m' p c d q⟩
theorem lap_whole (hl : l ≠ []) (hno : ∀ m', 0 < m' → m' ≤ l.length / 2 → m' ∣ l.length → ¬ Per (walk l r) m') : LapIs l r l.length :=
  ⟨len_pos hl, Nat.dvd_refl _, per_self hl, fun m' p d q => Nat.le_of_not_lt fun c => hno m' p (by
    obtain ⟨t, ht⟩ := d
    have t2 : 2 ≤ t := Nat.le_of_not_lt fun z => by
      have : t = 0 ∨ t = 1 := by omega
      rcases this with rfl | rfl
      · rw [Nat.mul_zero] at ht; omega
      · rw [Nat.mul_one] at ht; omega
    have : m' * 2 ≤ l.length := by rw [ht]; exact Nat.mul_le_mul_left _ t2
    omega) d q⟩
end
end NT
set_option Elab.async false
set_option linter.all false
set_option maxRecDepth 100000
set_option maxHeartbeats 4000000
namespace NF
open PySem PySem.Spec PyProof.Rows L2 He RZ
theorem Same.tup {K : PySem.W.Frag} {H H' : Hp} {a : Addr} {xs : List V} (e : Same H H') (h : SqT K H a xs) : SqT K H' a xs := by
  rcases h with (h | ⟨o, h⟩) | h
  · exact .inl (.inl (e _ _ h))
  · exact .inl (.inr ⟨o, e _ _ h⟩)
  · exact .inr h
abbrev vI (l : List Int) : List V := l.map V.int
/-! ### o.f = v as one of several targets -/
def gFld (K : PySem.W.Frag) (ta : TE) (f : Str) : TG := fun v σ H Q => ta σ H fun x H1 => ∃ a C dx fs, x = .ref a ∧ H1 a = some (.ins C dx fs) ∧ Cls K C ∧ NoAttr K C f ∧ fs.length < 1000 ∧ Q σ (upd H1 a (.ins C dx (putF f v fs)))
theorem pg_fld {X : Cx} {o : Expr} {f : Str} {pos : Pos} {ta : TE} (ha : PE X o ta) : PG X (.Attribute o f pos) (gFld X.K ta f) := by
  refine ⟨fun pins s σ H v u Q I r h => ?_⟩
  refine PySem.W.kas_attr (thn (ha.run pins s σ H _ I h) fun ov s1 ⟨x, H1, I1, rx, a, C, dx, fs, ex, ea, c, n, l, q⟩ => ?_)
  subst ex
  obtain rfl : ov = Value.ref a := rx
  exact setattr_ok I1 ea c n l r fun s2 I2 => ⟨σ, _, I2, q⟩
/-! ### a name of the module that is a function of Python's own -/
theorem pe_gl {X : Cx} {x : Str} {a : Addr} {pos : Pos} (hm : X.mg x = some (.ref a)) (hg : Gl X x := by rfl) (hd : (x == ("__debug__" : Str)) = false := by decide) : PE X (.Name x pos) (tC (.ref a)) := pe_glob (v := .ref a) hg hm rfl hd
theorem ixl {X : Cx} {K : PySem.W.Frag} (h : X.K = K := by rfl) : IxR X (rIxL K) := h ▸ ix_list
theorem pgt {X : Cx} {K : PySem.W.Frag} {es : List Expr} {k : Nat} {pos : Pos} {t : TGs} {n : Nat} (hK : X.K = K) (hc : X.calm = true) (h : PGs X es t)
    (hn : (assignEach es X.env).length = n := by rfl) (hst : (assignEach es X.env).findIdx? (·.1) = none := by rfl) : PG X (.Tuple es k pos) (gTup K n t) := hK ▸ pg_tup hc h hn hst
theorem ixt {X : Cx} {K : PySem.W.Frag} (h : X.K = K := by rfl) : IxR X (rIxT K) := h ▸ ix_tup
/-! ### slices and sums of tuples: whatever object they give -/
theorem sIx_negN {n d k : Nat} (hk : 0 < k) : HT.sIx n d (some (-(k : Int))) = n - k := by
  show (if -(k : Int) < 0 then (-(k : Int) + (n : Int)).toNat else min (-(k : Int)).toNat n) = n - k
  rw [if_pos (by omega)]
  omega
theorem cut_whole {xs : List V} {lo hi : Option Int} (h : HT.sIx xs.length 0 lo = 0 ∧ HT.sIx xs.length xs.length hi = xs.length) : cutV xs lo hi = xs := by
  unfold cutV
  rw [h.1, h.2]
  simp
theorem slA_done {K : PySem.W.Frag} {H : Hp} {a : Addr} {xs : List V} {lo hi : Option Int} {Q : VK} (hx : SqT K H a xs) (q : ∀ p H', Same H H' → SqT K H' p (cutV xs lo hi) → Q (.ref p) H') : rSlA K (.ref a) lo hi H Q := by
  refine ⟨a, xs, rfl, hx, fun w => q a H (Same.refl H) (by rw [cut_whole w]; exact hx), fun _ p hp => q p _ (NF.Same.new (Same.refl H) hp) (SqT.of upd_same)⟩
theorem slA_from {K : PySem.W.Frag} {H : Hp} {a : Addr} {xs : List V} {lo : Option Int} {Q : VK} {σ : L2.St} (hx : SqT K H a xs) (q : ∀ p H', Same H H' → SqT K H' p (cutV xs lo none) → Q (.ref p) H') : tNoPart σ H fun u H3 => rSlA K (.ref a) lo u H3 Q := by
  show rSlA K (.ref a) lo none H Q
  exact slA_done hx q
theorem catA_done {K : PySem.W.Frag} {H : Hp} {a b : Addr} {xs ys : List V} {Q : VK} (hx : SqT K H a xs) (hy : SqT K H b ys) (hz : xs.length + ys.length ≤ sizeLine) (q : ∀ p H', Same H H' → SqT K H' p (xs ++ ys) → Q (.ref p) H') : rCatA K (.ref a) (.ref b) H Q := by
  refine ⟨a, b, xs, ys, rfl, rfl, hx, hy, hz, fun e => q b H (Same.refl H) (by rw [e]; exact hy), fun _ e => q a H (Same.refl H) (by rw [e, List.append_nil]; exact hx), fun _ _ p hp => q p _ (NF.Same.new (Same.refl H) hp) (SqT.of upd_same)⟩
theorem cut_from {xs : List V} {n : Nat} : cutV xs (some (n : Int)) none = xs.drop n := by
  unfold cutV
  rw [HT.sIx_nat]
  show (xs.drop (min n xs.length)).take (xs.length - min n xs.length) = xs.drop n
  by_cases h : n ≤ xs.length
  · rw [Nat.min_eq_left h, List.take_of_length_le (by rw [List.length_drop]; exact Nat.le_refl _)]
  · rw [Nat.min_eq_right (by omega), List.drop_of_length_le (Nat.le_refl _), List.drop_of_length_le (by omega)]
    simp
theorem cut_to {xs : List V} {n : Nat} : cutV xs none (some (n : Int)) = xs.take n := by
  unfold cutV
  rw [HT.sIx_nat]
  show (xs.drop 0).take (min n xs.length - 0) = xs.take n
  rw [List.drop_zero, Nat.sub_zero]
  by_cases h : n ≤ xs.length
  · rw [Nat.min_eq_left h]
  · rw [Nat.min_eq_right (by omega), List.take_of_length_le (Nat.le_refl _), List.take_of_length_le (by omega)]
theorem cut_toN {xs : List V} {n : Nat} (h : 0 < n) : cutV xs none (some (-(n : Int))) = xs.take (xs.length - n) := by
  unfold cutV
  rw [sIx_negN h]
  show (xs.drop 0).take (xs.length - n - 0) = _
  rw [List.drop_zero, Nat.sub_zero]
theorem cut_mid {xs : List V} {a b : Nat} (h : a ≤ b) (hb : b ≤ xs.length) : cutV xs (some (a : Int)) (some (b : Int)) = (xs.drop a).take (b - a) := by
  unfold cutV
  rw [HT.sIx_nat, HT.sIx_nat, Nat.min_eq_left hb, Nat.min_eq_left (by omega)]
theorem map_cut {l : List Int} {lo hi : Option Int} : ∃ m : List Int, cutV (vI l) lo hi = vI m := ⟨(l.drop (HT.sIx (vI l).length 0 lo)).take (HT.sIx (vI l).length (vI l).length hi - HT.sIx (vI l).length 0 lo), by unfold cutV; simp only [vI, List.map_take, List.map_drop]⟩
theorem at_int {l : List Int} {i : Int} {k : Nat} (e : i = (k : Int)) (h : k < l.length) : atI (vI l) i = some (V.int (l.getD k 0)) := by
  rw [e]
  exact atI_nat (by rw [List.getElem?_map, List.getElem?_eq_getElem h, List.getD_eq_getElem?_getD, List.getElem?_eq_getElem h] <;> rfl)
theorem at_last {l : List Int} (h : 0 < l.length) : atI (vI l) (-1) = some (V.int (l.getD (l.length - 1) 0)) := by
  unfold atI ixN
  rw [if_neg (by omega), List.length_map, if_pos (by omega)]
  show (vI l)[((-1 : Int) + (l.length : Int)).toNat]? = _
  rw [show ((-1 : Int) + (l.length : Int)).toNat = l.length - 1 by omega, List.getElem?_map, List.getElem?_eq_getElem (by omega), List.getD_eq_getElem?_getD, List.getElem?_eq_getElem (by omega)] <;> rfl
/-! ### [.. for a, b in zip(t, u)] of two tuples of one length -/
theorem lc_zipT {K : PySem.W.Frag} {a b : Addr} {xs ys : List V} {g : TG} {tt : TT} {te : TE} {vs : List Nat} {σ : L2.St} {H1 : Hp} {D : Addr} {Qd : Hp → Prop} (hl : xs.length = ys.length) (Pv : Nat → Hp → Prop) (h0 : Pv 0 (upd H1 D (.lst []))) (hq : ∀ i H, Pv i H → SqT K H a xs ∧ SqT K H b ys)
    (hs : ∀ i x y T H, xs[i]? = some x → ys[i]? = some y → Pv i H → H T = none → g (.ref T) (wipe σ vs) (upd H T (.tup [x, y])) fun σ2 H2 => wipe σ2 vs = wipe σ vs ∧ tt σ2 H2 fun b H3 =>
      if b = true then te σ2 H3 fun y H4 => ∃ acc, H4 D = some (.lst acc) ∧ acc.length < sizeLine ∧ Pv (i + 1) (upd H4 D (.lst (acc ++ [y]))) else Pv (i + 1) H3) (hd : ∀ H, Pv xs.length H → Qd H) :
    ∃ W : Nat → Nat → Hp → Prop, (∃ m, W 0 m (upd H1 D (.lst []))) ∧ ∀ i m H, W i m H →
      ((ItzT K a b).stop i H ∧ Qd H) ∨ ((ItzT K a b).go i H ∧ ∃ Nx : Hp → Prop, (∀ H', Nx H' → ∃ m', m' < m ∧ W (i + 1) m' H') ∧ ∀ x H', (ItzT K a b).yld i H x H' → g x (wipe σ vs) H' fun σ2 H2 => wipe σ2 vs = wipe σ vs ∧ tt σ2 H2 fun b H3 =>
        if b = true then te σ2 H3 fun y H4 => ∃ acc, H4 D = some (.lst acc) ∧ acc.length < sizeLine ∧ Nx (upd H4 D (.lst (acc ++ [y]))) else Nx H3) := by
  refine ⟨fun i m H => m = xs.length - i ∧ i ≤ xs.length ∧ Pv i H, ⟨xs.length, rfl, Nat.zero_le _, h0⟩, ?_⟩
  rintro i m H ⟨rfl, hi, p⟩
  obtain ⟨qx, qy⟩ := hq i H p
  by_cases hlt : i < xs.length
  · have hx : xs[i]? = some xs[i] := List.getElem?_eq_getElem hlt
    have hlt2 : i < ys.length := by omega
    have hy : ys[i]? = some ys[i] := List.getElem?_eq_getElem hlt2
    refine .inr ⟨⟨xs, ys, _, _, qx, qy, hx, hy⟩, Pv (i + 1), fun H' p' => ⟨xs.length - (i + 1), by omega, rfl, hlt, p'⟩, fun v H' y => ?_⟩
    obtain ⟨T, x', y', rfl, hT, rfl, f1, f2⟩ := y
    exact hs i x' y' T H (f1 xs qx) (f2 ys qy) p hT
  · have e : i = xs.length := by omega
    subst e
    exact .inl ⟨⟨xs, ys, qx, qy, Or.inl (Nat.le_refl _)⟩, hd H p⟩
theorem tru_tup {K : PySem.W.Frag} {H : Hp} {a : Addr} {l : List Int} (h : SqT K H a (vI l)) : TruV K (.ref a) H (!l.isEmpty) := Or.inr (Or.inl ⟨_, h, by cases l <;> rfl⟩)
theorem tru_int {K : PySem.W.Frag} {H : Hp} {i : Int} : TruV K (.int i) H (i != 0) := rfl
/-! ### deep == of lists and tuples of vI -/
theorem dp_ints {K : PySem.W.Frag} {H : Hp} : ∀ l : List Int, DpAll K H (vI l) (l.map PyData.int)
  | [] => .nil
  | i :: l => .cons (.int i) (dp_ints l)
theorem eqv_ints : ∀ a b : List Int, PyData.eqvAll (a.map PyData.int) (b.map PyData.int) = decide (a = b)
  | [], [] => rfl
  | [], _ :: _ => rfl
  | _ :: _, [] => rfl
  | x :: a, y :: b => by
    show (PyData.eqv (.int x) (.int y) && PyData.eqvAll (a.map PyData.int) (b.map PyData.int)) = _
    rw [eqv_ints a b]
    show ((x == y) && decide (a = b)) = _
    by_cases h : x = y <;> by_cases g : a = b <;> simp [h, g]
end NF
namespace NF
open PySem PySem.Spec PyProof.Rows L2 He RZ
theorem lay_ints : ∀ l : List Int, PyData.canLayAll0 (l.map PyData.int) = true
  | [] => rfl
  | _ :: l => lay_ints l
theorem depth_ints : ∀ l : List Int, PyData.depthAll (l.map PyData.int) = 0
  | [] => rfl
  | i :: l => by
    show max (PyData.depth (.int i)) (PyData.depthAll (l.map PyData.int)) = 0
    rw [depth_ints l]
    rfl
theorem shaped_L (l : List Int) : SeqAt.shaped (.list (l.map PyData.int)) = true := by
  show (PyData.canLayAll0 (l.map PyData.int) && decide (PyData.depthAll (l.map PyData.int) + 1 ≤ 64)) = true
  rw [lay_ints, depth_ints]
  rfl
theorem shaped_T (l : List Int) : SeqAt.shaped (.tuple (l.map PyData.int)) = true := by
  show (PyData.canLayAll0 (l.map PyData.int) && decide (PyData.depthAll (l.map PyData.int) + 1 ≤ 64)) = true
  rw [lay_ints, depth_ints]
  rfl
theorem eqL_done {K : PySem.W.Frag} {H : Hp} {a b : Addr} {x y : List Int} {Q : VK} (hx : SqL K H a (vI x)) (hy : SqL K H b (vI y)) (q : Q (.bl (decide (x = y))) H) : rEqD K (.ref a) (.ref b) H Q :=
  ⟨_, _, .lst hx (dp_ints x), .lst hy (dp_ints y), shaped_L x, shaped_L y, by rw [show PyData.eqv (.list (x.map PyData.int)) (.list (y.map PyData.int)) = decide (x = y) from eqv_ints x y]; exact q⟩
theorem eqT_done {K : PySem.W.Frag} {H : Hp} {a b : Addr} {x y : List Int} {Q : VK} (hx : SqT K H a (vI x)) (hy : SqT K H b (vI y)) (q : Q (.bl (decide (x = y))) H) : rEqD K (.ref a) (.ref b) H Q :=
  ⟨_, _, .tup hx (dp_ints x), .tup hy (dp_ints y), shaped_T x, shaped_T y, by rw [show PyData.eqv (.tuple (x.map PyData.int)) (.tuple (y.map PyData.int)) = decide (x = y) from eqv_ints x y]; exact q⟩
theorem neT_done {K : PySem.W.Frag} {H : Hp} {a b : Addr} {x y : List Int} {Q : VK} (hx : SqT K H a (vI x)) (hy : SqT K H b (vI y)) (q : Q (.bl (!decide (x = y))) H) : rNeD K (.ref a) (.ref b) H Q :=
  ⟨_, _, .tup hx (dp_ints x), .tup hy (dp_ints y), shaped_T x, shaped_T y, by rw [show PyData.eqv (.tuple (x.map PyData.int)) (.tuple (y.map PyData.int)) = decide (x = y) from eqv_ints x y]; exact q⟩
end NF
namespace NF
open PySem
theorem vI_drop {l : List Int} {n : Nat} : (vI l).drop n = vI (l.drop n) := by simp [vI, List.map_drop]
theorem vI_take {l : List Int} {n : Nat} : (vI l).take n = vI (l.take n) := by simp [vI, List.map_take]
theorem vI_app {l m : List Int} : vI l ++ vI m = vI (l ++ m) := by simp [vI]
theorem vI_len {l : List Int} : (vI l).length = l.length := by simp [vI]
end NF
namespace NF
open PySem PySem.Spec PyProof.Rows L2 He RZ
/-- a list or a tuple -/
def Row (K : PySem.W.Frag) (H : Hp) (a : Addr) (xs : List V) : Prop := SqL K H a xs ∨ SqT K H a xs
theorem Row.mono {K : PySem.W.Frag} {H H' : Hp} {a : Addr} {xs : List V} (h : Row K H a xs) (s : Same H H') : Row K H' a xs := h.elim (fun h => .inl (L2.Same.seq s h)) (fun h => .inr (NF.Same.tup s h))
def iRow (K : PySem.W.Frag) (tl : TE) : TI := fun σ H R => tl σ H fun x H1 => ∃ a, x = .ref a ∧ (((∃ xs, SqL K H1 a xs) ∧ R (Itl K a) H1) ∨ ((∃ xs, SqT K H1 a xs) ∧ R (Itt K a) H1))
theorem pi_row {X : Cx} {tg l : Expr} {tl : TE} (hl : PE X l tl) : PI X tg l (iRow X.K tl) := by
  refine ⟨fun pins s σ H R I h => ?_⟩
  refine thn (hl.run pins s σ H _ I h) fun v s1 ⟨x, H1, I1, r1, q1⟩ => ?_
  obtain ⟨a, e, q⟩ := q1
  subst e
  cases r1
  rcases q with ⟨⟨xs, hq⟩, q⟩ | ⟨⟨xs, hq⟩, q⟩
  · obtain ⟨its, rv, p, hz⟩ := I1.list hq
    refine wpAny_pyIter_list p.isList ?_
    refine ⟨s1.heap.objs.size, [s1.heap.objs.size], _, _, H1, rfl, I1.kept (t' := s1.toks) fun b o e => Heap.get?_push_of_some _ e, turn_list a _, ⟨_, Heap.get?_push_size _ rfl, rfl, rfl⟩, fun b hb => ?_, q⟩
    have e : b = s1.heap.objs.size := by simpa using hb
    subst e
    exact I1.fpOk (Nat.le_refl _) (I1.hok.fresh (Nat.le_refl _))
  · obtain ⟨its, rv, p, hz⟩ := I1.tuple hq
    refine wpAny_pyIter_tuple (show s1.heap.IsTuple a its.toArray from p) ?_
    refine ⟨s1.heap.objs.size, [s1.heap.objs.size], _, _, H1, rfl, I1.kept (t' := s1.toks) fun b o e => Heap.get?_push_of_some _ e, turn_tuple a _, ⟨_, Heap.get?_push_size _ rfl, rfl, rfl⟩, fun b hb => ?_, q⟩
    have e : b = s1.heap.objs.size := by simpa using hb
    subst e
    exact I1.fpOk (Nat.le_refl _) (I1.hok.fresh (Nat.le_refl _))
theorem for_row {K : PySem.W.Frag} {a : Addr} {xs : List V} {g : TG} {tb : TS} {D : Ends} {σ : L2.St} {H : Hp} (hr : Row K H a xs) (Pv : Nat → L2.St → Hp → Prop) (h0 : Pv 0 σ H) (hm : ∀ i σ H', Pv i σ H' → Same H H')
    (hs : ∀ i x σ H, xs[i]? = some x → Pv i σ H → g x σ H fun σ2 H2 => tb { D with nx := Pv (i + 1), ct := Pv (i + 1), bk := D.nx } σ2 H2) (hd : ∀ σ H, Pv xs.length σ H → D.nx σ H) :
    ((∃ xs, SqL K H a xs) ∧ (∃ W : Nat → Nat → L2.St → Hp → Prop, (∃ m, W 0 m σ H) ∧ ∀ i m σ H, W i m σ H →
      ((Itl K a).stop i H ∧ D.nx σ H) ∨ ((Itl K a).go i H ∧ ∃ N : L2.St → Hp → Prop, (∀ σ' H', N σ' H' → ∃ m', m' < m ∧ W (i + 1) m' σ' H') ∧ ∀ x H', (Itl K a).yld i H x H' → g x σ H' fun σ2 H2 => tb { D with nx := N, ct := N, bk := D.nx } σ2 H2))) ∨
    ((∃ xs, SqT K H a xs) ∧ (∃ W : Nat → Nat → L2.St → Hp → Prop, (∃ m, W 0 m σ H) ∧ ∀ i m σ H, W i m σ H →
      ((Itt K a).stop i H ∧ D.nx σ H) ∨ ((Itt K a).go i H ∧ ∃ N : L2.St → Hp → Prop, (∀ σ' H', N σ' H' → ∃ m', m' < m ∧ W (i + 1) m' σ' H') ∧ ∀ x H', (Itt K a).yld i H x H' → g x σ H' fun σ2 H2 => tb { D with nx := N, ct := N, bk := D.nx } σ2 H2))) := by
  rcases hr with hr | hr
  · exact .inl ⟨⟨_, hr⟩, for_list Pv h0 (fun i σ H' _ p => L2.Same.seq (hm i σ H' p) hr) hs hd⟩
  · exact .inr ⟨⟨_, hr⟩, for_tup Pv h0 (fun i σ H' _ p => NF.Same.tup (hm i σ H' p) hr) hs hd⟩
theorem ixs {X : Cx} {K : PySem.W.Frag} (h : X.K = K := by rfl) : IxR X (rIx K) := h ▸ ix_seq
theorem ix_done {K : PySem.W.Frag} {H : Hp} {a : Addr} {xs : List V} {i : Int} {v : V} {Q : VK} (hr : Row K H a xs) (hv : atI xs i = some v) (q : Q v H) : rIx K (.ref a) (.int i) H Q :=
  hr.elim (fun h => .inl ⟨a, xs, i, v, rfl, rfl, h, hv, q⟩) fun h => .inr (.inl ⟨a, xs, i, v, rfl, rfl, h, hv, q⟩)
theorem tru_row {K : PySem.W.Frag} {H : Hp} {a : Addr} {l : List Int} (h : Row K H a (vI l)) : TruV K (.ref a) H (!l.isEmpty) := h.elim (fun h => Or.inl ⟨_, h, by cases l <;> rfl⟩) tru_tup
theorem tyx_tup {K : PySem.W.Frag} {H : Hp} {a : Addr} {xs : List V} (h : SqT K H a xs) : TyX K H (.ref a) (.type "tuple") := by
  rcases h with (h | ⟨o, h⟩) | ⟨o, its, n, h1, h2, _⟩
  · exact .base (.tup h)
  · exact .fTuple h
  · exact .kTuple h1 h2
theorem tyx_lst {K : PySem.W.Frag} {H : Hp} {a : Addr} {xs : List V} (h : SqL K H a xs) : TyX K H (.ref a) (.type "list") := by
  rcases h with (h | ⟨o, h⟩) | ⟨o, its, n, h1, h2, _⟩
  · exact .base (.lst h)
  · exact .base (.frz h)
  · exact .kList h1 h2
theorem kit_i_i (K : PySem.W.Frag) : PySem.W.kitOne K (.type "int") (.type "int") = some true := if_pos (by decide +kernel)
theorem kit_i_b (K : PySem.W.Frag) : PySem.W.kitOne K (.type "int") (.type "bool") = some false := by kernel_rfl
theorem kit_b_b (K : PySem.W.Frag) : PySem.W.kitOne K (.type "bool") (.type "bool") = some true := if_pos (by decide +kernel)
theorem kit_t_t (K : PySem.W.Frag) : PySem.W.kitOne K (.type "tuple") (.type "tuple") = some true := if_pos (by decide +kernel)
theorem kit_t_tl (K : PySem.W.Frag) : PySem.W.kitAny K (.type "tuple") [.type "tuple", .type "list"] = some true := by kernel_rfl
theorem kit_l_tl (K : PySem.W.Frag) : PySem.W.kitAny K (.type "list") [.type "tuple", .type "list"] = some true := by kernel_rfl
end NF
namespace NT
def climbs : Int → List Int → Prop
  | _, [] => True
  | lo, x :: xs => lo ≤ x ∧ climbs x xs
structure Good (h l : List Int) (r : Int) : Prop where
  hd : climbs 0 h
  lp : climbs 0 l
  join : h ≠ [] → l ≠ [] → h.getD (h.length - 1) 0 ≤ l.getD 0 0
  r0 : 0 ≤ r
  rl : l = [] → r = 0
  last : l ≠ [] → l.getD (l.length - 1) 0 ≤ l.getD 0 0 + r
end NT
set_option Elab.async false
set_option linter.all false
set_option maxRecDepth 100000
set_option maxHeartbeats 4000000
namespace NT
theorem least_of {p : Nat → Prop} : ∀ n, p n → ∃ m, p m ∧ m ≤ n ∧ ∀ k, p k → m ≤ k := by
  intro n
  induction n using Nat.strongRecOn with
  | _ n ih =>
    intro hn
    by_cases h : ∃ k, p k ∧ k < n
    · obtain ⟨k, hk, hlt⟩ := h
      obtain ⟨m, h1, h2, h3⟩ := ih k hlt hk
      exact ⟨m, h1, by omega, h3⟩
    · exact ⟨n, hn, Nat.le_refl _, fun k hk => Nat.le_of_not_lt fun hlt => h ⟨k, hk, hlt⟩⟩
theorem lap_ex {l : List Int} {r : Int} (hl : l ≠ []) : ∃ m, LapIs l r m := by
  obtain ⟨m, ⟨h1, h2, h3⟩, _, hm⟩ := least_of (p := fun m => 0 < m ∧ m ∣ l.length ∧ Per (walk l r) m) l.length ⟨len_pos hl, Nat.dvd_refl _, per_self hl⟩
  exact ⟨m, h1, h2, h3, fun k a b c => hm k ⟨a, b, c⟩⟩
/-- the plain form is no longer than what it was told by -/
theorem plain_size {h l : List Int} {r : Int} {x : List Int × List Int × Int} (hx : IsPlain h l r x) : x.1.length ≤ h.length ∧ x.2.1.length ≤ l.length ∧ (l ≠ [] → x.2.1 ≠ []) ∧ (l = [] → x.2.1 = []) ∧ (0 ≤ r → 0 ≤ x.2.2 ∧ x.2.2 ≤ r) ∧ (l ≠ [] → (0 < r ↔ 0 < x.2.2)) ∧ (l = [] → x = (h, [], 0)) := by
  by_cases hl : l = []
  · subst hl
    rcases hx with ⟨_, rfl⟩ | ⟨z, _⟩
    · exact ⟨Nat.le_refl _, Nat.le_refl _, fun z => absurd rfl z, fun _ => rfl, fun h => ⟨Int.le_refl _, h⟩, fun z => absurd rfl z, fun _ => rfl⟩
    · exact absurd rfl z
  · obtain ⟨m, a⟩ := lap_ex (r := r) hl
    obtain ⟨t, ht⟩ := a.dvd
    have hc := per_at hl a.pos a.per ht.symm
    have hr := per_rise hl hc ht.symm
    have t0 : 0 < t := Nat.pos_of_ne_zero fun z => by rw [z, Nat.mul_zero] at ht; have := len_pos hl; omega
    have b := plain_is (h := h) hl a hc
    have e := plain_one hx b fun n _ => rfl
    have hle : m ≤ l.length := Nat.le_of_dvd (len_pos hl) a.dvd
    have hlen : (h ++ l.take m).length = h.length + m := by rw [List.length_append, List.length_take, Nat.min_eq_left hle]
    have hcut := cut_le (e := h ++ l.take m) (p := m) (r := r / (t : Int)) h.length
    have hw := win_len (e := h ++ l.take m) (left := cut (h ++ l.take m) m (r / (t : Int)) h.length) (p := m) (by rw [hlen]; omega)
    subst e
    have hm := a.pos
    refine ⟨?_, ?_, fun _ z => ?_, fun z => absurd z hl, fun h0 => ?_, fun _ => ?_, fun z => absurd z hl⟩
    · show ((h ++ l.take m).take _).length ≤ _
      rw [List.length_take]
      omega
    · show (win _ _ _).length ≤ _
      rw [hw]
      exact hle
    · have z' : win (h ++ l.take m) (cut (h ++ l.take m) m (r / (t : Int)) h.length) m = [] := z
      rw [z'] at hw
      simp at hw
      omega
    · show 0 ≤ r / (t : Int) ∧ r / (t : Int) ≤ r
      exact ⟨Int.ediv_nonneg h0 (by omega), Int.ediv_le_self _ h0⟩
    · show 0 < r ↔ 0 < r / (t : Int)
      have t1 : (0 : Int) < (t : Int) := by omega
      constructor
      · intro h0
        rcases Int.lt_or_le 0 (r / (t : Int)) with q | q
        · exact q
        · have := Int.mul_le_mul_of_nonneg_right q (Int.le_of_lt t1)
          omega
      · intro h0
        have := Int.mul_pos h0 t1
        omega
/-- the end of a table -/
def fin_ (l : List Int) (r : Int) : Option Int := if l = [] ∨ 0 < r then none else some (l.getD (l.length - 1) 0)
/-- the value at a count, or at never -/
def val_ (h l : List Int) (r : Int) : Option Nat → Option Int
  | none => fin_ l r
  | some n => if n = 0 then some 0 else at_ h l r n
end NT
namespace NF
open PySem PySem.Spec PyProof.Rows L2 He RZ NT
def vO : Option Int → V
  | none => .non
  | some i => .int i
def vN : Option Nat → V
  | none => .non
  | some n => .int (n : Int)
def tf (a b : Addr) (r : Int) : List (Str × V) := [("head", .ref a), ("loop", .ref b), ("rise", .int r)]
/-- a table with these three -/
def TabAt (K : PySem.W.Frag) (C : Addr) (H : Hp) (x : Addr) (y : List Int × List Int × Int) : Prop := ∃ dx a b, H x = some (.ins C dx (tf a b y.2.2)) ∧ SqT K H a (vI y.1) ∧ SqT K H b (vI y.2.1)
theorem TabAt.mono {K : PySem.W.Frag} {C : Addr} {H H' : Hp} {x : Addr} {y : List Int × List Int × Int} (h : TabAt K C H x y) (s : Same H H') : TabAt K C H' x y := by
  obtain ⟨dx, a, b, h1, h2, h3⟩ := h
  exact ⟨dx, a, b, s _ _ h1, NF.Same.tup s h2, NF.Same.tup s h3⟩
/-- what stands at p is no tuple -/
def NoTup : HO → Prop
  | .tup _ => False
  | .frz _ _ => False
  | _ => True
theorem SqT.put {K : PySem.W.Frag} {H : Hp} {a p : Addr} {o u : HO} {xs : List V} (h : SqT K H a xs) (hp : H p = some u) (n : match u with | .lst _ => True | .ins _ _ _ => True | _ => False) : SqT K (upd H p o) a xs := by
  rcases h with (h | ⟨w, h⟩) | h
  · refine .inl (.inl ?_)
    rw [upd_ne (fun z => by subst z; rw [h] at hp; cases hp; exact n)]
    exact h
  · refine .inl (.inr ⟨w, ?_⟩)
    rw [upd_ne (fun z => by subst z; rw [h] at hp; cases hp; exact n)]
    exact h
  · exact .inr h
theorem SqT.wo {K : PySem.W.Frag} {H : Hp} {a p : Addr} {u : HO} {xs : List V} (h : SqT K H a xs) (hp : H p = some u) (n : match u with | .lst _ => True | .ins _ _ _ => True | _ => False) : SqT K (wo H p) a xs := by
  rcases h with (h | ⟨w, h⟩) | h
  · refine .inl (.inl ?_)
    rw [wo_ne (fun z => by subst z; rw [h] at hp; cases hp; exact n)]
    exact h
  · refine .inl (.inr ⟨w, ?_⟩)
    rw [wo_ne (fun z => by subst z; rw [h] at hp; cases hp; exact n)]
    exact h
  · exact .inr h
theorem TabAt.wo {K : PySem.W.Frag} {C : Addr} {H : Hp} {x p : Addr} {y : List Int × List Int × Int} {l : List V} (h : TabAt K C H x y) (hp : H p = some (.lst l)) : TabAt K C (NF.wo H p) x y := by
  obtain ⟨dx, a, b, h1, h2, h3⟩ := h
  refine ⟨dx, a, b, ?_, SqT.wo h2 hp trivial, SqT.wo h3 hp trivial⟩
  rw [wo_ne (fun z => by subst z; rw [h1] at hp; cases hp)]
  exact h1
/-- a class that may be made by its name; sp: its __init__ -/
structure Mak (P : Program) (w : World) (K : PySem.W.Frag) (mg : Str → Option Value) (base : Heap) (k n : Nat) (x : Str) (C : Addr) (sp : Sp) (dvs : List V) : Prop where
  ex : ∃ (f : Addr) (fd : FuncData) (ps : List Str) (ds : List Value), Mk K C f ∧ FnOk P w K mg base CX0 k f fd ps sp ∧ mg x = some (.ref C) ∧ Binds K fd ps ds ∧ Vals dvs ds
theorem pe_mk {X : Cx} {k j n : Nat} {C : Addr} {x : Str} {sp : Sp} {dvs : List V} {p pos : Pos} {e : Expr} {es : List Expr} {t : TA} (c : Mak X.prog X.w X.K X.mg X.base k n x C sp dvs) (hr : Room j X.A) (hk : k + 1 ≤ j) (hg : Gl X x) (ha : PA X (e :: es) t)
    (hdb : (x == ("__debug__" : Str)) = false := by decide) (he : starEach (e :: es) X.env = (false, eval e X.env) :: starEach es X.env := by rfl) (hpl : (backTo pos (starEach es X.env)).any (·.1) = false := by rfl) :
    PE X (.Call (.Name x p) (e :: es) [] pos) (tMake C sp dvs E0 t) := by
  obtain ⟨f, fd, ps, ds, M, F, hm, b, d⟩ := c.ex
  exact pe_make M F (hr.mono hk) hg hm b d pass0 ha hdb he hpl
end NF
namespace NF
open PySem PySem.Spec PyProof.Rows L2 He RZ NT
/-- tuple(..) of a list or a tuple -/
def rTupOf (K : PySem.W.Frag) : List V → Hp → VK → Prop := fun xs H Q => ∃ a ys, xs = [.ref a] ∧ Row K H a ys ∧ ∀ p H', Same H H' → SqT K H' p ys → Q (.ref p) H'
theorem cr_tup {X : Cx} : CallR X (.type "tuple") (rTupOf X.K) := by
  intro pins s σ H xs us Q I r h
  obtain ⟨a, ys, rfl, hr, q⟩ := h
  refine call_tuple_of pins s σ H _ us Q I r ⟨a, ys, rfl, ?_⟩
  exact hr.elim (fun h => .inl ⟨h, fun l hl => q l _ (NF.Same.new (Same.refl H) hl) (SqT.of upd_same)⟩) fun h => .inr ⟨h, q a H (Same.refl H) h⟩
end NF
set_option Elab.async false
set_option linter.all false
set_option maxRecDepth 100000
set_option maxHeartbeats 4000000
/-! Instances of a plain class with an own __eq__: ==, !=, isinstance, calls, properties. -/
namespace NF
open PySem PySem.Spec PyProof.Rows L2 He RZ NT
theorem ns_some_of {K : PySem.W.Frag} {h : Heap} {N : Addr} {mg : Str → Option Value} {n : Str} {v : Value} (X : K.In h) (G : h.Ns N mg) (e : PySem.W.nsIn K N n = some (some v)) : mg n = some v := by
  rcases G with ⟨ob, rows, cnt, at_, isD, rest⟩
  have val := rest.2 n
  rcases hk : K.lookup N with _ | ⟨c0, d0, dt, sl⟩
  · simp only [PySem.W.nsIn, hk] at e
    cases e
  · have same := (X N _ hk).symm.trans at_
    injection same with same
    subst same
    dsimp only at isD
    subst isD
    simp only [PySem.W.nsIn, hk] at e
    rw [← val]
    unfold nsFind findBy
    rw [← Array.find?_toList]
    revert e
    cases rows.toList.find? _ with
    | some en => exact fun e => by simpa using e
    | none =>
      intro e
      by_cases hany : (rows.toList.any fun x => x.refKey) = true
      · simp [hany] at e
      · simp [hany] at e
/-- the class's own object: nothing above it but object, an own __eq__ at f, no own __ne__ -/
def plObjB (K : PySem.W.Frag) (C f : Addr) : Bool := match K.lookup C with
  | some ⟨.type t, _, .cls cd, sl⟩ => t == "type" && (match cd.mro with
    | .ref C' :: bm => C' == C && bm == [.type "object"]
    | _ => false) && (cd.hasDict && !cd.hasDel) && (PySem.W.nsOkIn K cd.ns && eqO (PySem.W.nsIn K cd.ns "__eq__") (some (some (.ref f))) && eqO (PySem.W.nsIn K cd.ns "__ne__") (some none)) && (match sl.toList with
    | [_, _, _, _, some (.builtin n), _] => n == "object.__new__"
    | _ => false)
  | _ => false
theorem plObjB_ok {K : PySem.W.Frag} {C f : Addr} (h : plObjB K C f = true) :
    ∃ nm q N bs sn sub ab col dd k0 k1 k2 k3 k5, K.lookup C = some (excClassObj nm q C N bs [.type "object"] true sn sub ab col dd k0 k1 k2 k3 k5 "object.__new__") ∧ PySem.W.nsOkIn K N = true ∧ PySem.W.nsIn K N "__eq__" = some (some (.ref f)) ∧ PySem.W.nsIn K N "__ne__" = some none := by
  unfold plObjB at h
  split at h
  · rename_i t dd cd sl hl
    obtain ⟨h, h4⟩ := ba h
    obtain ⟨h, h9⟩ := ba h
    obtain ⟨h, h3⟩ := ba h
    obtain ⟨h1, h2⟩ := ba h
    obtain ⟨h12, h11⟩ := ba h9
    obtain ⟨h13, h10⟩ := ba h12
    split at h2
    · rename_i C' bm hm
      obtain ⟨h5, h6⟩ := ba h2
      split at h4
      · rename_i k0 k1 k2 k3 n k5 hs
        obtain ⟨h7, h8⟩ := ba h3
        have e1 : t = "type" := eq_of_beq h1
        have e5 : C' = C := eq_of_beq h5
        have e6 : bm = [.type "object"] := eq_of_beq h6
        have e9 : n = "object.__new__" := eq_of_beq h4
        subst e1 e5 e6 e9
        obtain ⟨nm, bs, mro, N, q, hd, sn, sub, ab, col, hdel⟩ := cd
        dsimp only at hm h7 h8 h13 h10 h11
        subst hm h7
        have hdel' : hdel = false := by
          cases hdel with
          | false => rfl
          | true => cases h8
        subst hdel'
        have hsl : sl = #[k0, k1, k2, k3, some (.builtin "object.__new__"), k5] := by
          have := congrArg List.toArray hs
          simpa using this
        subst hsl
        exact ⟨nm, q, N, bs, sn, sub, ab, col, dd, k0, k1, k2, k3, k5, hl, h13, eqO_ok h10, eqO_ok h11⟩
      · cases h4
    · cases h2
  · cases h
/-- x == y, x an instance of C -/
def rEqO (K : PySem.W.Frag) (C : Addr) (sp : Sp) : R2 := fun x y H Q => ∃ a dx fs tb, x = .ref a ∧ H a = some (.ins C dx fs) ∧ TyX K H y tb ∧ PySem.W.notFirst K C tb = true ∧ sp [.ref a, y] H Q E0
/-- x != y, both instances of C -/
def rNeO (K : PySem.W.Frag) (C : Addr) (sp : Sp) : R2 := fun x y H Q => ∃ a dx fs b dy gs, x = .ref a ∧ H a = some (.ins C dx fs) ∧ y = .ref b ∧ H b = some (.ins C dy gs) ∧ sp [.ref a, .ref b] H (fun v H' => ∃ t, v = .bl t ∧ Q (.bl (!t)) H') E0
/-- a class with an own == at f -/
structure EqC (P : Program) (w : World) (K : PySem.W.Frag) (mg : Str → Option Value) (base : Heap) (k : Nat) (C : Addr) (sp : Sp) : Prop where
  ex : ∃ (f : Addr) (fd : FuncData) (ps : List Str), FnOk P w K mg base CX0 k f fd ps sp ∧ PySem.W.findIn K (.ref C) "__eq__" = some (some (.ref f)) ∧ PySem.W.isFn K (.ref f) = true ∧ plObjB K C f = true ∧ Binds K fd ps []
theorem op_eqO {X : Cx} {k j : Nat} {C : Addr} {sp : Sp} (c : EqC X.prog X.w X.K X.mg X.base k C sp) (hr : Room j X.A) (hk : k ≤ j) : OpR X (compareOp .Eq) (rEqO X.K C sp) := by
  obtain ⟨f, fd, ps, F, hs, hf, _, hb⟩ := c.ex
  intro pins s σ H x y v u Q I rx ry h
  obtain ⟨a, dx, fs, tb, rfl, ha, ty, hn, q⟩ := h
  cases rx
  obtain ⟨mA, O, _⟩ := ins_get I.hok ha
  obtain ⟨od, J, _⟩ := O.look
  obtain ⟨m, hF⟩ := I.fr
  obtain ⟨P, Z, p, _⟩ := kit_of I ry ty
  show wpAny (model X.prog X.w) X.A (richCompare .Eq (.ref a) u) (EP X pins σ Q) X.xe s
  refine PySem.W.cmp_K (op := .Eq) (tb := tb) hr.units0 hF I.ok.mod.kin J (Z.ty _ _ I.kIn p) hn hs hf ?_
  have r2 : Vals [V.ref a, y] [Value.ref a, u] := .cons rfl (.cons ry .nil)
  refine wpAny_mono (run_fn (us := [.ref a, u]) (vs := [.ref a, y]) F (hr.mono hk) hb .nil pass0 I r2 q) (fun r s' z => ?_) fun _ _ e => e
  obtain ⟨z, H', I', rz, q'⟩ := z
  have hni : r ≠ .notImplemented := fun e => by
    subst e
    cases z with
    | int i => obtain ⟨t, e⟩ := (show ∃ t, Value.notImplemented = Value.int i t from rz); cases e
    | str i => obtain ⟨t, e⟩ := (show ∃ t, Value.notImplemented = Value.str i t from rz); cases e
    | byt i => obtain ⟨t, e⟩ := (show ∃ t, Value.notImplemented = Value.bytes i t from rz); cases e
    | flt i => obtain ⟨t, e⟩ := (show ∃ t, Value.notImplemented = Value.float i t from rz); cases e
    | _ => cases rz
  unfold PySem.W.CmpBack
  split
  · exact hni rfl
  · exact ⟨z, H', I', rz, q'⟩
theorem op_neO {X : Cx} {k j : Nat} {C : Addr} {sp : Sp} (c : EqC X.prog X.w X.K X.mg X.base k C sp) (hr : Room j X.A) (hk : k + 1 ≤ j) : OpR X (compareOp .NotEq) (rNeO X.K C sp) := by
  obtain ⟨f, fd, ps, F, hs, hf, hp, hb⟩ := c.ex
  intro pins s σ H x y v u Q I rx ry h
  obtain ⟨a, dx, fs, b, dy, gs, rfl, ha, rfl, hb', q⟩ := h
  cases rx
  cases ry
  obtain ⟨mA, O, _⟩ := ins_get I.hok ha
  obtain ⟨od, J, _⟩ := O.look
  obtain ⟨mB, O', _⟩ := ins_get I.hok hb'
  obtain ⟨od', J', _⟩ := O'.look
  obtain ⟨nm, qn, N, bs, sn, sub, ab, col, dd, k0, k1, k2, k3, k5, hl, hok, he, hne⟩ := plObjB_ok hp
  have G : s.heap.Ns N (s.heap.nsMap N) := .of_isNs (PySem.W.isNs_of_in I.kIn hok)
  have hr1 := hr.mono hk
  have r2 : Vals [V.ref a, .ref b] [Value.ref a, .ref b] := .cons rfl (.cons rfl .nil)
  have hlen := F.len _ _ _ _ q
  have run : wpAny (model X.prog X.w) X.A.in1 (call (.ref f) [.ref a, .ref b]) (fun v s' => ∃ t, v = .bool t ∧ EP X pins σ Q (.bool (!t)) s') X.xe s := by
    refine wpAny_call (codeAny_mono (F.run X.A.in1 X.stack s H ⟨[.ref a, .ref b], []⟩ [.ref a, .ref b] [.ref a, .ref b] _ E0 hr1.in1 I.env0.in1 (by
      have := hb s [.ref a, .ref b] I.kIn (by simpa using hlen)
      simpa using this) r2 q) fun r s' hq => ?_)
    cases r with
    | error e => exact False.elim hq
    | ok fl =>
      cases fl with
      | ret w =>
        obtain ⟨z, H', I', rz, t, ez, q3⟩ := I.after hq
        subst ez
        cases rz
        exact ⟨t, rfl, .bl (!t), H', I', rfl, q3⟩
      | next => exact False.elim hq
      | brk => exact False.elim hq
      | cont => exact False.elim hq
  obtain ⟨j1, j2, _⟩ := J
  obtain ⟨j3, j4, _⟩ := J'
  obtain ⟨of, hfo, hfc⟩ : ∃ of, s.heap.get? f = some of ∧ of.cls = .type "function" := by
    have e : (K0 : PySem.W.Frag) → K0.In s.heap → PySem.W.isFn K0 (.ref f) = true → ∃ of, s.heap.get? f = some of ∧ of.cls = .type "function" := fun K0 hK h0 => by
      have e1 : (K0.lookup f).map (·.cls) = some (.type "function") := beq_iff_eq.mp h0
      obtain ⟨o, ho, hc⟩ := Option.map_eq_some_iff.mp e1
      exact ⟨o, hK _ _ ho, hc⟩
    exact e X.K I.kIn hf
  obtain ⟨hp', g, d, tk, os⟩ := s
  exact PySem.compareOp_ne_ownEq (B := "object") (bm := [.type "object"]) PySem.F.cmp_object ⟨_, of, nm, qn, N, bs, true, sn, sub, ab, col, dd, k0, k1, k2, k3, k5, "object.__new__", _, _, j1, j2, I.kIn _ _ hl, G, ns_some_of I.kIn G he, hfo, hfc, PySem.F.cmp_object.mro, PySem.F.cmp_object.eq.lookup, PySem.W.ns_none_of I.kIn G hne⟩ j3 j4 (by have := hr.un; omega) run
/-- an instance of C may be called -/
structure CalO (P : Program) (w : World) (K : PySem.W.Frag) (mg : Str → Option Value) (base : Heap) (k : Nat) (C : Addr) (sp : Sp) : Prop where
  ex : ∃ (g : Addr) (fd : FuncData) (ps : List Str), StX.CallO K C g ∧ FnOk P w K mg base CX0 k g fd ps sp ∧ Binds K fd ps []
theorem pe_co {X : Cx} {k j : Nat} {C : Addr} {sp : Sp} {fe e : Expr} {es : List Expr} {t : TA} {tf : TE} {pos : Pos} (hf : PE X fe tf) (c : CalO X.prog X.w X.K X.mg X.base k C sp) (hr : Room j X.A) (hk : k ≤ j) (ha : PA X (e :: es) t)
    (ht : eval (.Call fe (e :: es) [] pos) X.env = (do callWith pos (← eval fe X.env) [] (backTo pos (starEach (e :: es) X.env)) (backToKw pos (keywordEach [] X.env))) := by rfl)
    (he : starEach (e :: es) X.env = (false, eval e X.env) :: starEach es X.env := by rfl) (hpl : (backTo pos (starEach es X.env)).any (·.1) = false := by rfl) :
    PE X (.Call fe (e :: es) [] pos) (StX.tCallO X C (fun vs H Q E => sp (vs ++ []) H Q E) E0 tf t) := by
  obtain ⟨g, fd, ps, c, F, b⟩ := c.ex
  exact StX.pe_callO hf c (F.raw b .nil) (hr.mono hk) pass0 ha ht he hpl
/-- a property of C -/
structure PropC (P : Program) (w : World) (K : PySem.W.Frag) (mg : Str → Option Value) (base : Heap) (k : Nat) (C : Addr) (f : Str) (sp : Sp) : Prop where
  cl : Cls K C
  ex : ∃ (p g : Addr) (fd : FuncData) (ps : List Str), PropOf K C f p g ∧ FnOk P w K mg base CX0 k g fd ps sp ∧ Binds K fd ps []
theorem pe_pr {X : Cx} {k j : Nat} {C : Addr} {f : Str} {sp : Sp} {e : Expr} {ta : TE} {pos : Pos} (he : PE X e ta) (c : PropC X.prog X.w X.K X.mg X.base k C f sp) (hr : Room j X.A) (hk : k + 1 ≤ j) (hab : attributeBase e f X.env (eval e X.env) = eval e X.env := by rfl) :
    PE X (.Attribute e f pos) (tProp C sp [] E0 ta) := by
  obtain ⟨p, g, fd, ps, c2, F, b⟩ := c.ex
  exact pe_prop he c.cl c2 F (hr.mono hk) b .nil pass0 hab
end NF
set_option Elab.async false
set_option linter.all false
set_option maxRecDepth 100000
set_option maxHeartbeats 4000000
/-! The hook with getters: defs at addresses told by the written part. -/
namespace NF
open PySem PySem.Spec PyProof.Rows L2 He
def fnWa (K : PySem.W.Frag) (a : Addr) : FnW := match K.lookup a with
  | some ⟨_, _, .func fd, _⟩ => some (fd.name, fd.qualname, fd.params, fd.body, fd.scope, fd.globals, fd.closure, fd.builtins)
  | _ => none
def okA (K : PySem.W.Frag) (a : Addr) (d : DefD) : Bool := PySem.W.keepIn K (.ref a) && (match K.lookup a with
  | some ⟨_, _, .func fd, _⟩ => PySem.W.codeIn K fd.code d.qual && (dflB K fd.defaults (d.dvs K) && kwdB K fd.kwdefaults (d.kws K))
  | _ => false)
theorem funA {K : PySem.W.Frag} {a : Addr} {d : DefD} (e : fnWa K a = d.val) (c : okA K a d = true) : ∃ fd, FunD K d.name d.qual d.params d.body d.scope (d.dvs K) (d.kws K) a fd := by
  have hkp := (ba c).1
  have hrec := (ba c).2
  rcases hl : K.lookup a with _ | ⟨c0, d0, dt, sl⟩
  · simp only [hl] at hrec
    exact absurd hrec (by decide)
  · cases dt
    case func g =>
      simp only [fnWa, hl, DefD.val, Option.some.injEq, Prod.mk.injEq] at e
      rcases g with ⟨m1, m2, m3, m4, m5, m6, m7, m8, m9, m10, m11, m12, m13, m14, m15⟩
      simp only at e
      rcases e with ⟨z1, z2, z3, z4, z5, z6, z7, z8⟩
      simp only [hl] at hrec
      have hcode := (ba hrec).1
      have hdfl := dflB_ok (ba (ba hrec).2).1
      have hkwd := kwdB_ok (ba (ba hrec).2).2
      refine ⟨PySem.W.fnOf d.name d.qual d.params d.body d.scope m8 m9 m10 m11 m12 m13 m14, ⟨c0, d0, m8, m9, m10, m11, m12, m13, m14, sl, rfl, ?_, hcode, hdfl, hkwd⟩, hkp⟩
      subst z1 z2 z3 z4 z5 z6 z7 z8
      exact hl
    all_goals
      simp only [hl] at hrec
      exact absurd hrec (by decide)
abbrev Adr := (PySem.W.Frag → Addr) × DefD
def obsP (ex : PySem.W.Frag → Bool) (fn : List Adr) (K : PySem.W.Frag) : AlD := (ex K && fn.all fun d => okA K (d.1 K) d.2, fn.map fun d => fnWa K (d.1 K))
def valP (fn : List Adr) : AlD := (true, fn.map fun d => d.2.val)
def SaysP (ex : PySem.W.Frag → Bool) (fn : List Adr) (K : PySem.W.Frag) : Prop := obsP ex fn K = valP fn
def obsPG (n : Nat) (ex : PySem.W.Frag → Bool) (fn : List Adr) (g : Addr → Option Obj) : AlD := obsP ex fn (frG g (asD g n))
def hookP (n : Nat) (ex : PySem.W.Frag → Bool) (fn : List Adr) : PySem.W.Hook where
  α := AlD
  obs := fun s => obsPG n ex fn s.heap.get?
  val := fun _ => valP fn
  says := fun _ h => ∃ K : PySem.W.Frag, K.In h ∧ SaysP ex fn K
  of := fun _ _ e => ⟨_, frG_in, e⟩
  keeps := fun _ _ _ ⟨K, hK, c⟩ k => ⟨K, PySem.W.Frag.In.keeps hK k, c⟩
theorem obsPG_eq {n : Nat} {ex : PySem.W.Frag → Bool} {fn : List Adr} {g : Addr → Option Obj} {s : Shared} (h : ∀ a, g a = s.heap.get? a) : obsPG n ex fn g = (hookP n ex fn).obs s := by
  have e : g = s.heap.get? := funext h
  rw [e] <;> rfl
section
variable {ex : PySem.W.Frag → Bool} {fn : List Adr} {K : PySem.W.Frag}
theorem SaysP.truth (c : SaysP ex fn K) : ex K = true :=
  (ba (show (ex K && fn.all fun d => okA K (d.1 K) d.2) = true from congrArg (fun z : AlD => z.1) c)).1
theorem SaysP.def_ (c : SaysP ex fn K) (i : Nat) {d : Adr} (h : fn[i]? = some d := by rfl) : ∃ fd, FunD K d.2.name d.2.qual d.2.params d.2.body d.2.scope (d.2.dvs K) (d.2.kws K) (d.1 K) fd := by
  have c2 := (ba (show (ex K && fn.all fun d => okA K (d.1 K) d.2) = true from congrArg (fun z : AlD => z.1) c)).2
  have e : fn.map (fun d => fnWa K (d.1 K)) = fn.map fun d => d.2.val := congrArg (fun z : AlD => z.2) c
  have e2 : (fn.map fun d => fnWa K (d.1 K))[i]? = (fn.map fun d => d.2.val)[i]? := by rw [e]
  rw [List.getElem?_map, List.getElem?_map, h] at e2
  exact funA (Option.some.inj e2) (List.all_eq_true.mp c2 d (List.mem_of_getElem? h))
end
end NF
set_option Elab.async false
set_option linter.all false
set_option maxRecDepth 100000
set_option maxHeartbeats 4000000
/-! Makers and instances whose defs let an exception out. -/
namespace NF
open PySem PySem.Spec PyProof.Rows L2 He RZ NT
/-- a def's answer handed on, or its exception let through -/
theorem handS {X : Cx} {CX : CXT} {E : L2.St → XK} {σ : L2.St} {pins : List (Addr × Obj)} {H : Hp} {s : Shared} {Q : VK} (hx : PassesAt CX X σ (E σ)) (I : Inv X pins σ H s) {r : Result} {s' : Shared} (h : CR CX X.stack X.prog X.w H s Q (E σ) r s') :
    (∃ u, r = .ok (.ret u) ∧ EP X pins σ Q u s') ∨ ∃ e, r = .error e ∧ X.xe e s' := by
  cases r with
  | error e => exact .inr ⟨e, rfl, hx pins H s e s' I h⟩
  | ok fl => cases fl with
    | ret u => exact .inl ⟨u, rfl, I.after h⟩
    | next => exact h.elim
    | brk => exact h.elim
    | cont => exact h.elim
def tMakeS (C : Addr) (sp : Sp) (dvs : List V) (E : L2.St → XK) (t : TA) : TE := fun σ H Q => t σ H fun vs H1 => ∀ x dx, H1 x = none → H1 dx = none → dx ≠ x →
  sp (.ref x :: (vs ++ dvs)) (upd (upd H1 dx (.own x)) x (.ins C dx [])) (fun v H2 => v = .non ∧ Q (.ref x) H2) (E σ)
theorem make_runs {X : Cx} {CX : CXT} {k : Nat} {C f : Addr} {fd : FuncData} {ps : List Str} {sp : Sp} {dvs : List V} {ds : List Value} {E : L2.St → XK} {pins : List (Addr × Obj)} {σ : L2.St} {H : Hp} {s : Shared} {Q : VK} {us : List Value} {vs : List V}
    (M : Mk X.K C f) (F : FnOk X.prog X.w X.K X.mg X.base CX k f fd ps sp) (hr : Room (k + 1) X.A) (hb : Binds X.K fd ps ds) (hd : Vals dvs ds) (hx : PassesAt CX X σ (E σ)) (I : Inv X pins σ H s) (r : Vals vs us)
    (h : ∀ x dx, H x = none → H dx = none → dx ≠ x → sp (.ref x :: (vs ++ dvs)) (upd (upd H dx (.own x)) x (.ins C dx [])) (fun v H2 => v = .non ∧ Q (.ref x) H2) (E σ)) :
    wpAny (model X.prog X.w) X.A (call (.ref C) us) (EP X pins σ Q) X.xe s := by
  have want := h (s.heap.objs.size + 1) s.heap.objs.size (I.hok.fresh (Nat.le_succ _)) (I.hok.fresh (Nat.le_refl _)) (Nat.ne_of_lt (Nat.lt_succ_self _))
  have J := Inv.made (C := C) I
  have rr : Vals (V.ref (s.heap.objs.size + 1) :: (vs ++ dvs)) (Value.ref (s.heap.objs.size + 1) :: (us ++ ds)) := .cons rfl (r.append hd)
  have len : (Value.ref (s.heap.objs.size + 1) :: us ++ ds).length = ps.length := rr.length.symm.trans (F.len _ _ _ _ want)
  have body := F.run _ X.stack _ _ ⟨Value.ref (s.heap.objs.size + 1) :: us, []⟩ (Value.ref (s.heap.objs.size + 1) :: (us ++ ds)) _ _ (E σ) (hr.make C us []) (J.env0.make C us []) (hb _ (Value.ref (s.heap.objs.size + 1) :: us) J.kIn len) rr want
  refine wpAny_call (make_map (f := f) I.kIn M.makes M.init (beq_iff_eq.mp M.fn) (codeAny_mono body fun q s' hq => ?_))
  rcases handS hx J hq with ⟨u, rfl, v, H', J', rv, ev, q3⟩ | ⟨e, rfl, hz⟩
  · subst ev
    exact ⟨rv, V.ref (s.heap.objs.size + 1), H', J', rfl, q3⟩
  · exact hz
/-- a class whose __init__ may let an exception out -/
structure MakX (P : Program) (w : World) (K : PySem.W.Frag) (mg : Str → Option Value) (base : Heap) (k n : Nat) (x : Str) (C : Addr) (sp : Sp) (dvs : List V) : Prop where
  ex : ∃ (f : Addr) (fd : FuncData) (ps : List Str) (ds : List Value), Mk K C f ∧ FnOk P w K mg base (L2.CX P w) k f fd ps sp ∧ mg x = some (.ref C) ∧ Binds K fd ps ds ∧ Vals dvs ds
theorem pe_mkX {X : Cx} {k j n : Nat} {C : Addr} {x : Str} {sp : Sp} {dvs : List V} {W : WX} {p pos : Pos} {e : Expr} {es : List Expr} {t : TA} (tk : Takes X W) (c : MakX X.prog X.w X.K X.mg X.base k n x C sp dvs) (hr : Room j X.A) (hk : k + 1 ≤ j) (hg : Gl X x) (ha : PA X (e :: es) t)
    (hdb : (x == ("__debug__" : Str)) = false := by decide) (he : starEach (e :: es) X.env = (false, eval e X.env) :: starEach es X.env := by rfl) (hpl : (backTo pos (starEach es X.env)).any (·.1) = false := by rfl) :
    PE X (.Call (.Name x p) (e :: es) [] pos) (tMakeS C sp dvs (WE W) t) := by
  obtain ⟨f, fd, ps, ds, M, F, hm, b, d⟩ := c.ex
  refine ⟨fun pins s σ H Q I h => ?_⟩
  refine wpAny_Call_Name_kw (ld_glob I hg hm ?_ hdb)
  refine PySem.W.callWith_K (h₀ := X.base) I.ok.mod.kin M.kp (thn (ha.run pos pins s σ H _ I h) fun us s1 ⟨vs, H1, I1, r, q⟩ => ⟨I1.kIn, ?_⟩) he hpl
  exact make_runs (E := WE W) M F (hr.mono hk) b d (passAt tk σ) I1 r q
/-- a def that may let an exception out, by its name -/
structure CalX (P : Program) (w : World) (K : PySem.W.Frag) (mg : Str → Option Value) (base : Heap) (k : Nat) (x : Str) (sp : Sp) : Prop where
  ex : ∃ (f : Addr) (fd : FuncData) (ps : List Str), FnOk P w K mg base (L2.CX P w) k f fd ps sp ∧ mg x = some (.ref f) ∧ PySem.W.keepIn K (.ref f) = true ∧ Binds K fd ps []
theorem pe_cX {X : Cx} {k j : Nat} {x : Str} {sp : Sp} {W : WX} {e : Expr} {es : List Expr} {t : TA} {p pos : Pos} (tk : Takes X W) (c : CalX X.prog X.w X.K X.mg X.base k x sp) (hr : Room j X.A) (hk : k ≤ j) (hg : Gl X x) (ha : PA X (e :: es) t)
    (hdb : (x == ("__debug__" : Str)) = false := by decide) (he : starEach (e :: es) X.env = (false, eval e X.env) :: starEach es X.env := by rfl) (hpl : (backTo pos (starEach es X.env)).any (·.1) = false := by rfl) :
    PE X (.Call (.Name x p) (e :: es) [] pos) (tCallS sp (WE W) t) := by
  obtain ⟨f, fd, ps, F, hm, kp, b⟩ := c.ex
  exact pe_callS F (hr.mono hk) hg hm kp b (fun σ => passAt tk σ) ha hdb he hpl
/-- an instance that may be called, and may let an exception out -/
structure CalOX (P : Program) (w : World) (K : PySem.W.Frag) (mg : Str → Option Value) (base : Heap) (k : Nat) (C : Addr) (sp : Sp) : Prop where
  ex : ∃ (g : Addr) (fd : FuncData) (ps : List Str), StX.CallO K C g ∧ FnOk P w K mg base (L2.CX P w) k g fd ps sp ∧ Binds K fd ps []
def tCallOS (C : Addr) (sp : Sp) (E : L2.St → XK) (tf : TE) (t : TA) : TE := fun σ H Q => tf σ H fun y H1 => ∃ a, y = V.ref a ∧ t σ H1 fun vs H2 => (∃ dx fs, H2 a = some (.ins C dx fs)) ∧ sp (V.ref a :: vs) H2 Q (E σ)
theorem pe_coX {X : Cx} {k j : Nat} {C : Addr} {sp : Sp} {W : WX} {fe e : Expr} {es : List Expr} {t : TA} {tf : TE} {pos : Pos} (tk : Takes X W) (hf : PE X fe tf) (c : CalOX X.prog X.w X.K X.mg X.base k C sp) (hr : Room j X.A) (hk : k ≤ j) (ha : PA X (e :: es) t)
    (ht : eval (.Call fe (e :: es) [] pos) X.env = (do callWith pos (← eval fe X.env) [] (backTo pos (starEach (e :: es) X.env)) (backToKw pos (keywordEach [] X.env))) := by rfl)
    (he : starEach (e :: es) X.env = (false, eval e X.env) :: starEach es X.env := by rfl) (hpl : (backTo pos (starEach es X.env)).any (·.1) = false := by rfl) :
    PE X (.Call fe (e :: es) [] pos) (tCallOS C sp (WE W) tf t) := by
  obtain ⟨g, fd, ps, co, F, b⟩ := c.ex
  refine ⟨fun pins s σ H Q I h => ?_⟩
  refine Call_ (thn (hf.run pins s σ H _ I h) fun u s1 ⟨y, H1, I1, ry, a, ey, q⟩ => ?_) ht
  subst ey
  cases ry
  refine StX.callO_with (thn (ha.run pos pins s1 σ H1 _ I1 q) fun us s2 ⟨vs, H2, I2, r, hi0, q2⟩ => ?_) he hpl
  have hi : StX.InsC X H2 a C := .inr hi0
  obtain ⟨ox, od, J, hd⟩ := StX.insC_at I2 hi
  refine ⟨⟨C, ox, od, J, hd⟩, ?_⟩
  have rr : Vals (V.ref a :: vs) (Value.ref a :: us) := .cons rfl r
  have len : (Value.ref a :: us).length = ps.length := rr.length.symm.trans (F.len _ _ _ _ q2)
  have bb := b s2 (Value.ref a :: us) I2.kIn (by rw [List.append_nil]; exact len)
  rw [List.append_nil] at bb
  refine wpAny_call (PySem.W.kco_code I2.kIn J hd co.at_ co.fn co.fi (codeAny_mono (F.run X.A X.stack s2 H2 ⟨Value.ref a :: us, []⟩ (Value.ref a :: us) (V.ref a :: vs) Q (WE W σ) (hr.mono hk) I2.env0 bb rr q2) fun z s' hq => ?_))
  rcases handS (E := WE W) (passAt tk σ) I2 hq with ⟨u, rfl, hz⟩ | ⟨e, rfl, hz⟩
  · exact hz
  · exact hz
/-! ### own exceptions that keep their one argument -/
/-- what __init__ of a class whose errors bear f does -/
def spExc (C : Addr) (f : Str) : Sp := fun vs H Q _ => ∃ (a : Addr) (v : V), vs = [.ref a, v] ∧ H a = some (exo a C none) ∧ ∀ d, H d = none → d ≠ a → Q .non (upd (upd H d (exd d [(f, v)])) a (exo a C (some d)))
structure ExcI (P : Program) (w : World) (K : PySem.W.Frag) (mg : Str → Option Value) (base : Heap) (x f : Str) : Prop where
  T : OexC K (ga K x)
  ex : ∃ (fI : Addr) (fd : FuncData), PySem.W.findIn K (.ref (ga K x)) "__init__" = some (some (.ref fI)) ∧ PySem.W.typeIn K (.ref fI) = some (.type "function") ∧ FnOk P w K mg base CX0 1 fI fd ["self", f] (spExc (ga K x) f) ∧ Binds K fd ["self", f] []
  gm : mg x = some (.ref (ga K x))
abbrev bodyE (f : Str) (q1 q2 q3 q4 : Pos) : List Stmt := [.Assign [.Attribute (.Name "self" q1) f q2] (.Name f q3) q4]
theorem ok_exc {P : Program} {w : World} {K : PySem.W.Frag} {mg : Str → Option Value} {base : Heap} {x q f : Str} {pa : Arguments} {bd : List Stmt} {sc : Scope} {fI : Addr} {fd : FuncData} {q1 q2 q3 q4 : Pos} (F : FunD K "__init__" q pa bd sc [] [] fI fd) (hb : bd = bodyE f q1 q2 q3 q4) (S : FnScope ["self", f] ["self", f] sc)
    (T : OexC K (ga K x)) (hno : PySem.W.findIn K (.ref (ga K x)) f = some none) (hv0 : Vis sc "self") (hv1 : Vis sc f) (hd : (f == ("__debug__" : Str)) = false) (hcd : (f == ("__classdict__" : Str)) = false) :
    FnOk P w K mg base CX0 1 fI fd ["self", f] (spExc (ga K x) f) := by
  subst hb
  refine F.ok S (fun vs H Q E h => ?_) (fun cdv A outer s H vs Q E hr h => ?_)
  · obtain ⟨a, v, rfl, _⟩ := h
    rfl
  · obtain ⟨a, v, rfl, ha, k⟩ := h
    refine ⟨_, PSs.nox (pss_one (ps_ost (pe_var (i := 0) rfl hv0) (pe_var (i := 1) rfl hv1 hd hcd))), ?_⟩
    exact ⟨_, rfl, _, rfl, a, ga K x, rfl, T, hno, Or.inl ⟨ha, fun d hd hda => k d hd hda⟩⟩
/-- raise X(e) -/
theorem ps_rz {X : Cx} {W : WX} {x f : Str} {e : Expr} {te : TE} {p pos pos' : Pos} {j : Nat} (hc : X.calm = true) (tk : Takes X W) (M : ExcI X.prog X.w X.K X.mg X.base x f) (hr : Room j X.A) (hj : 2 ≤ j) (hg : Gl X x) (he : PE X e te) (hdb : (x == ("__debug__" : Str)) = false := by decide)
    (hs : starEach (e :: []) X.env = (false, eval e X.env) :: starEach [] X.env := by rfl) : PS X (.Raise (some (.Call (.Name x p) [e] [] pos)) none pos') (fun _ σ H => tMkO (ga X.K x) (spExc (ga X.K x) f) [] (tCons te tNil) σ H fun cls d H' => W cls d σ H') := by
  obtain ⟨fI, fd, h1, h2, h3, h4⟩ := M.ex
  exact ps_raise hc tk (pmk_oex M.T h1 h2 h3 (hr.mono hj) h4 .nil pass0 hg M.gm (pa_cons he pa_nil hs) hdb hs)
theorem raise_done {C : Addr} {f : Str} {v : V} {H1 : Hp} {Q : XK} (k : ∀ d H2, H1 d = none → Same H1 H2 → H2 d = some (.xd [(f, v)]) → Q (.ref C) (some d) H2) :
    ([v] : List V).length ≤ 1000 ∧ ∀ a, H1 a = none → spExc C f (.ref a :: ([v] ++ [])) (upd H1 a (exo a C none)) (fun u H2 => u = .non ∧ ∃ (d : Addr) (fs : List (Str × V)), H2 a = some (exo a C (some d)) ∧ H2 d = some (exd d fs) ∧ H1 d = none ∧ Q (.ref C) (some d) (upd (del H2 a) d (.xd fs))) (fun _ _ _ => False) := by
  refine ⟨by show 1 ≤ 1000; decide, fun a ha => ⟨a, v, rfl, upd_same, fun d hd hda => ?_⟩⟩
  have hd0 : H1 d = none := by
    rw [upd_ne hda] at hd
    exact hd
  refine ⟨rfl, d, [(f, v)], upd_same, by rw [upd_ne hda, upd_same], hd0, k d _ hd0 ?_ upd_same⟩
  intro b u e
  have hb : b ≠ d := ne_of_none e hd0
  have hba : b ≠ a := ne_of_none e ha
  rw [upd_ne hb, del_ne hba, upd_ne hba, upd_ne hb, upd_ne hba]
  exact e
end NF
set_option Elab.async false
set_option linter.all false
set_option maxRecDepth 100000
set_option maxHeartbeats 0
namespace K02
open PySem PySem.Spec PyProof.Rows L2 He NF RZ
def top (i : Nat) : Stmt := PySem.Challenge.pw_needforth_k02_whole_bad_tables.main.body.getD i (.Pass ⟨0, 0, 0, 0⟩)
abbrev s__wall : Stmt := top 1
abbrev s_TooMany_init : Stmt := inClass (top 4) 0
abbrev s_BadCount_init : Stmt := inClass (top 5) 0
abbrev s_BadTable_init : Stmt := inClass (top 6) 0
abbrev s_end_of : Stmt := top 8
abbrev s_value_at : Stmt := top 9
abbrev s_values_from : Stmt := top 10
abbrev s_many_at_most : Stmt := top 11
abbrev s_last_at_most : Stmt := top 12
abbrev s_shortest_lap : Stmt := top 13
abbrev s_plain_form : Stmt := top 14
abbrev s_settled_form : Stmt := top 15
abbrev s_spread : Stmt := top 16
abbrev s_ladder_of : Stmt := top 18
abbrev s_least_in : Stmt := top 19
abbrev s_first_under : Stmt := top 20
abbrev s_last_under : Stmt := top 21
abbrev s_Chase_init : Stmt := inClass (top 22) 0
abbrev s_Chase_ladder_from : Stmt := inClass (top 22) 1
abbrev s_Chase_runners_of : Stmt := inClass (top 22) 2
abbrev s_Chase_greatest_lead : Stmt := inClass (top 22) 3
abbrev s_Chase_first_lead : Stmt := inClass (top 22) 4
abbrev s_Chase_last_lead : Stmt := inClass (top 22) 5
abbrev s_Chase_place_of : Stmt := inClass (top 22) 6
abbrev s_drift_of : Stmt := top 23
abbrev s_longest_head : Stmt := top 24
abbrev s_values_behind : Stmt := top 26
abbrev s_behind_form : Stmt := top 27
abbrev s_chosen : Stmt := top 28
abbrev s_settling : Stmt := top 29
abbrev s_joined_form : Stmt := top 30
abbrev s_both_form : Stmt := top 31
abbrev s_either_form : Stmt := top 32
abbrev s_turn_form : Stmt := top 33
abbrev s_is_integer : Stmt := top 35
abbrev s_is_count : Stmt := top 36
abbrev s_is_row : Stmt := top 37
abbrev s_is_climb : Stmt := top 38
abbrev s_check_table : Stmt := top 41
abbrev s_Table_init : Stmt := inClass (top 42) 0
abbrev s_Table_eq : Stmt := inClass (top 42) 1
abbrev s_Table_call : Stmt := inClass (top 42) 2
abbrev s_Table_end : Stmt := inClass (top 42) 3
abbrev s_Table_rate : Stmt := inClass (top 42) 4
abbrev s_Table_steady : Stmt := inClass (top 42) 5
abbrev s_Table_shift : Stmt := inClass (top 42) 6
abbrev s_Table_mul : Stmt := inClass (top 42) 7
abbrev s_Table_and : Stmt := inClass (top 42) 8
abbrev s_Table_or : Stmt := inClass (top 42) 9
abbrev s_Table_invert : Stmt := inClass (top 42) 10
abbrev s__law_source : Stmt := top 44
abbrev s__law_pick : Stmt := top 45
abbrev s__law_is_integer : Stmt := top 46
abbrev s__law_is_count : Stmt := top 47
abbrev s__law_rising : Stmt := top 48
abbrev s__law_raw : Stmt := top 49
abbrev s__law_shift : Stmt := top 50
abbrev s__law_told : Stmt := top 51
abbrev s__law_table : Stmt := top 52
abbrev s__law_spoilt : Stmt := top 53
abbrev s__law_good : Stmt := top 54
abbrev s__law_due : Stmt := top 55
abbrev s__law_seen : Stmt := top 56
abbrev s__law_refused_value : Stmt := top 57
abbrev s__law_shifts : Stmt := top 58
abbrev s_law : Stmt := top 59
def FS : List Str := ["len", "int", "abs", "range", "isinstance", "all", "bool", "tuple", "list", "zip", "divmod", "max", "min", "enumerate"]
end K02
set_option Elab.async false
set_option linter.all false
set_option maxRecDepth 100000
set_option maxHeartbeats 4000000
namespace K02
open PySem PySem.Spec PyProof.Rows L2 He NF RZ NT
/-- the shortest lap of a loop -/
def spLap (K : PySem.W.Frag) : Sp := fun vs H Q _ => ∃ (a : Addr) (l : List Int) (r : Int), vs = [.ref a, .int r] ∧ SqT K H a (vI l) ∧ l ≠ [] ∧ l.length ≤ 1000 ∧ ∀ m H', LapIs l r m → Same H H' → Q (.int (m : Int)) H'
theorem sc_shortest_lap : FnScope ["loop", "rise", "following", "steps", "many", "entry", "later"] ["loop", "rise"] (defScope s_shortest_lap) := ⟨rfl, rfl, rfl, by decide +kernel, rfl, by decide +kernel, by decide +kernel⟩
theorem following_is {l : List Int} {r : Int} (hl : l ≠ []) : cutV (vI l) (some 1) none ++ [V.int (l.getD 0 0 + r)] = vI ((List.range l.length).map fun k => walk l r (k + 1)) := by
  rw [show (1 : Int) = ((1 : Nat) : Int) from rfl, cut_from]
  have hp := len_pos hl
  refine List.ext_getElem? fun k => ?_
  simp only [vI, List.getElem?_map]
  by_cases c : k + 1 < l.length
  · rw [List.getElem?_append_left (by rw [List.length_drop, List.length_map]; omega), List.getElem?_drop, List.getElem?_map, List.getElem?_range (by omega), List.getElem?_eq_getElem (show 1 + k < l.length by omega)]
    simp only [Option.map_some]
    rw [walk_i c, List.getD_eq_getElem?_getD, List.getElem?_eq_getElem c]
    simp only [Option.getD_some, Option.some.injEq, V.int.injEq]
    congr 1
    omega
  · by_cases c2 : k + 1 = l.length
    · rw [List.getElem?_append_right (by rw [List.length_drop, List.length_map]; omega), List.length_drop, List.length_map, show k - (l.length - 1) = 0 by omega, List.getElem?_range (by omega)]
      simp only [Option.map_some, List.getElem?_cons_zero]
      rw [show k + 1 = 0 + l.length by omega, walk_add hp, walk_i hp]
    · rw [List.getElem?_eq_none (by rw [List.length_append, List.length_drop, List.length_map, List.length_singleton]; omega), List.getElem?_eq_none (by rw [List.length_range]; omega)]
      rfl
theorem steps_get {l : List Int} {r : Int} {k : Nat} (h : k < l.length) : (vI (steps l r))[k]? = some (V.int (walk l r (k + 1) - l.getD k 0)) := by
  unfold steps
  simp only [vI, List.getElem?_map]
  rw [List.getElem?_range h]
  simp only [Option.map_some, sk]
  rw [walk_i h]
section
variable {P : Program} {w : World} {K : PySem.W.Frag} {mg : Str → Option Value} {base : Heap} {gs fs : List Str}
theorem ok_shortest_lap {f : Addr} {fd : FuncData} (F : FunD K "shortest_lap" "shortest_lap" (defArgs s_shortest_lap) (defBody s_shortest_lap) (defScope s_shortest_lap) [] [] f fd) (T : Txt K mg gs fs) (hfs : fs = FS) : FnOk P w K mg base CX0 1 f fd ["loop", "rise"] (spLap K) := by
  subst hfs
  refine F.ok sc_shortest_lap (fun vs H Q E h => ?_) (fun cdv A outer s H vs Q E hr h => ?_)
  · obtain ⟨a, l, r, rfl, _⟩ := h
    rfl
  · obtain ⟨a, l, r, rfl, ha, hl, hz, q⟩ := h
    have hu : (A.deeper (envOfC "shortest_lap" (defScope s_shortest_lap) s.heap.objs.size f cdv)).units + 64 < cLine := by
      have := hr.un
      omega
    have hp := len_pos hl
    refine ⟨_, PSs.nox (pss_cons (ps_set (i := 2) sc_shortest_lap.nd rfl (Or.inl rfl) (pe_op op_catA (pe_slice sl_tupA (pv 0) (po_some pe_int) po_none) (pe_tup (pa_cons (pe_op op_add (pe_ix (ixt (K := K)) (pv 0) pe_int fun _ _ => rfl) (pv 1)) pa_nil)))) (pss_cons (ps_setLc (i := 3) (own := [("entry", 5), ("later", 6)]) rfl sc_shortest_lap.nd rfl rfl (sw_true rfl rfl rfl (by decide +kernel)) (pi_zipA rfl (T.fr _ (by decide +kernel)) (pa_cons (pv 0) (pa_cons (pv 2) pa_nil))) (blkOk_by (N := ["loop", "rise", "following", "steps", "many", "entry", "later"]) (sc := defScope s_shortest_lap) (by decide +kernel)) (fun _ _ _ _ _ => by exact (pgt (K := K) (n := 2) rfl rfl (pgs_cons (pg_name (i := 5) sc_shortest_lap.nd rfl (Or.inl rfl)) (pgs_cons (pg_name (i := 6) sc_shortest_lap.nd rfl (Or.inl rfl)) pgs_nil)))) (fun _ _ _ _ _ => by exact pts_nil) (fun _ _ _ _ _ => by exact (pe_op op_sub (pv 6) (pv 5)))) (pss_cons (ps_for PassesOwn.never rfl (pi_range2 rfl (T.fr _ (by decide +kernel)) (pa_cons pe_int (pa_cons (pe_op op_add (pe_op op_fdiv (pe_callB call_len_seq rfl (T.fr _ (by decide +kernel)) boot_len (pa_cons (pv 3) pa_nil)) pe_int) pe_int) pa_nil))) (pg_name (i := 4) sc_shortest_lap.nd rfl (Or.inl rfl)) (pss_one (ps_if (PW.pt (pw_and (pt_cmpR op_eq (pe_op op_mod (pe_callB call_len_seq rfl (T.fr _ (by decide +kernel)) boot_len (pa_cons (pv 3) pa_nil)) (pv 4)) pe_int (nomark _)) (pw_and1 (pt_cmpR (op_eqD hu) (pe_slice sl_list (pv 3) (po_some (pv 4)) po_none) (pe_slice sl_list (pv 3) po_none (po_some (pe_un un_neg (pv 4)))) (nomark _))))) (pss_one (ps_ret (pv 4))) pss_nil))) (pss_one (ps_ret (pe_callB call_len_seq rfl (T.fr _ (by decide +kernel)) boot_len (pa_cons (pv 3) pa_nil))))))), ?_⟩
    refine ⟨_, rfl, _, rfl, ?_⟩
    refine slA_from (K := K) ha fun p1 H1 s1 t1 => ?_
    refine ⟨_, rfl, a, _, 0, _, rfl, rfl, NF.Same.tup s1 ha, at_int (k := 0) rfl hp, _, rfl, _, _, rfl, rfl, (by show 1 ≤ sizeLine; decide), fun p2 hp2 => ?_⟩
    refine catA_done (NF.Same.tup (NF.Same.new (Same.refl _) hp2) t1) (SqT.of upd_same) ?_ fun p3 H3 s3 t3 => ?_
    · have : (cutV (vI l) (some 1) none).length = l.length - 1 := by
        rw [show (1 : Int) = ((1 : Nat) : Int) from rfl, cut_from, List.length_drop, List.length_map]
      rw [this]
      exact Nat.le_trans (show l.length - 1 + 1 ≤ 1001 by omega) (by decide)
    rw [following_is hl] at t3
    have s03 : Same H H3 := Same.trans s1 (Same.trans (NF.Same.new (Same.refl _) hp2) s3)
    refine ⟨_, rfl, _, rfl, a, p3, _, _, rfl, Or.inr ⟨NF.Same.tup s03 ha, t3, fun D hD => ?_⟩⟩
    have hsl : (vI (steps l r)).length = l.length := by unfold steps; simp
    refine lc_zipT (by simp) (fun i G => Same H3 G ∧ G D = some (.lst ((vI (steps l r)).take i))) ⟨NF.Same.new (Same.refl _) hD, upd_same⟩ (fun i G z => ⟨NF.Same.tup (Same.trans s03 z.1) ha, NF.Same.tup z.1 t3⟩) ?_ ?_
    · rintro i x y U G hx hy ⟨hG, hD2⟩ hU
      have hi : i < l.length := by
        have := (List.getElem?_eq_some_iff.mp hx).1
        rw [List.length_map] at this
        exact this
      obtain rfl : x = V.int (l.getD i 0) := by
        rw [List.getElem?_map, List.getElem?_eq_getElem hi] at hx
        rw [List.getD_eq_getElem?_getD, List.getElem?_eq_getElem hi]
        exact (Option.some.inj hx).symm
      obtain rfl : y = V.int (walk l r (i + 1)) := by
        rw [List.getElem?_map, List.getElem?_map, List.getElem?_range hi] at hy
        exact (Option.some.inj hy).symm
      refine ⟨U, _, rfl, SqT.of upd_same, rfl, _, _, rfl, _, _, rfl, rfl, rfl, ?_⟩
      refine ⟨_, rfl, _, rfl, _, _, rfl, rfl, (vI (steps l r)).take i, ?_, ?_, ?_, ?_⟩
      · rw [upd_ne (ne_of_none hD2 hU)]
        exact hD2
      · rw [List.length_take, hsl]
        exact Nat.lt_of_le_of_lt (show min i l.length ≤ 1000 by omega) (by decide)
      · exact NF.Same.mut (NF.Same.new hG hU) hD
      · rw [upd_same, List.take_add_one, steps_get hi]
        rfl
    · rintro G ⟨hG, hD2⟩
      rw [List.length_map, List.take_of_length_le (by rw [hsl]; exact Nat.le_refl _)] at hD2
      have hlen : (vI (steps l r)).length = l.length := hsl
      refine ⟨_, rfl, D, _, rfl, Or.inl (SqL.of hD2), _, _, rfl, rfl, ⟨by decide, by decide⟩, _, _, rfl, rfl, 1, _, rfl, ⟨by decide, by decide, ?_, ?_⟩, ?_⟩
      · rw [hlen]; omega
      · rw [hlen]; omega
      have en : (((vI (steps l r)).length : Int) / 2 + 1 - 1).toNat = l.length / 2 := by rw [hlen]; omega
      have s0G : Same H G := Same.trans s03 hG
      show (fun J H1 => _) (Itr 1 (((vI (steps l r)).length : Int) / 2 + 1 - 1).toNat) G
      rw [en]
      refine for_range (lo := 1) (n := l.length / 2) (fun i σ G' => Same G G' ∧ (∀ m', 0 < m' → m' ≤ i → m' ∣ l.length → ¬ Per (walk l r) m') ∧ ∃ v : Option V, σ = [some (.ref a), some (.int r), some (.ref p3), some (.ref D), v, none, none])
        ⟨Same.refl _, fun m' h1 h2 => by omega, none, rfl⟩ ?_ ?_
      · rintro i σ G' hi ⟨hs, hno, v, rfl⟩
        have e1 : (1 : Int) + (i : Int) = ((i + 1 : Nat) : Int) := by omega
        rw [e1]
        have hD3 := hs _ _ hD2
        refine ⟨_, rfl, D, _, rfl, Or.inl (SqL.of hD3), _, rfl, _, _, rfl, rfl, (by show (0 : Int) < ((i + 1 : Nat) : Int); omega), rfl, _, rfl, ?_⟩
        have hnext : ¬ ((i + 1 ∣ l.length) ∧ Per (walk l r) (i + 1)) → (∀ m', 0 < m' → m' ≤ i + 1 → m' ∣ l.length → ¬ Per (walk l r) m') := fun hn m' h1 h2 h3 h4 => by
          by_cases c : m' ≤ i
          · exact hno m' h1 c h3 h4
          · have : m' = i + 1 := by omega
            subst this
            exact hn ⟨h3, h4⟩
        refine ite2 (fun hc => ?_) (fun hc => ?_)
        · have hd : i + 1 ∣ l.length := by
            have hc := of_decide_eq_true hc
            injection hc with hc
            rw [hlen] at hc
            have := Int.dvd_of_emod_eq_zero hc
            exact Int.natCast_dvd_natCast.mp this
          refine ⟨_, rfl, _, rfl, _, rfl, D, _, rfl, SqL.of hD3, fun q1 hq1 => ?_⟩
          have hD4 : upd G' q1 (.lst (cutV (vI (steps l r)) (some ((i + 1 : Nat) : Int)) none)) D = some (.lst (vI (steps l r))) := by
            rw [upd_ne (ne_of_none hD3 hq1)]
            exact hD3
          refine ⟨_, rfl, _, rfl, _, rfl, _, rfl, D, _, rfl, SqL.of hD4, fun q2 hq2 => ?_⟩
          have hq3 : upd (upd G' q1 (.lst (cutV (vI (steps l r)) (some ((i + 1 : Nat) : Int)) none))) q2 (.lst (cutV (vI (steps l r)) none (some (-((i + 1 : Nat) : Int))))) q1 = some (.lst (vI ((steps l r).drop (i + 1)))) := by
            rw [upd_ne (ne_of_none upd_same hq2), upd_same, cut_from, vI_drop]
          have hq4 : upd (upd G' q1 (.lst (cutV (vI (steps l r)) (some ((i + 1 : Nat) : Int)) none))) q2 (.lst (cutV (vI (steps l r)) none (some (-((i + 1 : Nat) : Int))))) q2 = some (.lst (vI ((steps l r).take (l.length - (i + 1))))) := by
            rw [upd_same, cut_toN (by omega), hlen, vI_take]
          have hsD : Same G (upd (upd G' q1 (.lst (cutV (vI (steps l r)) (some ((i + 1 : Nat) : Int)) none))) q2 (.lst (cutV (vI (steps l r)) none (some (-((i + 1 : Nat) : Int)))))) := NF.Same.new (NF.Same.new hs hq1) hq2
          refine eqL_done (SqL.of hq3) (SqL.of hq4) ⟨_, rfl, ?_⟩
          refine ite2 (fun hc2 => ?_) (fun hc2 => ?_)
          · have hper := (cond_iff hl (Nat.succ_pos i) hd).mp (of_decide_eq_true hc2)
            exact ⟨_, rfl, q (i + 1) _ (lap_prog hl (Nat.succ_pos i) (by omega) hd hper fun m' h1 h2 h3 h4 => hno m' h1 (by omega) h3 h4) (Same.trans s0G hsD)⟩
          · refine ⟨hsD, hnext fun ⟨_, h⟩ => hc2 (decide_eq_true ((cond_iff hl (Nat.succ_pos i) hd).mpr h)), _, rfl⟩
        · refine ⟨hs, hnext fun ⟨h, _⟩ => hc (decide_eq_true ?_), _, rfl⟩
          rw [hlen]
          exact congrArg V.int (Int.emod_eq_zero_of_dvd (Int.natCast_dvd_natCast.mpr h))
      · rintro σ G' ⟨hs, hno, v, rfl⟩
        refine ⟨_, rfl, D, _, rfl, Or.inl (SqL.of (hs _ _ hD2)), ?_⟩
        rw [hlen]
        exact q l.length _ (lap_whole hl hno) (Same.trans s0G hs)
end
end K02
set_option Elab.async false
set_option linter.all false
set_option maxRecDepth 100000
set_option maxHeartbeats 4000000
namespace K02
open PySem PySem.Spec PyProof.Rows L2 He NF RZ NT
/-- things that may stand where a number is wanted -/
inductive ThK (K : PySem.W.Frag) (H : Hp) : V → Prop
  | int (i : Int) : ThK K H (.int i)
  | bl (b : Bool) : ThK K H (.bl b)
  | str (x : Str) : ThK K H (.str x)
  | non : ThK K H .non
  | ref {a : Addr} {t : String} (h : TyX K H (.ref a) (.type t)) (ht : t = "tuple" ∨ t = "list" ∨ t = "dict") : ThK K H (.ref a)
def isInt : V → Bool
  | .int _ => true
  | _ => false
def isCnt : V → Bool
  | .int i => decide (0 ≤ i)
  | _ => false
/-- a tuple or a list of things, or what is none -/
inductive RowIs (K : PySem.W.Frag) (H : Hp) : V → Option (List V) → Prop
  | row {a : Addr} {xs : List V} (h : Row K H a xs) (t : ∀ x, x ∈ xs → ThK K H x) : RowIs K H (.ref a) (some xs)
  | int (i : Int) : RowIs K H (.int i) none
  | bl (b : Bool) : RowIs K H (.bl b) none
  | str (x : Str) : RowIs K H (.str x) none
  | non : RowIs K H .non none
  | dict {a : Addr} (h : TyX K H (.ref a) (.type "dict")) : RowIs K H (.ref a) none
def climbV : Int → List V → Bool
  | _, [] => true
  | lo, .int i :: r => decide (lo ≤ i) && climbV i r
  | _, _ :: _ => false
def climbO : Option (List V) → Bool
  | some xs => climbV 0 xs
  | none => false
theorem climbV_is : ∀ {xs : List V} {lo : Int}, climbV lo xs = true → ∃ l, xs = vI l ∧ climbs lo l
  | [], _, _ => ⟨[], rfl, trivial⟩
  | .int i :: r, lo, h => by
    obtain ⟨h1, h2⟩ := ba h
    obtain ⟨l, rfl, hl⟩ := climbV_is h2
    exact ⟨i :: l, rfl, of_decide_eq_true h1, hl⟩
  | .non :: _, _, h => by cases h
  | .bl _ :: _, _, h => by cases h
  | .str _ :: _, _, h => by cases h
  | .ref _ :: _, _, h => by cases h
  | .byt _ :: _, _, h => by cases h
  | .flt _ :: _, _, h => by cases h
  | .ty _ :: _, _, h => by cases h
def spIsIntT (K : PySem.W.Frag) : Sp := fun vs H Q _ => ∃ v, vs = [v] ∧ ThK K H v ∧ Q (.bl (isInt v)) H
def spIsCountT (K : PySem.W.Frag) : Sp := fun vs H Q _ => ∃ v, vs = [v] ∧ ThK K H v ∧ Q (.bl (isCnt v)) H
def spIsRowT (K : PySem.W.Frag) : Sp := fun vs H Q _ => ∃ v o, vs = [v] ∧ RowIs K H v o ∧ ∀ H', Same H H' → Q (.bl o.isSome) H'
def spIsClimbT (K : PySem.W.Frag) : Sp := fun vs H Q _ => ∃ v o, vs = [v] ∧ RowIs K H v o ∧ ∀ H', Same H H' → Q (.bl (climbO o)) H'
theorem sc_is_integer : FnScope ["thing"] ["thing"] (defScope s_is_integer) := ⟨rfl, rfl, rfl, by decide +kernel, rfl, by decide +kernel, by decide +kernel⟩
theorem sc_is_count : FnScope ["thing"] ["thing"] (defScope s_is_count) := ⟨rfl, rfl, rfl, by decide +kernel, rfl, by decide +kernel, by decide +kernel⟩
theorem sc_is_row : FnScope ["thing"] ["thing"] (defScope s_is_row) := ⟨rfl, rfl, rfl, by decide +kernel, rfl, by decide +kernel, by decide +kernel⟩
theorem sc_is_climb : FnScope ["thing", "last", "entry"] ["thing"] (defScope s_is_climb) := ⟨rfl, rfl, rfl, by decide +kernel, rfl, by decide +kernel, by decide +kernel⟩
theorem tyx_mono {K : PySem.W.Frag} {H H' : Hp} {a : Addr} {t : String} (s : Same H H') (h : TyX K H (.ref a) (.type t)) : TyX K H' (.ref a) (.type t) := by
  cases h with
  | base b =>
    cases b with
    | lst e => exact .base (.lst (s _ _ e))
    | frz e => exact .base (.frz (s _ _ e))
    | tup e => exact .base (.tup (s _ _ e))
    | dK e => exact .base (.dK (s _ _ e))
    | dT e => exact .base (.dT (s _ _ e))
  | set e => exact .set (s _ _ e)
  | kList e c => exact .kList e c
  | kTuple e c => exact .kTuple e c
  | kDict e c => exact .kDict e c
  | fTuple e => exact .fTuple (s _ _ e)
  | fDict e => exact .fDict (s _ _ e)
theorem ThK.mono {K : PySem.W.Frag} {H H' : Hp} {v : V} (h : ThK K H v) (s : Same H H') : ThK K H' v := by
  cases h with
  | int i => exact .int i
  | bl b => exact .bl b
  | str x => exact .str x
  | non => exact .non
  | ref h ht => exact .ref (tyx_mono s h) ht
theorem RowIs.mono {K : PySem.W.Frag} {H H' : Hp} {v : V} {o : Option (List V)} (h : RowIs K H v o) (s : Same H H') : RowIs K H' v o := by
  cases h with
  | row h t => exact .row (h.mono s) fun x hx => (t x hx).mono s
  | int i => exact .int i
  | bl b => exact .bl b
  | str x => exact .str x
  | non => exact .non
  | dict h => exact .dict (tyx_mono s h)
theorem kit0 (K : PySem.W.Frag) {t : String} (ht : t = "tuple" ∨ t = "list" ∨ t = "dict") : PySem.W.kitOne K (.type t) (.type "int") = some false := by
  rcases ht with rfl | rfl | rfl <;> kernel_rfl
section
variable {P : Program} {w : World} {K : PySem.W.Frag} {mg : Str → Option Value} {base : Heap} {gs : List Str}
theorem ok_is_integer {f : Addr} {fd : FuncData} (F : FunD K "is_integer" "is_integer" (defArgs s_is_integer) (defBody s_is_integer) (defScope s_is_integer) [] [] f fd) (T : Txt K mg gs FS) : FnOk P w K mg base CX0 1 f fd ["thing"] (spIsIntT K) := by
  refine F.ok sc_is_integer (fun vs H Q E h => ?_) (fun cdv A outer s H vs Q E hr h => ?_)
  · obtain ⟨i, rfl, _⟩ := h
    rfl
  · obtain ⟨v, rfl, hv, q⟩ := h
    refine ⟨_, PSs.nox (pss_one (ps_ret (pe_and (pe_callB call_isi rfl (T.fr _ (by decide +kernel)) (by decide +kernel) (pa_cons (pv 0) (pa_cons (pe_bltn (v := .ty "int") rfl (T.fr _ (by decide +kernel)) (by decide +kernel) rfl) pa_nil))) (pe_one (pe_not (pe_callB call_isi rfl (T.fr _ (by decide +kernel)) (by decide +kernel) (pa_cons (pv 0) (pa_cons (pe_bltn (v := .ty "bool") rfl (T.fr _ (by decide +kernel)) (by decide +kernel) rfl) pa_nil)))))))), ?_⟩
    cases hv with
    | int i => exact ⟨_, rfl, _, _, _, _, true, rfl, .ty "int", .base (.int i), kit_i_i K, true, rfl, _, rfl, _, _, _, _, false, rfl, .ty "bool", .base (.int i), kit_i_b K, false, rfl, q⟩
    | bl b => exact ⟨_, rfl, _, _, _, _, true, rfl, .ty "int", .base (.bl b), (by kernel_rfl), true, rfl, _, rfl, _, _, _, _, true, rfl, .ty "bool", .base (.bl b), kit_b_b K, true, rfl, q⟩
    | str x => exact ⟨_, rfl, _, _, _, _, false, rfl, .ty "int", .base (.str x), (by kernel_rfl), false, rfl, q⟩
    | non => exact ⟨_, rfl, _, _, _, _, false, rfl, .ty "int", .base .non, (by kernel_rfl), false, rfl, q⟩
    | ref h ht => exact ⟨_, rfl, _, _, _, _, false, rfl, .ty "int", h, kit0 K ht, false, rfl, q⟩
theorem ok_is_count {f : Addr} {fd : FuncData} (F : FunD K "is_count" "is_count" (defArgs s_is_count) (defBody s_is_count) (defScope s_is_count) [] [] f fd) (T : Txt K mg gs FS) (c_is_integer : Cal P w K mg base 1 "is_integer" (spIsIntT K)) : FnOk P w K mg base CX0 2 f fd ["thing"] (spIsCountT K) := by
  refine F.ok sc_is_count (fun vs H Q E h => ?_) (fun cdv A outer s H vs Q E hr h => ?_)
  · obtain ⟨i, rfl, _⟩ := h
    rfl
  · obtain ⟨v, rfl, hv, q⟩ := h
    refine ⟨_, PSs.nox (pss_one (ps_ret (pe_and (pe_c c_is_integer hr (by decide) rfl (pa_cons (pv 0) pa_nil)) (pe_one (pe_cmpR op_ge (pv 0) pe_int (nomark _)))))), ?_⟩
    refine ⟨_, rfl, v, rfl, hv, ?_⟩
    cases hv with
    | int i => exact ⟨true, rfl, _, rfl, _, _, rfl, rfl, q⟩
    | bl b => exact ⟨false, rfl, q⟩
    | str x => exact ⟨false, rfl, q⟩
    | non => exact ⟨false, rfl, q⟩
    | ref h ht => exact ⟨false, rfl, q⟩
theorem ok_is_row {f : Addr} {fd : FuncData} (F : FunD K "is_row" "is_row" (defArgs s_is_row) (defBody s_is_row) (defScope s_is_row) [] [] f fd) (T : Txt K mg gs FS) : FnOk P w K mg base CX0 1 f fd ["thing"] (spIsRowT K) := by
  refine F.ok sc_is_row (fun vs H Q E h => ?_) (fun cdv A outer s H vs Q E hr h => ?_)
  · obtain ⟨v, o, rfl, _⟩ := h
    rfl
  · obtain ⟨v, o, rfl, hv, q⟩ := h
    refine ⟨_, PSs.nox (pss_one (ps_ret (pe_callB call_isiT rfl (T.fr _ (by decide +kernel)) (by decide +kernel) (pa_cons (pv 0) (pa_cons (pe_tup (pa_cons (pe_bltn (v := .ty "tuple") rfl (T.fr _ (by decide +kernel)) (by decide +kernel) rfl) (pa_cons (pe_bltn (v := .ty "list") rfl (T.fr _ (by decide +kernel)) (by decide +kernel) rfl) pa_nil))) pa_nil))))), ?_⟩
    refine ⟨_, rfl, (by show 2 ≤ sizeLine; decide), fun p hp => ?_⟩
    have s1 := NF.Same.new (o := .tup [V.ty "tuple", V.ty "list"]) (Same.refl H) hp
    cases hv.mono s1 with
    | row h t =>
      rcases h with h | h
      · exact ⟨_, p, _, _, _, true, rfl, upd_same, .cons (.ty _) (.cons (.ty _) .nil), tyx_lst h, kit_l_tl K, q _ s1⟩
      · exact ⟨_, p, _, _, _, true, rfl, upd_same, .cons (.ty _) (.cons (.ty _) .nil), tyx_tup h, kit_t_tl K, q _ s1⟩
    | int i => exact ⟨_, p, _, _, _, false, rfl, upd_same, .cons (.ty _) (.cons (.ty _) .nil), .base (.int i), (by kernel_rfl), q _ s1⟩
    | bl b => exact ⟨_, p, _, _, _, false, rfl, upd_same, .cons (.ty _) (.cons (.ty _) .nil), .base (.bl b), (by kernel_rfl), q _ s1⟩
    | str x => exact ⟨_, p, _, _, _, false, rfl, upd_same, .cons (.ty _) (.cons (.ty _) .nil), .base (.str x), (by kernel_rfl), q _ s1⟩
    | non => exact ⟨_, p, _, _, _, false, rfl, upd_same, .cons (.ty _) (.cons (.ty _) .nil), .base .non, (by kernel_rfl), q _ s1⟩
    | dict h => exact ⟨_, p, _, _, _, false, rfl, upd_same, .cons (.ty _) (.cons (.ty _) .nil), h, (by kernel_rfl), q _ s1⟩
end
end K02
set_option Elab.async false
set_option linter.all false
set_option maxRecDepth 100000
set_option maxHeartbeats 4000000
namespace K02
open PySem PySem.Spec PyProof.Rows L2 He NF RZ NT
def numV : V → Int
  | .int i => i
  | _ => 0
def numsO : Option (List V) → List Int
  | some xs => xs.map numV
  | none => []
def joinBad (h l : List Int) : Bool := !l.isEmpty && !h.isEmpty && decide (l.getD 0 0 < h.getD (h.length - 1) 0)
def riseBad (l : List Int) (v : V) : Bool := !isCnt v || (l.isEmpty && decide (numV v ≠ 0)) || (!l.isEmpty && decide (l.getD 0 0 + numV v < l.getD (l.length - 1) 0))
/-- the word that is due -/
def dueW (o1 o2 : Option (List V)) (v : V) : Option Str :=
  if climbO o1 = false then some ("head" : Str) else if (!climbO o2 || joinBad (numsO o1) (numsO o2)) = true then some ("loop" : Str) else if riseBad (numsO o2) v = true then some ("rise" : Str) else none
def spCheckT (K : PySem.W.Frag) : Sp := fun vs H Q E => ∃ (v1 v2 v : V) (o1 o2 : Option (List V)), vs = [v1, v2, v] ∧ RowIs K H v1 o1 ∧ RowIs K H v2 o2 ∧ ThK K H v ∧
  (dueW o1 o2 v = none → ∀ H', Same H H' → Q .non H') ∧ (∀ x, dueW o1 o2 v = some x → ∀ d H', Same H H' → H d = none → H' d = some (.xd [("word", .str x)]) → E (.ref (ga K "BadTable")) (some d) H')
theorem sc_check_table : FnScope ["head", "loop", "rise"] ["head", "loop", "rise"] (defScope s_check_table) := ⟨rfl, rfl, rfl, by decide +kernel, rfl, by decide +kernel, by decide +kernel⟩
theorem nums_vI (l : List Int) : (vI l).map numV = l := by
  induction l with
  | nil => rfl
  | cons x l ih => exact congrArg (x :: ·) ih
section
variable {P : Program} {w : World} {K : PySem.W.Frag} {mg : Str → Option Value} {base : Heap} {gs : List Str}
theorem ok_is_climb {f : Addr} {fd : FuncData} (F : FunD K "is_climb" "is_climb" (defArgs s_is_climb) (defBody s_is_climb) (defScope s_is_climb) [] [] f fd) (T : Txt K mg gs FS) (c_is_row : Cal P w K mg base 1 "is_row" (spIsRowT K)) (c_is_integer : Cal P w K mg base 1 "is_integer" (spIsIntT K)) : FnOk P w K mg base CX0 2 f fd ["thing"] (spIsClimbT K) := by
  refine F.ok sc_is_climb (fun vs H Q E h => ?_) (fun cdv A outer s H vs Q E hr h => ?_)
  · obtain ⟨v, o, rfl, _⟩ := h
    rfl
  · obtain ⟨v, o, rfl, hv, q⟩ := h
    refine ⟨_, PSs.nox (pss_cons (ps_if (pt_not (pt_val (pe_c c_is_row hr (by decide) rfl (pa_cons (pv 0) pa_nil)))) (pss_one (ps_ret pe_bl)) pss_nil) (pss_cons (ps_set (i := 1) sc_is_climb.nd rfl (Or.inl rfl) pe_int) (pss_cons (ps_for PassesOwn.never rfl (pi_row (pv 0)) (pg_name (i := 2) sc_is_climb.nd rfl (Or.inl rfl)) (pss_cons (ps_if (PW.pt (pw_or (pt_not (pt_val (pe_c c_is_integer hr (by decide) rfl (pa_cons (pv 2) pa_nil)))) (pw_or1 (pt_cmpR op_lt (pv 2) (pv 1) (nomark _))))) (pss_one (ps_ret pe_bl)) pss_nil) (pss_one (ps_set (i := 1) sc_is_climb.nd rfl (Or.inl rfl) (pv 2))))) (pss_one (ps_ret pe_bl))))), ?_⟩
    refine ⟨_, rfl, v, o, rfl, hv, fun H1 s1 => ⟨_, rfl, ?_⟩⟩
    cases o with
    | none => exact iteT (q _ s1)
    | some xs =>
      cases hv.mono s1 with
      | @row a _ ha ht =>
        refine iteF ⟨_, rfl, a, rfl, ?_⟩
        refine for_row ha (fun i σ G => Same H1 G ∧ ∃ (la : Int) (u : Option V), σ = [some (.ref a), some (.int la), u] ∧ climbV 0 xs = climbV la (xs.drop i)) ⟨Same.refl _, 0, none, rfl, rfl⟩ (fun i σ G z => z.1) ?_ ?_
        · rintro i x σ G hx ⟨s2, la, u, rfl, hc⟩
          have hi := (List.getElem?_eq_some_iff.mp hx).1
          have hd : xs.drop i = x :: xs.drop (i + 1) := by
            rw [List.drop_eq_getElem_cons hi]
            congr 1
            rw [List.getElem?_eq_getElem hi] at hx
            exact Option.some.inj hx
          rw [hd] at hc
          have hth := (ht x (List.mem_of_getElem? hx)).mono s2
          refine ⟨_, rfl, x, rfl, hth, _, rfl, ?_⟩
          have bad : climbV la (x :: xs.drop (i + 1)) = false → Q (.bl false) G := fun e => by
            have := q G (Same.trans s1 s2)
            rw [show climbO (some xs) = false from hc.trans e] at this
            exact this
          cases hth with
          | int n =>
            refine iteF ⟨_, rfl, _, rfl, _, _, rfl, rfl, _, rfl, ite2 (fun h1 => ?_) (fun h1 => ?_)⟩
            · refine bad ?_
              show (decide (la ≤ n) && _) = false
              rw [decide_eq_false (by have := of_decide_eq_true h1; omega)]
              rfl
            · refine ⟨_, rfl, s2, n, _, rfl, ?_⟩
              rw [hc]
              show (decide (la ≤ n) && _) = _
              rw [decide_eq_true (by have : ¬ n < la := fun z => h1 (decide_eq_true z); omega)]
              rfl
          | bl b => exact iteT (iteT (bad rfl))
          | str x => exact iteT (iteT (bad rfl))
          | non => exact iteT (iteT (bad rfl))
          | ref h1 h2 => exact iteT (iteT (bad rfl))
        · rintro σ G ⟨s2, la, u, rfl, hc⟩
          have := q G (Same.trans s1 s2)
          rw [List.drop_length] at hc
          rw [show climbO (some xs) = true from hc] at this
          exact this
theorem ok_check_table {f : Addr} {fd : FuncData} (F : FunD K "check_table" "check_table" (defArgs s_check_table) (defBody s_check_table) (defScope s_check_table) [] [] f fd) (T : Txt K mg gs FS) (m_BadTable : ExcI P w K mg base "BadTable" "word") (c_is_climb : Cal P w K mg base 2 "is_climb" (spIsClimbT K)) (c_is_count : Cal P w K mg base 2 "is_count" (spIsCountT K)) : FnOk P w K mg base (L2.CX P w) 3 f fd ["head", "loop", "rise"] (spCheckT K) := by
  refine F.ok sc_check_table (fun vs H Q E h => ?_) (fun cdv A outer s H vs Q E hr h => ?_)
  · obtain ⟨v1, v2, v, o1, o2, rfl, _⟩ := h
    rfl
  · obtain ⟨v1, v2, v, o1, o2, rfl, r1, r2, hv, q, e⟩ := h
    refine ⟨_, (pss_cons (ps_if (pt_not (pt_val (pe_c c_is_climb hr (by decide) rfl (pa_cons (pv 0) pa_nil)))) (pss_one (ps_rz rfl (takes_of rfl rfl rfl rfl) m_BadTable hr (by decide) rfl pe_str)) pss_nil) (pss_cons (ps_if (PW.pt (pw_or (pt_not (pt_val (pe_c c_is_climb hr (by decide) rfl (pa_cons (pv 1) pa_nil)))) (pw_or1 (PW.pt (pw_and (pt_truth (pv 1) (fun _ => rfl)) (pw_and (pt_truth (pv 0) (fun _ => rfl)) (pw_and1 (pt_cmpR op_lt (pe_ix (ixs (K := K)) (pv 1) pe_int fun _ _ => rfl) (pe_ix (ixs (K := K)) (pv 0) (pe_un un_neg pe_int) fun _ _ => rfl) (nomark _))))))))) (pss_one (ps_rz rfl (takes_of rfl rfl rfl rfl) m_BadTable hr (by decide) rfl pe_str)) pss_nil) (pss_one (ps_if (PW.pt (pw_or (pt_not (pt_val (pe_c c_is_count hr (by decide) rfl (pa_cons (pv 2) pa_nil)))) (pw_or (PW.pt (pw_and (pt_not (pt_truth (pv 1) (fun _ => rfl))) (pw_and1 (pt_cmpR op_ne (pv 2) pe_int (nomark _))))) (pw_or1 (PW.pt (pw_and (pt_truth (pv 1) (fun _ => rfl)) (pw_and1 (pt_cmpR op_gt (pe_ix (ixs (K := K)) (pv 1) (pe_un un_neg pe_int) fun _ _ => rfl) (pe_op op_add (pe_ix (ixs (K := K)) (pv 1) pe_int fun _ _ => rfl) (pv 2)) (nomark _))))))))) (pss_one (ps_rz rfl (takes_of rfl rfl rfl rfl) m_BadTable hr (by decide) rfl pe_str)) pss_nil)))), ?_⟩
    refine ⟨_, rfl, v1, o1, rfl, r1, fun H1 s1 => ⟨_, rfl, ?_⟩⟩
    cases h1 : climbO o1 with
    | false =>
      refine iteT (raise_done fun d H2 hd s2 hx => e "head" (if_pos h1) d H2 (Same.trans s1 s2) (L2.Same.free s1 hd) hx)
    | true =>
      refine iteF ?_
      obtain ⟨xs1, rfl⟩ : ∃ xs, o1 = some xs := by
        cases o1 with
        | none => cases h1
        | some xs => exact ⟨xs, rfl⟩
      obtain ⟨h, rfl, hh⟩ := climbV_is h1
      cases r1 with
      | @row a _ ha _ =>
        refine ⟨_, rfl, v2, o2, rfl, r2.mono s1, fun H2 s2 => ⟨_, rfl, ?_⟩⟩
        have s02 := Same.trans s1 s2
        have n1 : numsO (some (vI h)) = h := nums_vI h
        have due2 : (!climbO o2 || joinBad h (numsO o2)) = true → dueW (some (vI h)) o2 v = some ("loop" : Str) := fun z => by
          unfold dueW
          rw [if_neg (by rw [h1]; decide), n1, if_pos z]
        have due3 : (!climbO o2 || joinBad h (numsO o2)) = false → dueW (some (vI h)) o2 v = if riseBad (numsO o2) v = true then some ("rise" : Str) else none := fun z => by
          unfold dueW
          rw [if_neg (by rw [h1]; decide), n1, if_neg (by rw [z]; decide)]
        cases h2 : climbO o2 with
        | false => exact iteT (iteT (raise_done fun d H3 hd s3 hx => e "loop" (due2 (by rw [h2]; rfl)) d H3 (Same.trans s02 s3) (L2.Same.free s02 hd) hx))
        | true =>
          obtain ⟨xs2, rfl⟩ : ∃ xs, o2 = some xs := by
            cases o2 with
            | none => cases h2
            | some xs => exact ⟨xs, rfl⟩
          obtain ⟨l, rfl, hl⟩ := climbV_is h2
          cases r2 with
          | @row b _ hb _ =>
            have n2 : numsO (some (vI l)) = l := nums_vI l
            rw [h2, n2] at due2
            rw [h2, n2] at due3
            have due2 : joinBad h l = true → dueW (some (vI h)) (some (vI l)) v = some ("loop" : Str) := fun z => due2 (by rw [z]; rfl)
            have due3 : joinBad h l = false → dueW (some (vI h)) (some (vI l)) v = if riseBad l v = true then some ("rise" : Str) else none := fun z => due3 (by rw [z]; rfl)
            have ha2 := ha.mono s02
            have hb2 := hb.mono s02
            -- the rise
            have hrise : joinBad h l = false → (tIfS (tOr (tNot (tB (tCall (spIsCountT K) [] E0 (tCons (tVar 2) tNil)))) (tOr (tAnd (tNot (fun σ H Q => tVar 1 σ H fun x H' => ∃ k, TruV K x H' k ∧ Q k H')) (tTest (tOp rNe (tVar 2) (tC (.int 0)))))
                (tAnd (fun σ H Q => tVar 1 σ H fun x H' => ∃ k, TruV K x H' k ∧ Q k H') (tTest (tOp (rI0 fun i j => .bl (decide (j < i))) (tOp (rIx K) (tVar 1) (tUn (rU fun i => .int (-i)) (tC (.int 1)))) (tOp (rI0 fun i j => .int (i + j)) (tOp (rIx K) (tVar 1) (tC (.int 0))) (tVar 2)))))))
                (fun D σ H => tMkO (ga K "BadTable") (spExc (ga K "BadTable") "word") [] (tCons (tC (.str "rise")) tNil) σ H fun cls d H' => E cls d H') tNext) { nx := fun _ H' => Q .non H', rt := Q } (start ["head", "loop", "rise"] [.ref a, .ref b, v]) H2 := fun hj => by
              have due := due3 hj
              have bad : riseBad l v = true → ∀ d H3, H2 d = none → Same H2 H3 → H3 d = some (.xd [("word", .str "rise")]) → E (.ref (ga K "BadTable")) (some d) H3 := fun z d H3 hd s3 hx => e "rise" (by rw [due, if_pos z]) d H3 (Same.trans s02 s3) (L2.Same.free s02 hd) hx
              have fine : riseBad l v = false → Q .non H2 := fun z => q (by rw [due, if_neg (by rw [z]; decide)]) _ s02
              refine ⟨_, rfl, v, rfl, hv.mono s02, _, rfl, ?_⟩
              cases hc : isCnt v with
              | false =>
                refine iteT (iteT (raise_done (bad ?_)))
                unfold riseBad
                rw [hc]
                rfl
              | true =>
                obtain ⟨r, rfl⟩ : ∃ r, v = .int r := by
                  cases v with
                  | int r => exact ⟨r, rfl⟩
                  | _ => cases hc
                refine iteF ⟨_, rfl, _, tru_row hb2, ?_⟩
                by_cases hln : l = []
                · have hl2 : (!l.isEmpty) = false := by rw [hln]; rfl
                  rw [hl2]
                  refine iteT ⟨_, rfl, rfl, _, rfl, ite2 (fun h3 => ?_) (fun h3 => ?_)⟩
                  · refine iteT (raise_done (bad ?_))
                    have : r ≠ 0 := fun z => by rw [z] at h3; exact absurd h3 (by decide)
                    unfold riseBad
                    rw [hc, hln]
                    show (false || (true && decide (r ≠ 0)) || _) = true
                    rw [decide_eq_true this]
                    rfl
                  · have : r = 0 := Classical.byContradiction fun z => h3 (by rw [decide_eq_false (fun y => z (by injection y))]; rfl)
                    refine ⟨_, rfl, _, tru_row hb2, ?_⟩
                    rw [hl2]
                    refine iteF (iteF (fine ?_))
                    unfold riseBad
                    rw [hc, hln, this]
                    rfl
                · have hl2 : (!l.isEmpty) = true := by cases l with
                    | nil => exact absurd rfl hln
                    | cons _ _ => rfl
                  have hl3 : l.isEmpty = false := by cases l with
                    | nil => exact absurd rfl hln
                    | cons _ _ => rfl
                  rw [hl2]
                  refine iteF (iteF ⟨_, rfl, _, tru_row hb2, ?_⟩)
                  rw [hl2]
                  refine iteT ⟨_, rfl, _, rfl, ix_done hb2 (at_last (len_pos hln)) ⟨_, rfl, ix_done hb2 (at_int (k := 0) rfl (len_pos hln)) ⟨_, rfl, _, _, rfl, rfl, _, _, rfl, rfl, _, rfl, ite2 (fun h3 => ?_) (fun h3 => ?_)⟩⟩⟩
                  · refine raise_done (bad ?_)
                    have := of_decide_eq_true h3
                    unfold riseBad
                    rw [hc, hl3]
                    show (false || false || (true && decide (l.getD 0 0 + r < _))) = true
                    rw [decide_eq_true this]
                    rfl
                  · refine fine ?_
                    have : ¬ l.getD 0 0 + r < l.getD (l.length - 1) 0 := fun z => h3 (decide_eq_true z)
                    unfold riseBad
                    rw [hc, hl3]
                    show (false || false || (true && decide (l.getD 0 0 + r < _))) = false
                    rw [decide_eq_false this]
                    rfl
            refine iteF ⟨_, rfl, _, tru_row hb2, ?_⟩
            by_cases hln : l = []
            · have hl2 : (!l.isEmpty) = false := by rw [hln]; rfl
              rw [hl2]
              exact iteF (iteF (hrise (by unfold joinBad; rw [hl2]; rfl)))
            · have hl2 : (!l.isEmpty) = true := by cases l with
                | nil => exact absurd rfl hln
                | cons _ _ => rfl
              rw [hl2]
              refine iteT ⟨_, rfl, _, tru_row ha2, ?_⟩
              by_cases hhn : h = []
              · have hh2 : (!h.isEmpty) = false := by rw [hhn]; rfl
                rw [hh2]
                exact iteF (iteF (hrise (by unfold joinBad; rw [hl2, hh2]; rfl)))
              · have hh2 : (!h.isEmpty) = true := by cases h with
                  | nil => exact absurd rfl hhn
                  | cons _ _ => rfl
                rw [hh2]
                refine iteT ⟨_, rfl, ?_⟩
                refine ix_done hb2 (at_int (k := 0) rfl (len_pos hln)) ⟨_, rfl, _, rfl, ix_done ha2 (at_last (len_pos hhn)) ⟨_, _, rfl, rfl, _, rfl, ite2 (fun h3 => ?_) (fun h3 => ?_)⟩⟩
                · refine (raise_done fun d H3 hd s3 hx => e "loop" (due2 ?_) d H3 (Same.trans s02 s3) (L2.Same.free s02 hd) hx)
                  unfold joinBad
                  rw [hl2, hh2]
                  exact h3
                · refine (hrise ?_)
                  unfold joinBad
                  rw [hl2, hh2]
                  cases hd : decide (l.getD 0 0 < h.getD (h.length - 1) 0) with
                  | true => exact absurd hd h3
                  | false => rfl
end
end K02
set_option Elab.async false
set_option linter.all false
set_option maxRecDepth 100000
set_option maxHeartbeats 4000000
namespace K02
open PySem PySem.Spec PyProof.Rows L2 He NF RZ NT
/-- a tuple of two tuples of ints and an int stands at p -/
def FormAt (K : PySem.W.Frag) (H : Hp) (p : Addr) (x : List Int × List Int × Int) : Prop := ∃ a b, SqT K H p [.ref a, .ref b, .int x.2.2] ∧ SqT K H a (vI x.1) ∧ SqT K H b (vI x.2.1)
theorem FormAt.mono {K : PySem.W.Frag} {H H' : Hp} {p : Addr} {x : List Int × List Int × Int} (h : FormAt K H p x) (s : Same H H') : FormAt K H' p x := by
  obtain ⟨a, b, h1, h2, h3⟩ := h
  exact ⟨a, b, NF.Same.tup s h1, NF.Same.tup s h2, NF.Same.tup s h3⟩
def spForm (K : PySem.W.Frag) : Sp := fun vs H Q _ => ∃ (a b : Addr) (h l : List Int) (r : Int), vs = [.ref a, .ref b, .int r] ∧ SqT K H a (vI h) ∧ SqT K H b (vI l) ∧ h.length ≤ 6000 ∧ l.length ≤ 1000 ∧ ∀ x p H', IsPlain h l r x → Same H H' → FormAt K H' p x → Q (.ref p) H'
theorem sc_plain_form : FnScope ["head", "loop", "rise", "many", "lap_rise", "entries", "left"] ["head", "loop", "rise"] (defScope s_plain_form) := ⟨rfl, rfl, rfl, by decide +kernel, rfl, by decide +kernel, by decide +kernel⟩
section
variable {P : Program} {w : World} {K : PySem.W.Frag} {mg : Str → Option Value} {base : Heap} {gs fs : List Str}
theorem ok_plain_form {f : Addr} {fd : FuncData} (F : FunD K "plain_form" "plain_form" (defArgs s_plain_form) (defBody s_plain_form) (defScope s_plain_form) [] [] f fd) (T : Txt K mg gs fs) (hfs : fs = FS) (c_shortest_lap : Cal P w K mg base 1 "shortest_lap" (spLap K)) : FnOk P w K mg base CX0 2 f fd ["head", "loop", "rise"] (spForm K) := by
  subst hfs
  refine F.ok sc_plain_form (fun vs H Q E h => ?_) (fun cdv A outer s H vs Q E hr h => ?_)
  · obtain ⟨a, b, h, l, r, rfl, _⟩ := h
    rfl
  · obtain ⟨a, b, h, l, r, rfl, ha, hb, hz1, hz, q⟩ := h
    refine ⟨_, PSs.nox (pss_cons (ps_if (pt_not (pt_truth (pv 1) (fun _ => rfl))) (pss_one (ps_ret (pe_tup (pa_cons (pv 0) (pa_cons (pe_tup pa_nil) (pa_cons pe_int pa_nil)))))) pss_nil) (pss_cons (ps_set (i := 3) sc_plain_form.nd rfl (Or.inl rfl) (pe_c c_shortest_lap hr (by decide) rfl (pa_cons (pv 1) (pa_cons (pv 2) pa_nil)))) (pss_cons (ps_set (i := 4) sc_plain_form.nd rfl (Or.inl rfl) (pe_op op_fdiv (pe_op op_mul (pv 2) (pv 3)) (pe_callB call_len_seq rfl (T.fr _ (by decide +kernel)) boot_len (pa_cons (pv 1) pa_nil)))) (pss_cons (ps_set (i := 5) sc_plain_form.nd rfl (Or.inl rfl) (pe_op op_catA (pv 0) (pe_slice sl_tupA (pv 1) po_none (po_some (pv 3))))) (pss_cons (ps_set (i := 6) sc_plain_form.nd rfl (Or.inl rfl) (pe_callB call_len_seq rfl (T.fr _ (by decide +kernel)) boot_len (pa_cons (pv 0) pa_nil))) (pss_cons (ps_while PassesOwn.never (PW.pt (pw_and (pt_cmpR op_gt (pv 6) pe_int (nomark _)) (pw_and1 (pt_cmpR op_eq (pe_op op_add (pe_ix (ixt (K := K)) (pv 5) (pe_op op_sub (pv 6) pe_int) fun _ _ => rfl) (pv 4)) (pe_ix (ixt (K := K)) (pv 5) (pe_op op_add (pe_op op_sub (pv 6) pe_int) (pv 3)) fun _ _ => rfl) (nomark _))))) (pss_one (ps_set (i := 6) sc_plain_form.nd rfl (Or.inl rfl) (pe_op op_sub (pv 6) pe_int)))) (pss_one (ps_ret (pe_tup (pa_cons (pe_slice sl_tupA (pv 5) po_none (po_some (pv 6))) (pa_cons (pe_slice sl_tupA (pv 5) (po_some (pv 6)) (po_some (pe_op op_add (pv 6) (pv 3)))) (pa_cons (pv 4) pa_nil)))))))))))), ?_⟩
    refine ⟨_, rfl, _, tru_tup hb, ?_⟩
    by_cases hl : l = []
    · subst hl
      refine iteT ?_
      refine ⟨_, rfl, (by show 0 ≤ sizeLine; decide), fun p1 hp1 => ⟨(by show 3 ≤ sizeLine; decide), fun p2 hp2 => ?_⟩⟩
      have s1 := NF.Same.new (o := .tup []) (Same.refl H) hp1
      have s2 := NF.Same.new (o := .tup [V.ref a, V.ref p1, V.int 0]) s1 hp2
      exact q (h, [], 0) p2 _ (.inl ⟨rfl, rfl⟩) s2 ⟨a, p1, SqT.of upd_same, NF.Same.tup s2 ha, SqT.of (by rw [upd_ne (ne_of_none upd_same hp2)]; exact upd_same)⟩
    · have hne : (!l.isEmpty) = true := by cases l with
        | nil => exact absurd rfl hl
        | cons _ _ => rfl
      rw [hne]
      refine iteF ?_
      have hp := len_pos hl
      refine ⟨_, rfl, _, rfl, b, l, r, rfl, hb, hl, by omega, fun m H1 hm s1 => ?_⟩
      have hle : m ≤ l.length := Nat.le_of_dvd hp hm.dvd
      obtain ⟨t, ht⟩ := hm.dvd
      have hc := per_at hl hm.pos hm.per ht.symm
      have hb1 := NF.Same.tup s1 hb
      have t0 : 0 < t := Nat.pos_of_ne_zero fun z => by rw [z, Nat.mul_zero] at ht; omega
      have hcr : r * (m : Int) / ((vI l).length : Int) = r / (t : Int) := by
        rw [vI_len]
        have hr := per_rise hl hc ht.symm
        have e : r * (m : Int) = r / (t : Int) * (l.length : Int) := by
          rw [ht, Int.natCast_mul]
          calc r * (m : Int) = (r / (t : Int) * (t : Int)) * (m : Int) := by rw [← hr]
            _ = r / (t : Int) * ((m : Int) * (t : Int)) := by rw [Int.mul_assoc, Int.mul_comm (t : Int)]
        rw [e]
        exact Int.mul_ediv_cancel _ (by omega)
      refine ⟨_, rfl, _, rfl, _, _, rfl, rfl, Or.inr ⟨by omega, by omega⟩, ?_⟩
      refine ⟨_, rfl, b, _, rfl, Or.inr hb1, _, _, rfl, rfl, ⟨by rw [vI_len]; omega, by rw [vI_len]; omega⟩, ?_⟩
      show gName 4 (V.int (r * (m : Int) / ((vI l).length : Int))) _ _ _
      rw [hcr]
      generalize hcc : r / (t : Int) = cc at hc
      refine ⟨_, rfl, _, rfl, _, rfl, _, rfl, ?_⟩
      refine slA_done (K := K) hb1 fun p2 H2 s2 t2 => ?_
      rw [cut_to, vI_take] at t2
      refine catA_done (K := K) (NF.Same.tup (Same.trans s1 s2) ha) t2 (Nat.le_trans (show (vI h).length + (vI (l.take m)).length ≤ 7000 by rw [vI_len, vI_len, List.length_take]; omega) (by decide)) fun p3 H3 s3 t3 => ?_
      rw [vI_app] at t3
      have s03 : Same H H3 := Same.trans s1 (Same.trans s2 s3)
      refine ⟨_, rfl, a, _, rfl, Or.inr (NF.Same.tup s03 ha), ?_⟩
      rw [vI_len]
      have hel : (h ++ l.take m).length = h.length + m := by rw [List.length_append, List.length_take, Nat.min_eq_left hle]
      refine ⟨fun k σ G => G = H3 ∧ k ≤ h.length ∧ cut (h ++ l.take m) m cc h.length = cut (h ++ l.take m) m cc k ∧ σ = [some (.ref a), some (.ref b), some (.int r), some (.int (m : Int)), some (.int cc), some (.ref p3), some (.int (k : Int))], ⟨h.length, rfl, Nat.le_refl _, rfl, rfl⟩, ?_⟩
      rintro k σ G ⟨rfl, hk, hcut, rfl⟩
      -- what is handed back
      have hdone : cut (h ++ l.take m) m cc k = k → (tRet (tTup (tCons (tSl (rSlA K) (tVar 5) tNoPart (tPart (tVar 6))) (tCons (tSl (rSlA K) (tVar 5) (tPart (tVar 6)) (tPart (tOp (rI0 fun i j => .int (i + j)) (tVar 6) (tVar 3)))) (tCons (tVar 4) tNil))))) { nx := fun _ H' => Q .non H', rt := Q }
          [some (.ref a), some (.ref b), some (.int r), some (.int (m : Int)), some (.int cc), some (.ref p3), some (.int (k : Int))] G := fun hk2 => by
        refine ⟨_, rfl, _, rfl, _, rfl, ?_⟩
        refine slA_done (K := K) t3 fun p4 H4 s4 t4 => ?_
        refine ⟨_, rfl, _, rfl, _, rfl, _, rfl, _, rfl, _, _, rfl, rfl, _, rfl, ?_⟩
        refine slA_done (K := K) (NF.Same.tup s4 t3) fun p5 H5 s5 t5 => ?_
        refine ⟨_, rfl, (by show 3 ≤ sizeLine; decide), fun p6 hp6 => ?_⟩
        have s6 := NF.Same.new (o := .tup [V.ref p4, V.ref p5, V.int cc]) (Same.refl H5) hp6
        have hx := plain_is (h := h) hl hm hc
        rw [hcut, hk2] at hx
        rw [cut_to, vI_take] at t4
        rw [show (k : Int) + (m : Int) = ((k + m : Nat) : Int) by omega, cut_mid (by omega) (by rw [vI_len, hel]; omega), vI_drop, vI_take, show k + m - k = m by omega] at t5
        exact q _ p6 _ hx (Same.trans s03 (Same.trans s4 (Same.trans s5 s6))) ⟨p4, p5, SqT.of upd_same, NF.Same.tup (Same.trans s5 s6) t4, NF.Same.tup s6 t5⟩
      refine ⟨_, rfl, _, _, rfl, rfl, _, rfl, ?_⟩
      refine ite2 (fun h1 => ?_) (fun h1 => ?_)
      · have k0 : 0 < k := by
          have := of_decide_eq_true h1
          omega
        obtain ⟨j, rfl⟩ : ∃ j, k = j + 1 := ⟨k - 1, by omega⟩
        have e1 : ((j + 1 : Nat) : Int) - 1 = (j : Int) := by omega
        refine ⟨_, rfl, _, rfl, _, _, rfl, rfl, p3, _, _, _, rfl, rfl, t3, at_int (k := j) e1 (by rw [hel]; omega), _, rfl, _, _, rfl, rfl, ?_⟩
        refine ⟨_, rfl, _, rfl, _, _, rfl, rfl, _, rfl, _, _, rfl, rfl, p3, _, _, _, rfl, rfl, t3, at_int (k := j + m) (by omega) (by rw [hel]; omega), rfl, _, rfl, ?_⟩
        refine ite2 (fun h2 => ?_) (fun h2 => ?_)
        · have h2' : (h ++ l.take m).getD j 0 + cc = (h ++ l.take m).getD (j + m) 0 := by
            have := of_decide_eq_true h2
            injection this
          refine ⟨fun σ' G' => G' = G ∧ σ' = [some (.ref a), some (.ref b), some (.int r), some (.int (m : Int)), some (.int cc), some (.ref p3), some (.int (j : Int))], fun σ' G' ⟨z1, z2⟩ => ⟨j, Nat.lt_succ_self j, z1, by omega, ?_, z2⟩, ?_⟩
          · rw [hcut]
            show (if (h ++ l.take m).getD j 0 + cc = (h ++ l.take m).getD (j + m) 0 then _ else _) = _
            rw [if_pos h2']
          · refine ⟨_, rfl, _, _, rfl, rfl, rfl, ?_⟩
            show _ = _
            rw [← e1]
            rfl
        · refine hdone ?_
          show (if (h ++ l.take m).getD j 0 + cc = (h ++ l.take m).getD (j + m) 0 then _ else _) = _
          rw [if_neg fun z => h2 (decide_eq_true (congrArg V.int z))]
      · have k0 : k = 0 := by
          have : ¬ (0 : Int) < (k : Int) := fun z => h1 (decide_eq_true z)
          omega
        subst k0
        exact hdone rfl
end
end K02
set_option Elab.async false
set_option linter.all false
set_option maxRecDepth 100000
set_option maxHeartbeats 4000000
namespace K02
open PySem PySem.Spec PyProof.Rows L2 He NF
section
variable {P : Program} {w : World} {K : PySem.W.Frag} {mg : Str → Option Value} {base : Heap}
theorem sc__law_pick : FnScope ["_law_source_here", "_law_many", "_law_value", "_law_digit"] ["_law_source_here", "_law_many"] (defScope s__law_pick) := ⟨rfl, rfl, rfl, by decide +kernel, rfl, by decide +kernel, by decide +kernel⟩
theorem ok_pick {f : Addr} {fd : FuncData} {gs fs : List Str} (F : FunD K "_law_pick" "_law_pick" (defArgs s__law_pick) (defBody s__law_pick) (defScope s__law_pick) [] [] f fd) (T : Txt K mg gs fs) (hi : ("int" : Str) ∈ fs) : FnOk P w K mg base CX0 1 f fd ["_law_source_here", "_law_many"] spPick := by
  refine F.ok sc__law_pick (fun vs H Q E h => ?_) (fun cdv A outer s H vs Q E hr h => ?_)
  · obtain ⟨H0, p, m, rfl, _⟩ := h
    rfl
  · obtain ⟨H0, p, m, rfl, hS, h0, ⟨a, sd, c, hp⟩, m0, m1, k⟩ := h
    refine ⟨_, PSs.nox (pss_cons (ps_if (pt_cmpR op_gt (pe_ix ix_list (pv 0) pe_int fun _ _ => rfl) pe_int (nomark _)) (pss_cons (ps_set (i := 3) sc__law_pick.nd rfl (Or.inl rfl) (pe_op op_mod (pe_callTy call_int1 rfl (T.fr _ hi) (by decide +kernel) (pa_cons (pe_ix ix_list (pv 0) pe_int fun _ _ => rfl) pa_nil)) (pv 1))) (pss_cons (ps_asg (pe_op op_fdiv (pe_ix ix_list (pv 0) pe_int fun _ _ => rfl) (pv 1)) (pg_sub (pv 0) pe_int set_list)) (pss_one (ps_ret (pv 3))))) pss_nil) (pss_cons (ps_asg (pe_op op_add (pe_ix ix_list (pv 0) pe_int fun _ _ => rfl) pe_int) (pg_sub (pv 0) pe_int set_list)) (pss_cons (ps_set (i := 2) sc__law_pick.nd rfl (Or.inl rfl) (pe_op op_mod (pe_callTy call_int1 rfl (T.fr _ hi) (by decide +kernel) (pa_cons (pe_op op_mul (pe_op op_add (pe_ix ix_list (pv 0) pe_int fun _ _ => rfl) (pe_op op_mul pe_int (pe_ix ix_list (pv 0) pe_int fun _ _ => rfl))) pe_int) pa_nil)) pe_int)) (pss_cons (ps_set (i := 2) sc__law_pick.nd rfl (Or.inl rfl) (pe_op op_mod (pe_callTy call_int1 rfl (T.fr _ hi) (by decide +kernel) (pa_cons (pe_op op_add (pe_op op_add (pe_op op_mul (pv 2) (pv 2)) (pe_op op_mul pe_int (pe_ix ix_list (pv 0) pe_int fun _ _ => rfl))) (pe_ix ix_list (pv 0) pe_int fun _ _ => rfl)) pa_nil)) pe_int)) (pss_cons (ps_set (i := 2) sc__law_pick.nd rfl (Or.inl rfl) (pe_op op_mod (pe_callTy call_int1 rfl (T.fr _ hi) (by decide +kernel) (pa_cons (pe_op op_add (pe_op op_mul (pv 2) pe_int) pe_int) pa_nil)) pe_int)) (pss_cons (ps_set (i := 2) sc__law_pick.nd rfl (Or.inl rfl) (pe_op op_mod (pe_callTy call_int1 rfl (T.fr _ hi) (by decide +kernel) (pa_cons (pe_op op_add (pe_op op_mul (pv 2) (pv 2)) (pv 2)) pa_nil)) pe_int)) (pss_one (ps_ret (pe_op op_mod (pe_callTy call_int1 rfl (T.fr _ hi) (by decide +kernel) (pa_cons (pe_op op_fdiv (pv 2) pe_int) pa_nil)) (pv 1)))))))))), ?_⟩
    refine ⟨_, rfl, p, _, _, _, rfl, rfl, SqL.of hp, at0, _, _, rfl, rfl, _, rfl, ?_⟩
    refine ite2 (fun _ => ?_) (fun _ => ?_)
    · refine ⟨_, rfl, p, _, _, _, rfl, rfl, SqL.of hp, at0, Or.inl ⟨_, rfl, _, rfl, _, _, rfl, rfl, m0, ?_⟩⟩
      refine ⟨_, rfl, p, _, _, _, rfl, rfl, SqL.of hp, at0, _, rfl, _, _, rfl, rfl, ⟨m0, m1⟩, ?_⟩
      refine ⟨_, rfl, p, _, _, 0, rfl, rfl, hp, rfl, ?_⟩
      refine ⟨_, rfl, k _ _ (Int.emod_nonneg _ (by omega)) (Int.emod_lt_of_pos _ m0) (NF.Same.put hS h0) ⟨_, _, _, upd_same⟩⟩
    · refine ⟨_, rfl, p, _, _, _, rfl, rfl, SqL.of hp, at2, _, _, rfl, rfl, ?_⟩
      refine ⟨_, rfl, p, _, _, 2, rfl, rfl, hp, rfl, ?_⟩
      have hp' : upd H p (.lst [.int a, .int sd, .int (c + 1)]) p = some (.lst [.int a, .int sd, .int (c + 1)]) := upd_same
      refine ⟨_, rfl, p, _, _, _, rfl, rfl, SqL.of hp', at1, ?_⟩
      refine ⟨_, rfl, p, _, _, _, rfl, rfl, SqL.of hp', at2, _, _, rfl, rfl, Or.inl (by decide), _, _, rfl, rfl, ?_⟩
      refine ⟨_, _, rfl, rfl, Or.inr (by decide), Or.inl ⟨_, rfl, _, _, rfl, rfl, (by first | exact (by decide : (0 : Int) < 2147483647) | exact (by decide : (0 : Int) < 2147483629) | exact (by decide : (0 : Int) < 2147483587)), ?_⟩⟩
      generalize hx : (sd + 104729 * (c + 1)) * 48271 % 2147483647 = x
      have x0 : 0 ≤ x ∧ x < 2147483647 := by omega
      refine ⟨_, rfl, _, rfl, _, _, rfl, rfl, Or.inl (by omega), ?_⟩
      refine ⟨_, rfl, p, _, _, _, rfl, rfl, SqL.of hp', at2, _, _, rfl, rfl, Or.inl (by decide), _, _, rfl, rfl, ?_⟩
      refine ⟨_, rfl, p, _, _, _, rfl, rfl, SqL.of hp', at1, _, _, rfl, rfl, Or.inl ⟨_, rfl, _, _, rfl, rfl, (by first | exact (by decide : (0 : Int) < 2147483647) | exact (by decide : (0 : Int) < 2147483629) | exact (by decide : (0 : Int) < 2147483587)), ?_⟩⟩
      generalize hy : (x * x + 7 * (c + 1) + sd) % 2147483629 = y
      have y0 : 0 ≤ y ∧ y < 2147483629 := by omega
      refine ⟨_, rfl, _, _, rfl, rfl, Or.inl (by omega), _, _, rfl, rfl, Or.inl ⟨_, rfl, _, _, rfl, rfl, (by first | exact (by decide : (0 : Int) < 2147483647) | exact (by decide : (0 : Int) < 2147483629) | exact (by decide : (0 : Int) < 2147483587)), ?_⟩⟩
      generalize hz : (y * 69621 + 5) % 2147483647 = z
      have z0 : 0 ≤ z ∧ z < 2147483647 := by omega
      refine ⟨_, rfl, _, rfl, _, _, rfl, rfl, Or.inl (by omega), ?_⟩
      refine ⟨_, rfl, _, _, rfl, rfl, Or.inl ⟨_, rfl, _, _, rfl, rfl, (by first | exact (by decide : (0 : Int) < 2147483647) | exact (by decide : (0 : Int) < 2147483629) | exact (by decide : (0 : Int) < 2147483587)), ?_⟩⟩
      refine ⟨_, rfl, _, _, rfl, rfl, ⟨by decide, by decide⟩, Or.inl ⟨_, rfl, _, rfl, _, _, rfl, rfl, m0, ?_⟩⟩
      exact k _ _ (Int.emod_nonneg _ (by omega)) (Int.emod_lt_of_pos _ m0) (NF.Same.put hS h0) ⟨_, _, _, hp'⟩
end
end K02
set_option Elab.async false
set_option linter.all false
set_option maxRecDepth 100000
set_option maxHeartbeats 4000000
namespace K02
open PySem PySem.Spec PyProof.Rows L2 He NF
theorem sc__law_source : FnScope ["_law_script", "_law_place", "_law_cell", "_law_seed", "_law_one", "_law_number"] ["_law_script", "_law_place"] (defScope s__law_source) := ⟨rfl, rfl, rfl, by decide +kernel, rfl, by decide +kernel, by decide +kernel⟩
theorem natAbs_bits {x : Int} {n : Nat} (h : x.natAbs < 2 ^ n) : Builtin.Int.intBits x ≤ n := by
  unfold Builtin.Int.intBits
  by_cases e : x = 0
  · rw [if_pos (by rw [e]; rfl)]
    exact Nat.zero_le _
  · rw [if_neg (by simpa using e)]
    exact (Nat.log2_lt (by omega)).mpr h
theorem bits_le {x y : Int} (h : x.natAbs ≤ y.natAbs) : Builtin.Int.intBits x ≤ Builtin.Int.intBits y := by
  refine natAbs_bits (Nat.lt_of_le_of_lt h ?_)
  unfold Builtin.Int.intBits
  by_cases e : y = 0
  · rw [if_pos (by rw [e]; rfl), e]
    decide
  · rw [if_neg (by simpa using e)]
    exact Nat.lt_log2_self
theorem bits_small {x : Int} (h0 : 0 ≤ x) (h : x < 1000000) : Builtin.Int.intBits x ≤ 1048576 := Nat.le_trans (natAbs_bits (n := 20) (by omega)) (by decide)
section
variable {P : Program} {w : World} {K : PySem.W.Frag} {mg : Str → Option Value} {base : Heap}
theorem ok_source {f : Addr} {fd : FuncData} {gs fs : List Str} (F : FunD K "_law_source" "_law_source" (defArgs s__law_source) (defBody s__law_source) (defScope s__law_source) [] [] f fd) (T : Txt K mg gs fs) (hl : ("len" : Str) ∈ fs) (hi : ("int" : Str) ∈ fs) (ha : ("abs" : Str) ∈ fs) : FnOk P w K mg base CX0 1 f fd ["_law_script", "_law_place"] (spSource K) := by
  refine F.ok sc__law_source (fun vs H Q E h => ?_) (fun cdv A outer s H vs Q E hr h => ?_)
  · obtain ⟨l, ns, i, rfl, _⟩ := h
    rfl
  · obtain ⟨l, ns, i, rfl, hS, hn, hb, hi', k⟩ := h
    refine ⟨_, PSs.nox (pss_cons (ps_set (i := 2) sc__law_source.nd rfl (Or.inl rfl) (pe_ifExp (pt_cmpR op_lt (pv 1) (pe_callB call_len_seq rfl (T.fr _ hl) boot_len (pa_cons (pv 0) pa_nil)) (nomark _)) (pe_ix ix_list (pv 0) (pv 1) fun _ _ => rfl) (pe_op op_add (pe_op op_mul pe_int (pv 1)) pe_int))) (pss_cons (ps_set (i := 3) sc__law_source.nd rfl (Or.inl rfl) (pe_op op_mod (pe_callTy call_int1 rfl (T.fr _ hi) (by decide +kernel) (pa_cons (pe_op op_add (pe_op op_mod (pe_callTy call_int1 rfl (T.fr _ hi) (by decide +kernel) (pa_cons (pv 2) pa_nil)) pe_int) (pe_op op_mul pe_int (pv 1))) pa_nil)) pe_int)) (pss_cons (ps_for PassesOwn.never rfl (pi_list (pe_slice sl_list (pv 0) po_none (po_some pe_int))) (pg_name (i := 4) sc__law_source.nd rfl (Or.inl rfl)) (pss_one (ps_set (i := 3) sc__law_source.nd rfl (Or.inl rfl) (pe_op op_mod (pe_callTy call_int1 rfl (T.fr _ hi) (by decide +kernel) (pa_cons (pe_op op_add (pe_op op_mul (pv 3) pe_int) (pe_op op_mod (pe_callTy call_int1 rfl (T.fr _ hi) (by decide +kernel) (pa_cons (pv 4) pa_nil)) pe_int)) pa_nil)) pe_int)))) (pss_cons (ps_set (i := 5) sc__law_source.nd rfl (Or.inl rfl) (pe_callB call_abs rfl (T.fr _ ha) (by decide +kernel) (pa_cons (pv 2) pa_nil))) (pss_cons (ps_if (pt_cmpR op_lt (pv 5) (pe_op op_pow pe_int pe_int) (nomark _)) (pss_one (ps_ret (pe_lst (pa_cons pe_int (pa_cons (pv 3) (pa_cons pe_int pa_nil)))))) pss_nil) (pss_cons (ps_if (pt_cmpR op_gt (pe_op op_shr (pv 5) pe_int) pe_int (nomark _)) (pss_one (ps_set (i := 5) sc__law_source.nd rfl (Or.inl rfl) (pe_op op_sub (pv 5) (pe_op op_shlW (pe_op op_shr (pv 5) pe_int) pe_int)))) pss_nil) (pss_one (ps_ret (pe_lst (pa_cons (pv 5) (pa_cons (pv 3) (pa_cons pe_int pa_nil)))))))))))), ?_⟩
    -- the cell: what stands at the place, or a number by the place
    have hcell : ∀ (Q1 : VK), (∀ c : Int, Builtin.Int.intBits c ≤ 1048576 → Q1 (.int c) H) →
        (if decide ((i : Int) < ((ns.map V.int).length : Int)) = true then tOp (rIxL K) (tVar 0) (tVar 1) (start ["_law_script", "_law_place", "_law_cell", "_law_seed", "_law_one", "_law_number"] [.ref l, .int (i : Int)]) H Q1
          else tOp (rI0 fun i j => .int (i + j)) (tOp (rI CMul fun i j => .int (i * j)) (tC (.int 3)) (tVar 1)) (tC (.int 1)) (start ["_law_script", "_law_place", "_law_cell", "_law_seed", "_law_one", "_law_number"] [.ref l, .int (i : Int)]) H Q1) := by
      intro Q1 q
      rw [List.length_map]
      by_cases hlt : i < ns.length
      · rw [decide_eq_true (show (i : Int) < (ns.length : Int) by omega), if_pos rfl]
        have e : (ns.map V.int)[i]? = some (V.int ns[i]) := by rw [List.getElem?_map, List.getElem?_eq_getElem hlt] <;> rfl
        exact ⟨_, rfl, _, rfl, l, _, _, _, rfl, rfl, hS, atI_nat e, q _ (hb _ (List.getElem_mem hlt))⟩
      · rw [decide_eq_false (show ¬ (i : Int) < (ns.length : Int) by omega), if_neg Bool.false_ne_true]
        refine ⟨_, rfl, _, _, rfl, rfl, Or.inl (by decide), _, _, rfl, rfl, q _ ?_⟩
        exact bits_small (by omega) (by omega)
    refine ⟨_, rfl, _, rfl, l, _, rfl, Or.inl hS, _, _, rfl, rfl, _, rfl, hcell _ fun c hc => ?_⟩
    refine ⟨_, rfl, Or.inl ⟨_, rfl, _, _, rfl, rfl, (by exact (by decide : (0 : Int) < 2147483629)), ?_⟩⟩
    refine ⟨_, rfl, _, _, rfl, rfl, Or.inl (by decide), _, _, rfl, rfl, Or.inl ⟨_, rfl, _, _, rfl, rfl, (by exact (by decide : (0 : Int) < 2147483629)), ?_⟩⟩
    refine ⟨_, rfl, _, rfl, l, _, rfl, hS, fun p hp => ⟨p, rfl, ⟨_, SqL.of upd_same⟩, ?_⟩⟩
    have hpl : H p = none := hp
    obtain ⟨cs, hcs⟩ : ∃ cs : List Int, cutV (ns.map V.int) none (some 2) = cs.map V.int := ⟨(ns.drop (HT.sIx (ns.map V.int).length 0 none)).take (HT.sIx (ns.map V.int).length (ns.map V.int).length (some 2) - HT.sIx (ns.map V.int).length 0 none), by unfold cutV; rw [List.map_take, List.map_drop]⟩
    refine for_list (K := K) (a := p) (xs := cs.map V.int) (fun j σ H' => H' = upd H p (.lst (cs.map V.int)) ∧ ∃ (sd : Int) (v : Option V), σ = [some (.ref l), some (.int (i : Int)), some (.int c), some (.int sd), v, none])
      ⟨by rw [hcs], _, _, rfl⟩ (fun j σ H' _ z => by rw [z.1]; exact SqL.of upd_same) ?_ ?_
    · rintro j y σ H' hj ⟨rfl, sd, v, rfl⟩
      obtain ⟨z, rfl⟩ : ∃ z, y = V.int z := by
        rw [List.getElem?_map] at hj
        cases e : cs[j]? with
        | none =>
          rw [e] at hj
          cases hj
        | some z =>
          rw [e] at hj
          exact ⟨z, (Option.some.inj hj).symm⟩
      refine ⟨_, rfl, _, _, rfl, rfl, Or.inr (by decide), _, rfl, Or.inl ⟨_, rfl, _, _, rfl, rfl, (by exact (by decide : (0 : Int) < 1000003)), ?_⟩⟩
      refine ⟨_, _, rfl, rfl, Or.inl ⟨_, rfl, _, _, rfl, rfl, (by exact (by decide : (0 : Int) < 2147483629)), ?_⟩⟩
      exact ⟨rfl, _, _, rfl⟩
    · rintro σ H' ⟨rfl, sd, v, rfl⟩
      have hS1 : Same H (upd H p (.lst (cs.map V.int))) := NF.Same.new (Same.refl H) hp
      have hend : ∀ (a sd : Int) (q : Addr), upd H p (.lst (cs.map V.int)) q = none → Q (.ref q) (upd (upd H p (.lst (cs.map V.int))) q (.lst [.int a, .int sd, .int 0])) := fun a sd q hq =>
        k q _ (NF.Same.new hS1 hq) (L2.Same.free hS1 hq) ⟨_, _, _, upd_same⟩
      refine ⟨_, rfl, _, rfl, ?_⟩
      have hab : Builtin.Int.intBits (if c < 0 then -c else c) ≤ 1048576 := Nat.le_trans (bits_le (by split <;> omega)) hc
      generalize hm : (if c < 0 then -c else c) = m at hab ⊢
      have m0 : 0 ≤ m := by rw [← hm]; split <;> omega
      refine ⟨_, rfl, _, _, rfl, rfl, ⟨by decide, by decide, by decide⟩, _, _, rfl, rfl, _, rfl, ?_⟩
      refine ite2 (fun _ => ?_) (fun _ => ?_)
      · exact ⟨_, rfl, (by show 3 ≤ sizeLine; decide), fun q hq => hend _ _ q hq⟩
      · refine ⟨_, rfl, _, _, rfl, rfl, (by exact (by decide : (0 : Int) ≤ 4000)), _, _, rfl, rfl, _, rfl, ?_⟩
        refine ite2 (fun _ => ?_) (fun _ => ?_)
        · refine ⟨_, rfl, _, rfl, _, _, rfl, rfl, (by exact (by decide : (0 : Int) ≤ 4000)), _, _, rfl, rfl, ⟨(by exact (by decide : (0 : Int) ≤ 4000)), ?_⟩, _, _, rfl, rfl, ?_⟩
          · have hd : Builtin.Int.intBits (m / 2 ^ (4000 : Int).toNat) ≤ Builtin.Int.intBits m := bits_le (by
              have h1 : 0 ≤ m / 2 ^ (4000 : Int).toNat := Int.ediv_nonneg m0 (Int.le_of_lt (Int.pow_pos (by decide)))
              have h2 : m / 2 ^ (4000 : Int).toNat ≤ m := Int.ediv_le_self _ m0
              omega)
            have h27 : (1048576 : Int) + 4000 ≤ 2 ^ 27 := by decide
            omega
          · exact ⟨_, rfl, _, rfl, (by show 3 ≤ sizeLine; decide), fun q hq => hend _ _ q hq⟩
        · exact ⟨_, rfl, _, rfl, (by show 3 ≤ sizeLine; decide), fun q hq => hend _ _ q hq⟩
end
end K02
set_option Elab.async false
set_option linter.all false
set_option maxRecDepth 100000
set_option maxHeartbeats 4000000
namespace K02
open PySem PySem.Spec PyProof.Rows L2 He NF RZ NT
/-- what the class of tables is -/
structure TabC (K : PySem.W.Frag) (C : Addr) : Prop where
  cl : Cls K C
  hd : NoAttr K C "head"
  lp : NoAttr K C "loop"
  ri : NoAttr K C "rise"
  ac : PySem.W.findIn K (.ref C) "__class__" = some (some (.builtin "object.__class__"))
  ag : PySem.W.specialIn K (.builtin "object.__class__") "__get__" = some (some (.builtin "getset_descriptor.__get__"))
  at_ : PySem.W.takesIn K (.builtin "object.__class__") = some true
  am : PySem.W.mroIn K C (.type "object") = some true
  self : PySem.W.kitOne K (.ref C) (.ref C) = some true
  tup : PySem.W.kitOne K (.type "tuple") (.ref C) = some false
  int : PySem.W.kitOne K (.type "int") (.ref C) = some false
  non : PySem.W.kitOne K (.type "NoneType") (.ref C) = some false
theorem TabC.ty {K : PySem.W.Frag} {C : Addr} (c : TabC K C) {H : Hp} {a dx : Addr} {fs : List (Str × V)} (h : H a = some (.ins C dx fs)) : TyX K H (.ref a) (.ref C) := .base (.ins h c.cl c.ac c.ag c.at_ c.am)
/-- what a table must be that it can be asked -/
structure Small (y : List Int × List Int × Int) : Prop where
  h : y.1.length ≤ 1000
  l : y.2.1.length ≤ 1000
  r0 : 0 ≤ y.2.2
  r1 : y.2.2 ≤ 1000000
def spEnd (K : PySem.W.Frag) (C : Addr) : Sp := fun vs H Q _ => ∃ x y, vs = [.ref x] ∧ TabAt K C H x y ∧ Q (vO (fin_ y.2.1 y.2.2)) H
def spAt (K : PySem.W.Frag) (C : Addr) : Sp := fun vs H Q _ => ∃ x y n, vs = [.ref x, vN n] ∧ TabAt K C H x y ∧ Small y ∧ ∀ H', Same H H' → Q (vO (val_ y.1 y.2.1 y.2.2 n)) H'
/-- a table is told, or refused -/
def spInitT (K : PySem.W.Frag) (C : Addr) : Sp := fun vs H Q E => ∃ (x dx : Addr) (v1 v2 v : V) (o1 o2 : Option (List V)), vs = [.ref x, v1, v2, v] ∧ H x = some (.ins C dx []) ∧ RowIs K H v1 o1 ∧ RowIs K H v2 o2 ∧ ThK K H v ∧ (numsO o1).length ≤ 6000 ∧ (numsO o2).length ≤ 1000 ∧
  (dueW o1 o2 v = none → ∀ y H', IsPlain (numsO o1) (numsO o2) (numV v) y → Same (wo H x) H' → TabAt K C H' x y → Q .non H') ∧
  (∀ w, dueW o1 o2 v = some w → ∀ d H', Same (wo H x) H' → H d = none → H' d = some (.xd [("word", .str w)]) → E (.ref (ga K "BadTable")) (some d) H')
/-- a value at a thing -/
def spAtT (K : PySem.W.Frag) (C : Addr) : Sp := fun vs H Q E => ∃ x y v, vs = [.ref x, v] ∧ TabAt K C H x y ∧ Small y ∧ ThK K H v ∧ ((∃ n, v = vN n ∧ ∀ H', Same H H' → Q (vO (val_ y.1 y.2.1 y.2.2 n)) H') ∨
  (v ≠ .non ∧ isCnt v = false ∧ ∀ d H', Same H H' → H d = none → H' d = some (.xd [("thing", v)]) → E (.ref (ga K "BadCount")) (some d) H'))
theorem sc_end_of : FnScope ["table"] ["table"] (defScope s_end_of) := ⟨rfl, rfl, rfl, by decide +kernel, rfl, by decide +kernel, by decide +kernel⟩
theorem sc_value_at : FnScope ["table", "n", "lap", "at"] ["table", "n"] (defScope s_value_at) := ⟨rfl, rfl, rfl, by decide +kernel, rfl, by decide +kernel, by decide +kernel⟩
theorem sc_Table___init__ : FnScope ["self", "head", "loop", "rise"] ["self", "head", "loop", "rise"] (defScope s_Table_init) := ⟨rfl, rfl, rfl, by decide +kernel, rfl, by decide +kernel, by decide +kernel⟩
theorem sc_Table___call__ : FnScope ["self", "n"] ["self", "n"] (defScope s_Table_call) := ⟨rfl, rfl, rfl, by decide +kernel, rfl, by decide +kernel, by decide +kernel⟩
theorem ne_nil {l : List Int} (h : l ≠ []) : (!l.isEmpty) = true := by cases l with
  | nil => exact absurd rfl h
  | cons _ _ => rfl
theorem is_nil {l : List Int} (h : l = []) : (!l.isEmpty) = false := by rw [h]; rfl
theorem few1 (a : V) : (putF "head" a []).length < 1000 := show 1 < 1000 by decide
theorem few2 (a b : V) : (putF "loop" b (putF "head" a [])).length < 1000 := show 2 < 1000 by decide
theorem tf_eq (a b : Addr) (r : Int) : putF "rise" (.int r) (putF "loop" (.ref b) (putF "head" (.ref a) [])) = tf a b r := by rfl
/-- what is let is good -/
theorem due_good {o1 o2 : Option (List V)} {v : V} (h : dueW o1 o2 v = none) : ∃ (a b : List Int) (r : Int), o1 = some (vI a) ∧ o2 = some (vI b) ∧ v = .int r ∧ Good a b r := by
  unfold dueW at h
  by_cases c1 : climbO o1 = false
  · rw [if_pos c1] at h; cases h
  rw [if_neg c1] at h
  by_cases c2 : (!climbO o2 || joinBad (numsO o1) (numsO o2)) = true
  · rw [if_pos c2] at h; cases h
  rw [if_neg c2] at h
  by_cases c3 : riseBad (numsO o2) v = true
  · rw [if_pos c3] at h; cases h
  have c1 : climbO o1 = true := by cases e : climbO o1 with
    | true => rfl
    | false => exact absurd e c1
  have c2 : climbO o2 = true ∧ joinBad (numsO o1) (numsO o2) = false := by
    cases e : climbO o2 <;> cases g : joinBad (numsO o1) (numsO o2) <;> rw [e, g] at c2 <;> simp at c2 ⊢
  obtain ⟨c5, c4⟩ := c2
  obtain ⟨a, rfl, ha⟩ : ∃ a, o1 = some (vI a) ∧ climbs 0 a := by
    cases o1 with
    | none => cases c1
    | some xs =>
      obtain ⟨a, rfl, ha⟩ := climbV_is c1
      exact ⟨a, rfl, ha⟩
  obtain ⟨b, rfl, hb⟩ : ∃ b, o2 = some (vI b) ∧ climbs 0 b := by
    cases o2 with
    | none => cases c5
    | some xs =>
      obtain ⟨b, rfl, hb⟩ := climbV_is c5
      exact ⟨b, rfl, hb⟩
  have e1 : numsO (some (vI a)) = a := nums_vI a
  have e2 : numsO (some (vI b)) = b := nums_vI b
  rw [e1, e2] at c4
  rw [e2] at c3
  unfold riseBad at c3
  cases hc : isCnt v with
  | false => rw [hc] at c3; exact absurd rfl c3
  | true =>
    obtain ⟨r, rfl⟩ : ∃ r, v = .int r := by
      cases v with
      | int r => exact ⟨r, rfl⟩
      | _ => cases hc
    have r0 : 0 ≤ r := of_decide_eq_true hc
    refine ⟨a, b, r, rfl, rfl, rfl, ha, hb, fun n1 n2 => ?_, r0, fun n => ?_, fun n => ?_⟩
    · unfold joinBad at c4
      rw [ne_nil n1, ne_nil n2] at c4
      have := of_decide_eq_false c4
      omega
    · refine Classical.byContradiction fun z => c3 ?_
      rw [hc, n]
      show (false || (true && decide (r ≠ 0)) || _) = true
      rw [decide_eq_true z]
      rfl
    · refine Int.not_lt.mp fun z => c3 ?_
      have e : b.isEmpty = false := by
        have := ne_nil n
        cases h : b.isEmpty with
        | false => rfl
        | true => rw [h] at this; cases this
      rw [hc, e]
      show (false || false || (true && decide (b.getD 0 0 + r < _))) = true
      rw [decide_eq_true z]
      rfl
section
variable {P : Program} {w : World} {K : PySem.W.Frag} {mg : Str → Option Value} {base : Heap} {gs fs : List Str} {C : Addr}
theorem ok_end_of {f : Addr} {fd : FuncData} (F : FunD K "end_of" "end_of" (defArgs s_end_of) (defBody s_end_of) (defScope s_end_of) [] [] f fd) (T : Txt K mg gs FS) (tc : TabC K C) : FnOk P w K mg base CX0 1 f fd ["table"] (spEnd K C) := by
  refine F.ok sc_end_of (fun vs H Q E h => ?_) (fun cdv A outer s H vs Q E hr h => ?_)
  · obtain ⟨x, y, rfl, _⟩ := h
    rfl
  · obtain ⟨x, ⟨h, l, r⟩, rfl, ⟨dx, a, b, hx, ha, hb⟩, q⟩ := h
    dsimp only at hx ha hb q
    refine ⟨_, PSs.nox (pss_cons (ps_if (PW.pt (pw_or (pt_not (pt_truth (pe_fld (pv 0) rfl) (fun _ => rfl))) (pw_or1 (pt_cmpR op_gt (pe_fld (pv 0) rfl) pe_int (nomark _))))) (pss_one (ps_ret pe_non)) pss_nil) (pss_one (ps_ret (pe_ix (ixt (K := K)) (pe_fld (pv 0) rfl) (pe_un un_neg pe_int) fun _ _ => rfl)))), ?_⟩
    refine ⟨_, rfl, x, C, dx, _, _, rfl, hx, tc.cl, tc.lp, rfl, _, tru_tup hb, ?_⟩
    by_cases hl : l = []
    · rw [is_nil hl]
      refine iteT (iteT ?_)
      unfold fin_ at q
      rw [if_pos (.inl hl)] at q
      exact q
    · rw [ne_nil hl]
      refine iteF ⟨_, rfl, x, C, dx, _, _, rfl, hx, tc.cl, tc.ri, rfl, _, _, rfl, rfl, _, rfl, ?_⟩
      refine ite2 (fun h1 => ?_) (fun h1 => ?_)
      · have h2 : (0 : Int) < r := of_decide_eq_true h1
        unfold fin_ at q
        rw [if_pos (.inr h2)] at q
        exact q
      · have h2 : ¬ (0 : Int) < r := fun z => h1 (decide_eq_true z)
        unfold fin_ at q
        rw [if_neg (fun z => z.elim hl h2)] at q
        exact ⟨_, rfl, x, C, dx, _, _, rfl, hx, tc.cl, tc.lp, rfl, _, rfl, b, _, _, _, rfl, rfl, hb, at_last (len_pos hl), q⟩
theorem ok_value_at {f : Addr} {fd : FuncData} (F : FunD K "value_at" "value_at" (defArgs s_value_at) (defBody s_value_at) (defScope s_value_at) [] [] f fd) (T : Txt K mg gs FS) (tc : TabC K C) (c_end_of : Cal P w K mg base 1 "end_of" (spEnd K C)) : FnOk P w K mg base CX0 2 f fd ["table", "n"] (spAt K C) := by
  refine F.ok sc_value_at (fun vs H Q E h => ?_) (fun cdv A outer s H vs Q E hr h => ?_)
  · obtain ⟨x, y, n, rfl, _⟩ := h
    rfl
  · obtain ⟨x, ⟨h, l, r⟩, n, rfl, tb, sm, q⟩ := h
    have tb0 := tb
    obtain ⟨dx, a, b, hx, ha, hb⟩ := tb0
    dsimp only at hx ha hb q
    refine ⟨_, PSs.nox (pss_cons (ps_if (pt_cmpR op_isN (pv 1) pe_non (nomark _)) (pss_one (ps_ret (pe_c c_end_of hr (by decide) rfl (pa_cons (pv 0) pa_nil)))) pss_nil) (pss_cons (ps_if (pt_cmpR op_eq (pv 1) pe_int (nomark _)) (pss_one (ps_ret pe_int)) pss_nil) (pss_cons (ps_if (pt_cmpR op_le (pv 1) (pe_callB call_len_seq rfl (T.fr _ (by decide +kernel)) boot_len (pa_cons (pe_fld (pv 0) rfl) pa_nil)) (nomark _)) (pss_one (ps_ret (pe_ix (ixt (K := K)) (pe_fld (pv 0) rfl) (pe_op op_sub (pv 1) pe_int) fun _ _ => rfl))) pss_nil) (pss_cons (ps_if (pt_not (pt_truth (pe_fld (pv 0) rfl) (fun _ => rfl))) (pss_one (ps_ret pe_non)) pss_nil) (pss_cons (ps_asg (pe_callB call_divmod rfl (T.fr _ (by decide +kernel)) (by decide +kernel) (pa_cons (pe_op op_sub (pe_op op_sub (pv 1) (pe_callB call_len_seq rfl (T.fr _ (by decide +kernel)) boot_len (pa_cons (pe_fld (pv 0) rfl) pa_nil))) pe_int) (pa_cons (pe_callB call_len_seq rfl (T.fr _ (by decide +kernel)) boot_len (pa_cons (pe_fld (pv 0) rfl) pa_nil)) pa_nil))) (pgt (K := K) (n := 2) rfl rfl (pgs_cons (pg_name (i := 2) sc_value_at.nd rfl (Or.inl rfl)) (pgs_cons (pg_name (i := 3) sc_value_at.nd rfl (Or.inl rfl)) pgs_nil)))) (pss_one (ps_ret (pe_op op_add (pe_ix (ixt (K := K)) (pe_fld (pv 0) rfl) (pv 3) fun _ _ => rfl) (pe_op op_mul (pv 2) (pe_fld (pv 0) rfl)))))))))), ?_⟩
    cases n with
    | none => exact ⟨_, rfl, rfl, _, rfl, iteT ⟨_, rfl, x, _, rfl, tb, q _ (Same.refl H)⟩⟩
    | some n =>
      refine ⟨_, rfl, rfl, _, rfl, iteF ?_⟩
      refine ⟨_, rfl, rfl, _, rfl, ite2 (fun h1 => ?_) (fun h1 => ?_)⟩
      · have h2 : n = 0 := by
          have := of_decide_eq_true h1
          injection this with this
          omega
        subst h2
        exact q _ (Same.refl H)
      have n0 : n ≠ 0 := fun z => h1 (by rw [z]; exact decide_eq_true rfl)
      unfold val_ at q
      dsimp only at q
      rw [if_neg n0] at q
      refine ⟨_, rfl, _, rfl, x, C, dx, _, _, rfl, hx, tc.cl, tc.hd, rfl, a, _, rfl, Or.inr ha, ?_⟩
      rw [vI_len]
      refine ⟨_, _, rfl, rfl, _, rfl, ite2 (fun h1 => ?_) (fun h1 => ?_)⟩
      · have h2 : n ≤ h.length := by
          have := of_decide_eq_true h1
          omega
        unfold at_ at q
        rw [if_pos h2] at q
        exact ⟨_, rfl, x, C, dx, _, _, rfl, hx, tc.cl, tc.hd, rfl, _, rfl, _, _, rfl, rfl, a, _, _, _, rfl, rfl, ha, at_int (k := n - 1) (by omega) (by omega), q _ (Same.refl H)⟩
      have h2 : ¬ n ≤ h.length := fun z => h1 (decide_eq_true (by omega))
      refine ⟨_, rfl, x, C, dx, _, _, rfl, hx, tc.cl, tc.lp, rfl, _, tru_tup hb, ?_⟩
      by_cases hl : l = []
      · rw [is_nil hl]
        unfold at_ at q
        rw [if_neg h2, if_pos hl] at q
        exact iteT (q _ (Same.refl H))
      rw [ne_nil hl]
      have hp := len_pos hl
      have hsl := sm.l
      dsimp only at hsl
      rw [at_loop hl (by omega)] at q
      refine iteF ?_
      refine ⟨_, rfl, _, rfl, x, C, dx, _, _, rfl, hx, tc.cl, tc.hd, rfl, a, _, rfl, Or.inr ha, _, _, rfl, rfl, _, _, rfl, rfl, ?_⟩
      refine ⟨_, rfl, x, C, dx, _, _, rfl, hx, tc.cl, tc.lp, rfl, b, _, rfl, Or.inr hb, ?_⟩
      rw [vI_len, vI_len]
      refine ⟨_, _, rfl, ⟨by omega, by omega⟩, fun p hpn => ?_⟩
      have s1 := NF.Same.new (o := .tup [V.int (((n : Int) - (h.length : Int) - 1) / (l.length : Int)), V.int (((n : Int) - (h.length : Int) - 1) % (l.length : Int))]) (Same.refl H) hpn
      refine ⟨p, _, rfl, SqT.of upd_same, rfl, _, _, rfl, ?_⟩
      refine ⟨_, _, rfl, ?_⟩
      refine ⟨rfl, ?_⟩
      have hx1 := s1 _ _ hx
      have hb1 := NF.Same.tup s1 hb
      have e1 : (n : Int) - (h.length : Int) - 1 = ((n - h.length - 1 : Nat) : Int) := by omega
      have e2 : ((n : Int) - (h.length : Int) - 1) % (l.length : Int) = (((n - h.length - 1) % l.length : Nat) : Int) := by rw [e1]; rfl
      refine ⟨_, rfl, x, C, dx, _, _, rfl, hx1, tc.cl, tc.lp, rfl, _, rfl, b, _, _, _, rfl, rfl, hb1, at_int (k := (n - h.length - 1) % l.length) e2 (Nat.mod_lt _ hp), ?_⟩
      have r0 := sm.r0
      have r1 := sm.r1
      dsimp only at r0 r1
      refine ⟨_, rfl, _, rfl, x, C, dx, _, _, rfl, hx1, tc.cl, tc.ri, rfl, _, _, rfl, rfl, Or.inr ⟨by omega, by omega⟩, ?_⟩
      refine ⟨_, _, rfl, rfl, ?_⟩
      have e3 : l.getD ((n - h.length - 1) % l.length) 0 + ((n : Int) - (h.length : Int) - 1) / (l.length : Int) * r = walk l r (n - h.length - 1) := by
        unfold walk
        rw [e1, Int.mul_comm]
        rfl
      show Q (V.int _) _
      rw [e3]
      exact q _ s1
theorem ok_Table_init {dvs : List V} {f : Addr} {fd : FuncData} (F : FunD K "__init__" "Table.__init__" (defArgs s_Table_init) (defBody s_Table_init) (defScope s_Table_init) dvs [] f fd) (T : Txt K mg gs FS) (tc : TabC K C) (c_check_table : CalX P w K mg base 3 "check_table" (spCheckT K)) (c_plain_form : Cal P w K mg base 2 "plain_form" (spForm K)) : FnOk P w K mg base (L2.CX P w) 4 f fd ["self", "head", "loop", "rise"] (spInitT K C) := by
  refine F.ok sc_Table___init__ (fun vs H Q E h => ?_) (fun cdv A outer s H vs Q E hr h => ?_)
  · obtain ⟨x, dx, v1, v2, v, o1, o2, rfl, _⟩ := h
    rfl
  · obtain ⟨x, dx, v1, v2, v, o1, o2, rfl, hx, r1, r2, hv, hz1, hz, q, e⟩ := h
    refine ⟨_, (pss_cons (ps_expr (pe_cX (takes_of rfl rfl rfl rfl) c_check_table hr (by decide) rfl (pa_cons (pv 1) (pa_cons (pv 2) (pa_cons (pv 3) pa_nil))))) (pss_one (ps_asg (pe_c c_plain_form hr (by decide) rfl (pa_cons (pe_callTy cr_tup rfl (T.fr _ (by decide +kernel)) (by decide +kernel) (pa_cons (pv 1) pa_nil)) (pa_cons (pe_callTy cr_tup rfl (T.fr _ (by decide +kernel)) (by decide +kernel) (pa_cons (pv 2) pa_nil)) (pa_cons (pv 3) pa_nil)))) (pgt (K := K) (n := 3) rfl rfl (pgs_cons (pg_fld (pv 0)) (pgs_cons (pg_fld (pv 0)) (pgs_cons (pg_fld (pv 0)) pgs_nil))))))), ?_⟩
    refine ⟨_, rfl, _, rfl, _, rfl, v1, v2, v, o1, o2, rfl, r1, r2, hv, fun due H1 s1 => ?_, fun w hw d H1 s1 hd hx2 => e w hw d H1 (Same.trans wo_same' s1) hd hx2⟩
    obtain ⟨h, l, r, rfl, rfl, rfl, hg⟩ := due_good due
    have e1 : numsO (some (vI h)) = h := nums_vI h
    have e2 : numsO (some (vI l)) = l := nums_vI l
    rw [e1] at hz1
    rw [e2] at hz
    have q := q due
    rw [e1, e2] at q
    cases r1 with
    | @row a _ ha _ =>
      cases r2 with
      | @row b _ hb _ =>
        refine ⟨_, rfl, a, _, rfl, ha.mono s1, fun p1 H2 s2 t1 => ?_⟩
        refine ⟨_, rfl, b, _, rfl, hb.mono (Same.trans s1 s2), fun p2 H3 s3 t2 => ?_⟩
        refine ⟨_, rfl, p1, p2, h, l, r, rfl, NF.Same.tup s3 t1, t2, hz1, hz, fun y p H4 hy s4 fo => ?_⟩
        obtain ⟨u, v, f1, f2, f3⟩ := fo
        have s04 : Same H H4 := Same.trans s1 (Same.trans s2 (Same.trans s3 s4))
        have x4 := s04 _ _ hx
        refine ⟨p, _, rfl, f1, rfl, ?_⟩
        refine ⟨_, _, rfl, _, rfl, x, C, dx, _, rfl, x4, tc.cl, tc.hd, by decide, ?_⟩
        refine ⟨_, _, rfl, _, rfl, x, C, dx, _, rfl, upd_same, tc.cl, tc.lp, few1 _, ?_⟩
        refine ⟨_, _, rfl, _, rfl, x, C, dx, _, rfl, upd_same, tc.cl, tc.ri, few2 _ _, ?_⟩
        refine ⟨rfl, ?_⟩
        refine q y _ hy ?_ ⟨dx, u, v, ?_, ?_, ?_⟩
        · exact Same.put (Same.put (Same.put (Same.trans wo_same' s04) wo_none) wo_none) wo_none
        · rw [upd_same, ← tf_eq]
        · exact SqT.put (SqT.put (SqT.put f2 x4 trivial) upd_same trivial) upd_same trivial
        · exact SqT.put (SqT.put (SqT.put f3 x4 trivial) upd_same trivial) upd_same trivial
theorem ok_Table_call {f : Addr} {fd : FuncData} (F : FunD K "__call__" "Table.__call__" (defArgs s_Table_call) (defBody s_Table_call) (defScope s_Table_call) [] [] f fd) (T : Txt K mg gs FS) (m_BadCount : ExcI P w K mg base "BadCount" "thing") (c_is_count : Cal P w K mg base 2 "is_count" (spIsCountT K)) (c_value_at : Cal P w K mg base 2 "value_at" (spAt K C)) : FnOk P w K mg base (L2.CX P w) 3 f fd ["self", "n"] (spAtT K C) := by
  refine F.ok sc_Table___call__ (fun vs H Q E h => ?_) (fun cdv A outer s H vs Q E hr h => ?_)
  · obtain ⟨x, y, v, rfl, _⟩ := h
    rfl
  · obtain ⟨x, y, v, rfl, tb, sm, hv, hq⟩ := h
    refine ⟨_, (pss_cons (ps_if (PW.pt (pw_and (pt_cmpR op_notN (pv 1) pe_non (nomark _)) (pw_and1 (pt_not (pt_val (pe_c c_is_count hr (by decide) rfl (pa_cons (pv 1) pa_nil))))))) (pss_one (ps_rz rfl (takes_of rfl rfl rfl rfl) m_BadCount hr (by decide) rfl (pv 1))) pss_nil) (pss_one (ps_ret (pe_c c_value_at hr (by decide) rfl (pa_cons (pv 0) (pa_cons (pv 1) pa_nil)))))), ?_⟩
    rcases hq with ⟨n, rfl, q⟩ | ⟨hn, hc, e⟩
    · cases n with
      | none => exact ⟨_, rfl, rfl, _, rfl, iteF (iteF ⟨_, rfl, _, rfl, x, y, none, rfl, tb, sm, q⟩)⟩
      | some n =>
        refine ⟨_, rfl, rfl, _, rfl, iteT ⟨_, rfl, _, rfl, hv, true, congrArg V.bl (show decide ((0 : Int) ≤ (n : Int)) = true from decide_eq_true (Int.natCast_nonneg n)), iteF ?_⟩⟩
        exact ⟨_, rfl, _, rfl, x, y, some n, rfl, tb, sm, q⟩
    · refine ⟨_, rfl, rfl, _, rfl, ?_⟩
      rw [show (!decide (v = V.non)) = true by rw [decide_eq_false hn]; rfl]
      refine iteT ⟨_, rfl, v, rfl, hv, false, congrArg V.bl hc, iteT ⟨_, rfl, raise_done fun d H2 hd s2 hx => e d H2 s2 hd hx⟩⟩
end
end K02
set_option Elab.async false
set_option linter.all false
set_option maxRecDepth 100000
set_option maxHeartbeats 4000000
namespace NT
theorem climbs_snoc : ∀ {l : List Int} {lo v : Int}, climbs lo l → (if l.length = 0 then lo else l.getD (l.length - 1) 0) ≤ v → climbs lo (l ++ [v])
  | [], lo, v, _, h => ⟨by simpa using h, trivial⟩
  | x :: l, lo, v, c, h => by
    refine ⟨c.1, climbs_snoc c.2 ?_⟩
    rw [if_neg (by simp)] at h
    by_cases z : l.length = 0
    · rw [if_pos z]
      have : l = [] := List.eq_nil_of_length_eq_zero z
      subst this
      simpa using h
    · rw [if_neg z]
      obtain ⟨j, hj⟩ : ∃ j, l.length = j + 1 := ⟨l.length - 1, by omega⟩
      rw [List.length_cons, hj] at h
      rw [hj]
      simpa using h
theorem climbs_low : ∀ {l : List Int} {lo : Int} {i : Nat}, climbs lo l → i < l.length → lo ≤ l.getD i 0
  | [], _, _, _, h => by simp at h
  | x :: l, lo, 0, c, _ => c.1
  | x :: l, lo, i + 1, c, h => by
    have := climbs_low (i := i) c.2 (by simpa using h)
    have := c.1
    show lo ≤ l.getD i 0
    omega
theorem climbs_le {l : List Int} {lo lo' : Int} (h : climbs lo l) (e : lo' ≤ lo) : climbs lo' l := by
  cases l with
  | nil => trivial
  | cons x l => exact ⟨Int.le_trans e h.1, h.2⟩
structure RawOk (x : List Int × List Int × Int) : Prop where
  g : Good x.1 x.2.1 x.2.2
  h : x.1.length ≤ 400
  l : x.2.1.length ≤ 400
  r : x.2.2 ≤ 100000
/-- as it is drawn -/
structure Raw0 (x : List Int × List Int × Int) : Prop where
  g : Good x.1 x.2.1 x.2.2
  h : x.1.length ≤ 100
  l : x.2.1.length ≤ 100
  r : x.2.2 ≤ 1000
  f : (x.1 ++ x.2.1 ++ [5]).getD 0 0 ≤ 1000
theorem Raw0.ok {x : List Int × List Int × Int} (a : Raw0 x) : RawOk x := ⟨a.g, Nat.le_trans a.h (by decide), Nat.le_trans a.l (by decide), Int.le_trans a.r (by decide)⟩
theorem first_le {h l : List Int} (h1 : h ≠ [] → h.getD 0 0 ≤ 1000) (h2 : h = [] → l ≠ [] → l.getD 0 0 ≤ 1000) : (h ++ l ++ [5]).getD 0 0 ≤ 1000 := by
  cases h with
  | cons x h => exact h1 (by simp)
  | nil => cases l with
    | cons y l => exact h2 rfl (by simp)
    | nil => decide
end NT
namespace K02
open PySem PySem.Spec PyProof.Rows L2 He NF RZ NT
def spRising : Sp := fun vs H Q _ => ∃ (H0 : Hp) (p : Addr) (m : Nat) (lo st : Int), vs = [.ref p, .int (m : Int), .int lo, .int st] ∧ Same H0 H ∧ H0 p = none ∧ Src H p ∧ m ≤ 100 ∧ 0 ≤ lo ∧ 0 < st ∧ st < 1073741824 ∧
  ∀ q l H', Same H0 H' → Src H' p → H' q = some (.lst (vI l)) → H0 q = none → q ≠ p → l.length = m → climbs lo l → (∀ i, i < m → l.getD i 0 ≤ lo + st * ((i : Int) + 1)) → Q (.ref q) H'
def spRaw (K : PySem.W.Frag) : Sp := fun vs H Q _ => ∃ (H0 : Hp) (p : Addr), vs = [.ref p, .bl false] ∧ Same H0 H ∧ H0 p = none ∧ Src H p ∧
  ∀ q x H', Same H0 H' → Src H' p → Raw0 x → FormAt K H' q x → Q (.ref q) H'
theorem sc__law_rising : FnScope ["_law_source_here", "_law_many", "_law_low", "_law_steps", "_law_told_here", "_law_value", "_law_k"] ["_law_source_here", "_law_many", "_law_low", "_law_steps"] (defScope s__law_rising) := ⟨rfl, rfl, rfl, by decide +kernel, rfl, by decide +kernel, by decide +kernel⟩
theorem sc__law_raw : FnScope ["_law_source_here", "_law_steady", "_law_head", "_law_low", "_law_many", "_law_loop", "_law_more", "_law_rise"] ["_law_source_here", "_law_steady"] (defScope s__law_raw) := ⟨rfl, rfl, rfl, by decide +kernel, rfl, by decide +kernel, by decide +kernel⟩
theorem getD_snoc {l : List Int} {v : Int} {i : Nat} : (l ++ [v]).getD i 0 = if i < l.length then l.getD i 0 else if i = l.length then v else 0 := by
  by_cases h : i < l.length
  · rw [if_pos h, getD_app1 h]
  · rw [if_neg h, getD_app2 (by omega)]
    by_cases z : i = l.length
    · rw [if_pos z, z, Nat.sub_self]; rfl
    · rw [if_neg z]
      obtain ⟨j, hj⟩ : ∃ j, i - l.length = j + 1 := ⟨i - l.length - 1, by omega⟩
      rw [hj]; rfl
theorem last_snoc {l : List Int} {lo v : Int} : (if (l ++ [v]).length = 0 then lo else (l ++ [v]).getD ((l ++ [v]).length - 1) 0) = v := by
  have e : (l ++ [v]).length = l.length + 1 := by simp
  rw [e, if_neg (Nat.succ_ne_zero _), Nat.add_sub_cancel, getD_snoc, if_neg (Nat.lt_irrefl _), if_pos rfl]
theorem src_ne {H : Hp} {p q : Addr} {o : HO} (hs : Src H p) (hq : H q = none) : q ≠ p := fun z => by
  obtain ⟨_, _, _, h⟩ := hs
  rw [z, h] at hq
  cases hq
theorem src_put {H : Hp} {p q : Addr} {o : HO} (hs : Src H p) (n : q ≠ p) : Src (upd H q o) p := by
  obtain ⟨a, b, c, h⟩ := hs
  exact ⟨a, b, c, by rw [upd_ne (Ne.symm n)]; exact h⟩
theorem same_none {H0 H : Hp} {q : Addr} (s : Same H0 H) (h : H q = none) : H0 q = none := L2.Same.free s h
section
variable {P : Program} {w : World} {K : PySem.W.Frag} {mg : Str → Option Value} {base : Heap} {gs : List Str}
theorem ok__law_rising {f : Addr} {fd : FuncData} (F : FunD K "_law_rising" "_law_rising" (defArgs s__law_rising) (defBody s__law_rising) (defScope s__law_rising) [] [] f fd) (T : Txt K mg gs FS) (c__law_pick : Cal P w K mg base 1 "_law_pick" spPick) : FnOk P w K mg base CX0 2 f fd ["_law_source_here", "_law_many", "_law_low", "_law_steps"] spRising := by
  refine F.ok sc__law_rising (fun vs H Q E h => ?_) (fun cdv A outer s H vs Q E hr h => ?_)
  · obtain ⟨H0, p, m, lo, st, rfl, _⟩ := h
    rfl
  · obtain ⟨H0, p, m, lo, st, rfl, s0, n0, hs, hm, hlo, hst, hst2, q⟩ := h
    refine ⟨_, PSs.nox (pss_cons (ps_set (i := 4) sc__law_rising.nd rfl (Or.inl rfl) (pe_lst pa_nil)) (pss_cons (ps_set (i := 5) sc__law_rising.nd rfl (Or.inl rfl) (pv 2)) (pss_cons (ps_for PassesOwn.never rfl (pi_range1 rfl (T.fr _ (by decide +kernel)) (pa_cons (pv 1) pa_nil)) (pg_name (i := 6) sc__law_rising.nd rfl (Or.inl rfl)) (pss_cons (ps_set (i := 5) sc__law_rising.nd rfl (Or.inl rfl) (pe_op op_add (pv 5) (pe_c c__law_pick hr (by decide) rfl (pa_cons (pv 0) (pa_cons (pv 3) pa_nil))))) (pss_one (ps_expr (pe_bm PySem.F.plainAttrs_list PySem.F.slot_list_append PySem.F.type_list_append mt_append (pv 4) (pa_cons (pv 5) pa_nil)))))) (pss_one (ps_ret (pv 4)))))), ?_⟩
    refine ⟨(by show 0 ≤ sizeLine; decide), fun t ht => ?_⟩
    have htp : t ≠ p := src_ne (o := .lst []) hs ht
    have h0t := same_none s0 ht
    refine ⟨_, rfl, ?_⟩
    refine ⟨_, rfl, (m : Int), rfl, by omega, by omega, ?_⟩
    refine for_range (lo := 0) (n := m) (fun i σ G => Same H0 G ∧ Src G p ∧ ∃ l : List Int, G t = some (.lst (vI l)) ∧ l.length = i ∧ climbs lo l ∧ (∀ j, j < i → l.getD j 0 ≤ lo + st * ((j : Int) + 1)) ∧
      ∃ k : Option V, σ = [some (.ref p), some (.int (m : Int)), some (.int lo), some (.int st), some (.ref t), some (.int (if l.length = 0 then lo else l.getD (l.length - 1) 0)), k])
      ⟨NF.Same.put s0 h0t, src_put hs htp, [], upd_same, rfl, trivial, fun j hj => by omega, none, rfl⟩ ?_ ?_
    · rintro i σ G hi ⟨s1, hs1, l, hl, hlen, hc, hb, k, rfl⟩
      refine ⟨_, rfl, _, rfl, _, rfl, wo G p, p, st, rfl, wo_same', wo_none, hs1, hst, hst2, fun d G' d0 d1 s2 hs2 => ?_⟩
      refine ⟨_, _, rfl, rfl, ?_⟩
      have hl2 : G' t = some (.lst (vI l)) := s2 _ _ ((wo_ne htp).trans hl)
      refine ⟨_, rfl, Or.inl ⟨rfl, _, SqL.of hl2⟩, _, rfl, t, _, _, rfl, rfl, hl2, ?_, ?_⟩
      · rw [vI_len, hlen]
        exact Nat.lt_of_le_of_lt (show i ≤ 100 by omega) (by decide)
      have hlast : (if l.length = 0 then lo else l.getD (l.length - 1) 0) ≤ lo + st * (i : Int) := by
        by_cases z : l.length = 0
        · rw [if_pos z, ← hlen, z]
          simp
        · rw [if_neg z]
          have := hb (l.length - 1) (by omega)
          have e : ((l.length - 1 : Nat) : Int) + 1 = (i : Int) := by omega
          rw [e] at this
          exact this
      refine ⟨NF.Same.put (wo_same s1 n0 s2) h0t, src_put hs2 htp, l ++ [(if l.length = 0 then lo else l.getD (l.length - 1) 0) + d], ?_, ?_, climbs_snoc hc (by omega), fun j hj => ?_, some (.int ((0 : Int) + (i : Int))), ?_⟩
      · rw [upd_same, ← vI_app]
        rfl
      · rw [List.length_append, hlen]; rfl
      · rw [getD_snoc]
        by_cases z : j < l.length
        · rw [if_pos z]
          exact hb j (by omega)
        · rw [if_neg z, if_pos (by omega)]
          have e : st * ((j : Int) + 1) = st * (i : Int) + st := by
            have : j = i := by omega
            rw [this, Int.mul_add, Int.mul_one]
          omega
      · rw [last_snoc]
        rfl
    · rintro σ G ⟨s1, hs1, l, hl, hlen, hc, hb, k, rfl⟩
      exact ⟨_, rfl, q t l G s1 hs1 hl h0t htp hlen hc hb⟩
theorem idx_k {l : List Int} {d lo hi : Int} {n : Nat} (h0 : 0 ≤ d) (h1 : d < (n : Int)) (hl : l.length = n) (hb : ∀ k, k < n → lo ≤ l.getD k 0 ∧ l.getD k 0 ≤ hi) : ∃ v : Int, atI (vI l) d = some (.int v) ∧ lo ≤ v ∧ v ≤ hi :=
  ⟨l.getD d.toNat 0, at_int (by omega) (by omega), hb _ (by omega)⟩
theorem more_le {m : Int} (h0 : 1 ≤ m) (h1 : m ≤ 4) : ∀ k, k < 8 → 0 ≤ ([1, 2, 1, 0, 3, m, 2, 1] : List Int).getD k 0 ∧ ([1, 2, 1, 0, 3, m, 2, 1] : List Int).getD k 0 ≤ 4
  | 0, _ => by simp
  | 1, _ => by simp
  | 2, _ => by simp
  | 3, _ => by simp
  | 4, _ => by simp
  | 5, _ => ⟨by show 0 ≤ m; omega, by show m ≤ 4; omega⟩
  | 6, _ => by simp
  | 7, _ => by simp
  | n + 8, h => by omega
theorem climbs_last : ∀ {l : List Int} {lo : Int}, climbs lo l → l ≠ [] → l.getD 0 0 ≤ l.getD (l.length - 1) 0
  | [], _, _, h => absurd rfl h
  | [x], _, _, _ => Int.le_refl _
  | x :: y :: l, lo, c, _ => climbs_low (l := y :: l) (i := l.length) c.2 (by simp)
theorem ok__law_raw {f : Addr} {fd : FuncData} (F : FunD K "_law_raw" "_law_raw" (defArgs s__law_raw) (defBody s__law_raw) (defScope s__law_raw) [] [] f fd) (T : Txt K mg gs FS) (c__law_pick : Cal P w K mg base 1 "_law_pick" spPick) (c__law_rising : Cal P w K mg base 2 "_law_rising" spRising) : FnOk P w K mg base CX0 3 f fd ["_law_source_here", "_law_steady"] (spRaw K) := by
  refine F.ok sc__law_raw (fun vs H Q E h => ?_) (fun cdv A outer s H vs Q E hr h => ?_)
  · obtain ⟨H0, p, rfl, _⟩ := h
    rfl
  · obtain ⟨H0, p, rfl, s0, n0, hs, q⟩ := h
    refine ⟨_, PSs.nox (pss_cons (ps_set (i := 2) sc__law_raw.nd rfl (Or.inl rfl) (pe_c c__law_rising hr (by decide) rfl (pa_cons (pv 0) (pa_cons (pe_ix (ixl (K := K)) (pe_lst (pa_cons pe_int (pa_cons pe_int (pa_cons pe_int (pa_cons pe_int (pa_cons pe_int (pa_cons pe_int (pa_cons pe_int (pa_cons pe_int pa_nil))))))))) (pe_c c__law_pick hr (by decide) rfl (pa_cons (pv 0) (pa_cons pe_int pa_nil))) fun _ _ => rfl) (pa_cons pe_int (pa_cons pe_int pa_nil)))))) (pss_cons (ps_set (i := 3) sc__law_raw.nd rfl (Or.inl rfl) (pe_ifExp (pt_cmpR op_gt (pe_callB call_len_seq rfl (T.fr _ (by decide +kernel)) boot_len (pa_cons (pv 2) pa_nil)) pe_int (nomark _)) (pe_ix (ixl (K := K)) (pv 2) (pe_un un_neg pe_int) fun _ _ => rfl) pe_int)) (pss_cons (ps_if (PW.pt (pw_and (pt_not (pt_val (pv 1))) (pw_and1 (pt_cmpR op_eq (pe_c c__law_pick hr (by decide) rfl (pa_cons (pv 0) (pa_cons pe_int pa_nil))) pe_int (nomark _))))) (pss_one (ps_ret (pe_tup (pa_cons (pe_callTy cr_tup rfl (T.fr _ (by decide +kernel)) (by decide +kernel) (pa_cons (pv 2) pa_nil)) (pa_cons (pe_tup pa_nil) (pa_cons pe_int pa_nil)))))) pss_nil) (pss_cons (ps_set (i := 4) sc__law_raw.nd rfl (Or.inl rfl) (pe_ix (ixl (K := K)) (pe_lst (pa_cons pe_int (pa_cons pe_int (pa_cons pe_int (pa_cons pe_int (pa_cons pe_int (pa_cons pe_int (pa_cons pe_int (pa_cons pe_int pa_nil))))))))) (pe_c c__law_pick hr (by decide) rfl (pa_cons (pv 0) (pa_cons pe_int pa_nil))) fun _ _ => rfl)) (pss_cons (ps_set (i := 5) sc__law_raw.nd rfl (Or.inl rfl) (pe_c c__law_rising hr (by decide) rfl (pa_cons (pv 0) (pa_cons (pv 4) (pa_cons (pv 3) (pa_cons pe_int pa_nil)))))) (pss_cons (ps_set (i := 6) sc__law_raw.nd rfl (Or.inl rfl) (pe_ix (ixl (K := K)) (pe_lst (pa_cons pe_int (pa_cons pe_int (pa_cons pe_int (pa_cons pe_int (pa_cons pe_int (pa_cons (pv 4) (pa_cons pe_int (pa_cons pe_int pa_nil))))))))) (pe_c c__law_pick hr (by decide) rfl (pa_cons (pv 0) (pa_cons pe_int pa_nil))) fun _ _ => rfl)) (pss_cons (ps_set (i := 7) sc__law_raw.nd rfl (Or.inl rfl) (pe_op op_add (pe_op op_sub (pe_ix (ixl (K := K)) (pv 5) (pe_un un_neg pe_int) fun _ _ => rfl) (pe_ix (ixl (K := K)) (pv 5) pe_int fun _ _ => rfl)) (pv 6))) (pss_cons (ps_if (PW.pt (pw_and (pt_val (pv 1)) (pw_and1 (pt_cmpR op_eq (pv 7) pe_int (nomark _))))) (pss_one (ps_set (i := 7) sc__law_raw.nd rfl (Or.inl rfl) pe_int)) pss_nil) (pss_one (ps_ret (pe_tup (pa_cons (pe_callTy cr_tup rfl (T.fr _ (by decide +kernel)) (by decide +kernel) (pa_cons (pv 2) pa_nil)) (pa_cons (pe_callTy cr_tup rfl (T.fr _ (by decide +kernel)) (by decide +kernel) (pa_cons (pv 5) pa_nil)) (pa_cons (pv 7) pa_nil)))))))))))))), ?_⟩
    -- the head
    refine ⟨_, rfl, (by show 8 ≤ sizeLine; decide), fun t ht => ?_⟩
    have htp : t ≠ p := src_ne (o := .lst []) hs ht
    have hs1 : Src (upd H t (.lst (vI [0, 1, 2, 0, 3, 1, 4, 2]))) p := src_put hs htp
    have s1 : Same H0 (upd H t (.lst (vI [0, 1, 2, 0, 3, 1, 4, 2]))) := NF.Same.put s0 (same_none s0 ht)
    have ht1 : upd H t (.lst (vI [0, 1, 2, 0, 3, 1, 4, 2])) t = some (.lst (vI [0, 1, 2, 0, 3, 1, 4, 2])) := upd_same
    refine ⟨_, rfl, wo _ p, p, 8, rfl, wo_same', wo_none, hs1, by decide, by decide, fun d G2 d0 d1 s2 hs2 => ?_⟩
    obtain ⟨v, hv, v0, v1⟩ := idx_k (l := [0, 1, 2, 0, 3, 1, 4, 2]) (n := 8) (lo := 0) (hi := 4) d0 d1 rfl (by decide)
    have s02 := wo_same s1 n0 s2
    refine ⟨t, _, _, _, rfl, rfl, SqL.of (s2 _ _ ((wo_ne htp).trans ht1)), hv, ?_⟩
    refine ⟨wo G2 p, p, v.toNat, 0, 3, by rw [Int.toNat_of_nonneg v0]; rfl, wo_same', wo_none, hs2, by omega, by decide, by decide, by decide, fun th h G3 s3 hs3 hh hh0 hhp hlen hc hb => ?_⟩
    have s03 := wo_same s02 n0 s3
    -- the low
    have hlow : ∀ {W : VK}, (∀ lo : Int, 0 ≤ lo → (h ≠ [] → lo = h.getD (h.length - 1) 0) → (h = [] → lo = 0) → W (.int lo) G3) →
        (tIf (tTest (tOp (rI0 fun i j => .bl (decide (j < i))) (tCB (fun xs H Q => ∃ a ys, xs = [.ref a] ∧ (SqL K H a ys ∨ SqT K H a ys) ∧ Q (.int (ys.length : Int)) H) (tCons (tVar 2) tNil)) (tC (.int 0)))) (tOp (rIxL K) (tVar 2) (tUn (rU fun i => .int (-i)) (tC (.int 1)))) (tC (.int 0))) [some (V.ref p), some (V.bl false), some (V.ref th), none, none, none, none, none] G3 W := by
      intro W hW
      refine ⟨_, rfl, th, _, rfl, Or.inl (SqL.of hh), _, _, rfl, rfl, _, rfl, ite2 (fun h1 => ?_) (fun h1 => ?_)⟩
      · have h2 : 0 < h.length := by
          have := of_decide_eq_true h1
          rw [vI_len] at this
          omega
        have hne : h ≠ [] := fun z => by rw [z] at h2; simp at h2
        exact ⟨_, rfl, _, rfl, th, _, _, _, rfl, rfl, SqL.of hh, at_last h2, hW _ (climbs_low hc (by omega)) (fun _ => rfl) fun z => absurd z hne⟩
      · have h2 : h = [] := by
          have : ¬ (0 : Int) < ((vI h).length : Int) := fun z => h1 (decide_eq_true z)
          rw [vI_len] at this
          exact List.eq_nil_of_length_eq_zero (by omega)
        exact hW 0 (Int.le_refl _) (fun z => absurd h2 z) fun _ => rfl
    refine hlow fun lo lo0 hlo hlo2 => ?_
    have hf1 : h ≠ [] → h.getD 0 0 ≤ 1000 := fun z => by
      have := hb 0 (by have := len_pos z; omega)
      omega
    -- ended
    refine ⟨_, rfl, false, rfl, iteT ?_⟩
    refine ⟨_, rfl, wo G3 p, p, 7, rfl, wo_same', wo_none, hs3, by decide, by decide, fun d G4 _ _ s4 hs4 => ?_⟩
    have s04 := wo_same s03 n0 s4
    have hh4 : G4 th = some (.lst (vI h)) := s4 _ _ ((wo_ne hhp).trans hh)
    have hh100 : h.length ≤ 100 := by omega
    refine ⟨rfl, _, rfl, ite2 (fun _ => ?_) (fun _ => ?_)⟩
    · refine ⟨_, rfl, th, _, rfl, Or.inl (SqL.of hh4), fun p1 G5 s5 t5 => ?_⟩
      refine ⟨(by show 0 ≤ sizeLine; decide), fun p2 hp2 => ?_⟩
      refine ⟨(by show 3 ≤ sizeLine; decide), fun p3 hp3 => ?_⟩
      have s6 := NF.Same.new (o := .tup []) (Same.refl G5) hp2
      have s7 := NF.Same.new (o := .tup [V.ref p1, V.ref p2, V.int 0]) s6 hp3
      refine q p3 (h, [], 0) _ (Same.trans s04 (Same.trans s5 s7)) (Src.mono hs4 (Same.trans s5 s7)) ⟨⟨hc, trivial, fun _ z => absurd rfl z, Int.le_refl _, fun _ => rfl, fun z => absurd rfl z⟩, hh100, by simp, by simp, first_le hf1 fun _ z => absurd rfl z⟩ ⟨p1, p2, SqT.of upd_same, NF.Same.tup s7 t5, ?_⟩
      exact SqT.of (by rw [upd_ne (ne_of_none upd_same hp3)]; exact upd_same)
    -- the loop
    refine ⟨(by show 8 ≤ sizeLine; decide), fun u hu => ?_⟩
    have hup : u ≠ p := src_ne (o := .lst []) hs4 hu
    have hs5 : Src (upd G4 u (.lst (vI [1, 2, 1, 3, 2, 1, 4, 3]))) p := src_put hs4 hup
    have s45 : Same G4 (upd G4 u (.lst (vI [1, 2, 1, 3, 2, 1, 4, 3]))) := NF.Same.new (Same.refl _) hu
    have ht5 : upd G4 u (.lst (vI [1, 2, 1, 3, 2, 1, 4, 3])) u = some (.lst (vI [1, 2, 1, 3, 2, 1, 4, 3])) := upd_same
    refine ⟨_, rfl, wo _ p, p, 8, rfl, wo_same', wo_none, hs5, by decide, by decide, fun d G6 d0 d1 s6 hs6 => ?_⟩
    obtain ⟨m, hm, m0, m1⟩ := idx_k (l := [1, 2, 1, 3, 2, 1, 4, 3]) (n := 8) (lo := 1) (hi := 4) d0 d1 rfl (by decide)
    have s06 := wo_same (Same.trans s04 s45) n0 s6
    have hh6 : G6 th = some (.lst (vI h)) := s6 _ _ ((wo_ne hhp).trans (s45 _ _ hh4))
    refine ⟨u, _, _, _, rfl, rfl, SqL.of (s6 _ _ ((wo_ne hup).trans ht5)), hm, ?_⟩
    refine ⟨_, rfl, _, rfl, _, rfl, wo G6 p, p, m.toNat, lo, 3, by rw [Int.toNat_of_nonneg (by omega)]; rfl, wo_same', wo_none, hs6, by omega, lo0, by decide, by decide, fun tl l G7 s7 hs7 hl7 hl0 hlp hllen hlc hlb => ?_⟩
    have s07 := wo_same s06 n0 s7
    have hh7 : G7 th = some (.lst (vI h)) := s7 _ _ ((wo_ne hhp).trans hh6)
    have hl0' : 0 < l.length := by omega
    have hlne : l ≠ [] := fun z => by rw [z] at hl0'; simp at hl0'
    -- more
    refine ⟨_, rfl, (by show 8 ≤ sizeLine; decide), fun u2 hu2 => ?_⟩
    have hup2 : u2 ≠ p := src_ne (o := .lst []) hs7 hu2
    have hs8 : Src (upd G7 u2 (.lst (vI [1, 2, 1, 0, 3, m, 2, 1]))) p := src_put hs7 hup2
    have s78 : Same G7 (upd G7 u2 (.lst (vI [1, 2, 1, 0, 3, m, 2, 1]))) := NF.Same.new (Same.refl _) hu2
    have ht8 : upd G7 u2 (.lst (vI [1, 2, 1, 0, 3, m, 2, 1])) u2 = some (.lst (vI [1, 2, 1, 0, 3, m, 2, 1])) := upd_same
    refine ⟨_, rfl, wo _ p, p, 8, rfl, wo_same', wo_none, hs8, by decide, by decide, fun d G9 d0 d1 s9 hs9 => ?_⟩
    obtain ⟨e, he, e0, e1⟩ := idx_k (l := [1, 2, 1, 0, 3, m, 2, 1]) (n := 8) (lo := 0) (hi := 4) d0 d1 rfl (more_le m0 m1)
    have s09 := wo_same (Same.trans s07 s78) n0 s9
    have hh9 : G9 th = some (.lst (vI h)) := s9 _ _ ((wo_ne hhp).trans (s78 _ _ hh7))
    have hl9 : G9 tl = some (.lst (vI l)) := s9 _ _ ((wo_ne hlp).trans (s78 _ _ hl7))
    refine ⟨u2, _, _, _, rfl, rfl, SqL.of (s9 _ _ ((wo_ne hup2).trans ht8)), he, ?_⟩
    -- the rise
    refine ⟨_, rfl, _, rfl, tl, _, _, _, rfl, rfl, SqL.of hl9, at_last hl0', ?_⟩
    refine ⟨_, rfl, tl, _, _, _, rfl, rfl, SqL.of hl9, at_int (k := 0) rfl hl0', _, _, rfl, rfl, _, rfl, _, _, rfl, rfl, ?_⟩
    refine ⟨_, rfl, false, rfl, iteF (iteF ?_)⟩
    have f1 := climbs_last hlc hlne
    have f2 := hlb (l.length - 1) (by omega)
    have f3 := climbs_low hlc hl0'
    refine ⟨_, rfl, th, _, rfl, Or.inl (SqL.of hh9), fun p1 G10 s10 t10 => ?_⟩
    refine ⟨_, rfl, tl, _, rfl, Or.inl (SqL.of (s10 _ _ hl9)), fun p2 G11 s11 t11 => ?_⟩
    refine ⟨_, rfl, (by show 3 ≤ sizeLine; decide), fun p3 hp3 => ?_⟩
    have s12 := NF.Same.new (o := .tup [V.ref p1, V.ref p2, V.int (l.getD (l.length - 1) 0 - l.getD 0 0 + e)]) (Same.refl G11) hp3
    refine q p3 (h, l, l.getD (l.length - 1) 0 - l.getD 0 0 + e) _ (Same.trans s09 (Same.trans s10 (Same.trans s11 s12))) (Src.mono hs9 (Same.trans s10 (Same.trans s11 s12))) ⟨⟨hc, climbs_le hlc lo0, fun z _ => ?_, by dsimp only; omega, fun z => absurd z hlne, fun _ => by dsimp only; omega⟩, hh100, by show l.length ≤ 100; omega, by dsimp only; omega, first_le hf1 fun z _ => by have := hlo2 z; have := hlb 0 (by omega); dsimp only; omega⟩ ⟨p1, p2, SqT.of upd_same, NF.Same.tup (Same.trans s11 s12) t10, NF.Same.tup s12 t11⟩
    rw [← hlo z]
    exact f3
end
end K02
set_option Elab.async false
set_option linter.all false
set_option maxHeartbeats 4000000
namespace NT
variable {h l : List Int} {r : Int}
theorem climbs_lo : ∀ {l : List Int} {lo : Int} {i : Nat}, climbs lo l → i < l.length → lo ≤ l.getD i 0
  | [], _, _, _, h => by simp at h
  | x :: l, lo, 0, c, _ => c.1
  | x :: l, lo, i + 1, c, h => by
    have := climbs_lo (i := i) c.2 (by simpa using h)
    have := c.1
    show lo ≤ l.getD i 0
    omega
theorem climbs_up : ∀ {l : List Int} {lo : Int} {i : Nat}, climbs lo l → i + 1 < l.length → l.getD i 0 ≤ l.getD (i + 1) 0
  | [], _, _, _, h => by simp at h
  | x :: l, lo, 0, c, h => climbs_lo (i := 0) c.2 (by simpa using h)
  | x :: l, lo, i + 1, c, h => climbs_up (i := i) c.2 (by simpa using h)
theorem climbs_of : ∀ {l : List Int} {lo : Int}, (∀ i, i < l.length → lo ≤ l.getD i 0) → (∀ i, i + 1 < l.length → l.getD i 0 ≤ l.getD (i + 1) 0) → climbs lo l
  | [], _, _, _ => trivial
  | x :: l, lo, h1, h2 => by
    refine ⟨h1 0 (by simp), climbs_of (fun i hi => ?_) fun i hi => h2 (i + 1) (by simpa using hi)⟩
    induction i with
    | zero => exact h2 0 (by simpa using hi)
    | succ i ih => exact Int.le_trans (ih (by omega)) (h2 (i + 1) (by simpa using hi))
/-- the value at n as a number -/
def num (h l : List Int) (r : Int) (n : Nat) : Int := (at_ h l r n).getD 0
theorem walk_up (g : Good h l r) (hl : l ≠ []) (k : Nat) : walk l r k ≤ walk l r (k + 1) := by
  have hp := len_pos hl
  have e : k = k % l.length + l.length * (k / l.length) := (Nat.mod_add_div k _).symm
  have hi : k % l.length < l.length := Nat.mod_lt _ hp
  generalize k % l.length = a at e hi
  generalize k / l.length = b at e
  subst e
  rw [walk_add_mul hp, show a + l.length * b + 1 = (a + 1) + l.length * b by omega, walk_add_mul hp, walk_lt hi]
  by_cases c : a + 1 < l.length
  · rw [walk_lt c]
    have := climbs_up g.lp c
    omega
  · have : a + 1 = 0 + l.length := by omega
    rw [this, walk_add hp, walk_lt hp]
    have := g.last hl
    have e : l.length - 1 = a := by omega
    rw [e] at this
    omega
theorem at_some (n : Nat) (hn : n ≤ h.length ∨ l ≠ []) : at_ h l r n = some (num h l r n) := by
  unfold num at_
  by_cases c : n ≤ h.length
  · rw [if_pos c]; rfl
  · rw [if_neg c, if_neg (hn.resolve_left c)]; rfl
theorem num_up (g : Good h l r) (n : Nat) (hn : 1 ≤ n) (hs : n + 1 ≤ h.length ∨ l ≠ []) : num h l r n ≤ num h l r (n + 1) := by
  unfold num at_
  by_cases c : n + 1 ≤ h.length
  · rw [if_pos c, if_pos (by omega)]
    show h.getD (n - 1) 0 ≤ h.getD (n + 1 - 1) 0
    have := climbs_up (i := n - 1) g.hd (by omega)
    rw [show n - 1 + 1 = n + 1 - 1 by omega] at this
    exact this
  · have hl := hs.resolve_left c
    have e1 : (if n + 1 ≤ h.length then some (h.getD (n + 1 - 1) 0) else if l = [] then none else some (walk l r (n + 1 - h.length - 1))).getD 0 = walk l r (n + 1 - h.length - 1) := by rw [if_neg c, if_neg hl]; rfl
    rw [e1]
    by_cases c2 : n ≤ h.length
    · rw [if_pos c2]
      have e : n = h.length := by omega
      subst e
      show h.getD (h.length - 1) 0 ≤ walk l r (h.length + 1 - h.length - 1)
      rw [show h.length + 1 - h.length - 1 = 0 by omega, walk_lt (len_pos hl)]
      exact g.join (fun z => by rw [z] at hn; simp at hn) hl
    · rw [if_neg c2, if_neg hl]
      show walk l r (n - h.length - 1) ≤ walk l r (n + 1 - h.length - 1)
      rw [show n + 1 - h.length - 1 = (n - h.length - 1) + 1 by omega]
      exact walk_up g hl _
theorem walk_ge (g : Good h l r) (hl : l ≠ []) (k : Nat) : 0 ≤ walk l r k := by
  induction k with
  | zero =>
    rw [walk_lt (len_pos hl)]
    exact climbs_lo g.lp (len_pos hl)
  | succ k ih => exact Int.le_trans ih (walk_up g hl k)
theorem num_ge (g : Good h l r) (n : Nat) (hn : 1 ≤ n) : 0 ≤ num h l r n := by
  unfold num at_
  by_cases c : n ≤ h.length
  · rw [if_pos c]
    exact climbs_lo (i := n - 1) g.hd (by omega)
  · rw [if_neg c]
    by_cases hl : l = []
    · rw [if_pos hl]; exact Int.le_refl _
    · rw [if_neg hl]; exact walk_ge g hl _
theorem walk_mono (g : Good h l r) (hl : l ≠ []) (k d : Nat) : walk l r k ≤ walk l r (k + d) := by
  induction d with
  | zero => exact Int.le_refl _
  | succ d ih => exact Int.le_trans ih (walk_up g hl (k + d))
/-- the plain form is made of counts -/
theorem plain_counts (g : Good h l r) {x : List Int × List Int × Int} (hx : IsPlain h l r x) : (∀ i, i ∈ x.1 ++ x.2.1 → 0 ≤ i) ∧ 0 ≤ x.2.2 := by
  have hz := plain_size hx
  refine ⟨fun i hi => ?_, (hz.2.2.2.2.1 g.r0).1⟩
  have all : ∀ n, 1 ≤ n → ∀ v, at_ x.1 x.2.1 x.2.2 n = some v → 0 ≤ v := by
    rcases hx with ⟨rfl, rfl⟩ | ⟨_, _, _, _, e⟩
    · intro n hn v hv
      unfold at_ at hv
      by_cases c : n ≤ h.length
      · rw [if_pos c] at hv
        injection hv with hv
        rw [← hv]
        exact climbs_lo (l := h) (i := n - 1) g.hd (by omega)
      · rw [if_neg c, if_pos rfl] at hv
        cases hv
    · intro n hn v hv
      rw [e n hn] at hv
      have := num_ge g n hn
      unfold num at this
      rw [hv] at this
      exact this
  rcases List.mem_append.mp hi with h1 | h1
  · obtain ⟨k, hk, rfl⟩ := List.getElem_of_mem h1
    refine all (k + 1) (by omega) _ ?_
    unfold at_
    rw [if_pos (by omega), Nat.add_sub_cancel, List.getD_eq_getElem?_getD, List.getElem?_eq_getElem hk]
    rfl
  · obtain ⟨k, hk, rfl⟩ := List.getElem_of_mem h1
    have hne : x.2.1 ≠ [] := fun z => by rw [z] at hk; simp at hk
    refine all (x.1.length + k + 1) (by omega) _ ?_
    rw [at_loop hne (by omega), show x.1.length + k + 1 - x.1.length - 1 = k by omega, walk_lt hk, List.getD_eq_getElem?_getD, List.getElem?_eq_getElem hk]
    rfl
/-! ### the same table with more values in the head and a longer loop -/
def tell (h l : List Int) (r : Int) (n : Nat) : List Int := (List.range n).map fun k => num h l r (k + 1)
theorem tell_len (n : Nat) : (tell h l r n).length = n := by unfold tell; rw [List.length_map, List.length_range]
theorem tell_get {n k : Nat} (hk : k < n) : (tell h l r n).getD k 0 = num h l r (k + 1) := by
  unfold tell
  rw [List.getD_eq_getElem?_getD, List.getElem?_map, List.getElem?_range hk]
  rfl
theorem getD_take' {l : List Int} {m i : Nat} (h : i < m) : (l.take m).getD i 0 = l.getD i 0 := getD_take h
theorem tell_good (g : Good h l r) {more t : Nat} (hm : l = [] → more = 0) (ht : 0 < t) :
    Good ((tell h l r (h.length + more + l.length * t)).take (h.length + more)) ((tell h l r (h.length + more + l.length * t)).drop (h.length + more)) (r * (t : Int)) := by
  generalize hN : h.length + more + l.length * t = N
  generalize hc : h.length + more = c
  have some_ : ∀ n, n ≤ N → n ≤ h.length ∨ l ≠ [] := fun n hn => by
    by_cases hl : l = []
    · left
      have := hm hl
      have : l.length = 0 := by rw [hl]; rfl
      rw [this, Nat.zero_mul] at hN
      omega
    · exact .inr hl
  have cle : c ≤ N := by omega
  have hlt : ((tell h l r N).take c).length = c := by rw [List.length_take, tell_len]; omega
  have hld : ((tell h l r N).drop c).length = N - c := by rw [List.length_drop, tell_len]
  refine ⟨climbs_of (fun i hi => ?_) (fun i hi => ?_), climbs_of (fun i hi => ?_) (fun i hi => ?_), fun h1 h2 => ?_, ?_, fun hl => ?_, fun hl => ?_⟩
  · rw [hlt] at hi
    rw [getD_take hi, tell_get (by omega)]
    exact num_ge g _ (by omega)
  · rw [hlt] at hi
    rw [getD_take (by omega), getD_take hi, tell_get (by omega), tell_get (by omega)]
    exact num_up g _ (by omega) (some_ _ (by omega))
  · rw [hld] at hi
    rw [getD_drop, tell_get (by omega)]
    exact num_ge g _ (by omega)
  · rw [hld] at hi
    rw [getD_drop, getD_drop, tell_get (by omega), tell_get (by omega)]
    have := num_up g (c + i + 1) (by omega) (some_ _ (by omega))
    exact this
  · have c0 : 0 < c := by
      rcases Nat.eq_zero_or_pos c with z | z
      · rw [z] at h1; exact absurd rfl h1
      · exact z
    have d0 : 0 < N - c := by rw [← hld]; exact len_pos h2
    rw [hlt, getD_take (by omega), getD_drop, tell_get (by omega), tell_get (by omega)]
    have := num_up g c (by omega) (some_ _ (by omega))
    rw [show c - 1 + 1 = c by omega, show c + 0 + 1 = c + 1 by omega]
    exact this
  · exact Int.mul_nonneg g.r0 (by omega)
  · have z : N - c = 0 := by rw [← hld, hl]; rfl
    have z2 : l.length * t = 0 := by omega
    have z3 : l.length = 0 := by
      rcases Nat.mul_eq_zero.mp z2 with q | q
      · exact q
      · omega
    rw [g.rl (List.eq_nil_of_length_eq_zero z3), Int.zero_mul]
  · have d0 : 0 < N - c := by rw [← hld]; exact len_pos hl
    have hl2 : l ≠ [] := fun z => by
      have : l.length = 0 := by rw [z]; rfl
      rw [this, Nat.zero_mul] at hN
      omega
    rw [hld, getD_drop, getD_drop, tell_get (by omega), tell_get (by omega)]
    have w : ∀ j, num h l r (c + j + 1) = walk l r (more + j) := fun j => by
      unfold num
      rw [at_loop hl2 (by omega), show c + j + 1 - h.length - 1 = more + j by omega]
      rfl
    rw [w (N - c - 1), w 0, ← walk_add_mul (len_pos hl2)]
    have e : more + 0 + l.length * t = (more + (N - c - 1)) + 1 := by omega
    rw [e]
    exact walk_mono g hl2 _ 1
theorem tell_at {more t : Nat} (hm : l = [] → more = 0) (ht : 0 < t) (n : Nat) (hn : 1 ≤ n) :
    at_ ((tell h l r (h.length + more + l.length * t)).take (h.length + more)) ((tell h l r (h.length + more + l.length * t)).drop (h.length + more)) (r * (t : Int)) n = at_ h l r n := by
  by_cases hl : l = []
  · subst hl
    have hm := hm rfl
    subst hm
    have e : h.length + 0 + ([] : List Int).length * t = h.length := by simp
    rw [e, Nat.add_zero]
    unfold at_
    have e1 : ((tell h [] r h.length).take h.length).length = h.length := by rw [List.length_take, tell_len]; omega
    have e2 : (tell h [] r h.length).drop h.length = [] := List.drop_of_length_le (by rw [tell_len]; exact Nat.le_refl _)
    rw [e1, e2]
    by_cases c : n ≤ h.length
    · rw [if_pos c, if_pos c, getD_take (by omega), tell_get (by omega)]
      unfold num at_
      rw [show n - 1 + 1 = n by omega, if_pos c]
      rfl
    · rw [if_neg c, if_neg c, if_pos rfl, if_pos rfl]
  · have hp := len_pos hl
    generalize hN : h.length + more + l.length * t = N
    generalize hc : h.length + more = c
    have lt0 : 0 < l.length * t := Nat.mul_pos hp ht
    have hlt : ((tell h l r N).take c).length = c := by rw [List.length_take, tell_len]; omega
    have hld : ((tell h l r N).drop c).length = l.length * t := by rw [List.length_drop, tell_len]; omega
    have hne : (tell h l r N).drop c ≠ [] := fun z => by rw [z] at hld; simp at hld; omega
    by_cases q : n ≤ c
    · have : at_ h l r n = some (num h l r n) := at_some n (.inr hl)
      rw [this]
      unfold at_
      rw [hlt, if_pos q, getD_take (by omega), tell_get (by omega), show n - 1 + 1 = n by omega]
    · rw [at_loop hne (by rw [hlt]; omega), hlt, at_loop hl (by omega)]
      congr 1
      unfold walk
      rw [hld]
      generalize hk : n - c - 1 = k
      have hi : k % (l.length * t) < l.length * t := Nat.mod_lt _ lt0
      have w : ∀ j, num h l r (c + j + 1) = walk l r (more + j) := fun j => by
        unfold num
        rw [at_loop hl (by omega), show c + j + 1 - h.length - 1 = more + j by omega]
        rfl
      rw [getD_drop, tell_get (by omega), w]
      have e : n - h.length - 1 = (more + k % (l.length * t)) + l.length * (t * (k / (l.length * t))) := by
        have := Nat.mod_add_div k (l.length * t)
        rw [← Nat.mul_assoc]
        omega
      have e2 : walk l r (n - h.length - 1) = walk l r (more + k % (l.length * t)) + r * ((t * (k / (l.length * t)) : Nat) : Int) := by rw [e, walk_add_mul hp]
      have e3 : walk l r (n - h.length - 1) = l.getD ((n - h.length - 1) % l.length) 0 + r * (((n - h.length - 1) / l.length : Nat) : Int) := rfl
      rw [← e3, e2, Int.natCast_mul, Int.mul_assoc]
end NT
set_option Elab.async false
set_option linter.all false
set_option maxRecDepth 100000
set_option maxHeartbeats 4000000
namespace K02
open PySem PySem.Spec PyProof.Rows L2 He NF RZ NT
theorem lc_row {K : PySem.W.Frag} {a : Addr} {xs : List V} {g : TG} {tt : TT} {te : TE} {vs : List Nat} {σ : L2.St} {H1 : Hp} {Qd : Addr → Hp → Prop} (hr : Row K H1 a xs) (Pv : Addr → Nat → Hp → Prop) (h0 : ∀ D, H1 D = none → Pv D 0 (upd H1 D (.lst []))) (hm : ∀ D i H, Pv D i H → Same H1 H)
    (hs : ∀ D i x H, xs[i]? = some x → Pv D i H → g x (wipe σ vs) H fun σ2 H2 => wipe σ2 vs = wipe σ vs ∧ tt σ2 H2 fun b H3 =>
      if b = true then te σ2 H3 fun y H4 => ∃ acc, H4 D = some (.lst acc) ∧ acc.length < sizeLine ∧ Pv D (i + 1) (upd H4 D (.lst (acc ++ [y]))) else Pv D (i + 1) H3) (hd : ∀ D H, Pv D xs.length H → Qd D H) :
    ((∃ xs, SqL K H1 a xs) ∧ ∀ D, H1 D = none → ∃ W : Nat → Nat → Hp → Prop, (∃ m, W 0 m (upd H1 D (.lst []))) ∧ ∀ i m H, W i m H →
      ((Itl K a).stop i H ∧ Qd D H) ∨ ((Itl K a).go i H ∧ ∃ Nx : Hp → Prop, (∀ H', Nx H' → ∃ m', m' < m ∧ W (i + 1) m' H') ∧ ∀ x H', (Itl K a).yld i H x H' → g x (wipe σ vs) H' fun σ2 H2 => wipe σ2 vs = wipe σ vs ∧ tt σ2 H2 fun b H3 =>
        if b = true then te σ2 H3 fun y H4 => ∃ acc, H4 D = some (.lst acc) ∧ acc.length < sizeLine ∧ Nx (upd H4 D (.lst (acc ++ [y]))) else Nx H3)) ∨
    ((∃ xs, SqT K H1 a xs) ∧ ∀ D, H1 D = none → ∃ W : Nat → Nat → Hp → Prop, (∃ m, W 0 m (upd H1 D (.lst []))) ∧ ∀ i m H, W i m H →
      ((Itt K a).stop i H ∧ Qd D H) ∨ ((Itt K a).go i H ∧ ∃ Nx : Hp → Prop, (∀ H', Nx H' → ∃ m', m' < m ∧ W (i + 1) m' H') ∧ ∀ x H', (Itt K a).yld i H x H' → g x (wipe σ vs) H' fun σ2 H2 => wipe σ2 vs = wipe σ vs ∧ tt σ2 H2 fun b H3 =>
        if b = true then te σ2 H3 fun y H4 => ∃ acc, H4 D = some (.lst acc) ∧ acc.length < sizeLine ∧ Nx (upd H4 D (.lst (acc ++ [y]))) else Nx H3)) := by
  rcases hr with h | h
  · exact .inl ⟨⟨_, h⟩, fun D hD => lc_list (Pv D) (h0 D hD) (fun i H _ p => L2.Same.seq (hm D i H p) h) (hs D) (hd D)⟩
  · exact .inr ⟨⟨_, h⟩, fun D hD => lc_tup (Pv D) (h0 D hD) (fun i H _ p => NF.Same.tup (hm D i H p) h) (hs D) (hd D)⟩
/-- the law's own look -/
def allCnt (xs : List V) : Bool := (xs.map isCnt).all id
def allUp (l : List Int) : Bool := ((List.range (l.length - 1)).map fun k => decide (l.getD k 0 ≤ l.getD (k + 1) 0)).all id
theorem all_range {n : Nat} {f : Nat → Bool} : ((List.range n).map f).all id = true ↔ ∀ k, k < n → f k = true := by
  rw [List.all_eq_true]
  constructor
  · intro h k hk
    exact h _ (List.mem_map.mpr ⟨k, List.mem_range.mpr hk, rfl⟩)
  · intro h x hx
    obtain ⟨k, hk, rfl⟩ := List.mem_map.mp hx
    exact h k (List.mem_range.mp hk)
theorem climb_cnt : ∀ {xs : List V} {lo : Int}, 0 ≤ lo → climbV lo xs = true → allCnt xs = true
  | [], _, _, _ => rfl
  | .int i :: r, lo, h0, h => by
    obtain ⟨h1, h2⟩ := ba h
    have h1 : lo ≤ i := of_decide_eq_true h1
    have ih := climb_cnt (xs := r) (lo := i) (by omega) h2
    show (decide (0 ≤ i) && allCnt r) = true
    rw [ih, decide_eq_true (by omega)]
    rfl
  | .non :: _, _, _, h => by cases h
  | .bl _ :: _, _, _, h => by cases h
  | .str _ :: _, _, _, h => by cases h
  | .ref _ :: _, _, _, h => by cases h
  | .byt _ :: _, _, _, h => by cases h
  | .flt _ :: _, _, _, h => by cases h
  | .ty _ :: _, _, _, h => by cases h
theorem cnt_ints : ∀ {xs : List V}, allCnt xs = true → ∃ l, xs = vI l ∧ ∀ i, i < l.length → 0 ≤ l.getD i 0
  | [], _ => ⟨[], rfl, fun i h => by simp at h⟩
  | v :: r, h => by
    obtain ⟨h1, h2⟩ := ba (show (isCnt v && allCnt r) = true from h)
    obtain ⟨l, rfl, hl⟩ := cnt_ints h2
    cases v with
    | int i =>
      refine ⟨i :: l, rfl, fun k hk => ?_⟩
      cases k with
      | zero => exact of_decide_eq_true h1
      | succ k => exact hl k (by simpa using hk)
    | _ => cases h1
theorem climb_vI : ∀ {l : List Int} {lo : Int}, climbs lo l → climbV lo (vI l) = true
  | [], _, _ => rfl
  | x :: l, lo, c => by
    show (decide (lo ≤ x) && climbV x (vI l)) = true
    rw [decide_eq_true c.1, climb_vI c.2]
    rfl
theorem climb_up {l : List Int} (h : ∀ i, i < l.length → 0 ≤ l.getD i 0) : climbV 0 (vI l) = allUp l := by
  have iff : climbV 0 (vI l) = true ↔ allUp l = true := by
    unfold allUp
    rw [all_range]
    constructor
    · intro c k hk
      obtain ⟨m, e, hm⟩ := climbV_is c
      have : l = m := by
        have := congrArg (List.map numV) e
        rwa [nums_vI, nums_vI] at this
      subst this
      exact decide_eq_true (climbs_up hm (by omega))
    · intro c
      exact climb_vI (climbs_of h fun i hi => of_decide_eq_true (c i (by omega)))
  cases e1 : climbV 0 (vI l) <;> cases e2 : allUp l <;> simp [e1, e2] at iff ⊢
def spGood (K : PySem.W.Frag) : Sp := fun vs H Q _ => ∃ v o, vs = [v] ∧ RowIs K H v o ∧ (numsO o).length ≤ 1000 ∧ ∀ H', Same H H' → Q (.bl (climbO o)) H'
theorem sc__law_is_integer : FnScope ["_law_thing"] ["_law_thing"] (defScope s__law_is_integer) := ⟨rfl, rfl, rfl, by decide +kernel, rfl, by decide +kernel, by decide +kernel⟩
theorem sc__law_is_count : FnScope ["_law_thing"] ["_law_thing"] (defScope s__law_is_count) := ⟨rfl, rfl, rfl, by decide +kernel, rfl, by decide +kernel, by decide +kernel⟩
theorem sc__law_good : FnScope ["_law_row", "_law_k", "_law_one"] ["_law_row"] (defScope s__law_good) := ⟨rfl, rfl, rfl, by decide +kernel, rfl, by decide +kernel, by decide +kernel⟩
section
variable {P : Program} {w : World} {K : PySem.W.Frag} {mg : Str → Option Value} {base : Heap} {gs : List Str}
theorem ok__law_is_integer {f : Addr} {fd : FuncData} (F : FunD K "_law_is_integer" "_law_is_integer" (defArgs s__law_is_integer) (defBody s__law_is_integer) (defScope s__law_is_integer) [] [] f fd) (T : Txt K mg gs FS) : FnOk P w K mg base CX0 1 f fd ["_law_thing"] (spIsIntT K) := by
  refine F.ok sc__law_is_integer (fun vs H Q E h => ?_) (fun cdv A outer s H vs Q E hr h => ?_)
  · obtain ⟨i, rfl, _⟩ := h
    rfl
  · obtain ⟨v, rfl, hv, q⟩ := h
    refine ⟨_, PSs.nox (pss_one (ps_ret (pe_and (pe_callB call_isi rfl (T.fr _ (by decide +kernel)) (by decide +kernel) (pa_cons (pv 0) (pa_cons (pe_bltn (v := .ty "int") rfl (T.fr _ (by decide +kernel)) (by decide +kernel) rfl) pa_nil))) (pe_one (pe_not (pe_callB call_isi rfl (T.fr _ (by decide +kernel)) (by decide +kernel) (pa_cons (pv 0) (pa_cons (pe_bltn (v := .ty "bool") rfl (T.fr _ (by decide +kernel)) (by decide +kernel) rfl) pa_nil)))))))), ?_⟩
    cases hv with
    | int i => exact ⟨_, rfl, _, _, _, _, true, rfl, .ty "int", .base (.int i), kit_i_i K, true, rfl, _, rfl, _, _, _, _, false, rfl, .ty "bool", .base (.int i), kit_i_b K, false, rfl, q⟩
    | bl b => exact ⟨_, rfl, _, _, _, _, true, rfl, .ty "int", .base (.bl b), (by kernel_rfl), true, rfl, _, rfl, _, _, _, _, true, rfl, .ty "bool", .base (.bl b), kit_b_b K, true, rfl, q⟩
    | str x => exact ⟨_, rfl, _, _, _, _, false, rfl, .ty "int", .base (.str x), (by kernel_rfl), false, rfl, q⟩
    | non => exact ⟨_, rfl, _, _, _, _, false, rfl, .ty "int", .base .non, (by kernel_rfl), false, rfl, q⟩
    | ref h ht => exact ⟨_, rfl, _, _, _, _, false, rfl, .ty "int", h, kit0 K ht, false, rfl, q⟩
theorem ok__law_is_count {f : Addr} {fd : FuncData} (F : FunD K "_law_is_count" "_law_is_count" (defArgs s__law_is_count) (defBody s__law_is_count) (defScope s__law_is_count) [] [] f fd) (T : Txt K mg gs FS) (c__law_is_integer : Cal P w K mg base 1 "_law_is_integer" (spIsIntT K)) : FnOk P w K mg base CX0 2 f fd ["_law_thing"] (spIsCountT K) := by
  refine F.ok sc__law_is_count (fun vs H Q E h => ?_) (fun cdv A outer s H vs Q E hr h => ?_)
  · obtain ⟨i, rfl, _⟩ := h
    rfl
  · obtain ⟨v, rfl, hv, q⟩ := h
    refine ⟨_, PSs.nox (pss_one (ps_ret (pe_and (pe_c c__law_is_integer hr (by decide) rfl (pa_cons (pv 0) pa_nil)) (pe_one (pe_cmpR op_ge (pv 0) pe_int (nomark _)))))), ?_⟩
    refine ⟨_, rfl, v, rfl, hv, ?_⟩
    cases hv with
    | int i => exact ⟨true, rfl, _, rfl, _, _, rfl, rfl, q⟩
    | bl b => exact ⟨false, rfl, q⟩
    | str x => exact ⟨false, rfl, q⟩
    | non => exact ⟨false, rfl, q⟩
    | ref h ht => exact ⟨false, rfl, q⟩
theorem ok__law_good {f : Addr} {fd : FuncData} (F : FunD K "_law_good" "_law_good" (defArgs s__law_good) (defBody s__law_good) (defScope s__law_good) [] [] f fd) (T : Txt K mg gs FS) (c__law_is_count : Cal P w K mg base 2 "_law_is_count" (spIsCountT K)) : FnOk P w K mg base CX0 3 f fd ["_law_row"] (spGood K) := by
  refine F.ok sc__law_good (fun vs H Q E h => ?_) (fun cdv A outer s H vs Q E hr h => ?_)
  · obtain ⟨v, o, rfl, _⟩ := h
    rfl
  · obtain ⟨v, o, rfl, hv, hz, q⟩ := h
    refine ⟨_, PSs.nox (pss_cons (ps_if (PW.pt (pw_or (pt_not (pt_val (pe_callB call_isiT rfl (T.fr _ (by decide +kernel)) (by decide +kernel) (pa_cons (pv 0) (pa_cons (pe_tup (pa_cons (pe_bltn (v := .ty "tuple") rfl (T.fr _ (by decide +kernel)) (by decide +kernel) rfl) (pa_cons (pe_bltn (v := .ty "list") rfl (T.fr _ (by decide +kernel)) (by decide +kernel) rfl) pa_nil))) pa_nil))))) (pw_or1 (pt_not (pt_val (pe_callB (cr_all rfl) rfl (T.fr _ (by decide +kernel)) (by decide +kernel) (pa_cons (pe_lc (own := [("_law_one", 2)]) rfl sc__law_good.nd (pi_row (pv 0)) (blkOk_by (N := ["_law_row", "_law_k", "_law_one"]) (sc := defScope s__law_good) (by decide +kernel)) (fun _ _ _ _ _ => by exact (pg_name (i := 2) sc__law_good.nd rfl (Or.inl rfl))) (fun _ _ _ _ _ => by exact pts_nil) (fun _ _ _ _ _ => by exact (pe_c c__law_is_count hr (by decide) rfl (pa_cons (pv 2) pa_nil)))) pa_nil))))))) (pss_one (ps_ret pe_bl)) pss_nil) (pss_one (ps_ret (pe_callB (cr_all rfl) rfl (T.fr _ (by decide +kernel)) (by decide +kernel) (pa_cons (pe_lc (own := [("_law_k", 1)]) rfl sc__law_good.nd (pi_range1 rfl (T.fr _ (by decide +kernel)) (pa_cons (pe_op op_sub (pe_callB call_len_seq rfl (T.fr _ (by decide +kernel)) boot_len (pa_cons (pv 0) pa_nil)) pe_int) pa_nil)) (blkOk_by (N := ["_law_row", "_law_k", "_law_one"]) (sc := defScope s__law_good) (by decide +kernel)) (fun _ _ _ _ _ => by exact (pg_name (i := 1) sc__law_good.nd rfl (Or.inl rfl))) (fun _ _ _ _ _ => by exact pts_nil) (fun _ _ _ _ _ => by exact (pe_cmpR op_le (pe_ix (ixs (K := K)) (pv 0) (pv 1) fun _ _ => rfl) (pe_ix (ixs (K := K)) (pv 0) (pe_op op_add (pv 1) pe_int) fun _ _ => rfl) (nomark _)))) pa_nil))))), ?_⟩
    refine ⟨_, rfl, (by show 2 ≤ sizeLine; decide), fun p hp => ?_⟩
    have s1 := NF.Same.new (o := .tup [V.ty "tuple", V.ty "list"]) (Same.refl H) hp
    cases hv.mono s1 with
    | int i => exact ⟨_, p, _, _, _, false, rfl, upd_same, .cons (.ty _) (.cons (.ty _) .nil), .base (.int i), (by kernel_rfl), false, rfl, iteT (iteT (q _ s1))⟩
    | bl b => exact ⟨_, p, _, _, _, false, rfl, upd_same, .cons (.ty _) (.cons (.ty _) .nil), .base (.bl b), (by kernel_rfl), false, rfl, iteT (iteT (q _ s1))⟩
    | str x => exact ⟨_, p, _, _, _, false, rfl, upd_same, .cons (.ty _) (.cons (.ty _) .nil), .base (.str x), (by kernel_rfl), false, rfl, iteT (iteT (q _ s1))⟩
    | non => exact ⟨_, p, _, _, _, false, rfl, upd_same, .cons (.ty _) (.cons (.ty _) .nil), .base .non, (by kernel_rfl), false, rfl, iteT (iteT (q _ s1))⟩
    | dict h => exact ⟨_, p, _, _, _, false, rfl, upd_same, .cons (.ty _) (.cons (.ty _) .nil), h, (by kernel_rfl), false, rfl, iteT (iteT (q _ s1))⟩
    | @row a xs ha ht =>
      have hlen : xs.length ≤ 1000 := by
        have : (numsO (some xs)).length = xs.length := List.length_map ..
        omega
      obtain ⟨t, ty, hk⟩ : ∃ t, TyX K (upd H p (.tup [V.ty "tuple", V.ty "list"])) (.ref a) t ∧ PySem.W.kitAny K t [.type "tuple", .type "list"] = some true := ha.elim (fun h => ⟨_, tyx_lst h, kit_l_tl K⟩) fun h => ⟨_, tyx_tup h, kit_t_tl K⟩
      refine ⟨_, p, _, _, _, true, rfl, upd_same, .cons (.ty _) (.cons (.ty _) .nil), ty, hk, true, rfl, iteF ?_⟩
      refine ⟨_, rfl, a, rfl, ?_⟩
      refine lc_row ha (fun D j G => upd H p (.tup [V.ty "tuple", V.ty "list"]) D = none ∧ Same (upd H p (.tup [V.ty "tuple", V.ty "list"])) G ∧ G D = some (.lst (((xs.take j).map isCnt).map V.bl))) (fun D hD => ⟨hD, NF.Same.new (Same.refl _) hD, upd_same⟩) (fun D j G z => z.2.1) ?_ ?_
      · rintro D j x G hx ⟨hD, s2, hD2⟩
        have hj := (List.getElem?_eq_some_iff.mp hx).1
        refine ⟨rfl, _, rfl, x, rfl, (ht x (List.mem_of_getElem? hx)).mono s2, ?_⟩
        refine ⟨_, hD2, by rw [List.length_map, List.length_map, List.length_take]; exact Nat.lt_of_le_of_lt (show min j xs.length ≤ 1000 by omega) (by decide), hD, NF.Same.mut s2 hD, ?_⟩
        rw [upd_same, List.take_add_one, hx, List.map_append, List.map_append]
        rfl
      · rintro D G ⟨hD, s2, hD2⟩
        rw [List.take_of_length_le (Nat.le_refl _)] at hD2
        refine ⟨D, xs.map isCnt, rfl, SqL.of hD2, _, rfl, ?_⟩
        cases hc : (xs.map isCnt).all id with
        | false =>
          have e : climbO (some xs) = false := by
            cases e : climbV 0 xs with
            | false => exact e
            | true =>
              have := climb_cnt (Int.le_refl 0) e
              unfold allCnt at this
              rw [hc] at this
              cases this
          have := q G (Same.trans s1 s2)
          rw [e] at this
          exact iteT this
        | true =>
          obtain ⟨l, rfl, hl⟩ := cnt_ints hc
          rw [vI_len] at hlen
          refine iteF ?_
          have ha2 := ha.mono s2
          refine ⟨_, rfl, a, _, rfl, ha2, _, _, rfl, rfl, _, rfl, ?_⟩
          rw [vI_len]
          refine ⟨by omega, by omega, fun D2 hD2 => ?_⟩
          have en : ((l.length : Int) - 1).toNat = l.length - 1 := by omega
          rw [en]
          refine lc_range (lo := 0) (n := l.length - 1) (fun j G' => Same G G' ∧ G' D2 = some (.lst (((List.range j).map fun k => decide (l.getD k 0 ≤ l.getD (k + 1) 0)).map V.bl))) ⟨NF.Same.new (Same.refl G) hD2, upd_same⟩ ?_ ?_
          · rintro j G' hj ⟨hG, hD3⟩
            have e1 : (0 : Int) + (j : Int) = (j : Int) := Int.zero_add _
            rw [e1]
            have ha3 := ha2.mono hG
            refine ⟨rfl, _, rfl, _, rfl, ix_done ha3 (at_int (k := j) rfl (by omega)) ⟨_, rfl, _, rfl, _, _, rfl, rfl, ix_done ha3 (at_int (k := j + 1) rfl (by omega)) ⟨_, _, rfl, rfl, ?_⟩⟩⟩
            refine ⟨_, hD3, by rw [List.length_map, List.length_map, List.length_range]; exact Nat.lt_of_lt_of_le (show j < 1000 by omega) (by decide), NF.Same.mut hG hD2, ?_⟩
            rw [upd_same, List.range_succ, List.map_append, List.map_append]
            rfl
          · rintro G' ⟨hG, hD3⟩
            refine ⟨D2, _, rfl, SqL.of hD3, ?_⟩
            have := q G' (Same.trans s1 (Same.trans s2 hG))
            rw [show climbO (some (vI l)) = allUp l from climb_up hl] at this
            exact this
end
end K02
set_option Elab.async false
set_option linter.all false
set_option maxRecDepth 100000
set_option maxHeartbeats 4000000
namespace K02
open PySem PySem.Spec PyProof.Rows L2 He NF RZ NT
def wordV : Option Str → V
  | none => .non
  | some x => .str x
def spDue (K : PySem.W.Frag) : Sp := fun vs H Q _ => ∃ v1 v2 v o1 o2, vs = [v1, v2, v] ∧ RowIs K H v1 o1 ∧ RowIs K H v2 o2 ∧ ThK K H v ∧ (numsO o1).length ≤ 1000 ∧ (numsO o2).length ≤ 1000 ∧ ∀ H', Same H H' → Q (wordV (dueW o1 o2 v)) H'
theorem sc__law_due : FnScope ["_law_head", "_law_loop", "_law_rise"] ["_law_head", "_law_loop", "_law_rise"] (defScope s__law_due) := ⟨rfl, rfl, rfl, by decide +kernel, rfl, by decide +kernel, by decide +kernel⟩
theorem lenz {l : List Int} (h : l ≠ []) : decide (V.int ((vI l).length : Int) = V.int 0) = false := decide_eq_false fun z => h (by
  injection z with z
  rw [vI_len] at z
  exact List.eq_nil_of_length_eq_zero (by omega))
theorem len0 {l : List Int} (h : l ≠ []) : decide ((0 : Int) < ((vI l).length : Int)) = true := decide_eq_true (by rw [vI_len]; have := len_pos h; omega)
section
variable {P : Program} {w : World} {K : PySem.W.Frag} {mg : Str → Option Value} {base : Heap} {gs : List Str}
theorem ok__law_due {f : Addr} {fd : FuncData} (F : FunD K "_law_due" "_law_due" (defArgs s__law_due) (defBody s__law_due) (defScope s__law_due) [] [] f fd) (T : Txt K mg gs FS) (c__law_good : Cal P w K mg base 3 "_law_good" (spGood K)) (c__law_is_count : Cal P w K mg base 2 "_law_is_count" (spIsCountT K)) : FnOk P w K mg base CX0 4 f fd ["_law_head", "_law_loop", "_law_rise"] (spDue K) := by
  refine F.ok sc__law_due (fun vs H Q E h => ?_) (fun cdv A outer s H vs Q E hr h => ?_)
  · obtain ⟨v1, v2, v, o1, o2, rfl, _⟩ := h
    rfl
  · obtain ⟨v1, v2, v, o1, o2, rfl, r1, r2, hv, z1, z2, q⟩ := h
    refine ⟨_, PSs.nox (pss_cons (ps_if (pt_not (pt_val (pe_c c__law_good hr (by decide) rfl (pa_cons (pv 0) pa_nil)))) (pss_one (ps_ret pe_str)) pss_nil) (pss_cons (ps_if (PW.pt (pw_or (pt_not (pt_val (pe_c c__law_good hr (by decide) rfl (pa_cons (pv 1) pa_nil)))) (pw_or1 (PW.pt (pw_and (pt_cmpR op_gt (pe_callB call_len_seq rfl (T.fr _ (by decide +kernel)) boot_len (pa_cons (pv 0) pa_nil)) pe_int (nomark _)) (pw_and (pt_cmpR op_gt (pe_callB call_len_seq rfl (T.fr _ (by decide +kernel)) boot_len (pa_cons (pv 1) pa_nil)) pe_int (nomark _)) (pw_and1 (pt_cmpR op_lt (pe_ix (ixs (K := K)) (pv 1) pe_int fun _ _ => rfl) (pe_ix (ixs (K := K)) (pv 0) (pe_un un_neg pe_int) fun _ _ => rfl) (nomark _))))))))) (pss_one (ps_ret pe_str)) pss_nil) (pss_cons (ps_if (PW.pt (pw_or (pt_not (pt_val (pe_c c__law_is_count hr (by decide) rfl (pa_cons (pv 2) pa_nil)))) (pw_or1 (PW.pt (pw_and (pt_cmpR op_eq (pe_callB call_len_seq rfl (T.fr _ (by decide +kernel)) boot_len (pa_cons (pv 1) pa_nil)) pe_int (nomark _)) (pw_and1 (pt_cmpR op_ne (pv 2) pe_int (nomark _)))))))) (pss_one (ps_ret pe_str)) pss_nil) (pss_cons (ps_if (PW.pt (pw_and (pt_cmpR op_gt (pe_callB call_len_seq rfl (T.fr _ (by decide +kernel)) boot_len (pa_cons (pv 1) pa_nil)) pe_int (nomark _)) (pw_and1 (pt_cmpR op_lt (pe_op op_add (pe_ix (ixs (K := K)) (pv 1) pe_int fun _ _ => rfl) (pv 2)) (pe_ix (ixs (K := K)) (pv 1) (pe_un un_neg pe_int) fun _ _ => rfl) (nomark _))))) (pss_one (ps_ret pe_str)) pss_nil) (pss_one (ps_ret pe_non)))))), ?_⟩
    refine ⟨_, rfl, v1, o1, rfl, r1, z1, fun H1 s1 => ⟨_, rfl, ?_⟩⟩
    cases h1 : climbO o1 with
    | false =>
      have := q H1 s1
      rw [show dueW o1 o2 v = some ("head" : Str) from if_pos h1] at this
      exact iteT this
    | true =>
      refine iteF ?_
      obtain ⟨xs1, rfl⟩ : ∃ xs, o1 = some xs := by
        cases o1 with
        | none => cases h1
        | some xs => exact ⟨xs, rfl⟩
      obtain ⟨h, rfl, hh⟩ := climbV_is h1
      cases r1 with
      | @row a _ ha _ =>
        refine ⟨_, rfl, v2, o2, rfl, r2.mono s1, z2, fun H2 s2 => ⟨_, rfl, ?_⟩⟩
        have s02 := Same.trans s1 s2
        have n1 : numsO (some (vI h)) = h := nums_vI h
        have due2 : (!climbO o2 || joinBad h (numsO o2)) = true → dueW (some (vI h)) o2 v = some ("loop" : Str) := fun z => by
          unfold dueW
          rw [if_neg (by rw [h1]; decide), n1, if_pos z]
        have due3 : (!climbO o2 || joinBad h (numsO o2)) = false → dueW (some (vI h)) o2 v = if riseBad (numsO o2) v = true then some ("rise" : Str) else none := fun z => by
          unfold dueW
          rw [if_neg (by rw [h1]; decide), n1, if_neg (by rw [z]; decide)]
        cases h2 : climbO o2 with
        | false =>
          have := q H2 s02
          rw [due2 (by rw [h2]; rfl)] at this
          exact iteT (iteT this)
        | true =>
          obtain ⟨xs2, rfl⟩ : ∃ xs, o2 = some xs := by
            cases o2 with
            | none => cases h2
            | some xs => exact ⟨xs, rfl⟩
          obtain ⟨l, rfl, hl⟩ := climbV_is h2
          cases r2 with
          | @row b _ hb _ =>
            have n2 : numsO (some (vI l)) = l := nums_vI l
            rw [h2, n2] at due2
            rw [h2, n2] at due3
            have loopB : joinBad h l = true → Q (.str "loop") H2 := fun z => by
              have := q H2 s02
              rw [due2 (by rw [z]; rfl)] at this
              exact this
            have ha2 := ha.mono s02
            have hb2 := hb.mono s02
            refine (show ((joinBad h l = false → (?R : Prop)) → _) from fun kk => ?A) ?B
            case A =>
              refine iteF ⟨_, rfl, a, _, rfl, ha2, _, _, rfl, rfl, _, rfl, ?_⟩
              by_cases hhn : h = []
              · have hj : joinBad h l = false := by unfold joinBad; rw [hhn]; cases l.isEmpty <;> rfl
                rw [decide_eq_false (by rw [hhn]; exact Int.lt_irrefl 0)]
                refine iteF (iteF ?_)
                exact kk hj
              · rw [len0 hhn]
                refine iteT ⟨_, rfl, b, _, rfl, hb2, _, _, rfl, rfl, _, rfl, ?_⟩
                have e1 : (!h.isEmpty) = true := by cases h with
                  | nil => exact absurd rfl hhn
                  | cons _ _ => rfl
                by_cases hln : l = []
                · have hj : joinBad h l = false := by unfold joinBad; rw [hln]; rfl
                  rw [decide_eq_false (by rw [hln]; exact Int.lt_irrefl 0)]
                  refine iteF (iteF ?_)
                  exact kk hj
                · have e2 : (!l.isEmpty) = true := by cases l with
                    | nil => exact absurd rfl hln
                    | cons _ _ => rfl
                  rw [len0 hln]
                  refine iteT ⟨_, rfl, ?_⟩
                  refine ix_done hb2 (at_int (k := 0) rfl (len_pos hln)) ⟨_, rfl, _, rfl, ix_done ha2 (at_last (len_pos hhn)) ⟨_, _, rfl, rfl, _, rfl, ite2 (fun h3 => ?_) (fun h3 => ?_)⟩⟩
                  · refine loopB ?_
                    unfold joinBad
                    rw [e1, e2]
                    exact h3
                  · refine kk ?_
                    unfold joinBad
                    rw [e1, e2]
                    cases hd : decide (l.getD 0 0 < h.getD (h.length - 1) 0) with
                    | true => exact absurd hd h3
                    | false => rfl
            case B =>
              intro hj
              have due := due3 (by rw [hj]; rfl)
              have bad : riseBad l v = true → Q (.str "rise") H2 := fun z => by
                have := q H2 s02
                rw [due, if_pos z] at this
                exact this
              have fine : riseBad l v = false → Q .non H2 := fun z => by
                have := q H2 s02
                rw [due, if_neg (by rw [z]; decide)] at this
                exact this
              refine ⟨_, rfl, v, rfl, hv.mono s02, _, rfl, ?_⟩
              cases hc : isCnt v with
              | false =>
                refine iteT (iteT (bad ?_))
                unfold riseBad
                rw [hc]
                rfl
              | true =>
                obtain ⟨r, rfl⟩ : ∃ r, v = .int r := by
                  cases v with
                  | int r => exact ⟨r, rfl⟩
                  | _ => cases hc
                refine iteF ⟨_, rfl, b, _, rfl, hb2, rfl, _, rfl, ?_⟩
                by_cases hln : l = []
                · rw [decide_eq_true (by rw [hln]; rfl)]
                  refine iteT ⟨_, rfl, rfl, _, rfl, ite2 (fun h3 => ?_) (fun h3 => ?_)⟩
                  · refine bad ?_
                    have : r ≠ 0 := fun z => by rw [z] at h3; exact absurd h3 (by decide)
                    unfold riseBad
                    rw [hc, hln]
                    show (false || (true && decide (r ≠ 0)) || _) = true
                    rw [decide_eq_true this]
                    rfl
                  · have : r = 0 := Classical.byContradiction fun z => h3 (by rw [decide_eq_false (fun y => z (by injection y))]; rfl)
                    refine ⟨_, rfl, b, _, rfl, hb2, _, _, rfl, rfl, _, rfl, ?_⟩
                    rw [decide_eq_false (by rw [hln]; exact Int.lt_irrefl 0)]
                    refine iteF (iteF (fine ?_))
                    unfold riseBad
                    rw [hc, hln, this]
                    rfl
                · have hl3 : l.isEmpty = false := by cases l with
                    | nil => exact absurd rfl hln
                    | cons _ _ => rfl
                  rw [lenz hln]
                  refine iteF (iteF ⟨_, rfl, b, _, rfl, hb2, _, _, rfl, rfl, _, rfl, ?_⟩)
                  rw [len0 hln]
                  refine iteT ⟨_, rfl, ix_done hb2 (at_int (k := 0) rfl (len_pos hln)) ⟨_, rfl, _, _, rfl, rfl, _, rfl, _, rfl, ix_done hb2 (at_last (len_pos hln)) ⟨_, _, rfl, rfl, _, rfl, ite2 (fun h3 => ?_) (fun h3 => ?_)⟩⟩⟩
                  · refine bad ?_
                    have := of_decide_eq_true h3
                    unfold riseBad
                    rw [hc, hl3]
                    show (false || false || (true && decide (l.getD 0 0 + r < _))) = true
                    rw [decide_eq_true this]
                    rfl
                  · refine fine ?_
                    have : ¬ l.getD 0 0 + r < l.getD (l.length - 1) 0 := fun z => h3 (decide_eq_true z)
                    unfold riseBad
                    rw [hc, hl3]
                    show (false || false || (true && decide (l.getD 0 0 + r < _))) = false
                    rw [decide_eq_false this]
                    rfl
end
end K02
set_option Elab.async false
set_option linter.all false
set_option maxRecDepth 100000
set_option maxHeartbeats 4000000
namespace NF
open PySem PySem.Spec PyProof.Rows L2 He RZ
/-- isinstance of the caught exception, which has a dict -/
def rIsX (K : PySem.W.Frag) (a : Addr) (cls : Value) (d : Option Addr) : List V → Hp → VK → Prop := fun xs H Q => ∃ (C dd : Addr) (fs : List (Str × V)) (c : V) (u : Value) (b : Bool), cls = .ref C ∧ d = some dd ∧ H dd = some (.xd fs) ∧ xs = [.ref a, c] ∧ ClsV c u ∧ ExcC K C ∧ PySem.W.kitOne K (.ref C) u = some b ∧ Q (.bl b) H
theorem call_isX {X : Cx} {a : Addr} {oe : Obj} {cls : Value} {d : Option Addr} {pn : List (Addr × Obj)} (hz : Zc cls d oe) (hf : ∃ vs, oe.data = .fields vs) : CallR (X.suite a ((a, oe) :: pn)) (.builtin "isinstance") (rIsX X.K a cls d) := by
  intro pins s σ H xs us Q I r h
  obtain ⟨C, dd, fs, c, u, b, rfl, rfl, ea, rfl, k, T, hk, q⟩ := h
  obtain ⟨u1, u2, rfl, r1, r2⟩ := vals2 r
  have e2 := k.eq r2
  subst e2
  cases (show u1 = Value.ref a from r1)
  have there := (I.pin (a, oe) (List.mem_append_left _ List.mem_cons_self)).1
  obtain ⟨fv, hfv⟩ := hf
  obtain ⟨mA, hns, _⟩ := (show ObjOk X.prog X.w H s.heap dd (.xd fs) from I.hok dd _ ea)
  obtain ⟨od, ho, _⟩ := lookIn_ns hns
  have J : PySem.W.InstAt s.heap a oe C (some od) := ⟨there, hz.1, by unfold PySem.W.notCls; rw [hfv] <;> rfl, by rw [hz.2]; exact ho⟩
  have hcl : (PySem.W.clsIn X.K C).isSome = true := by
    obtain ⟨cd, hc, _⟩ := PySem.W.any_some T.hd
    rw [hc] <;> rfl
  exact PySem.W.kia_one (PySem.W.kitx_exc (ox := oe) (od := some od) hcl T.hg T.hk T.hs T.ha T.hn T.ht T.hm) I.kIn J hk (fun z => nomatch z) fun tk => ⟨.bl b, H, I.tok tk, rfl, q⟩
end NF
namespace K02
open PySem PySem.Spec PyProof.Rows L2 He NF RZ NT
def spSeen (K : PySem.W.Frag) : Sp := fun vs H Q _ => ∃ v1 v2 v o1 o2, vs = [v1, v2, v] ∧ RowIs K H v1 o1 ∧ RowIs K H v2 o2 ∧ ThK K H v ∧ (numsO o1).length + (numsO o2).length ≤ 1000 ∧ ∀ H', Same H H' → Q (wordV (dueW o1 o2 v)) H'
theorem sc__law_seen : FnScope ["_law_head", "_law_loop", "_law_rise", "error"] ["_law_head", "_law_loop", "_law_rise"] (defScope s__law_seen) := ⟨rfl, rfl, rfl, by decide +kernel, rfl, by decide +kernel, by decide +kernel⟩
theorem same_made {H H' : Hp} {x dx : Addr} {o o' : HO} (nx : H x = none) (nd : H dx = none) (s : Same (wo (upd (upd H dx o) x o') x) H') : Same H H' := fun b u e =>
  s b u (by rw [wo_ne (ne_of_none e nx), upd_ne (ne_of_none e nx), upd_ne (ne_of_none e nd)]; exact e)
theorem same_in {H : Hp} {x dx : Addr} {o o' : HO} (nx : H x = none) (nd : H dx = none) : Same H (upd (upd H dx o) x o') := fun b u e => by
  rw [upd_ne (ne_of_none e nx), upd_ne (ne_of_none e nd)]
  exact e
section
variable {P : Program} {w : World} {K : PySem.W.Frag} {mg : Str → Option Value} {base : Heap} {gs : List Str} {C : Addr}
theorem ok__law_seen {f : Addr} {fd : FuncData} (F : FunD K "_law_seen" "_law_seen" (defArgs s__law_seen) (defBody s__law_seen) (defScope s__law_seen) [] [] f fd) (T : Txt K mg gs FS) (hgs : ("NeedforthError" : Str) ∈ gs ∧ ("TooMany" : Str) ∈ gs) (m_BadTable : ExcI P w K mg base "BadTable" "word") (xf_BadTable : XfC K (ga K "BadTable")) (no_BadTable : PySem.W.findIn K (.ref (ga K "BadTable")) "word" = some none) (xc : ExcC K (ga K "BadTable"))
    (k1 : PySem.W.kitOne K (.ref (ga K "BadTable")) (.ref (ga K "NeedforthError")) = some true) (k2 : PySem.W.kitOne K (.ref (ga K "BadTable")) (.ref (ga K "TooMany")) = some false) (ex : PySem.W.exmOne K (.ref (ga K "BadTable")) (.ref (ga K "BadTable")) = some true)
    (m_Table : MakX P w K mg base 4 0 "Table" C (spInitT K C) []) : FnOk P w K mg base CX0 6 f fd ["_law_head", "_law_loop", "_law_rise"] (spSeen K) := by
  refine F.ok sc__law_seen (fun vs H Q E h => ?_) (fun cdv A outer s H vs Q E hr h => ?_)
  · obtain ⟨v1, v2, v, o1, o2, rfl, _⟩ := h
    rfl
  · obtain ⟨v1, v2, v, o1, o2, rfl, r1, r2, hv, hz, q⟩ := h
    refine ⟨_, PSs.nox (pss_cons (ps_try_as (i := 3) rfl rfl sc__law_seen.nd rfl rfl ⟨rfl, by decide, .inl m_BadTable.gm⟩ takes0 (fun W pn xe tk _ => (pss_one (ps_expr (pe_mkX tk m_Table hr (by decide) rfl (pa_cons (pv 0) (pa_cons (pv 1) (pa_cons (pv 2) pa_nil))))))) (fun a oe cls d pn hz hf => (pss_cons (ps_if (PW.pt (pw_or (pt_not (pt_val (pe_callB (call_isX hz hf) rfl (T.fr _ (by decide +kernel)) (by decide +kernel) (pa_cons (pv 3) (pa_cons (pe_gl (T.gl _ hgs.1)) pa_nil))))) (pw_or1 (pt_val (pe_callB (call_isX hz hf) rfl (T.fr _ (by decide +kernel)) (by decide +kernel) (pa_cons (pv 3) (pa_cons (pe_gl (T.gl _ hgs.2)) pa_nil))))))) (pss_one (ps_ret (pe_tup (pa_cons pe_str pa_nil)))) pss_nil) (pss_one (ps_ret (pe_xf xf_BadTable no_BadTable hz hf (pv 3))))))) (pss_one (ps_ret pe_non))), ?_⟩
    refine ⟨_, rfl, _, rfl, _, rfl, ?_⟩
    intro x dx nx nd ne
    have si := same_in (o := .own x) (o' := .ins C dx []) nx nd
    refine ⟨x, dx, v1, v2, v, o1, o2, rfl, upd_same, r1.mono si, r2.mono si, hv.mono si, by omega, by omega, fun due y H' hy s tb => ⟨rfl, ?_⟩, fun w hw d H' s hd hx => ⟨true, ex, fun _ a ha => ?_, fun z => Bool.noConfusion z⟩⟩
    · have := q H' (same_made nx nd s)
      rw [due] at this
      exact this
    · have := q H' (same_made nx nd s)
      rw [hw] at this
      refine ⟨_, rfl, _, d, _, _, _, true, rfl, rfl, hx, rfl, .own _, xc, k1, true, rfl, iteF ?_⟩
      refine ⟨_, rfl, _, d, _, _, _, false, rfl, rfl, hx, rfl, .own _, xc, k2, false, rfl, iteF ?_⟩
      exact ⟨_, rfl, rfl, rfl, d, _, _, rfl, hx, rfl, this⟩
end
end K02
set_option Elab.async false
set_option linter.all false
set_option maxRecDepth 100000
set_option maxHeartbeats 4000000
namespace K02
open PySem PySem.Spec PyProof.Rows L2 He NF RZ NT
/-- a thing that equals itself wherever it stands -/
structure Self (K : PySem.W.Frag) (H : Hp) (v : V) (d : PyData) : Prop where
  at_ : ∀ H', Same H H' → Dp K H' v d
  sh : SeqAt.shaped d = true
  eq : PyData.eqv d d = true
def spRefused (K : PySem.W.Frag) (C : Addr) : Sp := fun vs H Q _ => ∃ x y v d, vs = [.ref x, v] ∧ TabAt K C H x y ∧ Small y ∧ ThK K H v ∧ v ≠ .non ∧ isCnt v = false ∧ Self K H v d ∧ ∀ H', Same H H' → Q (.bl true) H'
def spLTableT (K : PySem.W.Frag) (C : Addr) : Sp := fun vs H Q _ => ∃ p y, vs = [.ref p] ∧ FormAt K H p y ∧ Raw0 y ∧ ∀ x z H', IsPlain y.1 y.2.1 y.2.2 z → Same H H' → TabAt K C H' x z → Q (.ref x) H'
theorem op_eqDK {X : Cx} {K : PySem.W.Frag} (h : X.K = K) (hu : X.A.units + 64 < cLine) : OpR X (compareOp .Eq) (rEqD K) := h ▸ op_eqD hu
theorem sc__law_refused_value : FnScope ["_law_table_here", "_law_thing", "error"] ["_law_table_here", "_law_thing"] (defScope s__law_refused_value) := ⟨rfl, rfl, rfl, by decide +kernel, rfl, by decide +kernel, by decide +kernel⟩
theorem sc__law_table : FnScope ["_law_raw_here"] ["_law_raw_here"] (defScope s__law_table) := ⟨rfl, rfl, rfl, by decide +kernel, rfl, by decide +kernel, by decide +kernel⟩
theorem good_due {h l : List Int} {r : Int} (g : Good h l r) : dueW (some (vI h)) (some (vI l)) (.int r) = none := by
  have c1 : climbO (some (vI h)) = true := climb_vI g.hd
  have c2 : climbO (some (vI l)) = true := climb_vI g.lp
  have n1 : numsO (some (vI h)) = h := nums_vI h
  have n2 : numsO (some (vI l)) = l := nums_vI l
  unfold dueW
  rw [if_neg (by rw [c1]; decide), n1, n2, c2]
  have j : joinBad h l = false := by
    unfold joinBad
    cases eh : h.isEmpty
    · cases el : l.isEmpty
      · have h1 : h ≠ [] := fun z => by rw [z] at eh; cases eh
        have h2 : l ≠ [] := fun z => by rw [z] at el; cases el
        have := g.join h1 h2
        show decide (l.getD 0 0 < h.getD (h.length - 1) 0) = false
        exact decide_eq_false (by omega)
      · rfl
    · cases l.isEmpty <;> rfl
  have k : riseBad l (.int r) = false := by
    unfold riseBad
    rw [show isCnt (.int r) = true from decide_eq_true g.r0]
    cases el : l.isEmpty
    · have h2 : l ≠ [] := fun z => by rw [z] at el; cases el
      have := g.last h2
      show (false || false || (true && decide (l.getD 0 0 + r < l.getD (l.length - 1) 0))) = false
      rw [decide_eq_false (by omega)]
      rfl
    · have h2 : l = [] := by cases l with
        | nil => rfl
        | cons _ _ => cases el
      have := g.rl h2
      show (false || (true && decide (r ≠ 0)) || (false && _)) = false
      rw [decide_eq_false (fun z => z this)]
      rfl
  rw [j, if_neg (by decide), k, if_neg (by decide)]
theorem row_ints {K : PySem.W.Frag} {H : Hp} {a : Addr} {l : List Int} (h : Row K H a (vI l)) : RowIs K H (.ref a) (some (vI l)) := .row h fun x hx => by
  obtain ⟨i, _, rfl⟩ := List.mem_map.mp hx
  exact .int i
section
variable {P : Program} {w : World} {K : PySem.W.Frag} {mg : Str → Option Value} {base : Heap} {gs : List Str} {C : Addr}
theorem ok__law_refused_value {f : Addr} {fd : FuncData} (F : FunD K "_law_refused_value" "_law_refused_value" (defArgs s__law_refused_value) (defBody s__law_refused_value) (defScope s__law_refused_value) [] [] f fd) (T : Txt K mg gs FS) (m_BadTable : ExcI P w K mg base "BadTable" "word") (m_BadCount : ExcI P w K mg base "BadCount" "thing") (xf_BadCount : XfC K (ga K "BadCount")) (no_BadCount : PySem.W.findIn K (.ref (ga K "BadCount")) "thing" = some none) (xc : ExcC K (ga K "BadCount"))
    (k1 : PySem.W.kitOne K (.ref (ga K "BadCount")) (.ref (ga K "BadTable")) = some false) (ex : PySem.W.exmOne K (.ref (ga K "BadCount")) (.ref (ga K "BadCount")) = some true) (o_call : CalOX P w K mg base 3 C (spAtT K C)) : FnOk P w K mg base CX0 4 f fd ["_law_table_here", "_law_thing"] (spRefused K C) := by
  refine F.ok sc__law_refused_value (fun vs H Q E h => ?_) (fun cdv A outer s H vs Q E hr h => ?_)
  · obtain ⟨x, y, v, d, rfl, _⟩ := h
    rfl
  · obtain ⟨x, y, v, dt, rfl, tb, sm, hv, hn, hc, hd, q⟩ := h
    have hu : (A.deeper (envOfC "_law_refused_value" (defScope s__law_refused_value) s.heap.objs.size f cdv)).units + 64 < cLine := by
      have := hr.un
      omega
    refine ⟨_, PSs.nox (pss_cons (ps_try_as (i := 2) rfl rfl sc__law_refused_value.nd rfl rfl ⟨rfl, by decide, .inl m_BadCount.gm⟩ takes0 (fun W pn xe tk _ => (pss_one (ps_expr (pe_coX tk (pv 0) o_call hr (by decide) (pa_cons (pv 1) pa_nil))))) (fun a oe cls d pn hz hf => (pss_one (ps_ret (pe_and (pe_cmpR (op_eqDK (K := K) rfl hu) (pe_xf xf_BadCount no_BadCount hz hf (pv 2)) (pv 1) (nomark _)) (pe_one (pe_not (pe_callB (call_isX hz hf) rfl (T.fr _ (by decide +kernel)) (by decide +kernel) (pa_cons (pv 2) (pa_cons (pe_gl m_BadTable.gm) pa_nil)))))))))) (pss_one (ps_ret pe_bl))), ?_⟩
    obtain ⟨dx, _, _, hx, _, _⟩ := id tb
    refine ⟨_, rfl, x, rfl, _, rfl, ⟨dx, _, hx⟩, x, y, v, rfl, tb, sm, hv, Or.inr ⟨hn, hc, fun d H' s1 hd1 hxd => ⟨true, ex, fun _ a ha => ?_, fun z => Bool.noConfusion z⟩⟩⟩
    refine ⟨_, rfl, rfl, rfl, d, _, _, rfl, hxd, rfl, _, rfl, dt, dt, hd.at_ H' s1, hd.at_ H' s1, hd.sh, hd.sh, _, rfl, ?_⟩
    rw [hd.eq]
    refine iteT ⟨_, rfl, _, d, _, _, _, false, rfl, rfl, hxd, rfl, .own _, xc, k1, false, rfl, q H' s1⟩
theorem ok__law_table {f : Addr} {fd : FuncData} (F : FunD K "_law_table" "_law_table" (defArgs s__law_table) (defBody s__law_table) (defScope s__law_table) [] [] f fd) (T : Txt K mg gs FS) (m_Table : MakX P w K mg base 4 0 "Table" C (spInitT K C) []) : FnOk P w K mg base (L2.CX P w) 6 f fd ["_law_raw_here"] (spLTableT K C) := by
  refine F.ok sc__law_table (fun vs H Q E h => ?_) (fun cdv A outer s H vs Q E hr h => ?_)
  · obtain ⟨p, y, rfl, _⟩ := h
    rfl
  · obtain ⟨p, ⟨h, l, r⟩, rfl, ⟨a, b, hp, ha, hb⟩, ok, q⟩ := h
    refine ⟨_, (pss_one (ps_ret (pe_mkX (takes_of rfl rfl rfl rfl) m_Table hr (by decide) rfl (pa_cons (pe_ix (ixt (K := K)) (pv 0) pe_int fun _ _ => rfl) (pa_cons (pe_ix (ixt (K := K)) (pv 0) pe_int fun _ _ => rfl) (pa_cons (pe_ix (ixt (K := K)) (pv 0) pe_int fun _ _ => rfl) pa_nil)))))), ?_⟩
    refine ⟨_, rfl, p, _, _, _, rfl, rfl, hp, at0, _, rfl, p, _, _, _, rfl, rfl, hp, at1, _, rfl, p, _, _, _, rfl, rfl, hp, at2, ?_⟩
    intro x dx nx nd ne
    have o1 := ok.h
    have o2 := ok.l
    dsimp only at o1 o2 ha hb q
    have si := same_in (o := .own x) (o' := .ins C dx []) nx nd
    have n1 : numsO (some (vI h)) = h := nums_vI h
    have n2 : numsO (some (vI l)) = l := nums_vI l
    have due := good_due ok.g
    dsimp only at due
    refine ⟨x, dx, _, _, _, some (vI h), some (vI l), rfl, upd_same, (row_ints (.inr ha)).mono si, (row_ints (.inr hb)).mono si, .int r, by rw [n1]; omega, by rw [n2]; omega, fun _ z H' hz s tb => ⟨rfl, ?_⟩, fun w hw => ?_⟩
    · rw [n1, n2] at hz
      exact q x z H' hz (same_made nx nd s) tb
    · rw [due] at hw
      cases hw
end
end K02
set_option Elab.async false
set_option linter.all false
set_option maxRecDepth 100000
set_option maxHeartbeats 4000000
/-! tuple * int for any int that is not too great. -/
namespace NF
open PySem PySem.Spec PyProof.Rows L2 He RZ
theorem rep_none (l : Addr) (items : Array Value) (n : Nat) (dd : Option Addr) (sl : Array (Option Value)) (x : Int) (u : Tok) (c0 : (decide (x < -(2 ^ 63)) || decide (x ≥ 2 ^ 63)) = false) (c1 : (items.isEmpty || x == 1) = false) (c2 : (decide (x ≤ 0) || items.isEmpty) = true) :
    Meets (Builtin.«tuple.__mul__» ⟨[.ref l, .int x u], []⟩) (fun _ R s => s.heap.get? l = some { cls := .type "tuple", dict := dd, data := .seq items n, slots := sl } ∧
      R (.ok (.ret (Value.ref s.heap.objs.size))) { s with heap := s.heap.push { cls := Value.type "tuple", data := Data.seq #[] } }) :=
  .of_wp fun prog w A R s h => by
    obtain ⟨hp, g, d, tk, os⟩ := s
    obtain ⟨hl, h⟩ := h
    have f1 := AutoSeq1.idx_int
    wp_walk using wpAny_loadPart' hl
    repeat (first
      | (refine wpAny_ite_false (decide_eq_false (by rw [c0]; exact Bool.false_ne_true)) ?_; wp_walk using wpAny_loadPart' hl)
      | (refine wpAny_ite_false (decide_eq_false (by rw [c1]; exact Bool.false_ne_true)) ?_; wp_walk using wpAny_loadPart' hl)
      | (refine wpAny_ite_true (decide_eq_true (by rw [c2])) ?_; wp_walk using wpAny_loadPart' hl))
    exact ⟨_, rfl, h⟩
theorem rep_one (l : Addr) (items : Array Value) (n : Nat) (dd : Option Addr) (sl : Array (Option Value)) (x : Int) (u : Tok) (c0 : (decide (x < -(2 ^ 63)) || decide (x ≥ 2 ^ 63)) = false) (c1 : (items.isEmpty || x == 1) = true) :
    Meets (Builtin.«tuple.__mul__» ⟨[.ref l, .int x u], []⟩) (fun _ R s => s.heap.get? l = some { cls := .type "tuple", dict := dd, data := .seq items n, slots := sl } ∧ R (.ok (.ret (Value.ref l))) s) :=
  .of_wp fun prog w A R s h => by
    obtain ⟨hp, g, d, tk, os⟩ := s
    obtain ⟨hl, h⟩ := h
    have f1 := AutoSeq1.idx_int
    wp_walk using wpAny_loadPart' hl
    repeat (first
      | (refine wpAny_ite_false (decide_eq_false (by rw [c0]; exact Bool.false_ne_true)) ?_; wp_walk using wpAny_loadPart' hl)
      | (refine wpAny_ite_true (decide_eq_true (by rw [c1])) ?_; wp_walk using wpAny_loadPart' hl))
    exact ⟨_, rfl, h⟩
def rRepA (K : PySem.W.Frag) : R2 := fun x y H Q => ∃ l k xs, x = .ref l ∧ y = .int k ∧ SqT K H l xs ∧ xs ≠ [] ∧ xs.length ≤ 100 ∧ -10000 ≤ k ∧ k ≤ 10000 ∧ ∀ p H', Same H H' → SqT K H' p (List.replicate k.toNat xs).flatten → Q (.ref p) H'
/-- t * k -/
theorem op_repA {X : Cx} : OpR X (binaryOp .Mult) (rRepA X.K) := by
  intro pins s σ H x y v u Q I rx ry h
  obtain ⟨l, k, xs, rfl, rfl, hT, hne, hz, k1, k2, q⟩ := h
  cases rx
  obtain ⟨t, rfl⟩ := ry
  obtain ⟨its, r, ⟨⟨cls, dd, data, sl⟩, ho, hc, n, hd⟩, hs⟩ := I.tuple hT
  simp only at hc hd
  subst hc hd
  have hle : its.length = xs.length := r.length.symm
  have hpos : 0 < its.length := by
    rw [hle]
    exact List.length_pos_iff.mpr hne
  have hfull : its.toArray.isEmpty = false := by
    cases hi : its with
    | nil => rw [hi] at hpos; simp at hpos
    | cons _ _ => rfl
  have small : (decide (k < -(2 ^ 63)) || decide (k ≥ 2 ^ 63)) = false := by
    rw [decide_eq_false (show ¬ k < -(2 ^ 63) by omega), decide_eq_false (show ¬ k ≥ 2 ^ 63 by omega)]
    rfl
  have ty : s.TypeIs (.ref l) "tuple" := ⟨_, ho, rfl⟩
  have road : ∀ {W : Value → Shared → Prop}, wpAny (model X.prog X.w) X.A (call (.builtin "tuple.__mul__") [.ref l, .int k t]) W X.xe s → wpAny (model X.prog X.w) X.A (binaryOp .Mult (.ref l) (.int k t)) W X.xe s := fun {W} z =>
    wpAny_binaryOp_repeat_ref (T := "tuple") (U := "int") (by decide) ty (fun s' => typeIs_int s' k t) noFill_tuple_mul F.fills_int_mul F.slot_int_rmul repeat_tuple F.slot_int_index.lookup
      (call_meets F.slot_int_rmul (typeIs_int s k t) F.entry_int_rmul (F.args_int_rmul_2 _ _) (int_rmul_tuple k t l its.toArray n dd sl) ⟨ho, rfl, ty, z⟩)
  refine road ?_
  by_cases c1 : k = 1
  · subst c1
    refine call_meets F.slot_tuple_mul ty F.entry_tuple_mul (F.args_tuple_mul_2 _ _) (rep_one l its.toArray n dd sl 1 t small (by rw [hfull]; rfl)) ⟨ho, ?_⟩
    refine ⟨.ref l, H, I, rfl, q l H (Same.refl H) ?_⟩
    rw [show (List.replicate (1 : Int).toNat xs).flatten = xs by simp]
    exact hT
  · have not1 : (its.toArray.isEmpty || k == 1) = false := by
      rw [hfull, Bool.false_or]
      exact beq_eq_false_iff_ne.mpr c1
    by_cases c0 : k ≤ 0
    · refine call_meets F.slot_tuple_mul ty F.entry_tuple_mul (F.args_tuple_mul_2 _ _) (rep_none l its.toArray n dd sl k t small not1 (by rw [decide_eq_true c0]; rfl)) ⟨ho, ?_⟩
      have hn := I.hok.fresh (Nat.le_refl s.heap.objs.size)
      have e0 : (List.replicate k.toNat xs).flatten = [] := by
        rw [show k.toNat = 0 by omega]
        rfl
      refine ⟨.ref s.heap.objs.size, _, I.laid (t' := s.toks) (o := .tup []) (fun b ob q => Heap.get?_push_of_some _ q) (Nat.le_refl _) ?_, rfl, q _ _ (NF.Same.new (Same.refl H) hn) (by rw [e0]; exact SqT.of upd_same)⟩
      exact ⟨Nat.zero_le _, [], .nil, IsTup.new _ _⟩
    · have many : its.toArray.size = xs.length := by rw [List.size_toArray, hle]
      have prod : ((its.toArray.size : Nat) : Int) * k ≤ 100 * 10000 := by
        rw [many]
        exact Int.mul_le_mul (by omega) k2 (by omega) (by decide)
      have flat : (List.replicate k.toNat xs).flatten.length ≤ 1000000 := by
        rw [PyProof.Rows.lm_len_rep_flat]
        exact Nat.le_trans (Nat.mul_le_mul (show k.toNat ≤ 10000 by omega) hz) (by decide)
      have flat2 : (List.replicate k.toNat its).flatten.length ≤ 1000000 := by
        rw [PyProof.Rows.lm_len_rep_flat, hle]
        exact Nat.le_trans (Nat.mul_le_mul (show k.toNat ≤ 10000 by omega) hz) (by decide)
      refine call_meets F.slot_tuple_mul ty F.entry_tuple_mul (F.args_tuple_mul_2 _ _) (tuple_mulW l its.toArray n dd sl k t small not1 (by rw [hfull, Bool.or_false]; exact decide_eq_false c0) (by omega) ?_ ?_) ⟨ho, ?_⟩
      · unfold Builtin.Tuple.tupleTooMany
        rw [sizeLine_eq]
        exact decide_eq_false (by omega)
      · rw [size_rep, List.size_toArray, sizeLine_eq]
        omega
      · rw [size_rep]
        have hn := I.hok.fresh (Nat.le_refl s.heap.objs.size)
        refine ⟨.ref s.heap.objs.size, _, I.laid (t' := s.toks) (o := .tup (List.replicate k.toNat xs).flatten) (fun b ob q => Heap.get?_push_of_some _ q) (Nat.le_refl _) ?_, rfl, q _ _ (NF.Same.new (Same.refl H) hn) (SqT.of upd_same)⟩
        exact ⟨by rw [sizeLine_eq]; omega, _, r.rep k.toNat, IsTup.new _ _⟩
end NF
set_option Elab.async false
set_option linter.all false
set_option maxRecDepth 100000
set_option maxHeartbeats 4000000
/-! C.m(..), m a static method that may let an exception out. -/
namespace NF
open PySem PySem.Spec PyProof.Rows L2 He RZ
structure SMet (K : PySem.W.Frag) (C : Addr) (mc : Value) (m : Str) (p g : Addr) : Prop where
  ty : PySem.W.typeIn K (.ref C) = some mc
  rd : PySem.W.readsIn K C mc = true
  ga : PySem.W.specialIn K (.ref C) "__getattribute__" = some (some (.builtin "type.__getattribute__"))
  at_ : PySem.W.findCls K (.ref C) mc m = some (.get (.builtin "staticmethod.__get__") (.ref p) .none (.ref C))
  rc : ∃ rest, PySem.W.recIn K p "staticmethod" = some (.ref g :: rest)
  kp : PySem.W.keepIn K (.ref g) = true
structure StaX (P : Program) (w : World) (K : PySem.W.Frag) (mg : Str → Option Value) (base : Heap) (k : Nat) (C : Addr) (m : Str) (sp : Sp) : Prop where
  ex : ∃ (mc : Value) (p g : Addr) (fd : FuncData) (ps : List Str), SMet K C mc m p g ∧ FnOk P w K mg base (L2.CX P w) k g fd ps sp ∧ Binds K fd ps []
def tStaS (C : Addr) (sp : Sp) (E : L2.St → XK) (ta : TE) (t : TA) : TE := fun σ H Q => ta σ H fun x H1 => x = .ref C ∧ t σ H1 fun vs H2 => sp vs H2 Q (E σ)
theorem pe_smX {X : Cx} {k j : Nat} {C : Addr} {m : Str} {sp : Sp} {W : WX} {o e : Expr} {es : List Expr} {ta : TE} {t : TA} {pos apos : Pos} {pl : Sem Bool} (tk : Takes X W) (he : PE X o ta) (c : StaX X.prog X.w X.K X.mg X.base k C m sp) (hr : Room j X.A) (hk : k ≤ j) (ha : PA X (e :: es) t)
    (hst : starEach (e :: es) X.env = (false, eval e X.env) :: starEach es X.env := by rfl) (hpl : (backTo pos (starEach es X.env)).any (·.1) = false := by rfl)
    (ht : eval (.Call (.Attribute o m apos) (e :: es) [] pos) X.env = (do
      let ov ← eval o X.env
      standAt apos.atName
      let (f, first) ← holding [ov] (getMethod ov m pl)
      callWith pos f first (backTo pos (starEach (e :: es) X.env)) (backToKw pos (keywordEach [] X.env))) := by rfl) :
    PE X (.Call (.Attribute o m apos) (e :: es) [] pos) (tStaS C sp (WE W) ta t) := by
  obtain ⟨mc, p, g, fd, ps, S, F, hb⟩ := c.ex
  obtain ⟨rest, hp⟩ := S.rc
  refine ⟨fun pins s σ H Q I h => ?_⟩
  refine PySem.W.methodCall_KW (pl := pl) (thn (he.run pins s σ H _ I h) fun u s1 ⟨x, H1, I1, rx, ex, q⟩ => ?_) ht
  subst ex
  cases rx
  obtain ⟨fm, hF⟩ := I1.fr
  refine PySem.W.method_cls I1.kIn S.ga (PySem.W.cls_sm hF I1.ok.mod.kin S.ty S.rd S.at_ hp rfl ?_)
  have I2 := I1.tok (s1.toks + 1)
  show wpAny _ _ (callWith pos (.ref g) [] (backTo pos (starEach (e :: es) X.env)) []) _ _ _
  refine PySem.W.callWith_K (h₀ := X.base) I2.ok.mod.kin S.kp (thn (ha.run pos pins _ σ H1 _ I2 q) fun us s3 ⟨vs, H2, I3, r, q2⟩ => ⟨I3.kIn, ?_⟩) hst hpl
  exact run_fnS (E := WE W) F (hr.mono hk) hb (passAt tk σ) I3 r q2
end NF
set_option Elab.async false
set_option linter.all false
set_option maxRecDepth 100000
set_option maxHeartbeats 4000000
namespace K02
open PySem PySem.Spec PyProof.Rows L2 He NF RZ NT
def shiftOk : V → Bool
  | .int k => decide (-5000 ≤ k) && decide (k ≤ 5000)
  | _ => false
def maxO (k : Int) : Int := if 0 > k then 0 else k
/-- what a shift is told by -/
def shHead (k : Int) : List Int := List.replicate (-k).toNat 0
def spShiftT (K : PySem.W.Frag) (C : Addr) : Sp := fun vs H Q E => ∃ v, vs = [v] ∧ ThK K H v ∧ (∀ k, v = .int k → shiftOk v = true → ∀ x y H', IsPlain (shHead k) [1 + maxO k] 1 y → Same H H' → TabAt K C H' x y → Q (.ref x) H') ∧
  (shiftOk v = false → ∀ d H', Same H H' → H d = none → H' d = some (.xd [("thing", v)]) → E (.ref (ga K "BadCount")) (some d) H')
/-- the shift in plain form -/
def shPlain (k : Int) : List Int × List Int × Int := if 0 ≤ k then ([], [1 + k], 1) else (List.replicate (-k - 1).toNat 0, [0], 1)
def spLShift (K : PySem.W.Frag) : Sp := fun vs H Q _ => ∃ k : Int, vs = [.int k] ∧ -5000 ≤ k ∧ k ≤ 5000 ∧ ∀ p H', Same H H' → FormAt K H' p (shPlain k) → Q (.ref p) H'
def spTold (K : PySem.W.Frag) (C : Addr) : Sp := fun vs H Q _ => ∃ x y, vs = [.ref x] ∧ TabAt K C H x y ∧ ∀ p H', Same H H' → FormAt K H' p y → Q (.ref p) H'
theorem sc_Table_shift : FnScope ["k"] ["k"] (defScope s_Table_shift) := ⟨rfl, rfl, rfl, by decide +kernel, rfl, by decide +kernel, by decide +kernel⟩
theorem sc__law_shift : FnScope ["_law_k"] ["_law_k"] (defScope s__law_shift) := ⟨rfl, rfl, rfl, by decide +kernel, rfl, by decide +kernel, by decide +kernel⟩
theorem sc__law_told : FnScope ["_law_table_here"] ["_law_table_here"] (defScope s__law_told) := ⟨rfl, rfl, rfl, by decide +kernel, rfl, by decide +kernel, by decide +kernel⟩
theorem rep_zero (n : Nat) : (List.replicate n [V.int 0]).flatten = vI (List.replicate n 0) := by
  induction n with
  | zero => rfl
  | succ n ih =>
    rw [List.replicate_succ, List.flatten_cons, ih]
    rfl
theorem climbs_rep (n : Nat) : climbs 0 (List.replicate n 0) := by
  induction n with
  | zero => trivial
  | succ n ih => exact ⟨Int.le_refl _, ih⟩
theorem rep_get (n i : Nat) : (List.replicate n (0 : Int)).getD i 0 = 0 := by
  rw [List.getD_eq_getElem?_getD, List.getElem?_replicate]
  by_cases h : i < n
  · rw [if_pos h]; rfl
  · rw [if_neg h]; rfl
theorem shift_good (k : Int) : Good (shHead k) [1 + maxO k] 1 := by
  have m0 : 0 ≤ maxO k := by
    unfold maxO
    by_cases h : 0 > k
    · rw [if_pos h]; exact Int.le_refl _
    · rw [if_neg h]; omega
  refine ⟨climbs_rep _, ⟨by omega, trivial⟩, fun _ _ => ?_, by decide, (fun z => by cases z), fun _ => ?_⟩
  · unfold shHead
    rw [rep_get]
    show 0 ≤ 1 + maxO k
    omega
  · show 1 + maxO k ≤ 1 + maxO k + 1
    omega
section
variable {P : Program} {w : World} {K : PySem.W.Frag} {mg : Str → Option Value} {base : Heap} {gs : List Str} {C : Addr}
theorem ok_Table_shift {tok : Tok} {f : Addr} {fd : FuncData} (F : FunD K "shift" "Table.shift" (defArgs s_Table_shift) (defBody s_Table_shift) (defScope s_Table_shift) [] [] f fd) (T : Txt K mg gs FS) (hLS : mg "LONGEST_SHIFT" = some (.int 5000 tok)) (m_BadCount : ExcI P w K mg base "BadCount" "thing") (c_is_integer : Cal P w K mg base 1 "is_integer" (spIsIntT K)) (m_Table : MakX P w K mg base 4 0 "Table" C (spInitT K C) []) : FnOk P w K mg base (L2.CX P w) 6 f fd ["k"] (spShiftT K C) := by
  refine F.ok sc_Table_shift (fun vs H Q E h => ?_) (fun cdv A outer s H vs Q E hr h => ?_)
  · obtain ⟨v, rfl, _⟩ := h
    rfl
  · obtain ⟨v, rfl, hv, q, e⟩ := h
    refine ⟨_, (pss_cons (ps_if (PW.pt (pw_or (pt_not (pt_val (pe_c c_is_integer hr (by decide) rfl (pa_cons (pv 0) pa_nil)))) (pw_or1 (pt_not (pt_chain op_le op_le (pe_un un_neg (pe_glob (v := .int 5000) rfl hLS ⟨_, rfl⟩)) (pv 0) (pe_glob (v := .int 5000) rfl hLS ⟨_, rfl⟩)))))) (pss_one (ps_rz rfl (takes_of rfl rfl rfl rfl) m_BadCount hr (by decide) rfl (pv 0))) pss_nil) (pss_one (ps_ret (pe_mkX (takes_of rfl rfl rfl rfl) m_Table hr (by decide) rfl (pa_cons (pe_op op_repA (pe_tup (pa_cons pe_int pa_nil)) (pe_un un_neg (pv 0))) (pa_cons (pe_tup (pa_cons (pe_op op_add pe_int (pe_callB (call_max2 rfl) rfl (T.fr _ (by decide +kernel)) (by decide +kernel) (pa_cons (pv 0) (pa_cons pe_int pa_nil)))) pa_nil)) (pa_cons pe_int pa_nil))))))), ?_⟩
    refine ⟨_, rfl, v, rfl, hv, _, rfl, ?_⟩
    have bad : shiftOk v = false → (fun σ H => tMkO (ga K "BadCount") (spExc (ga K "BadCount") "thing") [] (tCons (tVar 0) tNil) σ H fun cls d H' => E cls d H') [some v] H := fun z => ⟨_, rfl, raise_done fun d H2 hd s2 hx => e z d H2 s2 hd hx⟩
    cases hi : isInt v with
    | false =>
      refine iteT (iteT (bad ?_))
      cases v with
      | int k => cases hi
      | _ => rfl
    | true =>
      obtain ⟨k, rfl⟩ : ∃ k, v = .int k := by
        cases v with
        | int k => exact ⟨k, rfl⟩
        | _ => cases hi
      refine iteF ?_
      have good : shiftOk (.int k) = true → (tRet (tMakeS C (spInitT K C) [] (WE fun cls d _ H => E cls d H) (tCons (tOp (rRepA K) (tTup (tCons (tC (.int 0)) tNil)) (tUn (rU fun i => .int (-i)) (tVar 0))) (tCons (tTup (tCons (tOp (rI0 fun i j => .int (i + j)) (tC (.int 1)) (tCB (fun xs H Q => ∃ i j, xs = [.int i, .int j] ∧ Q (.int (if j > i then j else i)) H) (tCons (tVar 0) (tCons (tC (.int 0)) tNil)))) tNil)) (tCons (tC (.int 1)) tNil))))) { nx := fun _ H' => Q .non H', rt := Q } [some (V.int k)] H := fun hok => by
        obtain ⟨k1, k2⟩ := ba hok
        have k1 : -5000 ≤ k := of_decide_eq_true k1
        have k2 : k ≤ 5000 := of_decide_eq_true k2
        refine ⟨(by show 1 ≤ sizeLine; decide), fun p1 hp1 => ?_⟩
        have s1 := NF.Same.new (o := .tup [V.int 0]) (Same.refl H) hp1
        refine ⟨_, rfl, _, rfl, p1, -k, [V.int 0], rfl, rfl, SqT.of upd_same, by simp, (show 1 ≤ 100 by decide), by omega, by omega, fun p2 H2 s2 t2 => ?_⟩
        rw [rep_zero] at t2
        refine ⟨_, rfl, k, 0, rfl, _, _, rfl, rfl, (by show 1 ≤ sizeLine; decide), fun p3 hp3 => ?_⟩
        have s3 := NF.Same.new (o := .tup [V.int (1 + if 0 > k then 0 else k)]) (Same.refl H2) hp3
        intro x dx nx nd ne
        have si := same_in (o := .own x) (o' := .ins C dx []) nx nd
        have g := shift_good k
        have due := good_due g
        have n1 : numsO (some (vI (shHead k))) = shHead k := nums_vI _
        have n2 : numsO (some (vI [1 + maxO k])) = [1 + maxO k] := nums_vI _
        have t3 : SqT K (upd H2 p3 (.tup [V.int (1 + if 0 > k then 0 else k)])) p3 (vI [1 + maxO k]) := SqT.of upd_same
        refine ⟨x, dx, _, _, _, some (vI (shHead k)), some (vI [1 + maxO k]), rfl, upd_same, (row_ints (.inr (NF.Same.tup s3 t2))).mono si, (row_ints (.inr t3)).mono si, .int 1, ?_, ?_, fun _ z H' hz s tb => ⟨rfl, ?_⟩, fun w hw => ?_⟩
        · rw [n1]
          unfold shHead
          rw [List.length_replicate]
          omega
        · rw [n2]
          exact (by decide : 1 ≤ 1000)
        · rw [n1, n2] at hz
          exact q k rfl hok x z H' hz (Same.trans s1 (Same.trans s2 (Same.trans s3 (same_made nx nd s)))) tb
        · rw [due] at hw
          cases hw
      refine ⟨_, rfl, _, rfl, _, _, rfl, rfl, _, rfl, ite2 (fun h1 => ?_) (fun h1 => ?_)⟩
      · refine ⟨_, _, rfl, rfl, _, rfl, ?_⟩
        cases h2 : decide (k ≤ 5000) with
        | true => exact iteF (good (by
            show (decide (-5000 ≤ k) && decide (k ≤ 5000)) = true
            rw [h2, Bool.and_true]
            exact h1))
        | false => exact iteT (bad (by
            show (decide (-5000 ≤ k) && decide (k ≤ 5000)) = false
            rw [h2, Bool.and_false]))
      · have h3 : decide (-5000 ≤ k) = false := by
          cases h : decide (-5000 ≤ k) with
          | true => exact absurd h h1
          | false => rfl
        exact ⟨_, rfl, iteT (bad (by
          show (decide (-5000 ≤ k) && decide (k ≤ 5000)) = false
          rw [h3]
          rfl))⟩
theorem ok__law_shift {f : Addr} {fd : FuncData} (F : FunD K "_law_shift" "_law_shift" (defArgs s__law_shift) (defBody s__law_shift) (defScope s__law_shift) [] [] f fd) (T : Txt K mg gs FS) : FnOk P w K mg base CX0 1 f fd ["_law_k"] (spLShift K) := by
  refine F.ok sc__law_shift (fun vs H Q E h => ?_) (fun cdv A outer s H vs Q E hr h => ?_)
  · obtain ⟨k, rfl, _⟩ := h
    rfl
  · obtain ⟨k, rfl, k1, k2, q⟩ := h
    refine ⟨_, PSs.nox (pss_cons (ps_if (pt_cmpR op_ge (pv 0) pe_int (nomark _)) (pss_one (ps_ret (pe_tup (pa_cons (pe_tup pa_nil) (pa_cons (pe_tup (pa_cons (pe_op op_add pe_int (pv 0)) pa_nil)) (pa_cons pe_int pa_nil)))))) pss_nil) (pss_one (ps_ret (pe_tup (pa_cons (pe_op op_repA (pe_tup (pa_cons pe_int pa_nil)) (pe_op op_sub (pe_un un_neg (pv 0)) pe_int)) (pa_cons (pe_tup (pa_cons pe_int pa_nil)) (pa_cons pe_int pa_nil))))))), ?_⟩
    refine ⟨_, rfl, _, _, rfl, rfl, _, rfl, ite2 (fun h1 => ?_) (fun h1 => ?_)⟩
    · have h1 : 0 ≤ k := of_decide_eq_true h1
      refine ⟨(by show 0 ≤ sizeLine; decide), fun p1 hp1 => ?_⟩
      have s1 := NF.Same.new (o := .tup []) (Same.refl H) hp1
      refine ⟨_, rfl, _, _, rfl, rfl, (by show 1 ≤ sizeLine; decide), fun p2 hp2 => ?_⟩
      have s2 := NF.Same.new (o := .tup [V.int (1 + k)]) s1 hp2
      have u1 : SqT K (upd (upd H p1 (.tup [])) p2 (.tup [V.int (1 + k)])) p1 (vI []) := NF.Same.tup (NF.Same.new (o := .tup [V.int (1 + k)]) (Same.refl _) hp2) (SqT.of upd_same)
      refine ⟨(by show 3 ≤ sizeLine; decide), fun p3 hp3 => ?_⟩
      have s3 := NF.Same.new (o := .tup [V.ref p1, V.ref p2, V.int 1]) (Same.refl _) hp3
      refine q p3 _ (Same.trans s2 s3) ?_
      unfold shPlain
      rw [if_pos h1]
      exact ⟨p1, p2, SqT.of upd_same, NF.Same.tup s3 u1, NF.Same.tup s3 (SqT.of upd_same)⟩
    · have h1 : ¬ 0 ≤ k := fun z => h1 (decide_eq_true z)
      refine ⟨(by show 1 ≤ sizeLine; decide), fun p0 hp0 => ?_⟩
      have s0 := NF.Same.new (o := .tup [V.int 0]) (Same.refl H) hp0
      refine ⟨_, rfl, _, rfl, _, _, rfl, rfl, p0, -k - 1, [V.int 0], rfl, rfl, SqT.of upd_same, by simp, (show 1 ≤ 100 by decide), by omega, by omega, fun p1 H1 s1 t1 => ?_⟩
      rw [rep_zero] at t1
      refine ⟨(by show 1 ≤ sizeLine; decide), fun p2 hp2 => ?_⟩
      have s2 := NF.Same.new (o := .tup [V.int 0]) (Same.refl H1) hp2
      refine ⟨(by show 3 ≤ sizeLine; decide), fun p3 hp3 => ?_⟩
      have s3 := NF.Same.new (o := .tup [V.ref p1, V.ref p2, V.int 1]) (Same.refl _) hp3
      refine q p3 _ (Same.trans s0 (Same.trans s1 (Same.trans s2 s3))) ?_
      unfold shPlain
      rw [if_neg h1]
      exact ⟨p1, p2, SqT.of upd_same, NF.Same.tup s3 (NF.Same.tup s2 t1), NF.Same.tup s3 (SqT.of upd_same)⟩
theorem ok__law_told {f : Addr} {fd : FuncData} (F : FunD K "_law_told" "_law_told" (defArgs s__law_told) (defBody s__law_told) (defScope s__law_told) [] [] f fd) (T : Txt K mg gs FS) (tc : TabC K C) : FnOk P w K mg base CX0 1 f fd ["_law_table_here"] (spTold K C) := by
  refine F.ok sc__law_told (fun vs H Q E h => ?_) (fun cdv A outer s H vs Q E hr h => ?_)
  · obtain ⟨x, y, rfl, _⟩ := h
    rfl
  · obtain ⟨x, ⟨h, l, r⟩, rfl, ⟨dx, a, b, hx, ha, hb⟩, q⟩ := h
    refine ⟨_, PSs.nox (pss_one (ps_ret (pe_tup (pa_cons (pe_fld (pv 0) rfl) (pa_cons (pe_fld (pv 0) rfl) (pa_cons (pe_fld (pv 0) rfl) pa_nil)))))), ?_⟩
    refine ⟨_, rfl, x, C, dx, _, _, rfl, hx, tc.cl, tc.hd, rfl, _, rfl, x, C, dx, _, _, rfl, hx, tc.cl, tc.lp, rfl, _, rfl, x, C, dx, _, _, rfl, hx, tc.cl, tc.ri, rfl, (by show 3 ≤ sizeLine; decide), fun p hp => ?_⟩
    have s1 := NF.Same.new (o := .tup [V.ref a, V.ref b, V.int r]) (Same.refl H) hp
    exact q p _ s1 ⟨a, b, SqT.of upd_same, NF.Same.tup s1 ha, NF.Same.tup s1 hb⟩
end
end K02
set_option Elab.async false
set_option linter.all false
set_option maxRecDepth 100000
set_option maxHeartbeats 4000000
namespace K02
open PySem PySem.Spec PyProof.Rows L2 He NF RZ NT
def spShifts : Sp := fun vs H Q _ => ∃ (H0 : Hp) (p : Addr), vs = [.ref p] ∧ Same H0 H ∧ H0 p = none ∧ Src H p ∧ ∀ H', Same H0 H' → Src H' p → Q (.bl true) H'
theorem sc__law_shifts : FnScope ["_law_source_here", "_law_k", "_law_bad", "error"] ["_law_source_here"] (defScope s__law_shifts) := ⟨rfl, rfl, rfl, by decide +kernel, rfl, by decide +kernel, by decide +kernel⟩
theorem walk1 (a : Int) (j : Nat) : walk [a] 1 j = a + (j : Int) := by
  unfold walk
  show [a].getD (j % 1) 0 + 1 * ((j / 1 : Nat) : Int) = _
  rw [Nat.mod_one, Nat.div_one]
  show a + 1 * (j : Int) = _
  omega
theorem sh_plain (k : Int) : IsPlain (shHead k) [1 + maxO k] 1 (shPlain k) := by
  have min1 : ∀ a : Int, LoopMin [a] 1 := fun a m m0 md _ => Nat.le_antisymm (Nat.le_of_dvd (show 0 < 1 by decide) md) m0
  refine .inr ⟨by simp, ?_, ?_, ?_, fun n hn => ?_⟩
  · unfold shPlain
    by_cases h : 0 ≤ k
    · rw [if_pos h]; simp
    · rw [if_neg h]; simp
  · unfold shPlain
    by_cases h : 0 ≤ k
    · rw [if_pos h]; exact min1 _
    · rw [if_neg h]; exact min1 _
  · unfold shPlain
    by_cases h : 0 ≤ k
    · rw [if_pos h]
      intro j hj
      cases hj
    · rw [if_neg h]
      intro j hj
      show (List.replicate (-k - 1).toNat (0 : Int)).getD j 0 + 1 ≠ 0
      rw [rep_get]
      decide
  · unfold shPlain shHead maxO
    by_cases h : 0 ≤ k
    · rw [if_pos h, if_neg (by omega), show (-k).toNat = 0 by omega]
      rfl
    · rw [if_neg h, if_pos (by omega)]
      dsimp only
      unfold at_
      rw [List.length_replicate, List.length_replicate]
      obtain ⟨m, hm⟩ : ∃ m : Nat, k = -((m : Int) + 1) := ⟨(-k - 1).toNat, by omega⟩
      have e1 : (-k - 1).toNat = m := by omega
      have e2 : (-k).toNat = m + 1 := by omega
      rw [e1, e2, rep_get, rep_get, walk1, walk1]
      by_cases c1 : n ≤ m
      · rw [if_pos c1, if_pos (show n ≤ m + 1 by omega)]
      · rw [if_neg c1, if_neg (show ¬ ([0] : List Int) = [] by simp)]
        by_cases c2 : n ≤ m + 1
        · rw [if_pos c2]
          congr 1
          omega
        · rw [if_neg c2, if_neg (show ¬ ([1 + 0] : List Int) = [] by simp)]
          congr 1
          omega
def bads : List V := [.int 5001, .int (-5001), .str "1", .non, .bl true, .int (10 ^ (20 : Int).toNat)]
theorem at_mem {xs : List V} {d : Int} (h0 : 0 ≤ d) (h1 : d < (xs.length : Int)) : ∃ v, atI xs d = some v ∧ v ∈ xs := by
  obtain ⟨k, rfl⟩ : ∃ k : Nat, d = (k : Int) := ⟨d.toNat, by omega⟩
  have hk : k < xs.length := by omega
  exact ⟨xs[k], atI_nat (List.getElem?_eq_getElem hk), List.getElem_mem hk⟩
theorem bads_ok {K : PySem.W.Frag} (v : V) (h : v ∈ bads) : (∀ H, ThK K H v) ∧ shiftOk v = false ∧ ∃ dt, (∀ H, Dp K H v dt) ∧ SeqAt.shaped dt = true ∧ PyData.eqv dt dt = true := by
  unfold bads at h
  simp only [List.mem_cons, List.not_mem_nil, or_false] at h
  rcases h with rfl | rfl | rfl | rfl | rfl | rfl
  · exact ⟨fun H => .int _, by decide, .int 5001, fun H => .int _, by decide, by decide⟩
  · exact ⟨fun H => .int _, by decide, .int (-5001), fun H => .int _, by decide, by decide⟩
  · exact ⟨fun H => .str _, rfl, .str "1", fun H => .str _, by decide +kernel, by decide +kernel⟩
  · exact ⟨fun H => .non, rfl, .none, fun H => .non, by decide, by decide⟩
  · exact ⟨fun H => .bl _, rfl, .bool true, fun H => .bl _, by decide, by decide⟩
  · exact ⟨fun H => .int _, by decide, .int (10 ^ (20 : Int).toNat), fun H => .int _, by decide, by decide⟩
theorem neF_done {K : PySem.W.Frag} {H : Hp} {a b : Addr} {x y : List Int × List Int × Int} {Q : VK} (hx : FormAt K H a x) (hy : FormAt K H b y) (e : x = y) (q : Q (.bl false) H) : rNeD K (.ref a) (.ref b) H Q := by
  subst e
  obtain ⟨a1, b1, h1, h2, h3⟩ := hx
  obtain ⟨a2, b2, g1, g2, g3⟩ := hy
  have dp : ∀ {p u v : Addr}, SqT K H p [.ref u, .ref v, .int x.2.2] → SqT K H u (vI x.1) → SqT K H v (vI x.2.1) → Dp K H (.ref p) (.tuple [.tuple (x.1.map PyData.int), .tuple (x.2.1.map PyData.int), .int x.2.2]) := fun z1 z2 z3 => .tup z1 (.cons (.tup z2 (dp_ints _)) (.cons (.tup z3 (dp_ints _)) (.cons (.int _) .nil)))
  have sh : SeqAt.shaped (.tuple [.tuple (x.1.map PyData.int), .tuple (x.2.1.map PyData.int), .int x.2.2]) = true := by
    show ((PyData.canLayAll0 (x.1.map PyData.int) && (PyData.canLayAll0 (x.2.1.map PyData.int) && true)) && decide (max (PyData.depthAll (x.1.map PyData.int) + 1) (max (PyData.depthAll (x.2.1.map PyData.int) + 1) (max 0 0)) + 1 ≤ 64)) = true
    rw [lay_ints, lay_ints, depth_ints, depth_ints]
    decide
  refine ⟨_, _, dp h1 h2 h3, dp g1 g2 g3, sh, sh, ?_⟩
  have ev : PyData.eqv (.tuple [.tuple (x.1.map PyData.int), .tuple (x.2.1.map PyData.int), .int x.2.2]) (.tuple [.tuple (x.1.map PyData.int), .tuple (x.2.1.map PyData.int), .int x.2.2]) = true := by
    show (PyData.eqvAll (x.1.map PyData.int) (x.1.map PyData.int) && (PyData.eqvAll (x.2.1.map PyData.int) (x.2.1.map PyData.int) && ((x.2.2 == x.2.2) && true))) = _
    rw [eqv_ints, eqv_ints]
    simp
  rw [ev]
  exact q
section
variable {P : Program} {w : World} {K : PySem.W.Frag} {mg : Str → Option Value} {base : Heap} {gs : List Str} {C : Addr}
theorem ok__law_shifts {f : Addr} {fd : FuncData} (F : FunD K "_law_shifts" "_law_shifts" (defArgs s__law_shifts) (defBody s__law_shifts) (defScope s__law_shifts) [] [] f fd) (T : Txt K mg gs FS) (hT : mg "Table" = some (.ref C)) (m_BadCount : ExcI P w K mg base "BadCount" "thing") (xf_BadCount : XfC K (ga K "BadCount")) (no_BadCount : PySem.W.findIn K (.ref (ga K "BadCount")) "thing" = some none) (ex : PySem.W.exmOne K (.ref (ga K "BadCount")) (.ref (ga K "BadCount")) = some true)
    (o_shift : StaX P w K mg base 6 C "shift" (spShiftT K C)) (c__law_pick : Cal P w K mg base 1 "_law_pick" spPick) (c__law_told : Cal P w K mg base 1 "_law_told" (spTold K C)) (c__law_shift : Cal P w K mg base 1 "_law_shift" (spLShift K)) : FnOk P w K mg base CX0 7 f fd ["_law_source_here"] spShifts := by
  refine F.ok sc__law_shifts (fun vs H Q E h => ?_) (fun cdv A outer s H vs Q E hr h => ?_)
  · obtain ⟨H0, p, rfl, _⟩ := h
    rfl
  · obtain ⟨H0, p, rfl, s0, n0, hs, q⟩ := h
    have hu : (A.deeper (envOfC "_law_shifts" (defScope s__law_shifts) s.heap.objs.size f cdv)).units + 64 < cLine := by
      have := hr.un
      omega
    refine ⟨_, PSs.nox (pss_cons (ps_set (i := 1) sc__law_shifts.nd rfl (Or.inl rfl) (pe_ix (ixl (K := K)) (pe_lst (pa_cons pe_int (pa_cons (pe_un un_neg pe_int) (pa_cons pe_int (pa_cons (pe_un un_neg pe_int) (pa_cons pe_int pa_nil)))))) (pe_c c__law_pick hr (by decide) rfl (pa_cons (pv 0) (pa_cons pe_int pa_nil))) fun _ _ => rfl)) (pss_cons (ps_if (pt_cmpR (op_neD hu) (pe_c c__law_told hr (by decide) rfl (pa_cons (pe_smX takes0 (pe_gl hT) o_shift hr (by decide) (pa_cons (pv 1) pa_nil)) pa_nil)) (pe_c c__law_shift hr (by decide) rfl (pa_cons (pv 1) pa_nil)) (nomark _)) (pss_one (ps_ret pe_bl)) pss_nil) (pss_cons (ps_set (i := 2) sc__law_shifts.nd rfl (Or.inl rfl) (pe_ix (ixl (K := K)) (pe_lst (pa_cons pe_int (pa_cons (pe_un un_neg pe_int) (pa_cons pe_str (pa_cons pe_non (pa_cons pe_bl (pa_cons (pe_op op_pow pe_int pe_int) pa_nil))))))) (pe_c c__law_pick hr (by decide) rfl (pa_cons (pv 0) (pa_cons pe_int pa_nil))) fun _ _ => rfl)) (pss_cons (ps_try_as (i := 3) rfl rfl sc__law_shifts.nd rfl rfl ⟨rfl, by decide, .inl m_BadCount.gm⟩ takes0 (fun W pn xe tk _ => (pss_one (ps_expr (pe_smX tk (pe_gl hT) o_shift hr (by decide) (pa_cons (pv 2) pa_nil))))) (fun a oe cls d pn hz hf => (pss_one (ps_ret (pe_cmpR (op_eqDK (K := K) rfl hu) (pe_xf xf_BadCount no_BadCount hz hf (pv 3)) (pv 2) (nomark _)))))) (pss_one (ps_ret pe_bl)))))), ?_⟩
    refine ⟨_, rfl, _, rfl, (by show 5 ≤ sizeLine; decide), fun t ht => ?_⟩
    have htp : t ≠ p := src_ne (o := .lst []) hs ht
    have s1 : Same H0 (upd H t (.lst (vI [5000, -5000, 4999, -1, 0]))) := NF.Same.put s0 (same_none s0 ht)
    have hs1 : Src (upd H t (.lst (vI [5000, -5000, 4999, -1, 0]))) p := src_put hs htp
    have ht1 : upd H t (.lst (vI [5000, -5000, 4999, -1, 0])) t = some (.lst (vI [5000, -5000, 4999, -1, 0])) := upd_same
    refine ⟨_, rfl, wo _ p, p, 5, rfl, wo_same', wo_none, hs1, by decide, by decide, fun d G2 d0 d1 s2 hs2 => ?_⟩
    obtain ⟨k, hk, k0, k1⟩ := idx_k (l := [5000, -5000, 4999, -1, 0]) (n := 5) (lo := -5000) (hi := 5000) d0 d1 rfl (by decide)
    have s02 := wo_same s1 n0 s2
    refine ⟨t, _, _, _, rfl, rfl, SqL.of (s2 _ _ ((wo_ne htp).trans ht1)), hk, ?_⟩
    have hok : shiftOk (.int k) = true := by
      show (decide (-5000 ≤ k) && decide (k ≤ 5000)) = true
      rw [decide_eq_true k0, decide_eq_true k1]
      rfl
    refine ⟨rfl, _, rfl, .int k, rfl, .int k, fun k' e' _ x y G3 hy s3 tb => ?_, fun z => ?_⟩
    · injection e' with e'
      subst e'
      refine ⟨x, y, rfl, tb, fun pa G4 s4 fa => ?_⟩
      refine ⟨_, rfl, k, rfl, k0, k1, fun pb G5 s5 fb => ?_⟩
      refine neF_done (K := K) (fa.mono s5) fb (plain_one hy (sh_plain k) fun n _ => rfl) ⟨_, rfl, iteF ?_⟩
      have s25 : Same G2 G5 := Same.trans s3 (Same.trans s4 s5)
      have s05 := Same.trans s02 s25
      have hs5 := Src.mono hs2 s25
      refine ⟨_, rfl, _, _, rfl, rfl, ⟨by decide, by decide, by decide⟩, (by show 6 ≤ sizeLine; decide), fun u hub => ?_⟩
      have hup : u ≠ p := src_ne (o := .lst []) hs5 hub
      have s6 : Same H0 (upd G5 u (.lst bads)) := NF.Same.put s05 (same_none s05 hub)
      have hs6 : Src (upd G5 u (.lst bads)) p := src_put hs5 hup
      have hu6 : upd G5 u (.lst bads) u = some (.lst bads) := upd_same
      refine ⟨_, rfl, wo _ p, p, 6, rfl, wo_same', wo_none, hs6, by decide, by decide, fun d G7 d0 d1 s7 hs7 => ?_⟩
      have s07 := wo_same s6 n0 s7
      obtain ⟨v, hv, hm⟩ := at_mem (xs := bads) d0 d1
      obtain ⟨hth, hno, dt, hdp, hsh, heq⟩ := bads_ok (K := K) v hm
      refine ⟨u, _, _, _, rfl, rfl, SqL.of (s7 _ _ ((wo_ne hup).trans hu6)), hv, ?_⟩
      refine ⟨rfl, _, rfl, v, rfl, hth _, fun k' e' z => ?_, fun _ d2 H2 s8 hd2 hx => ⟨true, ex, fun _ a ha => ?_, fun z => Bool.noConfusion z⟩⟩
      · subst e'
        rw [hno] at z
        cases z
      · refine ⟨_, rfl, rfl, rfl, d2, _, _, rfl, hx, rfl, _, rfl, dt, dt, hdp _, hdp _, hsh, hsh, ?_⟩
        rw [heq]
        exact q H2 (Same.trans s07 s8) (Src.mono hs7 s8)
    · rw [hok] at z
      cases z
end
end K02
set_option Elab.async false
set_option linter.all false
set_option maxRecDepth 100000
set_option maxHeartbeats 4000000
namespace K02
open PySem PySem.Spec PyProof.Rows L2 He NF RZ NT
def spSpoilt (K : PySem.W.Frag) : Sp := fun vs H Q _ => ∃ (H0 : Hp) (p a : Addr) (l : List Int), vs = [.ref p, .ref a] ∧ Same H0 H ∧ H0 p = none ∧ Src H p ∧ SqT K H0 a (vI l) ∧ l.length ≤ 100 ∧ ∀ v o H', Same H0 H' → Src H' p → RowIs K (wo H' p) v o → (numsO o).length ≤ 200 → Q v H'
theorem sc__law_spoilt : FnScope ["_law_source_here", "_law_row", "_law_way", "_law_place", "_law_bad"] ["_law_source_here", "_law_row"] (defScope s__law_spoilt) := ⟨rfl, rfl, rfl, by decide +kernel, rfl, by decide +kernel, by decide +kernel⟩
theorem ths_ints {K : PySem.W.Frag} {H : Hp} {l : List Int} : ∀ x, x ∈ vI l → ThK K H x := fun x hx => by
  obtain ⟨i, _, rfl⟩ := List.mem_map.mp hx
  exact .int i
theorem row_is {K : PySem.W.Frag} {H : Hp} {a : Addr} {xs : List V} (h : H a = some (.lst xs)) (t : ∀ x, x ∈ xs → ThK K H x) : RowIs K H (.ref a) (some xs) := .row (.inl (SqL.of h)) t
theorem wo_wo {H H' : Hp} {p : Addr} (s : Same H H') : Same (wo H p) (wo H' p) := fun b u e => by
  have hb : b ≠ p := fun z => by rw [z, wo_none] at e; cases e
  rw [wo_ne hb] at e ⊢
  exact s b u e
theorem nums_len {xs : List V} : (numsO (some xs)).length = xs.length := List.length_map ..
section
variable {P : Program} {w : World} {K : PySem.W.Frag} {mg : Str → Option Value} {base : Heap} {gs : List Str} {C : Addr}
theorem ok__law_spoilt {f : Addr} {fd : FuncData} (F : FunD K "_law_spoilt" "_law_spoilt" (defArgs s__law_spoilt) (defBody s__law_spoilt) (defScope s__law_spoilt) [] [] f fd) (T : Txt K mg gs FS) (c__law_pick : Cal P w K mg base 1 "_law_pick" spPick) : FnOk P w K mg base CX0 2 f fd ["_law_source_here", "_law_row"] (spSpoilt K) := by
  refine F.ok sc__law_spoilt (fun vs H Q E h => ?_) (fun cdv A outer s H vs Q E hr h => ?_)
  · obtain ⟨H0, p, a, l, rfl, _⟩ := h
    rfl
  · obtain ⟨H0, p, a, l, rfl, s0, n0, hs, ha, hl, q⟩ := h
    refine ⟨_, PSs.nox (pss_cons (ps_set (i := 2) sc__law_spoilt.nd rfl (Or.inl rfl) (pe_c c__law_pick hr (by decide) rfl (pa_cons (pv 0) (pa_cons pe_int pa_nil)))) (pss_cons (ps_if (pt_cmpR op_eq (pv 2) pe_int (nomark _)) (pss_one (ps_ret (pe_ix (ixl (K := K)) (pe_lst (pa_cons pe_non (pa_cons pe_int (pa_cons pe_str (pa_cons pe_dnewK (pa_cons pe_bl pa_nil)))))) (pe_c c__law_pick hr (by decide) rfl (pa_cons (pv 0) (pa_cons pe_int pa_nil))) fun _ _ => rfl))) pss_nil) (pss_cons (ps_set (i := 3) sc__law_spoilt.nd rfl (Or.inl rfl) (pe_c c__law_pick hr (by decide) rfl (pa_cons (pv 0) (pa_cons (pe_op op_add (pe_callB call_len_seq rfl (T.fr _ (by decide +kernel)) boot_len (pa_cons (pv 1) pa_nil)) pe_int) pa_nil)))) (pss_cons (ps_set (i := 4) sc__law_spoilt.nd rfl (Or.inl rfl) (pe_ix (ixl (K := K)) (pe_lst (pa_cons pe_bl (pa_cons pe_str (pa_cons pe_non (pa_cons (pe_op op_sub (pe_un un_neg pe_int) (pe_c c__law_pick hr (by decide) rfl (pa_cons (pv 0) (pa_cons pe_int pa_nil)))) (pa_cons (pe_tup (pa_cons pe_int pa_nil)) pa_nil)))))) (pe_c c__law_pick hr (by decide) rfl (pa_cons (pv 0) (pa_cons pe_int pa_nil))) fun _ _ => rfl)) (pss_cons (ps_if (PW.pt (pw_and (pt_cmpR op_eq (pv 2) pe_int (nomark _)) (pw_and1 (pt_cmpR op_lt (pv 3) (pe_callB call_len_seq rfl (T.fr _ (by decide +kernel)) boot_len (pa_cons (pv 1) pa_nil)) (nomark _))))) (pss_one (ps_ret (pe_op op_cat (pe_op op_cat (pe_callTy call_list_of rfl (T.fr _ (by decide +kernel)) (by decide +kernel) (pa_cons (pe_slice sl_tupA (pv 1) po_none (po_some (pv 3))) pa_nil)) (pe_lst (pa_cons (pe_op op_add (pe_ix (ixt (K := K)) (pv 1) (pv 3) fun _ _ => rfl) pe_int) pa_nil))) (pe_callTy call_list_of rfl (T.fr _ (by decide +kernel)) (by decide +kernel) (pa_cons (pe_slice sl_tupA (pv 1) (po_some (pv 3)) po_none) pa_nil))))) pss_nil) (pss_cons (ps_if (PW.pt (pw_and (pt_cmpR op_eq (pv 2) pe_int (nomark _)) (pw_and1 (pt_cmpR op_gt (pe_callB call_len_seq rfl (T.fr _ (by decide +kernel)) boot_len (pa_cons (pv 1) pa_nil)) pe_int (nomark _))))) (pss_one (ps_ret (pe_ifExp (pt_cmpR op_gt (pe_ix (ixt (K := K)) (pv 1) (pe_un un_neg pe_int) fun _ _ => rfl) pe_int (nomark _)) (pe_op op_cat (pe_callTy call_list_of rfl (T.fr _ (by decide +kernel)) (by decide +kernel) (pa_cons (pv 1) pa_nil)) (pe_lst (pa_cons (pe_op op_sub (pe_ix (ixt (K := K)) (pv 1) (pe_un un_neg pe_int) fun _ _ => rfl) pe_int) pa_nil))) (pe_op op_cat (pe_callTy call_list_of rfl (T.fr _ (by decide +kernel)) (by decide +kernel) (pa_cons (pv 1) pa_nil)) (pe_lst (pa_cons (pe_un un_neg pe_int) pa_nil)))))) pss_nil) (pss_one (ps_ret (pe_op op_cat (pe_op op_cat (pe_callTy call_list_of rfl (T.fr _ (by decide +kernel)) (by decide +kernel) (pa_cons (pe_slice sl_tupA (pv 1) po_none (po_some (pv 3))) pa_nil)) (pe_lst (pa_cons (pv 4) pa_nil))) (pe_callTy call_list_of rfl (T.fr _ (by decide +kernel)) (by decide +kernel) (pa_cons (pe_slice sl_tupA (pv 1) (po_some (pv 3)) po_none) pa_nil))))))))))), ?_⟩
    refine ⟨_, rfl, wo H p, p, 6, rfl, wo_same', wo_none, hs, by decide, by decide, fun way G1 _ _ s1 hs1 => ?_⟩
    have s01 := wo_same s0 n0 s1
    refine ⟨_, rfl, rfl, _, rfl, ite2 (fun _ => ?_) (fun _ => ?_)⟩
    · intro pd hpd
      have s2 := NF.Same.new (o := .dK []) (Same.refl G1) hpd
      refine ⟨(by show 5 ≤ sizeLine; decide), fun t ht => ?_⟩
      have s3 := NF.Same.new (o := .lst [V.non, .int 7, .str "12", .ref pd, .bl true]) s2 ht
      have hs3 := Src.mono hs1 s3
      have htp : t ≠ p := src_ne (o := .lst []) (Src.mono hs1 s2) ht
      refine ⟨_, rfl, wo _ p, p, 5, rfl, wo_same', wo_none, hs3, by decide, by decide, fun d G4 d0 d1 s4 hs4 => ?_⟩
      obtain ⟨v, hv, hm⟩ := at_mem (xs := [V.non, .int 7, .str "12", .ref pd, .bl true]) d0 d1
      have s04 := wo_same (Same.trans s01 s3) n0 s4
      refine ⟨t, _, _, _, rfl, rfl, SqL.of (s4 _ _ ((wo_ne htp).trans upd_same)), hv, ?_⟩
      have hpp : pd ≠ p := src_ne (o := .lst []) hs1 hpd
      have hd4 : G4 pd = some (.dK []) := s4 _ _ ((wo_ne hpp).trans (by rw [upd_ne (ne_of_none upd_same ht)]; exact upd_same))
      refine q v none G4 s04 hs4 ?_ (Nat.zero_le _)
      simp only [List.mem_cons, List.not_mem_nil, or_false] at hm
      rcases hm with rfl | rfl | rfl | rfl | rfl
      · exact .non
      · exact .int _
      · exact .str _
      · exact .dict (.base (.dK ((wo_ne hpp).trans hd4)))
      · exact .bl _
    -- the place
    refine ⟨_, rfl, _, rfl, a, _, rfl, Or.inr (NF.Same.tup s01 ha), _, _, rfl, rfl, ?_⟩
    rw [vI_len]
    refine ⟨wo G1 p, p, (l.length : Int) + 1, rfl, wo_same', wo_none, hs1, by omega, by omega, fun pl G2 pl0 pl1 s2 hs2 => ?_⟩
    have s02 := wo_same s01 n0 s2
    obtain ⟨k, rfl⟩ : ∃ k : Nat, pl = (k : Int) := ⟨pl.toNat, by omega⟩
    -- the bad one
    refine ⟨_, rfl, _, rfl, wo G2 p, p, 5, rfl, wo_same', wo_none, hs2, by decide, by decide, fun d G3 d0 d1 s3 hs3 => ?_⟩
    have s03 := wo_same s02 n0 s3
    refine ⟨_, _, rfl, rfl, (by show 1 ≤ sizeLine; decide), fun pt hpt => ?_⟩
    have s34 := NF.Same.new (o := .tup [V.int 4]) (Same.refl G3) hpt
    refine ⟨(by show 5 ≤ sizeLine; decide), fun t ht => ?_⟩
    have s35 := NF.Same.new (o := .lst [V.bl true, .str "3", .non, .int (-1 - d), .ref pt]) s34 ht
    have hs5 := Src.mono hs3 s35
    have htp : t ≠ p := src_ne (o := .lst []) (Src.mono hs3 s34) ht
    have hptp : pt ≠ p := src_ne (o := .lst []) hs3 hpt
    have hpt5 : upd (upd G3 pt (.tup [V.int 4])) t (.lst [V.bl true, .str "3", .non, .int (-1 - d), .ref pt]) pt = some (.tup [V.int 4]) := by
      rw [upd_ne (ne_of_none upd_same ht)]
      exact upd_same
    refine ⟨_, rfl, wo _ p, p, 5, rfl, wo_same', wo_none, hs5, by decide, by decide, fun d' G6 d0 d1 s6 hs6 => ?_⟩
    have s06 := wo_same (Same.trans s03 s35) n0 s6
    obtain ⟨v, hv, hm⟩ := at_mem (xs := [V.bl true, .str "3", .non, .int (-1 - d), .ref pt]) d0 d1
    refine ⟨t, _, _, _, rfl, rfl, SqL.of (s6 _ _ ((wo_ne htp).trans upd_same)), hv, ?_⟩
    have hpt6 : G6 pt = some (.tup [V.int 4]) := s6 _ _ ((wo_ne hptp).trans hpt5)
    have hth : ThK K (wo G6 p) v := by
      simp only [List.mem_cons, List.not_mem_nil, or_false] at hm
      rcases hm with rfl | rfl | rfl | rfl | rfl
      · exact .bl _
      · exact .str _
      · exact .non
      · exact .int _
      · exact .ref (.base (.tup ((wo_ne hptp).trans hpt6))) (.inl rfl)
    have ha6 := NF.Same.tup s06 ha
    have hcat : ∀ {te : TE} {x : V}, (∀ {G : Hp} {W : VK}, Same G6 G → W x G → te [some (.ref p), some (.ref a), some (.int way), some (.int (k : Int)), some v] G W) → ThK K (wo G6 p) x →
        (tRet (tOp rCat (tOp rCat (tCB (fun xs H Q => ∃ p ys, xs = [.ref p] ∧ (SqL K H p ys ∨ SqT K H p ys) ∧ ∀ l, H l = none → Q (.ref l) (upd H l (.lst ys))) (tCons (tSl (rSlA K) (tVar 1) tNoPart (tPart (tVar 3))) tNil)) (tLst (tCons te tNil)))
          (tCB (fun xs H Q => ∃ p ys, xs = [.ref p] ∧ (SqL K H p ys ∨ SqT K H p ys) ∧ ∀ l, H l = none → Q (.ref l) (upd H l (.lst ys))) (tCons (tSl (rSlA K) (tVar 1) (tPart (tVar 3)) tNoPart) tNil)))) { nx := fun _ H' => Q .non H', rt := Q } [some (.ref p), some (.ref a), some (.int way), some (.int (k : Int)), some v] G6 := by
      intro te x hte hx
      refine ⟨_, rfl, _, rfl, _, rfl, ?_⟩
      refine slA_done (K := K) ha6 fun p1 H1 t1 u1 => ?_
      rw [cut_to, vI_take] at u1
      refine ⟨p1, _, rfl, Or.inr u1, fun q1 hq1 => ?_⟩
      have t2 := NF.Same.new (o := .lst (vI (l.take k))) t1 hq1
      refine hte t2 ?_
      refine ⟨(by show 1 ≤ sizeLine; decide), fun q2 hq2 => ?_⟩
      have t3 := NF.Same.new (o := .lst [x]) t2 hq2
      have g1 : upd (upd H1 q1 (.lst (vI (l.take k)))) q2 (.lst [x]) q1 = some (.lst (vI (l.take k))) := by
        rw [upd_ne (ne_of_none upd_same hq2)]
        exact upd_same
      refine ⟨q1, q2, _, _, rfl, rfl, g1, upd_same, ?_, fun q3 hq3 => ?_⟩
      · rw [vI_len, List.length_take]
        exact Nat.le_trans (show min k l.length + 1 ≤ 200 by omega) (by decide)
      have t4 := NF.Same.new (o := .lst (vI (l.take k) ++ [x])) t3 hq3
      have g3 : upd (upd (upd H1 q1 (.lst (vI (l.take k)))) q2 (.lst [x])) q3 (.lst (vI (l.take k) ++ [x])) q3 = some (.lst (vI (l.take k) ++ [x])) := upd_same
      refine ⟨_, rfl, _, rfl, _, rfl, ?_⟩
      refine slA_from (K := K) (NF.Same.tup t4 ha6) fun p4 H4 t5 u4 => ?_
      rw [cut_from, vI_drop] at u4
      refine ⟨p4, _, rfl, Or.inr u4, fun q5 hq5 => ?_⟩
      have t6 := NF.Same.new (o := .lst (vI (l.drop k))) t5 hq5
      refine ⟨q3, q5, _, _, rfl, rfl, t6 _ _ g3, upd_same, ?_, fun q6 hq6 => ?_⟩
      · rw [List.length_append, vI_len, vI_len, List.length_take, List.length_drop]
        exact Nat.le_trans (show min k l.length + 1 + (l.length - k) ≤ 400 by omega) (by decide)
      have t7 := NF.Same.new (o := .lst (vI (l.take k) ++ [x] ++ vI (l.drop k))) (Same.trans t4 t6) hq6
      refine q _ (some (vI (l.take k) ++ [x] ++ vI (l.drop k))) _ (Same.trans s06 t7) (Src.mono hs6 t7) (row_is ((wo_ne (src_ne (o := .lst []) (Src.mono hs6 (Same.trans t4 t6)) hq6)).trans upd_same) fun y hy => ?_) ?_
      · rcases List.mem_append.mp hy with hy | hy
        · rcases List.mem_append.mp hy with hy | hy
          · exact ths_ints y hy
          · rw [List.mem_singleton.mp hy]
            exact hx.mono (wo_wo t7)
        · exact ths_ints y hy
      · rw [nums_len, List.length_append, List.length_append, vI_len, vI_len, List.length_take, List.length_drop]
        show min k l.length + 1 + (l.length - k) ≤ 200
        omega
    have hend : (tIfS (tAnd (tTest (tOp rEq (tVar 2) (tC (.int 2)))) (tTest (tOp (rI0 fun i j => .bl (decide (j < i))) (tCB (fun xs H Q => ∃ a ys, xs = [.ref a] ∧ (SqL K H a ys ∨ SqT K H a ys) ∧ Q (.int (ys.length : Int)) H) (tCons (tVar 1) tNil)) (tC (.int 0)))))
        (tRet (tIf (tTest (tOp (rI0 fun i j => .bl (decide (j < i))) (tOp (rIxT K) (tVar 1) (tUn (rU fun i => .int (-i)) (tC (.int 1)))) (tC (.int 0))))
          (tOp rCat (tCB (fun xs H Q => ∃ p ys, xs = [.ref p] ∧ (SqL K H p ys ∨ SqT K H p ys) ∧ ∀ l, H l = none → Q (.ref l) (upd H l (.lst ys))) (tCons (tVar 1) tNil)) (tLst (tCons (tOp (rI0 fun i j => .int (i - j)) (tOp (rIxT K) (tVar 1) (tUn (rU fun i => .int (-i)) (tC (.int 1)))) (tC (.int 1))) tNil)))
          (tOp rCat (tCB (fun xs H Q => ∃ p ys, xs = [.ref p] ∧ (SqL K H p ys ∨ SqT K H p ys) ∧ ∀ l, H l = none → Q (.ref l) (upd H l (.lst ys))) (tCons (tVar 1) tNil)) (tLst (tCons (tUn (rU fun i => .int (-i)) (tC (.int 1))) tNil))))) tNext)
        { nx := fun σ H' => (tRet (tOp rCat (tOp rCat (tCB (fun xs H Q => ∃ p ys, xs = [.ref p] ∧ (SqL K H p ys ∨ SqT K H p ys) ∧ ∀ l, H l = none → Q (.ref l) (upd H l (.lst ys))) (tCons (tSl (rSlA K) (tVar 1) tNoPart (tPart (tVar 3))) tNil)) (tLst (tCons (tVar 4) tNil)))
          (tCB (fun xs H Q => ∃ p ys, xs = [.ref p] ∧ (SqL K H p ys ∨ SqT K H p ys) ∧ ∀ l, H l = none → Q (.ref l) (upd H l (.lst ys))) (tCons (tSl (rSlA K) (tVar 1) (tPart (tVar 3)) tNoPart) tNil)))) { nx := fun _ H' => Q .non H', rt := Q } σ H', rt := Q } [some (.ref p), some (.ref a), some (.int way), some (.int (k : Int)), some v] G6 := by
      have hlast := hcat (te := tVar 4) (x := v) (fun {G W} _ w => ⟨_, rfl, w⟩) hth
      have one : ∀ (i : Int) {q1 q2 : Addr} {G8 : Hp}, Same G6 G8 → G8 q1 = some (.lst (vI l)) → G8 q2 = some (.lst [.int i]) → rCat (.ref q1) (.ref q2) G8 Q := fun i {q1 q2 G8} sG g1 g2 => by
        refine ⟨q1, q2, _, _, rfl, rfl, g1, g2, ?_, fun q3 hq3 => ?_⟩
        · rw [vI_len]
          exact Nat.le_trans (show l.length + 1 ≤ 200 by omega) (by decide)
        have t7 := NF.Same.new (o := .lst (vI l ++ [V.int i])) sG hq3
        refine q _ (some (vI l ++ [V.int i])) _ (Same.trans s06 t7) (Src.mono hs6 t7) (row_is ((wo_ne (src_ne (o := .lst []) (Src.mono hs6 sG) hq3)).trans upd_same) fun y hy => ?_) ?_
        · rcases List.mem_append.mp hy with hy | hy
          · exact ths_ints y hy
          · rw [List.mem_singleton.mp hy]
            exact .int i
        · rw [nums_len, List.length_append, vI_len]
          show l.length + 1 ≤ 200
          omega
      refine ⟨_, rfl, rfl, _, rfl, ite2 (fun _ => ?_) (fun _ => ?_)⟩
      · refine ⟨_, rfl, a, _, rfl, Or.inr ha6, _, _, rfl, rfl, _, rfl, ite2 (fun h1 => ?_) (fun _ => hlast)⟩
        have hp0 : 0 < l.length := by
          have := of_decide_eq_true h1
          rw [vI_len] at this
          omega
        refine ⟨_, rfl, _, rfl, a, _, _, _, rfl, rfl, ha6, at_last hp0, _, _, rfl, rfl, _, rfl, ite2 (fun _ => ?_) (fun _ => ?_)⟩
        · refine ⟨_, rfl, a, _, rfl, Or.inr ha6, fun q1 hq1 => ?_⟩
          have t1 := NF.Same.new (o := .lst (vI l)) (Same.refl G6) hq1
          refine ⟨_, rfl, _, rfl, a, _, _, _, rfl, rfl, NF.Same.tup t1 ha6, at_last hp0, _, _, rfl, rfl, (by show 1 ≤ sizeLine; decide), fun q2 hq2 => ?_⟩
          exact one _ (NF.Same.new t1 hq2) (by rw [upd_ne (ne_of_none upd_same hq2)]; exact upd_same) upd_same
        · refine ⟨_, rfl, a, _, rfl, Or.inr ha6, fun q1 hq1 => ?_⟩
          have t1 := NF.Same.new (o := .lst (vI l)) (Same.refl G6) hq1
          refine ⟨_, rfl, (by show 1 ≤ sizeLine; decide), fun q2 hq2 => ?_⟩
          exact one _ (NF.Same.new t1 hq2) (by rw [upd_ne (ne_of_none upd_same hq2)]; exact upd_same) upd_same
      · exact iteF hlast
    refine ⟨_, rfl, rfl, _, rfl, ite2 (fun _ => ?_) (fun _ => ?_)⟩
    · refine ⟨_, rfl, _, rfl, a, _, rfl, Or.inr ha6, _, _, rfl, rfl, _, rfl, ite2 (fun h1 => ?_) (fun h1 => ?_)⟩
      · have hk : k < l.length := by
          have := of_decide_eq_true h1
          rw [vI_len] at this
          omega
        refine hcat (fun {G W} sG w => ?_) (.int (l.getD k 0 + 1))
        exact ⟨_, rfl, _, rfl, a, _, _, _, rfl, rfl, NF.Same.tup sG ha6, at_int (k := k) rfl hk, _, _, rfl, rfl, w⟩
      · exact hend
    · exact iteF hend
end
end K02
set_option Elab.async false
set_option linter.all false
set_option maxRecDepth 100000
set_option maxHeartbeats 4000000
namespace K02
open PySem PySem.Spec PyProof.Rows L2 He NF RZ NT
def spLaw (K : PySem.W.Frag) : Sp := fun vs H Q _ => ∃ (l : Addr) (ns : List Int), vs = [.ref l] ∧ SqL K H l (ns.map V.int) ∧ ns.length ≤ 63 ∧ (∀ k ∈ ns, Builtin.Int.intBits k ≤ 1048576) ∧ ∀ H', Q (.bl true) H'
theorem sc_law : FnScope ["_law_script", "_law_source_here", "_law_raw_here", "_law_way", "_law_table_here", "_law_thing", "_law_head", "_law_loop", "_law_rise", "_law_one"] ["_law_script"] (defScope s_law) := ⟨rfl, rfl, rfl, by decide +kernel, rfl, by decide +kernel, by decide +kernel⟩
theorem FormAt.wo {K : PySem.W.Frag} {H : Hp} {q p : Addr} {y : List Int × List Int × Int} (h : FormAt K H q y) (hs : Src H p) : FormAt K (NF.wo H p) q y := by
  obtain ⟨_, _, _, hp⟩ := hs
  obtain ⟨a, b, h1, h2, h3⟩ := h
  exact ⟨a, b, NF.SqT.wo h1 hp trivial, NF.SqT.wo h2 hp trivial, NF.SqT.wo h3 hp trivial⟩
theorem tabWoS {K : PySem.W.Frag} {C : Addr} {H : Hp} {x p : Addr} {y : List Int × List Int × Int} (h : TabAt K C H x y) (hs : Src H p) : TabAt K C (NF.wo H p) x y := by
  obtain ⟨_, _, _, hp⟩ := hs
  exact h.wo hp
theorem wo_up {A G : Hp} {p : Addr} (s : Same (NF.wo A p) G) : Same (NF.wo A p) (NF.wo G p) := fun b u e => by
  have hb : b ≠ p := fun z => by rw [z, wo_none] at e; cases e
  rw [wo_ne hb]
  exact s b u e
theorem iteF' {b : Bool} {A B : Prop} (e : b = false) (h : B) : if b = true then A else B := by rw [e]; exact iteF h
theorem word_scal (o : Option Str) : scal (wordV o) (wordV o) = true := by cases o <;> rfl
section
variable {P : Program} {w : World} {K : PySem.W.Frag} {mg : Str → Option Value} {base : Heap} {gs : List Str} {C : Addr}
theorem ok_law {f : Addr} {fd : FuncData} (F : FunD K "law" "law" (defArgs s_law) (defBody s_law) (defScope s_law) [] [] f fd) (T : Txt K mg gs FS) (tc : TabC K C)
    (c__law_source : Cal P w K mg base 1 "_law_source" (spSource K)) (c__law_pick : Cal P w K mg base 1 "_law_pick" spPick) (c__law_raw : Cal P w K mg base 3 "_law_raw" (spRaw K)) (c__law_spoilt : Cal P w K mg base 2 "_law_spoilt" (spSpoilt K)) (c__law_seen : Cal P w K mg base 6 "_law_seen" (spSeen K)) (c__law_due : Cal P w K mg base 4 "_law_due" (spDue K)) (c__law_table : CalX P w K mg base 6 "_law_table" (spLTableT K C))
    (c__law_refused_value : Cal P w K mg base 4 "_law_refused_value" (spRefused K C)) (c__law_shifts : Cal P w K mg base 7 "_law_shifts" spShifts) (o_call : CalOX P w K mg base 3 C (spAtT K C)) : FnOk P w K mg base CX0 8 f fd ["_law_script"] (spLaw K) := by
  refine F.ok sc_law (fun vs H Q E h => ?_) (fun cdv A outer s H vs Q E hr h => ?_)
  · obtain ⟨l, ns, rfl, _⟩ := h
    rfl
  · obtain ⟨sl, ns, rfl, hsl, hlen, hbits, k⟩ := h
    have hu : (A.deeper (envOfC "law" (defScope s_law) s.heap.objs.size f cdv)).units + 64 < cLine := by
      have := hr.un
      omega
    refine ⟨_, PSs.nox (pss_cons (ps_set (i := 1) sc_law.nd rfl (Or.inr rfl) (pe_c c__law_source hr (by decide) rfl (pa_cons (pv 0) (pa_cons pe_int pa_nil)))) (pss_cons (ps_set (i := 2) sc_law.nd rfl (Or.inl rfl) (pe_c c__law_raw hr (by decide) rfl (pa_cons (pv 1) (pa_cons pe_bl pa_nil)))) (pss_cons (ps_par3 (i := 6) (j := 7) (l := 8) (by rfl) sc_law.nd rfl rfl rfl (by decide) (by decide) (by decide) rfl rfl rfl (pa_cons (pe_ix (ixt (K := K)) (pv 2) pe_int fun _ _ => rfl) (pa_cons (pe_ix (ixt (K := K)) (pv 2) pe_int fun _ _ => rfl) (pa_cons (pe_ix (ixt (K := K)) (pv 2) pe_int fun _ _ => rfl) pa_nil))) (by rfl)) (pss_cons (ps_set (i := 3) sc_law.nd rfl (Or.inl rfl) (pe_c c__law_pick hr (by decide) rfl (pa_cons (pv 1) (pa_cons pe_int pa_nil)))) (pss_cons (ps_if (pt_cmpR op_in_seq (pv 3) (pe_tup (pa_cons pe_int (pa_cons pe_int (pa_cons pe_int pa_nil)))) rfl) (pss_one (ps_set (i := 6) sc_law.nd rfl (Or.inl rfl) (pe_c c__law_spoilt hr (by decide) rfl (pa_cons (pv 1) (pa_cons (pv 6) pa_nil))))) pss_nil) (pss_cons (ps_if (pt_cmpR op_in_seq (pv 3) (pe_tup (pa_cons pe_int (pa_cons pe_int (pa_cons pe_int pa_nil)))) rfl) (pss_one (ps_set (i := 7) sc_law.nd rfl (Or.inl rfl) (pe_c c__law_spoilt hr (by decide) rfl (pa_cons (pv 1) (pa_cons (pv 7) pa_nil))))) pss_nil) (pss_cons (ps_if (pt_cmpR op_in_seq (pv 3) (pe_tup (pa_cons pe_int (pa_cons pe_int (pa_cons pe_int pa_nil)))) rfl) (pss_one (ps_set (i := 8) sc_law.nd rfl (Or.inl rfl) (pe_ix (ixl (K := K)) (pe_lst (pa_cons (pe_op op_sub (pv 8) pe_int) (pa_cons (pe_un un_neg pe_int) (pa_cons pe_bl (pa_cons pe_non (pa_cons pe_str (pa_cons pe_int pa_nil))))))) (pe_c c__law_pick hr (by decide) rfl (pa_cons (pv 1) (pa_cons pe_int pa_nil))) fun _ _ => rfl))) pss_nil) (pss_cons (ps_if (pt_cmpR op_eq (pv 3) pe_int (nomark _)) (pss_one (ps_set (i := 7) sc_law.nd rfl (Or.inl rfl) (pe_callTy cr_tup rfl (T.fr _ (by decide +kernel)) (by decide +kernel) (pa_cons (pe_lc (own := [("_law_one", 9)]) rfl sc_law.nd (pi_tup (pe_ix (ixt (K := K)) (pv 2) pe_int fun _ _ => rfl)) (blkOk_by (N := ["_law_script", "_law_source_here", "_law_raw_here", "_law_way", "_law_table_here", "_law_thing", "_law_head", "_law_loop", "_law_rise", "_law_one"]) (sc := defScope s_law) (by decide +kernel)) (fun _ _ _ _ _ => by exact (pg_name (i := 9) sc_law.nd rfl (Or.inl rfl))) (fun _ _ _ _ _ => by exact pts_nil) (fun _ _ _ _ _ => by exact (pe_callB (call_max2 rfl) rfl (T.fr _ (by decide +kernel)) (by decide +kernel) (pa_cons pe_int (pa_cons (pe_op op_sub (pe_op op_sub (pv 9) pe_int) (pe_c c__law_pick hr (by decide) rfl (pa_cons (pv 1) (pa_cons pe_int pa_nil)))) pa_nil))))) pa_nil)))) pss_nil) (pss_cons (ps_if (pt_cmpR op_eq (pv 3) pe_int (nomark _)) (pss_one (ps_set (i := 6) sc_law.nd rfl (Or.inl rfl) (pe_op op_repA (pe_tup (pa_cons pe_int pa_nil)) pe_int))) pss_nil) (pss_cons (ps_if (pt_cmpR op_ne (pe_c c__law_seen hr (by decide) rfl (pa_cons (pv 6) (pa_cons (pv 7) (pa_cons (pv 8) pa_nil)))) (pe_c c__law_due hr (by decide) rfl (pa_cons (pv 6) (pa_cons (pv 7) (pa_cons (pv 8) pa_nil)))) (nomark _)) (pss_one (ps_ret pe_bl)) pss_nil) (pss_cons (ps_if (pt_cmpR op_notN (pe_c c__law_seen hr (by decide) rfl (pa_cons (pe_ix (ixt (K := K)) (pv 2) pe_int fun _ _ => rfl) (pa_cons (pe_ix (ixt (K := K)) (pv 2) pe_int fun _ _ => rfl) (pa_cons (pe_ix (ixt (K := K)) (pv 2) pe_int fun _ _ => rfl) pa_nil)))) pe_non (nomark _)) (pss_one (ps_ret pe_bl)) pss_nil) (pss_cons (ps_set (i := 4) sc_law.nd rfl (Or.inl rfl) (pe_cX takes0 c__law_table hr (by decide) rfl (pa_cons (pv 2) pa_nil))) (pss_cons (ps_for PassesOwn.never rfl (pi_list (pe_lst (pa_cons pe_bl (pa_cons pe_str (pa_cons (pe_un un_neg pe_int) (pa_cons (pe_tup (pa_cons pe_int pa_nil)) (pa_cons (pe_un un_neg (pe_op op_pow pe_int pe_int)) pa_nil))))))) (pg_name (i := 5) sc_law.nd rfl (Or.inl rfl)) (pss_one (ps_if (pt_not (pt_val (pe_c c__law_refused_value hr (by decide) rfl (pa_cons (pv 4) (pa_cons (pv 5) pa_nil))))) (pss_one (ps_ret pe_bl)) pss_nil))) (pss_one (ps_ret (pe_and (pe_c c__law_shifts hr (by decide) rfl (pa_cons (pv 1) pa_nil)) (pe_one (pe_cmpR op_eq (pe_coX takes0 (pv 4) o_call hr (by decide) (pa_cons pe_int pa_nil)) pe_int (nomark _))))))))))))))))))), ?_⟩
    refine ⟨_, rfl, sl, ns, 0, rfl, hsl, hlen, hbits, by decide, fun p G1 s1 hp hs1 => ?_⟩
    refine ⟨_, rfl, wo G1 p, p, rfl, wo_same', wo_none, hs1, fun q x G2 s2 hs2 ok fo => ?_⟩
    have o1 := ok.h
    have o2 := ok.l
    obtain ⟨a, b, hq, ha, hb⟩ := id (fo.wo hs2)
    have hq2 := NF.Same.tup (wo_same' (p := p)) hq
    refine ⟨_, rfl, q, _, _, _, rfl, rfl, hq2, at0, _, rfl, q, _, _, _, rfl, rfl, hq2, at1, _, rfl, q, _, _, _, rfl, rfl, hq2, at2, _, _, _, rfl, ?_⟩
    refine ⟨_, rfl, wo G2 p, p, 12, rfl, wo_same', wo_none, hs2, by decide, by decide, fun way G3 _ _ s3 hs3 => ?_⟩
    have rowA : ∀ {G}, Same (wo G2 p) G → RowIs K (wo G p) (.ref a) (some (vI x.1)) := fun sG => row_ints (.inr (NF.Same.tup (wo_up sG) ha))
    have rowB : ∀ {G}, Same (wo G2 p) G → RowIs K (wo G p) (.ref b) (some (vI x.2.1)) := fun sG => row_ints (.inr (NF.Same.tup (wo_up sG) hb))
    have n1 : (numsO (some (vI x.1))).length = x.1.length := by rw [nums_len, vI_len]
    have n2 : (numsO (some (vI x.2.1))).length = x.2.1.length := by rw [nums_len, vI_len]
    -- the head
    refine (show (∀ (v1 : V) (o1 : Option (List V)) (G : Hp), Same (wo G2 p) G → Src G p → RowIs K (wo G p) v1 o1 → (numsO o1).length ≤ 200 → (?R1 : V → Hp → Prop) v1 G) → _ from fun kk => ?A1) ?B1
    case A1 =>
      refine ⟨_, rfl, (by show 3 ≤ sizeLine; decide), fun p0 hp0 => ⟨p0, _, rfl, Or.inr (SqT.of upd_same), rfl, rfl, _, rfl, ite2 (fun _ => ?_) (fun _ => ?_)⟩⟩
      · have sn := NF.Same.new (o := .tup [V.int 0, V.int 1, V.int 6]) (Same.refl G3) hp0
        have sx := Same.trans s3 sn
        refine ⟨_, rfl, _, rfl, wo G2 p, p, a, x.1, rfl, sx, wo_none, Src.mono hs3 sn, ha, o1, fun v o G sG hsG hr hz => ?_⟩
        exact kk v o G sG hsG hr hz
      · have sn := NF.Same.new (o := .tup [V.int 0, V.int 1, V.int 6]) (Same.refl G3) hp0
        have sx := Same.trans s3 sn
        exact kk (.ref a) _ _ sx (Src.mono hs3 sn) (rowA sx) (by omega)
    case B1 =>
      intro v1 r1 G4 s4 hs4 hr1 hz1
      -- the loop
      refine (show (∀ (v2 : V) (o2 : Option (List V)) (G : Hp), Same (wo G2 p) G → Src G p → RowIs K (wo G p) v1 r1 → RowIs K (wo G p) v2 o2 → (numsO o2).length ≤ 200 → (?R2 : V → Hp → Prop) v2 G) → _ from fun kk => ?A2) ?B2
      case A2 =>
        refine ⟨_, rfl, (by show 3 ≤ sizeLine; decide), fun p0 hp0 => ⟨p0, _, rfl, Or.inr (SqT.of upd_same), rfl, rfl, _, rfl, ite2 (fun _ => ?_) (fun _ => ?_)⟩⟩
        · have sn := NF.Same.new (o := .tup [V.int 1, V.int 2, V.int 7]) (Same.refl G4) hp0
          have sx := Same.trans s4 sn
          have hr1' := hr1.mono (wo_wo (p := p) sn)
          refine ⟨_, rfl, _, rfl, wo _ p, p, b, x.2.1, rfl, wo_same', wo_none, Src.mono hs4 sn, NF.Same.tup (wo_up sx) hb, o2, fun v o G sG hsG hr hz => ?_⟩
          exact kk v o G (wo_same sx wo_none sG) hsG (hr1'.mono (wo_up sG)) hr hz
        · have sn := NF.Same.new (o := .tup [V.int 1, V.int 2, V.int 7]) (Same.refl G4) hp0
          have sx := Same.trans s4 sn
          exact kk (.ref b) _ _ sx (Src.mono hs4 sn) (hr1.mono (wo_wo sn)) (rowB sx) (by omega)
      case B2 =>
        intro v2 r2 G5 s5 hs5 hr1 hr2 hz2
        -- the rise
        refine (show (∀ (v3 : V) (G : Hp), Same (wo G2 p) G → Src G p → RowIs K (wo G p) v1 r1 → RowIs K (wo G p) v2 r2 → ThK K (wo G p) v3 → (?R3 : V → Hp → Prop) v3 G) → _ from fun kk => ?A3) ?B3
        case A3 =>
          refine ⟨_, rfl, (by show 3 ≤ sizeLine; decide), fun p0 hp0 => ⟨p0, _, rfl, Or.inr (SqT.of upd_same), rfl, rfl, _, rfl, ite2 (fun _ => ?_) (fun _ => ?_)⟩⟩
          · have sn := NF.Same.new (o := .tup [V.int 3, V.int 1, V.int 7]) (Same.refl G5) hp0
            have sx := Same.trans s5 sn
            have hsx := Src.mono hs5 sn
            refine ⟨_, rfl, _, _, rfl, rfl, _, rfl, (by show 6 ≤ sizeLine; decide), fun t ht => ?_⟩
            have htp : t ≠ p := src_ne (o := .lst []) hsx ht
            have st := NF.Same.new (o := .lst [V.int (x.2.2 - 1), .int (-1), .bl true, .non, .str "2", .int 1]) (Same.refl _) ht
            refine ⟨_, rfl, wo _ p, p, 6, rfl, wo_same', wo_none, Src.mono hsx st, by decide, by decide, fun d G6 d0 d1 s6 hs6 => ?_⟩
            obtain ⟨v, hv, hm⟩ := at_mem (xs := [V.int (x.2.2 - 1), .int (-1), .bl true, .non, .str "2", .int 1]) d0 d1
            refine ⟨t, _, _, _, rfl, rfl, SqL.of (s6 _ _ ((wo_ne htp).trans upd_same)), hv, ?_⟩
            have hall := wo_same (Same.trans sx st) wo_none s6
            refine kk v G6 hall hs6 ((hr1.mono (wo_wo (Same.trans sn st))).mono (wo_up s6)) ((hr2.mono (wo_wo (Same.trans sn st))).mono (wo_up s6)) ?_
            simp only [List.mem_cons, List.not_mem_nil, or_false] at hm
            rcases hm with rfl | rfl | rfl | rfl | rfl | rfl
            · exact .int _
            · exact .int _
            · exact .bl _
            · exact .non
            · exact .str _
            · exact .int _
          · have sn := NF.Same.new (o := .tup [V.int 3, V.int 1, V.int 7]) (Same.refl G5) hp0
            have sx := Same.trans s5 sn
            exact kk (.int x.2.2) _ sx (Src.mono hs5 sn) (hr1.mono (wo_wo sn)) (hr2.mono (wo_wo sn)) (.int _)
        case B3 =>
          intro v3 G6 s6 hs6 hr1 hr2 hv3
          have hq6 := NF.Same.tup s6 hq
          have hb6 := NF.Same.tup s6 hb
          -- a lower loop
          refine (show (∀ (v2 : V) (o2 : Option (List V)) (G : Hp), Same (wo G2 p) G → Src G p → RowIs K (wo G p) v1 r1 → RowIs K (wo G p) v2 o2 → (numsO o2).length ≤ 200 → ThK K (wo G p) v3 → (?R4 : V → Hp → Prop) v2 G) → _ from fun kk => ?A4) ?B4
          case A4 =>
            refine ⟨_, rfl, rfl, _, rfl, ite2 (fun _ => ?_) (fun _ => ?_)⟩
            · refine ⟨_, rfl, q, _, _, _, rfl, rfl, hq6, at1, b, rfl, ⟨_, hb6⟩, fun D hD => ?_⟩
              have hDp : D ≠ p := src_ne (o := .lst []) hs6 hD
              have hD0 : wo G6 p D = none := (wo_ne hDp).trans hD
              refine lc_tup (xs := vI x.2.1) (fun j G => Same (wo G6 p) G ∧ Src G p ∧ ∃ m : List Int, G D = some (.lst (vI m)) ∧ m.length = j) ⟨NF.Same.put wo_same' hD0, src_put hs6 hDp, [], upd_same, rfl⟩ (fun i G _ z => NF.Same.tup (Same.trans (wo_up s6) z.1) hb) ?_ ?_
              · rintro j v G hv ⟨sG, hsG, m, hm, hml⟩
                have hj := (List.getElem?_eq_some_iff.mp hv).1
                rw [vI_len] at hj
                obtain ⟨i, _, rfl⟩ := List.mem_map.mp (List.mem_of_getElem? hv)
                refine ⟨rfl, _, rfl, _, _, rfl, rfl, _, rfl, wo G p, p, 3, rfl, wo_same', wo_none, hsG, by decide, by decide, fun d G' _ _ s' hs' => ?_⟩
                have hm' : G' D = some (.lst (vI m)) := s' _ _ ((wo_ne hDp).trans hm)
                refine ⟨_, _, rfl, rfl, _, _, rfl, _, hm', ?_, NF.Same.put (wo_same sG wo_none s') hD0, src_put hs' hDp, m ++ [_], by rw [upd_same, ← vI_app]; rfl, by rw [List.length_append, hml]; rfl⟩
                rw [vI_len, hml]
                exact Nat.lt_of_lt_of_le (show j < 1000 by omega) (by decide)
              · rintro G ⟨sG, hsG, m, hm, hml⟩
                rw [vI_len] at hml
                refine ⟨D, _, rfl, Or.inl (SqL.of hm), fun p1 G' s' t' => ?_⟩
                have sall := Same.trans (wo_same s6 wo_none sG) s'
                have up : Same (wo G6 p) (wo G' p) := wo_up (Same.trans sG s')
                obtain ⟨_, _, _, hlp⟩ := Src.mono hsG s'
                have hrow : RowIs K (wo G' p) (.ref p1) (some (vI m)) := row_ints (.inr (NF.SqT.wo t' hlp trivial))
                revert hrow
                generalize V.ref p1 = vv
                intro hrow
                exact kk vv (some (vI m)) G' sall (Src.mono hsG s') (hr1.mono up) hrow (by rw [nums_len, vI_len]; omega) (hv3.mono up)
            · exact kk v2 r2 G6 s6 hs6 hr1 hr2 hz2 hv3
          case B4 =>
            intro v2 r2 G7 s7 hs7 hr1 hr2 hz2 hv3
            -- a long head
            refine (show (∀ (v1 : V) (o1 : Option (List V)) (G : Hp), Same (wo G2 p) G → Src G p → RowIs K (wo G p) v1 o1 → RowIs K (wo G p) v2 r2 → (numsO o1).length ≤ 400 → ThK K (wo G p) v3 → (?R5 : V → Hp → Prop) v1 G) → _ from fun kk => ?A5) ?B5
            case A5 =>
              refine ⟨_, rfl, rfl, _, rfl, ite2 (fun _ => ?_) (fun _ => ?_)⟩
              · refine ⟨(by show 1 ≤ sizeLine; decide), fun p1 hp1 => ?_⟩
                have sn := NF.Same.new (o := .tup [V.int 0]) (Same.refl G7) hp1
                refine ⟨p1, 300, [V.int 0], rfl, rfl, SqT.of upd_same, by simp, (show 1 ≤ 100 by decide), by decide, by decide, fun p2 G8 s8 t8 => ?_⟩
                rw [rep_zero] at t8
                have sm := Same.trans sn s8
                have hs8 := Src.mono hs7 sm
                obtain ⟨_, _, _, hlp⟩ := hs8
                have hrow : RowIs K (wo G8 p) (.ref p2) (some (vI (List.replicate (300 : Int).toNat 0))) := row_ints (.inr (NF.SqT.wo t8 hlp trivial))
                revert hrow
                generalize V.ref p2 = vv
                intro hrow
                exact kk vv (some (vI (List.replicate (300 : Int).toNat 0))) G8 (Same.trans s7 sm) (Src.mono hs7 sm) hrow (hr2.mono (wo_wo sm)) (by rw [nums_len, vI_len, List.length_replicate]; decide) (hv3.mono (wo_wo sm))
              · exact kk v1 r1 G7 s7 hs7 hr1 hr2 (by omega) hv3
            case B5 =>
              intro v1 r1 G8 s8 hs8 hr1 hr2 hz1 hv3
              refine ⟨_, rfl, _, rfl, _, rfl, v1, v2, v3, r1, r2, rfl, hr1.mono wo_same', hr2.mono wo_same', hv3.mono wo_same', by omega, fun G9 t9 => ?_⟩
              have up9 : Same (wo G8 p) G9 := Same.trans wo_same' t9
              refine ⟨_, rfl, _, rfl, _, rfl, v1, v2, v3, r1, r2, rfl, hr1.mono up9, hr2.mono up9, hv3.mono up9, by omega, by omega, fun GA tA => ?_⟩
              refine ⟨word_scal _, _, rfl, iteF' (by simp) ?_⟩
              have sA : Same (wo G2 p) GA := Same.trans s8 (Same.trans t9 tA)
              have hsA := Src.mono hs8 (Same.trans t9 tA)
              have hqA := NF.Same.tup sA hq
              have foA := (fo.wo hs2).mono sA
              have due := good_due ok.g
              refine ⟨_, rfl, q, _, _, _, rfl, rfl, hqA, at0, _, rfl, q, _, _, _, rfl, rfl, hqA, at1, _, rfl, q, _, _, _, rfl, rfl, hqA, at2, ?_⟩
              refine ⟨.ref a, .ref b, .int x.2.2, some (vI x.1), some (vI x.2.1), rfl, (rowA sA).mono wo_same', (rowB sA).mono wo_same', .int _, by omega, fun GB tB => ?_⟩
              rw [due]
              refine ⟨rfl, _, rfl, iteF ?_⟩
              have foB := foA.mono tB
              have hsB := Src.mono hsA tB
              refine ⟨_, rfl, q, x, rfl, foB, ok, fun tx z GC hz tC tb => ?_⟩
              have hsC := Src.mono hsB tC
              have zs := plain_size hz
              have sm : Small z := ⟨by omega, by omega, (zs.2.2.2.2.1 ok.g.r0).1, by have := (zs.2.2.2.2.1 ok.g.r0).2; have := ok.r; omega⟩
              -- values at what is no count
              refine ⟨_, rfl, (by show 1 ≤ sizeLine; decide), fun pt hpt => ?_⟩
              have sp := NF.Same.new (o := .tup [V.int 1]) (Same.refl GC) hpt
              refine ⟨_, _, rfl, rfl, ⟨by decide, by decide, by decide⟩, _, rfl, (by show 5 ≤ sizeLine; decide), fun t ht => ?_⟩
              have st := NF.Same.new (o := .lst [V.bl true, .str "1", .int (-1), .ref pt, .int (-(10 ^ (20 : Int).toNat))]) sp ht
              have hpt2 : upd (upd GC pt (.tup [V.int 1])) t (.lst [V.bl true, .str "1", .int (-1), .ref pt, .int (-(10 ^ (20 : Int).toNat))]) pt = some (.tup [V.int 1]) := by
                rw [upd_ne (ne_of_none upd_same ht)]
                exact upd_same
              refine ⟨t, rfl, ⟨_, SqL.of upd_same⟩, ?_⟩
              have hsD : Src (upd (upd GC pt (.tup [V.int 1])) t (.lst [V.bl true, .str "1", .int (-1), .ref pt, .int (-(10 ^ (20 : Int).toNat))])) p := Src.mono hsC st
              have tbD := tb.mono st
              have ht2 : upd (upd GC pt (.tup [V.int 1])) t (.lst [V.bl true, .str "1", .int (-1), .ref pt, .int (-(10 ^ (20 : Int).toNat))]) t = some (.lst [V.bl true, .str "1", .int (-1), .ref pt, .int (-(10 ^ (20 : Int).toNat))]) := upd_same
              refine (show (∀ (G : Hp), G t = some (.lst [V.bl true, .str "1", .int (-1), .ref pt, .int (-(10 ^ (20 : Int).toNat))]) → G pt = some (.tup [V.int 1]) → Src G p → NF.TabAt K C G tx z → (?R6 : Hp → Prop) G) → _ from fun kk => kk _ ht2 hpt2 hsD tbD) ?B6
              case B6 =>
                intro GD ht2 hpt2 hsD tbD
                refine for_list (xs := [V.bl true, .str "1", .int (-1), .ref pt, .int (-(10 ^ (20 : Int).toNat))]) (fun i σ G => Same GD G ∧ ∃ v : Option V, σ = [some (.ref sl), some (.ref p), some (.ref q), some (.int way), some (.ref tx), v, some v1, some v2, some v3, none]) ⟨Same.refl _, none, rfl⟩ (fun i σ G _ z => SqL.of (z.1 _ _ ht2)) ?_ ?_
                · rintro i v σ G hv ⟨sG, u, rfl⟩
                  obtain ⟨hth, hnn, hcc, dt, hself⟩ : ThK K G v ∧ v ≠ .non ∧ isCnt v = false ∧ ∃ dt, Self K G v dt := by
                    have hm := List.mem_of_getElem? hv
                    simp only [List.mem_cons, List.not_mem_nil, or_false] at hm
                    rcases hm with rfl | rfl | rfl | rfl | rfl
                    · exact ⟨.bl _, (fun z => by cases z), rfl, .bool true, fun H _ => .bl _, by decide, by decide⟩
                    · exact ⟨.str _, (fun z => by cases z), rfl, .str "1", fun H _ => .str _, by decide +kernel, by decide +kernel⟩
                    · exact ⟨.int _, (fun z => by cases z), by decide, .int (-1), fun H _ => .int _, by decide, by decide⟩
                    · have hp4 : SqT K G pt [V.int 1] := SqT.of (sG _ _ hpt2)
                      exact ⟨.ref (tyx_tup hp4) (.inl rfl), (fun z => by cases z), rfl, .tuple [.int 1], fun H s => .tup (NF.Same.tup s hp4) (.cons (.int _) .nil), by decide +kernel, by decide +kernel⟩
                    · exact ⟨.int _, (fun z => by cases z), by decide, .int (-(10 ^ (20 : Int).toNat)), fun H _ => .int _, by decide, by decide⟩
                  refine ⟨_, rfl, _, rfl, tx, z, v, dt, rfl, tbD.mono sG, sm, hth, hnn, hcc, hself, fun G' s9 => ⟨true, rfl, iteF ?_⟩⟩
                  exact ⟨Same.trans sG s9, _, rfl⟩
                · rintro σ G ⟨sG, u, rfl⟩
                  have hsG := Src.mono hsD sG
                  have tbG := tbD.mono sG
                  refine ⟨_, rfl, wo G p, p, rfl, wo_same', wo_none, hsG, fun G' s9 hs9 => ⟨true, rfl, iteT ?_⟩⟩
                  have tbH := TabAt.mono (tabWoS tbG hsG) s9
                  obtain ⟨dx, _, _, hx, _, _⟩ := id tbH
                  refine ⟨_, rfl, tx, rfl, ⟨dx, _, hx⟩, tx, z, .int 0, rfl, tbH, sm, .int _, Or.inl ⟨some 0, rfl, fun H' _ => ⟨rfl, k H'⟩⟩⟩
end
end K02
set_option Elab.async false
set_option linter.all false
set_option maxRecDepth 100000
set_option maxHeartbeats 4000000
/-! Facts of a top, each as one Bool of the written part, with what it says. -/
namespace NF
open PySem PySem.Spec PyProof.Rows L2 He RZ
def dG (x : Str) (st : Stmt) : Adr := (fun K => ga K x, ⟨(x, none), x, x, defArgs st, defBody st, defScope st, [], []⟩)
def dGd (x : Str) (st : Stmt) (dfl : List He.Dv) : Adr := (fun K => ga K x, ⟨(x, none), x, x, defArgs st, defBody st, defScope st, dfl, []⟩)
def dM (c m q : Str) (st : Stmt) (dfl : List He.Dv) : Adr := (fun K => ma K (ga K c) m, ⟨(c, some m), m, q, defArgs st, defBody st, defScope st, dfl, []⟩)
def getW (t : String) (c f : Str) (K : PySem.W.Frag) : Addr := match PySem.W.recIn K (ma K (ga K c) f) t with
  | some (.ref g :: _) => g
  | _ => 0
def dP (c m q : Str) (st : Stmt) : Adr := (getW "property" c m, ⟨(c, some m), m, q, defArgs st, defBody st, defScope st, [], []⟩)
def dS (c m q : Str) (st : Stmt) : Adr := (getW "staticmethod" c m, ⟨(c, some m), m, q, defArgs st, defBody st, defScope st, [], []⟩)
def recB (t : String) (c f : Str) (K : PySem.W.Frag) : Bool := match PySem.W.recIn K (ma K (ga K c) f) t with
  | some (.ref _ :: _) => true
  | _ => false
theorem rec_ok {t : String} {c f : Str} {K : PySem.W.Frag} (h : recB t c f K = true) : ∃ rest, PySem.W.recIn K (ma K (ga K c) f) t = some (.ref (getW t c f K) :: rest) := by
  unfold recB at h
  unfold getW
  cases q : PySem.W.recIn K (ma K (ga K c) f) t with
  | none =>
    rw [q] at h
    cases h
  | some l =>
    rw [q] at h
    match l, h with
    | .ref g' :: rest, _ => exact ⟨rest, rfl⟩
/-! ### names -/
def namB (gs fs : List Str) (K : PySem.W.Frag) : Bool := (gs.all fun x => eqO (PySem.W.nsIn K mainGlobals x) (some (some (.ref (ga K x))))) && fs.all fun x => eqO (PySem.W.nsIn K mainGlobals x) (some none)
theorem nam_ok {gs fs : List Str} {K : PySem.W.Frag} {mg : Str → Option Value} {h : Heap} (c : namB gs fs K = true) (X : K.In h) (G : h.Ns mainGlobals mg) : Txt K mg gs fs := by
  obtain ⟨h1, h2⟩ := ba c
  exact ⟨fun x hx => PySem.W.mg_of X G (eqO_ok (List.all_eq_true.mp h1 x hx)), fun x hx => PySem.W.mg_none_of X G (eqO_ok (List.all_eq_true.mp h2 x hx))⟩
def bltB (x : Str) (b : String) (K : PySem.W.Frag) : Bool := eqO (PySem.W.nsIn K mainGlobals x) (some (some (.builtin b)))
theorem blt_ok {x : Str} {b : String} {K : PySem.W.Frag} {mg : Str → Option Value} {h : Heap} (c : bltB x b K = true) (X : K.In h) (G : h.Ns mainGlobals mg) : mg x = some (.builtin b) := PySem.W.mg_of X G (eqO_ok c)
def intB (x : Str) (n : Int) (K : PySem.W.Frag) : Bool := match PySem.W.nsIn K mainGlobals x with
  | some (some (.int m _)) => decide (m = n)
  | _ => false
theorem int_ok {x : Str} {n : Int} {K : PySem.W.Frag} {mg : Str → Option Value} {h : Heap} (c : intB x n K = true) (X : K.In h) (G : h.Ns mainGlobals mg) : ∃ tok, mg x = some (.int n tok) := by
  unfold intB at c
  split at c
  · rename_i m tok q
    have e : m = n := of_decide_eq_true c
    subst e
    exact ⟨tok, PySem.W.mg_of X G q⟩
  · cases c
/-! ### an own exception that keeps its one argument under f -/
structure ExcK (K : PySem.W.Frag) (x f : Str) : Prop where
  xc : ExcC K (ga K x)
  T : OexC K (ga K x)
  i : PySem.W.findIn K (.ref (ga K x)) "__init__" = some (some (.ref (ma K (ga K x) "__init__")))
  t : PySem.W.typeIn K (.ref (ma K (ga K x) "__init__")) = some (.type "function")
  no : PySem.W.findIn K (.ref (ga K x)) f = some none
  xf : XfC K (ga K x)
def excKB (x f : Str) (K : PySem.W.Frag) : Bool := (excB K (ga K x) && (oexB K (ga K x) && eqO (PySem.W.findIn K (.ref (ga K x)) "__init__") (some (some (.ref (ma K (ga K x) "__init__")))))) &&
  (decide (PySem.W.typeIn K (.ref (ma K (ga K x) "__init__")) = some (.type "function")) && (eqO (PySem.W.findIn K (.ref (ga K x)) f) (some none) && xfB K (ga K x)))
theorem excK_ok {x f : Str} {K : PySem.W.Frag} (h : excKB x f K = true) : ExcK K x f := by
  obtain ⟨h1, h2⟩ := ba h
  obtain ⟨a1, h1⟩ := ba h1
  obtain ⟨a2, a3⟩ := ba h1
  obtain ⟨a4, h2⟩ := ba h2
  obtain ⟨a5, a6⟩ := ba h2
  exact ⟨excB_ok a1, oexB_ok a2, eqO_ok a3, of_decide_eq_true a4, eqO_ok a5, xfB_ok a6⟩
theorem ExcK.excI {P : Program} {w : World} {K : PySem.W.Frag} {mg : Str → Option Value} {base : Heap} {x f q : Str} {gs fs : List Str} {pa : Arguments} {bd : List Stmt} {sc : Scope} {fd : FuncData} {q1 q2 q3 q4 : Pos} (e : ExcK K x f) (T : Txt K mg gs fs) (hx : x ∈ gs)
    (F : FunD K "__init__" q pa bd sc [] [] (ma K (ga K x) "__init__") fd) (hb : bd = bodyE f q1 q2 q3 q4) (S : FnScope ["self", f] ["self", f] sc)
    (hv0 : Vis sc "self") (hv1 : Vis sc f) (hd : (f == ("__debug__" : Str)) = false) (hcd : (f == ("__classdict__" : Str)) = false) (b : Binds K fd ["self", f] []) : ExcI P w K mg base x f :=
  ⟨e.T, ⟨_, fd, e.i, e.t, ok_exc (x := x) F hb S e.T e.no hv0 hv1 hd hcd, b⟩, T.gl x hx⟩
/-! ### which class is under which -/
def kitPB (ps : List (Str × Str × Bool)) (K : PySem.W.Frag) : Bool := ps.all fun p => decide (PySem.W.kitOne K (.ref (ga K p.1)) (.ref (ga K p.2.1)) = some p.2.2)
theorem kitP_ok {ps : List (Str × Str × Bool)} {K : PySem.W.Frag} (h : kitPB ps K = true) {x y : Str} {b : Bool} (m : (x, y, b) ∈ ps) : PySem.W.kitOne K (.ref (ga K x)) (.ref (ga K y)) = some b := of_decide_eq_true (List.all_eq_true.mp h _ m)
def exmPB (ps : List (Str × Str × Bool)) (K : PySem.W.Frag) : Bool := ps.all fun p => decide (PySem.W.exmOne K (.ref (ga K p.1)) (.ref (ga K p.2.1)) = some p.2.2)
theorem exmP_ok {ps : List (Str × Str × Bool)} {K : PySem.W.Frag} (h : exmPB ps K = true) {x y : Str} {b : Bool} (m : (x, y, b) ∈ ps) : PySem.W.exmOne K (.ref (ga K x)) (.ref (ga K y)) = some b := of_decide_eq_true (List.all_eq_true.mp h _ m)
/-! ### an own class -/
def clsB (c : Str) (K : PySem.W.Frag) : Bool := (PySem.W.plainGet K (ga K c) Str.empty && PySem.W.hasDictIn K (ga K c)) && (PySem.W.plainOver K (ga K c) && eqO (PySem.W.findIn K (.ref (ga K c)) "__setattr__") (some (some (.builtin "object.__setattr__"))))
theorem cls_ok {c : Str} {K : PySem.W.Frag} (h : clsB c K = true) : Cls K (ga K c) := by
  obtain ⟨h1, h2⟩ := ba h
  obtain ⟨a1, a2⟩ := ba h1
  obtain ⟨a3, a4⟩ := ba h2
  exact ⟨a1, a2, a3, eqO_ok a4⟩
def fldsB (c : Str) (fs : List Str) (K : PySem.W.Frag) : Bool := fs.all fun f => eqO (PySem.W.findIn K (.ref (ga K c)) f) (some none)
theorem flds_ok {c : Str} {fs : List Str} {K : PySem.W.Frag} (h : fldsB c fs K = true) {f : Str} (m : f ∈ fs) : PySem.W.findIn K (.ref (ga K c)) f = some none := eqO_ok (List.all_eq_true.mp h f m)
structure TyC (K : PySem.W.Frag) (C : Addr) : Prop where
  ac : PySem.W.findIn K (.ref C) "__class__" = some (some (.builtin "object.__class__"))
  ag : PySem.W.specialIn K (.builtin "object.__class__") "__get__" = some (some (.builtin "getset_descriptor.__get__"))
  at_ : PySem.W.takesIn K (.builtin "object.__class__") = some true
  am : PySem.W.mroIn K C (.type "object") = some true
  self : PySem.W.kitOne K (.ref C) (.ref C) = some true
  tup : PySem.W.kitOne K (.type "tuple") (.ref C) = some false
  int : PySem.W.kitOne K (.type "int") (.ref C) = some false
  non : PySem.W.kitOne K (.type "NoneType") (.ref C) = some false
def tyB (c : Str) (K : PySem.W.Frag) : Bool := ((eqO (PySem.W.findIn K (.ref (ga K c)) "__class__") (some (some (.builtin "object.__class__"))) && eqO (PySem.W.specialIn K (.builtin "object.__class__") "__get__") (some (some (.builtin "getset_descriptor.__get__")))) &&
  (decide (PySem.W.takesIn K (.builtin "object.__class__") = some true) && decide (PySem.W.mroIn K (ga K c) (.type "object") = some true))) &&
  ((decide (PySem.W.kitOne K (.ref (ga K c)) (.ref (ga K c)) = some true) && decide (PySem.W.kitOne K (.type "tuple") (.ref (ga K c)) = some false)) && (decide (PySem.W.kitOne K (.type "int") (.ref (ga K c)) = some false) && decide (PySem.W.kitOne K (.type "NoneType") (.ref (ga K c)) = some false)))
theorem ty_ok {c : Str} {K : PySem.W.Frag} (h : tyB c K = true) : TyC K (ga K c) := by
  obtain ⟨h1, h2⟩ := ba h
  obtain ⟨t1, t2⟩ := ba h1
  obtain ⟨t1, t3⟩ := ba t1
  obtain ⟨t2, t4⟩ := ba t2
  obtain ⟨k1, k2⟩ := ba h2
  obtain ⟨k1, k3⟩ := ba k1
  obtain ⟨k2, k4⟩ := ba k2
  exact ⟨eqO_ok t1, eqO_ok t3, of_decide_eq_true t2, of_decide_eq_true t4, of_decide_eq_true k1, of_decide_eq_true k3, of_decide_eq_true k2, of_decide_eq_true k4⟩
def nfB (c : Str) (ts : List String) (K : PySem.W.Frag) : Bool := ts.all fun t => PySem.W.notFirst K (ga K c) (.type t)
theorem nf_ok {c : Str} {ts : List String} {K : PySem.W.Frag} (h : nfB c ts K = true) {t : String} (m : t ∈ ts) : PySem.W.notFirst K (ga K c) (.type t) = true := List.all_eq_true.mp h t m
def mkB (c : Str) (K : PySem.W.Frag) : Bool := (PySem.W.makesIn K (ga K c) && eqO (PySem.W.findIn K (.ref (ga K c)) "__init__") (some (some (.ref (ma K (ga K c) "__init__"))))) && (PySem.W.isFn K (.ref (ma K (ga K c) "__init__")) && PySem.W.keepIn K (.ref (ga K c)))
theorem mk_ok {c : Str} {K : PySem.W.Frag} (h : mkB c K = true) : Mk K (ga K c) (ma K (ga K c) "__init__") := by
  obtain ⟨m1, m2⟩ := ba h
  obtain ⟨m1, m3⟩ := ba m1
  obtain ⟨m2, m4⟩ := ba m2
  exact ⟨m1, eqO_ok m3, m2, m4⟩
def callB (c : Str) (K : PySem.W.Frag) : Bool := eqO (PySem.W.findIn K (.ref (ga K c)) "__call__") (some (some (.ref (ma K (ga K c) "__call__")))) && (PySem.W.isFn K (.ref (ma K (ga K c) "__call__")) && PySem.W.fnIn K (ma K (ga K c) "__call__"))
theorem call_ok {c : Str} {K : PySem.W.Frag} (h : callB c K = true) : StX.CallO K (ga K c) (ma K (ga K c) "__call__") := by
  obtain ⟨g1, g2⟩ := ba h
  obtain ⟨g2, g3⟩ := ba g2
  exact ⟨eqO_ok g1, g2, g3⟩
structure EqM (K : PySem.W.Frag) (C : Addr) : Prop where
  e1 : PySem.W.findIn K (.ref C) "__eq__" = some (some (.ref (ma K C "__eq__")))
  e2 : PySem.W.isFn K (.ref (ma K C "__eq__")) = true
  e3 : plObjB K C (ma K C "__eq__") = true
def eqB (c : Str) (K : PySem.W.Frag) : Bool := (eqO (PySem.W.findIn K (.ref (ga K c)) "__eq__") (some (some (.ref (ma K (ga K c) "__eq__")))) && PySem.W.isFn K (.ref (ma K (ga K c) "__eq__"))) && plObjB K (ga K c) (ma K (ga K c) "__eq__")
theorem eq_ok {c : Str} {K : PySem.W.Frag} (h : eqB c K = true) : EqM K (ga K c) := by
  obtain ⟨e1, e2⟩ := ba h
  obtain ⟨e1, e3⟩ := ba e1
  exact ⟨eqO_ok e1, e3, e2⟩
def propB (c f : Str) (K : PySem.W.Frag) : Bool := (eqO (PySem.W.findIn K (.ref (ga K c)) f) (some (some (.ref (ma K (ga K c) f)))) && eqO (PySem.W.specialIn K (.ref (ma K (ga K c) f)) "__get__") (some (some (.builtin "property.__get__")))) &&
  (decide (PySem.W.takesIn K (.ref (ma K (ga K c) f)) = some true) && recB "property" c f K)
theorem prop_ok {c f : Str} {K : PySem.W.Frag} (h : propB c f K = true) : PropOf K (ga K c) f (ma K (ga K c) f) (getW "property" c f K) := by
  obtain ⟨h1, h2⟩ := ba h
  obtain ⟨h1, h3⟩ := ba h1
  obtain ⟨h2, h4⟩ := ba h2
  exact ⟨eqO_ok h1, eqO_ok h3, of_decide_eq_true h2, rec_ok h4⟩
def staB (c m : Str) (K : PySem.W.Frag) : Bool := (decide (PySem.W.typeIn K (.ref (ga K c)) = some (.type "type")) && (PySem.W.readsIn K (ga K c) (.type "type") && eqO (PySem.W.specialIn K (.ref (ga K c)) "__getattribute__") (some (some (.builtin "type.__getattribute__"))))) &&
  ((match PySem.W.findCls K (.ref (ga K c)) (.type "type") m with
    | some (.get g a o t) => decide (g = .builtin "staticmethod.__get__") && (decide (a = .ref (ma K (ga K c) m)) && (decide (o = .none) && decide (t = .ref (ga K c))))
    | _ => false) && (recB "staticmethod" c m K && PySem.W.keepIn K (.ref (getW "staticmethod" c m K))))
theorem sta_ok {c m : Str} {K : PySem.W.Frag} (h : staB c m K = true) : SMet K (ga K c) (.type "type") m (ma K (ga K c) m) (getW "staticmethod" c m K) := by
  obtain ⟨h1, h2⟩ := ba h
  obtain ⟨a1, h1⟩ := ba h1
  obtain ⟨a2, a3⟩ := ba h1
  obtain ⟨a4, h2⟩ := ba h2
  obtain ⟨a5, a6⟩ := ba h2
  refine ⟨of_decide_eq_true a1, a2, eqO_ok a3, ?_, rec_ok a5, a6⟩
  split at a4
  · rename_i g a o t q
    obtain ⟨b1, a4⟩ := ba a4
    obtain ⟨b2, a4⟩ := ba a4
    obtain ⟨b3, b4⟩ := ba a4
    rw [q, of_decide_eq_true b1, of_decide_eq_true b2, of_decide_eq_true b3, of_decide_eq_true b4]
  · cases a4
/-! ### a default that is an empty tuple -/
def e0B (e0 : PySem.W.Frag → Addr) (K : PySem.W.Frag) : Bool := match K.lookup (e0 K) with
  | some ⟨.type c, _, .seq its _, _⟩ => decide (c = "tuple") && decide (its.toList = [])
  | _ => false
theorem e0_ok {e0 : PySem.W.Frag → Addr} {K : PySem.W.Frag} (h : e0B e0 K = true) (H : Hp) : SqT K H (e0 K) [] := by
  unfold e0B at h
  split at h
  · rename_i c dd its n sl q
    obtain ⟨h1, h2⟩ := ba h
    have e : its.toList = [] := of_decide_eq_true h2
    refine .inr ⟨_, its, n, q, congrArg Value.type (of_decide_eq_true h1), rfl, ?_, ?_⟩
    · rw [← Array.length_toList, e]
      exact Nat.zero_le _
    · rw [e]
      exact .nil
  · cases h
/-! ### the hook, with the classes' statics beside -/
def obsQG (n : Nat) (ex : PySem.W.Frag → Bool) (fn : List Adr) (g : Addr → Option Obj) : AlD := obsP ex fn (frG g (asD g n ++ [cStatics]))
def hookQ (n : Nat) (ex : PySem.W.Frag → Bool) (fn : List Adr) : PySem.W.Hook where
  α := AlD
  obs := fun s => obsQG n ex fn s.heap.get?
  val := fun _ => valP fn
  says := fun _ h => ∃ K : PySem.W.Frag, K.In h ∧ SaysP ex fn K
  of := fun _ _ e => ⟨_, frG_in, e⟩
  keeps := fun _ _ _ ⟨K, hK, c⟩ k => ⟨K, PySem.W.Frag.In.keeps hK k, c⟩
theorem obsQG_eq {n : Nat} {ex : PySem.W.Frag → Bool} {fn : List Adr} {g : Addr → Option Obj} {s : Shared} (h : ∀ a, g a = s.heap.get? a) : obsQG n ex fn g = (hookQ n ex fn).obs s := by
  have e : g = s.heap.get? := funext h
  rw [e] <;> rfl
end NF
set_option Elab.async false
set_option linter.all false
set_option maxRecDepth 100000
set_option maxHeartbeats 0
namespace K02
open PySem PySem.Spec PyProof.Rows L2 He NF RZ
def e0 (K : PySem.W.Frag) : Addr := He.dflAt ("Table", some "__init__") 0 K
def kits : List (Str × Str × Bool) := [("BadTable", "NeedforthError", true), ("BadTable", "TooMany", false), ("BadCount", "BadTable", false)]
def exms : List (Str × Str × Bool) := [("BadTable", "BadTable", true), ("BadCount", "BadCount", true)]
def fn : List Adr := ([dG "shortest_lap" s_shortest_lap, dG "plain_form" s_plain_form, dG "is_integer" s_is_integer, dG "is_count" s_is_count, dG "is_row" s_is_row, dG "is_climb" s_is_climb, dG "check_table" s_check_table, dG "_law_pick" s__law_pick, dG "_law_source" s__law_source, dG "end_of" s_end_of, dG "value_at" s_value_at, dM "Table" "__init__" "Table.__init__" s_Table_init [.adr e0, .int 0], dM "Table" "__call__" "Table.__call__" s_Table_call [], dG "_law_rising" s__law_rising, dG "_law_raw" s__law_raw, dG "_law_is_integer" s__law_is_integer, dG "_law_is_count" s__law_is_count, dG "_law_good" s__law_good, dG "_law_due" s__law_due, dG "_law_seen" s__law_seen] : List Adr) ++ ([dG "_law_refused_value" s__law_refused_value, dG "_law_table" s__law_table, dS "Table" "shift" "Table.shift" s_Table_shift, dG "_law_shift" s__law_shift, dG "_law_told" s__law_told, dG "_law_shifts" s__law_shifts, dG "_law_spoilt" s__law_spoilt, dG "law" s_law, dM "BadTable" "__init__" "BadTable.__init__" s_BadTable_init [], dM "BadCount" "__init__" "BadCount.__init__" s_BadCount_init []] : List Adr)
def gs : List Str := (["shortest_lap", "plain_form", "is_integer", "is_count", "is_row", "is_climb", "check_table", "_law_pick", "_law_source", "end_of", "value_at", "_law_rising", "_law_raw", "_law_is_integer", "_law_is_count", "_law_good", "_law_due", "_law_seen", "_law_refused_value", "_law_table", "_law_shift", "_law_told", "_law_shifts", "_law_spoilt", "law"] : List Str) ++ (["NeedforthError", "TooMany", "BadCount", "BadTable", "Chase", "Table"] : List Str)
def exL : List (PySem.W.Frag → Bool) := [namB gs FS, intB "LONGEST_SHIFT" 5000, excKB "BadTable" "word", excKB "BadCount" "thing", kitPB kits, exmPB exms, clsB "Table", fldsB "Table" ["head", "loop", "rise"], tyB "Table", mkB "Table", callB "Table", staB "Table" "shift"]
def exB (K : PySem.W.Frag) : Bool := exL.all fun f => f K
end K02
set_option Elab.async false
set_option linter.all false
set_option maxRecDepth 100000
set_option maxHeartbeats 4000000
namespace K02
open PySem PySem.Spec PyProof.Rows L2 He NF RZ NT
theorem all_ok {P : Program} {w : World} {K : PySem.W.Frag} {h : Heap} {mg : Str → Option Value} {f : Addr} (X : K.In h) (G : h.Ns mainGlobals mg) (hfa : mg ("law" : Str) = some (.ref f)) (c : SaysP exB fn K) :
    ∃ fd : FuncData, (∀ (s : Shared) (v : Value), BindsTo s fd ⟨[v], []⟩ [("_law_script", v)]) ∧ ∀ base : Heap, K.In base → base.Ns mainGlobals mg → FnOk P w K mg base CX0 8 f fd ["_law_script"] (spLaw K) := by
  have ht : ∀ f ∈ exL, f K = true := fun f hf => List.all_eq_true.mp c.truth f hf
  have b_nam : (namB gs FS) K = true := ht _ (List.mem_of_getElem? (i := 0) rfl)
  have b_int_LONGEST_SHIFT : (intB "LONGEST_SHIFT" 5000) K = true := ht _ (List.mem_of_getElem? (i := 1) rfl)
  have b_exc_BadTable : (excKB "BadTable" "word") K = true := ht _ (List.mem_of_getElem? (i := 2) rfl)
  have b_exc_BadCount : (excKB "BadCount" "thing") K = true := ht _ (List.mem_of_getElem? (i := 3) rfl)
  have b_kit : (kitPB kits) K = true := ht _ (List.mem_of_getElem? (i := 4) rfl)
  have b_exm : (exmPB exms) K = true := ht _ (List.mem_of_getElem? (i := 5) rfl)
  have b_cls : (clsB "Table") K = true := ht _ (List.mem_of_getElem? (i := 6) rfl)
  have b_fld : (fldsB "Table" ["head", "loop", "rise"]) K = true := ht _ (List.mem_of_getElem? (i := 7) rfl)
  have b_ty : (tyB "Table") K = true := ht _ (List.mem_of_getElem? (i := 8) rfl)
  have b_mk_Table : (mkB "Table") K = true := ht _ (List.mem_of_getElem? (i := 9) rfl)
  have b_call : (callB "Table") K = true := ht _ (List.mem_of_getElem? (i := 10) rfl)
  have b_sta_shift : (staB "Table" "shift") K = true := ht _ (List.mem_of_getElem? (i := 11) rfl)
  have T : Txt K mg gs FS := nam_ok b_nam X G
  obtain ⟨tok_LONGEST_SHIFT, h_LONGEST_SHIFT⟩ := int_ok b_int_LONGEST_SHIFT X G
  have x_BadTable := excK_ok b_exc_BadTable
  have x_BadCount := excK_ok b_exc_BadCount
  have tcl := cls_ok b_cls
  have ty := ty_ok b_ty
  have tc : TabC K (ga K "Table") := ⟨tcl, flds_ok b_fld (by decide +kernel), flds_ok b_fld (by decide +kernel), flds_ok b_fld (by decide +kernel), ty.ac, ty.ag, ty.at_, ty.am, ty.self, ty.tup, ty.int, ty.non⟩
  obtain ⟨f0, F0⟩ := c.def_ 0 (d := dG "shortest_lap" s_shortest_lap) rfl
  obtain ⟨f1, F1⟩ := c.def_ 1 (d := dG "plain_form" s_plain_form) rfl
  obtain ⟨f2, F2⟩ := c.def_ 2 (d := dG "is_integer" s_is_integer) rfl
  obtain ⟨f3, F3⟩ := c.def_ 3 (d := dG "is_count" s_is_count) rfl
  obtain ⟨f4, F4⟩ := c.def_ 4 (d := dG "is_row" s_is_row) rfl
  obtain ⟨f5, F5⟩ := c.def_ 5 (d := dG "is_climb" s_is_climb) rfl
  obtain ⟨f6, F6⟩ := c.def_ 6 (d := dG "check_table" s_check_table) rfl
  obtain ⟨f7, F7⟩ := c.def_ 7 (d := dG "_law_pick" s__law_pick) rfl
  obtain ⟨f8, F8⟩ := c.def_ 8 (d := dG "_law_source" s__law_source) rfl
  obtain ⟨f9, F9⟩ := c.def_ 9 (d := dG "end_of" s_end_of) rfl
  obtain ⟨f10, F10⟩ := c.def_ 10 (d := dG "value_at" s_value_at) rfl
  obtain ⟨f11, F11⟩ := c.def_ 11 (d := dM "Table" "__init__" "Table.__init__" s_Table_init [.adr e0, .int 0]) rfl
  obtain ⟨f12, F12⟩ := c.def_ 12 (d := dM "Table" "__call__" "Table.__call__" s_Table_call []) rfl
  obtain ⟨f13, F13⟩ := c.def_ 13 (d := dG "_law_rising" s__law_rising) rfl
  obtain ⟨f14, F14⟩ := c.def_ 14 (d := dG "_law_raw" s__law_raw) rfl
  obtain ⟨f15, F15⟩ := c.def_ 15 (d := dG "_law_is_integer" s__law_is_integer) rfl
  obtain ⟨f16, F16⟩ := c.def_ 16 (d := dG "_law_is_count" s__law_is_count) rfl
  obtain ⟨f17, F17⟩ := c.def_ 17 (d := dG "_law_good" s__law_good) rfl
  obtain ⟨f18, F18⟩ := c.def_ 18 (d := dG "_law_due" s__law_due) rfl
  obtain ⟨f19, F19⟩ := c.def_ 19 (d := dG "_law_seen" s__law_seen) rfl
  obtain ⟨f20, F20⟩ := c.def_ 20 (d := dG "_law_refused_value" s__law_refused_value) rfl
  obtain ⟨f21, F21⟩ := c.def_ 21 (d := dG "_law_table" s__law_table) rfl
  obtain ⟨f22, F22⟩ := c.def_ 22 (d := dS "Table" "shift" "Table.shift" s_Table_shift) rfl
  obtain ⟨f23, F23⟩ := c.def_ 23 (d := dG "_law_shift" s__law_shift) rfl
  obtain ⟨f24, F24⟩ := c.def_ 24 (d := dG "_law_told" s__law_told) rfl
  obtain ⟨f25, F25⟩ := c.def_ 25 (d := dG "_law_shifts" s__law_shifts) rfl
  obtain ⟨f26, F26⟩ := c.def_ 26 (d := dG "_law_spoilt" s__law_spoilt) rfl
  obtain ⟨f27, F27⟩ := c.def_ 27 (d := dG "law" s_law) rfl
  obtain ⟨f28, F28⟩ := c.def_ 28 (d := dM "BadTable" "__init__" "BadTable.__init__" s_BadTable_init []) rfl
  obtain ⟨f29, F29⟩ := c.def_ 29 (d := dM "BadCount" "__init__" "BadCount.__init__" s_BadCount_init []) rfl
  have e := hfa.symm.trans (T.gl "law" (by decide +kernel))
  cases e
  have bl := FunD.bindsA (ps := ["_law_script"]) F27 fun _ _ _ _ _ _ us hl => match us, hl with | [_], _ => rfl
  refine ⟨f27, fun s v => bl s [v] rfl, fun base _ _ => ?_⟩
  have m_BadTable : ExcI P w K mg base "BadTable" "word" := x_BadTable.excI T (by decide +kernel) F28 rfl ⟨rfl, rfl, rfl, by decide +kernel, rfl, by decide +kernel, by decide +kernel⟩ (Or.inl rfl) (Or.inl rfl) (by decide) (by decide) (F28.bindsN fun _ _ _ _ _ _ us hl => match us, hl with | [_, _], _ => rfl)
  have m_BadCount : ExcI P w K mg base "BadCount" "thing" := x_BadCount.excI T (by decide +kernel) F29 rfl ⟨rfl, rfl, rfl, by decide +kernel, rfl, by decide +kernel, by decide +kernel⟩ (Or.inl rfl) (Or.inl rfl) (by decide) (by decide) (F29.bindsN fun _ _ _ _ _ _ us hl => match us, hl with | [_, _], _ => rfl)
  have c_shortest_lap : Cal P w K mg base 1 "shortest_lap" (spLap K) := Cal.mk' F0 (ok_shortest_lap F0 T rfl) (T.gl _ (by decide +kernel)) (F0.bindsN fun _ _ _ _ _ _ us hl => match us, hl with | [_, _], _ => rfl)
  have c_plain_form : Cal P w K mg base 2 "plain_form" (spForm K) := Cal.mk' F1 (ok_plain_form F1 T rfl c_shortest_lap) (T.gl _ (by decide +kernel)) (F1.bindsN fun _ _ _ _ _ _ us hl => match us, hl with | [_, _, _], _ => rfl)
  have c_is_integer : Cal P w K mg base 1 "is_integer" (spIsIntT K) := Cal.mk' F2 (ok_is_integer F2 T) (T.gl _ (by decide +kernel)) (F2.bindsN fun _ _ _ _ _ _ us hl => match us, hl with | [_], _ => rfl)
  have c_is_count : Cal P w K mg base 2 "is_count" (spIsCountT K) := Cal.mk' F3 (ok_is_count F3 T c_is_integer) (T.gl _ (by decide +kernel)) (F3.bindsN fun _ _ _ _ _ _ us hl => match us, hl with | [_], _ => rfl)
  have c_is_row : Cal P w K mg base 1 "is_row" (spIsRowT K) := Cal.mk' F4 (ok_is_row F4 T) (T.gl _ (by decide +kernel)) (F4.bindsN fun _ _ _ _ _ _ us hl => match us, hl with | [_], _ => rfl)
  have c_is_climb : Cal P w K mg base 2 "is_climb" (spIsClimbT K) := Cal.mk' F5 (ok_is_climb F5 T c_is_row c_is_integer) (T.gl _ (by decide +kernel)) (F5.bindsN fun _ _ _ _ _ _ us hl => match us, hl with | [_], _ => rfl)
  have c_check_table : CalX P w K mg base 3 "check_table" (spCheckT K) := ⟨_, f6, _, (ok_check_table F6 T m_BadTable c_is_climb c_is_count), T.gl _ (by decide +kernel), F6.kp, (F6.bindsN fun _ _ _ _ _ _ us hl => match us, hl with | [_, _, _], _ => rfl)⟩
  have c__law_pick : Cal P w K mg base 1 "_law_pick" spPick := Cal.mk' F7 (ok_pick F7 T (by decide +kernel)) (T.gl _ (by decide +kernel)) (F7.bindsN fun _ _ _ _ _ _ us hl => match us, hl with | [_, _], _ => rfl)
  have c__law_source : Cal P w K mg base 1 "_law_source" (spSource K) := Cal.mk' F8 (ok_source F8 T (by decide +kernel) (by decide +kernel) (by decide +kernel)) (T.gl _ (by decide +kernel)) (F8.bindsN fun _ _ _ _ _ _ us hl => match us, hl with | [_, _], _ => rfl)
  have c_end_of : Cal P w K mg base 1 "end_of" (spEnd K (ga K "Table")) := Cal.mk' F9 (ok_end_of F9 T tc) (T.gl _ (by decide +kernel)) (F9.bindsN fun _ _ _ _ _ _ us hl => match us, hl with | [_], _ => rfl)
  have c_value_at : Cal P w K mg base 2 "value_at" (spAt K (ga K "Table")) := Cal.mk' F10 (ok_value_at F10 T tc c_end_of) (T.gl _ (by decide +kernel)) (F10.bindsN fun _ _ _ _ _ _ us hl => match us, hl with | [_, _], _ => rfl)
  have oi_Table : FnOk P w K mg base (L2.CX P w) 4 _ f11 ["self", "head", "loop", "rise"] (spInitT K (ga K "Table")) := (ok_Table_init F11 T tc c_check_table c_plain_form)
  obtain ⟨dd_m_Table, vv_m_Table, bb_m_Table⟩ := F11.binds1 (ps := ["self", "head", "loop", "rise"]) 4 2 (List.cons_ne_nil _ _) rfl fun T kV doc pm an cdv ct us its hl hd => match us, hl, its, hd with | [_, _, _, _], _, [_, _], _ => ⟨_, rfl, rfl⟩
  have m_Table : MakX P w K mg base 4 0 "Table" (ga K "Table") (spInitT K (ga K "Table")) [] := ⟨_, _, _, _, mk_ok b_mk_Table, oi_Table, T.gl "Table" (by decide +kernel), bb_m_Table, vv_m_Table⟩
  have o_call : CalOX P w K mg base 3 (ga K "Table") (spAtT K (ga K "Table")) := ⟨_, f12, _, call_ok b_call, (ok_Table_call F12 T m_BadCount c_is_count c_value_at), (F12.bindsN fun _ _ _ _ _ _ us hl => match us, hl with | [_, _], _ => rfl)⟩
  have c__law_rising : Cal P w K mg base 2 "_law_rising" spRising := Cal.mk' F13 (ok__law_rising F13 T c__law_pick) (T.gl _ (by decide +kernel)) (F13.bindsN fun _ _ _ _ _ _ us hl => match us, hl with | [_, _, _, _], _ => rfl)
  have c__law_raw : Cal P w K mg base 3 "_law_raw" (spRaw K) := Cal.mk' F14 (ok__law_raw F14 T c__law_pick c__law_rising) (T.gl _ (by decide +kernel)) (F14.bindsN fun _ _ _ _ _ _ us hl => match us, hl with | [_, _], _ => rfl)
  have c__law_is_integer : Cal P w K mg base 1 "_law_is_integer" (spIsIntT K) := Cal.mk' F15 (ok__law_is_integer F15 T) (T.gl _ (by decide +kernel)) (F15.bindsN fun _ _ _ _ _ _ us hl => match us, hl with | [_], _ => rfl)
  have c__law_is_count : Cal P w K mg base 2 "_law_is_count" (spIsCountT K) := Cal.mk' F16 (ok__law_is_count F16 T c__law_is_integer) (T.gl _ (by decide +kernel)) (F16.bindsN fun _ _ _ _ _ _ us hl => match us, hl with | [_], _ => rfl)
  have c__law_good : Cal P w K mg base 3 "_law_good" (spGood K) := Cal.mk' F17 (ok__law_good F17 T c__law_is_count) (T.gl _ (by decide +kernel)) (F17.bindsN fun _ _ _ _ _ _ us hl => match us, hl with | [_], _ => rfl)
  have c__law_due : Cal P w K mg base 4 "_law_due" (spDue K) := Cal.mk' F18 (ok__law_due F18 T c__law_good c__law_is_count) (T.gl _ (by decide +kernel)) (F18.bindsN fun _ _ _ _ _ _ us hl => match us, hl with | [_, _, _], _ => rfl)
  have c__law_seen : Cal P w K mg base 6 "_law_seen" (spSeen K) := Cal.mk' F19 (ok__law_seen F19 T ⟨by decide +kernel, by decide +kernel⟩ m_BadTable x_BadTable.xf x_BadTable.no x_BadTable.xc (kitP_ok b_kit (by decide +kernel)) (kitP_ok b_kit (by decide +kernel)) (exmP_ok b_exm (by decide +kernel)) m_Table) (T.gl _ (by decide +kernel)) (F19.bindsN fun _ _ _ _ _ _ us hl => match us, hl with | [_, _, _], _ => rfl)
  have c__law_refused_value : Cal P w K mg base 4 "_law_refused_value" (spRefused K (ga K "Table")) := Cal.mk' F20 (ok__law_refused_value F20 T m_BadTable m_BadCount x_BadCount.xf x_BadCount.no x_BadCount.xc (kitP_ok b_kit (by decide +kernel)) (exmP_ok b_exm (by decide +kernel)) o_call) (T.gl _ (by decide +kernel)) (F20.bindsN fun _ _ _ _ _ _ us hl => match us, hl with | [_, _], _ => rfl)
  have c__law_table : CalX P w K mg base 6 "_law_table" (spLTableT K (ga K "Table")) := ⟨_, f21, _, (ok__law_table F21 T m_Table), T.gl _ (by decide +kernel), F21.kp, (F21.bindsN fun _ _ _ _ _ _ us hl => match us, hl with | [_], _ => rfl)⟩
  have o_shift : StaX P w K mg base 6 (ga K "Table") "shift" (spShiftT K (ga K "Table")) := ⟨_, _, _, f22, _, sta_ok b_sta_shift, (ok_Table_shift F22 T h_LONGEST_SHIFT m_BadCount c_is_integer m_Table), (F22.bindsN fun _ _ _ _ _ _ us hl => match us, hl with | [_], _ => rfl)⟩
  have c__law_shift : Cal P w K mg base 1 "_law_shift" (spLShift K) := Cal.mk' F23 (ok__law_shift F23 T) (T.gl _ (by decide +kernel)) (F23.bindsN fun _ _ _ _ _ _ us hl => match us, hl with | [_], _ => rfl)
  have c__law_told : Cal P w K mg base 1 "_law_told" (spTold K (ga K "Table")) := Cal.mk' F24 (ok__law_told F24 T tc) (T.gl _ (by decide +kernel)) (F24.bindsN fun _ _ _ _ _ _ us hl => match us, hl with | [_], _ => rfl)
  have c__law_shifts : Cal P w K mg base 7 "_law_shifts" spShifts := Cal.mk' F25 (ok__law_shifts F25 T (T.gl "Table" (by decide +kernel)) m_BadCount x_BadCount.xf x_BadCount.no (exmP_ok b_exm (by decide +kernel)) o_shift c__law_pick c__law_told c__law_shift) (T.gl _ (by decide +kernel)) (F25.bindsN fun _ _ _ _ _ _ us hl => match us, hl with | [_], _ => rfl)
  have c__law_spoilt : Cal P w K mg base 2 "_law_spoilt" (spSpoilt K) := Cal.mk' F26 (ok__law_spoilt F26 T c__law_pick) (T.gl _ (by decide +kernel)) (F26.bindsN fun _ _ _ _ _ _ us hl => match us, hl with | [_, _], _ => rfl)
  exact ok_law F27 T tc c__law_source c__law_pick c__law_raw c__law_spoilt c__law_seen c__law_due c__law_table c__law_refused_value c__law_shifts o_call
end K02
set_option Elab.async false
set_option linter.all false
set_option maxRecDepth 100000
set_option maxHeartbeats 0
namespace K02
open PySem PySem.Spec PyProof.Rows L2 He NF
abbrev R : PySem.W.OpenRow := PySem.W.OpenLaw.row PySem.Challenge.rw_needforth_k02_whole_bad_tables
abbrev hk : PySem.W.Hook := hookQ 5 exB fn
def ob (s : PySem.W.SharedT) : He.AlD := obsQG 5 exB fn (HandSHeadRun.getT s)
theorem ob_eq (s : PySem.W.SharedT) : ob s = hk.obs s.abs := obsQG_eq (HandSHeadRun.getT_eq s)
def loose : List Str := (["_wall", "__name__", "NeedforthError", "TooMany", "BadCount", "BadTable", "end_of", "value_at", "values_from", "many_at_most", "last_at_most", "shortest_lap", "plain_form", "settled_form", "spread", "ladder_of", "least_in", "first_under", "last_under", "Chase", "drift_of", "longest_head", "values_behind", "behind_form", "chosen"] : List Str) ++ (["settling", "joined_form", "both_form", "either_form", "turn_form", "is_integer", "is_count", "is_row", "is_climb", "LONGEST_SHIFT", "check_table", "Table", "_law_source", "_law_pick", "_law_is_integer", "_law_is_count", "_law_rising", "_law_raw", "_law_shift", "_law_told", "_law_table", "_law_spoilt", "_law_good", "_law_due", "_law_seen"] : List Str) ++ (["_law_refused_value", "_law_shifts"] : List Str)
theorem run (w : World) : HandSHeadRun.RunEqI R (PySem.W.view R.prog [0, 59]) hk ob 12000 loose w := by
  show _ = _
  kernel_rfl
end K02
set_option Elab.async false
set_option linter.all false
set_option maxRecDepth 100000
set_option maxHeartbeats 4000000
open PySem PySem.W PySem.Calls PyProof.Rows
theorem PySem.Challenge.cw_needforth_k02_whole_bad_tables_holds : PySem.Challenge.rw_needforth_k02_whole_bad_tables.Holds := by
  w_on; o_law
  refine HandSHeadRun.head_imp (r := OpenLaw.row PySem.Challenge.rw_needforth_k02_whole_bad_tables) (q := view (OpenLaw.row PySem.Challenge.rw_needforth_k02_whole_bad_tables).prog [0, 59]) (H := K02.hk) (ob := K02.ob) (M := 12000) (loose := K02.loose) (d := HandSHeadRun.topDef (OpenLaw.row PySem.Challenge.rw_needforth_k02_whole_bad_tables).prog 59) (kwd := []) K02.ob_eq
    K02.run (by kernel_rfl) (by kernel_rfl) (by kernel_rfl) (by rfl) (by first | assumption | decide +kernel) (by decide +kernel) ⟨rfl, rfl, rfl, rfl, rfl, by decide +kernel⟩ ?hw ?hc
  case hw => w_witness2
  case hc =>
    refine NF.walk_ofEB (l := PySem.Challenge.rw_needforth_k02_whole_bad_tables) (n := 63) (k := 8) (x := "_law_script") (CX := L2.CX0) rfl (by decide) (by kernel_rfl) ⟨rfl, by decide, by decide⟩ ?F (fun _ _ _ _ z => z)
    intro w mg fa h Y G hmg0
    obtain ⟨K, KX, c⟩ := Y
    have hmg : mg ("law" : PySem.Str) = some (.ref fa) := by
      have e : (HandSHeadRun.topDef (OpenLaw.row PySem.Challenge.rw_needforth_k02_whole_bad_tables).prog 59).name = ("law" : PySem.Str) := by kernel_rfl
      rw [← e]
      exact hmg0
    obtain ⟨fd, hb, hF⟩ := K02.all_ok (P := (PySem.Challenge.rw_needforth_k02_whole_bad_tables).prog) (w := w) KX G hmg c
    exact ⟨K, fd, K02.spLaw K, KX, hb, fun H a ns hl hbits _ hS => ⟨a, ns, rfl, hS, hl, hbits, fun _ => rfl⟩, hF⟩
