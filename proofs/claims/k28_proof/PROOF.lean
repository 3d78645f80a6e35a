import PyProof.Rows.All
import Wide.All
import OpenK.AllK
import Wide.FinOn
import PyProof.EqAt
import PyProof.EqKinds
import PyProof.TupleCall
import KE.KStateDown
import KE.KIsAll
import KE.KTryMore
import KE.KFromBytes
import HandS.ForMost
import HandS.ForExc
import HandS.IsInst
import HandS.Flow
import HandS.WideBits
import HandS.ExcInit
import HandS.ExcIs
import HandS.Head0
import HandS.Head1
import HandS.Head2
import HandS.HeadEnd
import HandS.HeadHook1
import HandS.HeadHook2
import HandS.ExcField
import HandS.ExcValue
import KE.KExcIs
import HandS.EndBits
import HandS.TupAny
import HandS.Zip
import HandS.TupMul
import HandS.Gcd
import HandS.Property
import HandS.Conv
import KE.KAssignIn
import HandS.Star
import HandS.WordsList
import PyProof.InstNe
import HandS.Head3
import OpenK.KMeth
import HandS.Defaults
import PySem.Challenge.RW_needforth_k28_whole_makers_of_tables
import HandS.Walk
import HandS.Call
import HandS.SortKw
import KE.GoesEnumKw
import PyProof.Rows.Range3
import HandS.Small
import KE.KMathG
import HandS.WordsExc
set_option Elab.async false
set_option linter.all false
set_option maxRecDepth 100000
set_option maxHeartbeats 4000000
/-! Facts of the top as one truth of the written part, and the head that hands them on. -/
namespace NF
open PySem PySem.Spec PyProof.Rows L2 He
def obsM (ex : PySem.W.Frag → Bool) (fn : List DefD) (K : PySem.W.Frag) : AlD := (ex K && fn.all fun d => d.ok K, fn.map fun d => fnW K d.at_)
def SaysM (ex : PySem.W.Frag → Bool) (fn : List DefD) (K : PySem.W.Frag) : Prop := obsM ex fn K = valD fn
def obsMG (n : Nat) (ex : PySem.W.Frag → Bool) (fn : List DefD) (g : Addr → Option Obj) : AlD := obsM ex fn (frG g (asD g n))
def hookM (n : Nat) (ex : PySem.W.Frag → Bool) (fn : List DefD) : PySem.W.Hook where
  α := AlD
  obs := fun s => obsMG n ex fn s.heap.get?
  val := fun _ => valD fn
  says := fun _ h => ∃ K : PySem.W.Frag, K.In h ∧ SaysM ex fn K
  of := fun _ _ e => ⟨_, frG_in, e⟩
  keeps := fun _ _ _ ⟨K, hK, c⟩ k => ⟨K, PySem.W.Frag.In.keeps hK k, c⟩
theorem obsMG_eq {n : Nat} {ex : PySem.W.Frag → Bool} {fn : List DefD} {g : Addr → Option Obj} {s : Shared} (h : ∀ a, g a = s.heap.get? a) : obsMG n ex fn g = (hookM n ex fn).obs s := by
  have e : g = s.heap.get? := funext h
  rw [e] <;> rfl
section
variable {ex : PySem.W.Frag → Bool} {fn : List DefD} {K : PySem.W.Frag}
theorem SaysM.truth (c : SaysM ex fn K) : ex K = true :=
  (ba (show (ex K && fn.all fun d => d.ok K) = true from congrArg (fun z : AlD => z.1) c)).1
theorem SaysM.def_ (c : SaysM ex fn K) (i : Nat) {d : DefD} (h : fn[i]? = some d := by rfl) : ∃ fd, FunD K d.name d.qual d.params d.body d.scope (d.dvs K) (d.kws K) (fAd K d.at_) fd := by
  have c2 := (ba (show (ex K && fn.all fun d => d.ok K) = true from congrArg (fun z : AlD => z.1) c)).2
  have e : fn.map (fun d => fnW K d.at_) = fn.map DefD.val := congrArg (fun z : AlD => z.2) c
  have e2 : (fn.map fun d => fnW K d.at_)[i]? = (fn.map DefD.val)[i]? := by rw [e]
  rw [List.getElem?_map, List.getElem?_map, h] at e2
  exact DefD.funD (Option.some.inj e2) (List.all_eq_true.mp c2 d (List.mem_of_getElem? h))
end
/-! ### an exception class of the program's own, over ValueError, by truths of the written part -/
/-- the class's own object -/
def exObjB (K : PySem.W.Frag) (C : Addr) : Bool := match K.lookup C with
  | some ⟨.type t, _, .cls cd, sl⟩ => t == "type" && (match cd.mro with
    | .ref C' :: bm => C' == C && PySem.HandSPX.refsVE bm
    | _ => false) && (cd.hasDict && !cd.hasDel) && (match sl.toList with
    | [_, _, _, _, some (.builtin n), _] => n == "ValueError.__new__"
    | _ => false)
  | _ => false
theorem exObjB_ok {K : PySem.W.Frag} {C : Addr} (h : exObjB K C = true) :
    ∃ nm q N bs bm sn sub ab col dd k0 k1 k2 k3 k5, K.lookup C = some (excClassObj nm q C N bs bm true sn sub ab col dd k0 k1 k2 k3 k5 "ValueError.__new__") ∧ PySem.HandSPX.refsVE bm = true := by
  unfold exObjB at h
  split at h
  · rename_i t dd cd sl hl
    obtain ⟨h, h4⟩ := ba h
    obtain ⟨h, h3⟩ := ba h
    obtain ⟨h1, h2⟩ := ba h
    split at h2
    · rename_i C' bm hm
      obtain ⟨h5, h6⟩ := ba h2
      split at h4
      · rename_i k0 k1 k2 k3 n k5 hs
        obtain ⟨h7, h8⟩ := ba h3
        have e1 : t = "type" := eq_of_beq h1
        have e5 : C' = C := eq_of_beq h5
        have e9 : n = "ValueError.__new__" := eq_of_beq h4
        subst e1 e5 e9
        obtain ⟨nm, bs, mro, N, q, hd, sn, sub, ab, col, hdel⟩ := cd
        dsimp only at hm h7 h8
        subst hm h7
        have hdel' : hdel = false := by
          cases hdel with
          | false => rfl
          | true => cases h8
        subst hdel'
        have hsl : sl = #[k0, k1, k2, k3, some (.builtin "ValueError.__new__"), k5] := by
          have := congrArg List.toArray hs
          simpa using this
        subst hsl
        exact ⟨nm, q, N, bs, bm, sn, sub, ab, col, dd, k0, k1, k2, k3, k5, hl, h6⟩
      · cases h4
    · cases h2
  · cases h
/-- all that making one, storing to it and raising it ask of the class -/
def oexB (K : PySem.W.Frag) (C : Addr) : Bool :=
  exObjB K C && eqO (PySem.W.findIn K (.ref C) "__setattr__") (some (some (.builtin "object.__setattr__"))) && decide (PySem.W.subIn K (.ref C) (.type "BaseException") = some true) &&
    decide (PySem.W.typeIn K (.ref C) = some (.type "type")) && PySem.W.keepIn K (.ref C)
theorem oexB_ok {K : PySem.W.Frag} {C : Addr} (h : oexB K C = true) : OexC K C := by
  obtain ⟨h, h5⟩ := ba h
  obtain ⟨h, h4⟩ := ba h
  obtain ⟨h, h3⟩ := ba h
  obtain ⟨h1, h2⟩ := ba h
  exact ⟨exObjB_ok h1, eqO_ok h2, of_decide_eq_true h3, of_decide_eq_true h4, h5⟩
/-- all that isinstance asks of an instance's class -/
def excB (K : PySem.W.Frag) (D : Addr) : Bool :=
  eqO (PySem.W.findIn K (.ref D) "__getattribute__") (some (some (.builtin "BaseException.__getattribute__"))) && eqO (PySem.W.findIn K (.ref D) "__getattr__") (some none) &&
    decide (PySem.W.subIn K (.ref D) (.type "BaseException") = some true) && PySem.W.hasDictIn K D && eqO (PySem.W.findIn K (.ref D) "__class__") (some (some (.builtin "object.__class__"))) &&
    eqO (PySem.W.specialIn K (.builtin "object.__class__") "__get__") (some (some (.builtin "getset_descriptor.__get__"))) && decide (PySem.W.takesIn K (.builtin "object.__class__") = some true) && decide (PySem.W.mroIn K D (.type "object") = some true)
theorem excB_ok {K : PySem.W.Frag} {D : Addr} (h : excB K D = true) : ExcC K D := by
  obtain ⟨h, h8⟩ := ba h
  obtain ⟨h, h7⟩ := ba h
  obtain ⟨h, h6⟩ := ba h
  obtain ⟨h, h5⟩ := ba h
  obtain ⟨h, h4⟩ := ba h
  obtain ⟨h, h3⟩ := ba h
  obtain ⟨h1, h2⟩ := ba h
  exact ⟨eqO_ok h1, eqO_ok h2, of_decide_eq_true h3, h4, eqO_ok h5, eqO_ok h6, of_decide_eq_true h7, of_decide_eq_true h8⟩
end NF
set_option Elab.async false
set_option linter.all false
set_option maxRecDepth 100000
set_option maxHeartbeats 4000000
/-! Own exceptions as values: made, asked for their class, read. -/
namespace NF
open PySem PySem.Spec PyProof.Rows L2 He
/-! ### C(e, ..) as a value: the class's own __init__ keeps sp -/
def tMkV (C : Addr) (sp : Sp) (ta : TA) : TE := fun σ H Q => ta σ H fun vs H1 => vs.length ≤ 1000 ∧ ∀ a, H1 a = none → sp (.ref a :: vs) (upd H1 a (exo a C none))
  (fun v H2 => v = .non ∧ Q (.ref a) H2) (fun _ _ _ => False)
section
variable {X : Cx} {e : Expr} {es : List Expr} {ta : TA} {p pos : Pos}
theorem pe_oex {CX : CXT} {x : Str} {C fI : Addr} {k : Nat} {fd : FuncData} {ps : List Str} {sp : Sp} (T : OexC X.K C) (iC : PySem.W.findIn X.K (.ref C) "__init__" = some (some (.ref fI))) (tI : PySem.W.typeIn X.K (.ref fI) = some (.type "function"))
    (F1 : FnOk X.prog X.w X.K X.mg X.base CX k fI fd ps sp) (hr : Room (k + 1) X.A) (hb : Binds X.K fd ps []) (hx : Passes CX X (fun _ _ _ => False)) (hg : Gl X x) (hm : X.mg x = some (.ref C)) (ha : PA X (e :: es) ta)
    (hdb : (x == ("__debug__" : Str)) = false := by decide) (he : starEach (e :: es) X.env = (false, eval e X.env) :: starEach es X.env := by rfl) (hpl : (backTo pos (starEach es X.env)).any (·.1) = false := by rfl) :
    PE X (.Call (.Name x p) (e :: es) [] pos) (tMkV C sp ta) := by
  refine ⟨fun pins s σ H Q I h => ?_⟩
  obtain ⟨nm, q, N, bs, bm, sn, sub, ab, col, dd, k0, k1, k2, k3, k5, hC, hbm⟩ := T.cls
  refine wpAny_Call_Name_kw (ld_glob I hg hm ?_ hdb)
  refine PySem.W.callWith_K (h₀ := X.base) I.ok.mod.kin T.kC (thn (ha.run pos pins s σ H _ I h) fun us s1 ⟨vs, H1, I1, r1, hz, q1⟩ => ⟨I1.kIn, ?_⟩) he hpl
  show wpAny _ _ (call (.ref C) us) _ _ _
  obtain ⟨hp, g, dr, tk, os⟩ := s1
  have hsz : hp.objs.size ≤ hp.objs.size + 1 := Nat.le_succ _
  have hn : H1 (hp.objs.size + 1) = none := I1.hok.fresh hsz
  have hq := q1 (hp.objs.size + 1) hn
  have kk : ∀ b o, hp.get? b = some o → ((hp.push (PySem.W.kdv_tup us)).push (PySem.HandSPX.excO C hp.objs.size)).get? b = some o := fun b o e => Heap.get?_push_of_some _ (Heap.get?_push_of_some _ e)
  have hget : ((hp.push (PySem.W.kdv_tup us)).push (PySem.HandSPX.excO C hp.objs.size)).get? (hp.objs.size + 1) = some (PySem.HandSPX.excO C hp.objs.size) := by heap_get
  have I2 : Inv X pins σ (upd H1 (hp.objs.size + 1) (exo (hp.objs.size + 1) C none)) ⟨(hp.push (PySem.W.kdv_tup us)).push (PySem.HandSPX.excO C hp.objs.size), g, dr, tk, os⟩ :=
    I1.laid (t' := tk) (a := hp.objs.size + 1) (o := exo (hp.objs.size + 1) C none) (h' := (hp.push (PySem.W.kdv_tup us)).push (PySem.HandSPX.excO C hp.objs.size)) kk hsz (exo_ok hget)
  have r2 : Vals (V.ref (hp.objs.size + 1) :: vs) (Value.ref (hp.objs.size + 1) :: us) := .cons rfl r1
  have hl : (Value.ref (hp.objs.size + 1) :: us ++ []).length = ps.length := by
    have e := r2.length
    rw [F1.len _ _ _ _ hq] at e
    rw [List.append_nil]
    exact e.symm
  have hus : us.length ≤ sizeLine := by
    rw [← Paired.length r1, sizeLine_eq]
    omega
  have hb' : BindsTo (⟨(hp.push (PySem.W.kdv_tup us)).push (PySem.HandSPX.excO C hp.objs.size), g, dr, tk, os⟩ : Shared) fd ⟨Value.ref (hp.objs.size + 1) :: us, []⟩ (ps.zip (Value.ref (hp.objs.size + 1) :: us)) := by
    have := hb ⟨(hp.push (PySem.W.kdv_tup us)).push (PySem.HandSPX.excO C hp.objs.size), g, dr, tk, os⟩ (Value.ref (hp.objs.size + 1) :: us) I2.kIn hl
    rw [List.append_nil] at this
    exact this
  refine wpAny_call (PySem.HandSPX.call_own F.excBase_ValueError (fun Y => PySem.HandSPX.refsVE_contains Y bm hbm) (I1.kIn _ _ hC) (PySem.W.looks_findIn I1.kIn iC) (fun self => PySem.W.bind_fn I1.kIn self tI) hus
    (codeAny_mono (F1.run _ X.stack _ _ ⟨Value.ref (hp.objs.size + 1) :: us, []⟩ (Value.ref (hp.objs.size + 1) :: us) _ _ (fun _ _ _ => False) (hr.make C us []) (I2.env0.make C us []) hb' r2 hq) fun r s' hq' => ?_))
  cases r with
  | error er => exact hx pins σ _ _ er s' I2 hq'
  | ok fl =>
    cases fl with
    | ret u =>
      obtain ⟨v, H2, os2, bare2, un2, hok2, rv, ev, q2⟩ := hq'
      subst ev
      obtain ⟨h2, g2, d2, t2, os'⟩ := s'
      exact ⟨rv, V.ref (hp.objs.size + 1), H2, I2.call' (ch := []) os2 un2 hok2 bare2 (fun b z => absurd z (by simp)), rfl, q2⟩
    | next => exact False.elim hq'
    | brk => exact False.elim hq'
    | cont => exact False.elim hq'
/-- C(), an own exception class without own __init__, as a value -/
def tMk0 (C : Addr) : TE := fun _ H Q => ∀ a, H a = none → Q (.ref a) (upd H a (exo a C none))
theorem pe_exc0 {C : Addr} {x : Str} (q : PySem.W.excIn X.K C He.veBase "ValueError.__new__" = true) (gC : X.mg x = some (.ref C)) (kC : PySem.W.keepIn X.K (.ref C) = true) (hg : Gl X x)
    (hdb : (x == ("__debug__" : Str)) = false := by decide) :
    PE X (.Call (.Name x p) [] [] pos) (tMk0 C) := by
  refine ⟨fun pins s σ H Q I h => ?_⟩
  refine wpAny_Call_Name_kw (ld_glob I hg gC ?_ hdb)
  refine PySem.W.callWith_K0 I.kIn kC ?_
  show wpAny _ _ (call (.ref C) []) _ _ _
  obtain ⟨bm, N, nm, qn, bs, hdct, sn, sub, ab, col, dd, k0, k1, k2, k3, k5, mN, hC, hN, hni, T⟩ := exc_obj I.kIn q
  obtain ⟨hp, g, dr, tk, os⟩ := s
  refine wpAny_call_exc_subT F.excBase_ValueError T hC hN hni (fun h' a hm => ?_) (Nat.zero_le _)
  have hn : H a = none := I.hok.gone hm.new
  obtain ⟨t, ht, _, _⟩ := hm.there
  exact ⟨.ref a, upd H a (exo a C none), I.laidN hm.keeps hm.new hn (exo_ok ht), rfl, h a hn⟩
/-! ### isinstance of such a value -/
def rIsV (K : PySem.W.Frag) : List V → Hp → VK → Prop := fun xs H Q => ∃ (a C : Addr) (od : Option Addr) (c : V) (u : Value) (b : Bool), xs = [.ref a, c] ∧ ClsV c u ∧ ExcC K C ∧ H a = some (exo a C od) ∧
  (∀ d, od = some d → ∃ fs, H d = some (exd d fs)) ∧ PySem.W.kitOne K (.ref C) u = some b ∧ Q (.bl b) H
theorem inst_exo {pins : List (Addr × Obj)} {σ : L2.St} {H : Hp} {s : Shared} {a C : Addr} {od : Option Addr} (I : Inv X pins σ H s) (e : H a = some (exo a C od)) (hd : ∀ d, od = some d → ∃ fs, H d = some (exd d fs)) :
    ∃ ox o, PySem.W.InstAt s.heap a ox C o := by
  obtain ⟨t1, h1⟩ := exo_at I.hok e
  cases od with
  | none => exact ⟨_, none, h1, rfl, rfl, trivial⟩
  | some d =>
    obtain ⟨fs, h2⟩ := hd d rfl
    obtain ⟨mA, hns, _⟩ := exd_at I.hok h2
    obtain ⟨o, ho, _⟩ := lookIn_ns hns
    exact ⟨_, some o, h1, rfl, rfl, ho⟩
theorem call_isV : CallR X (.builtin "isinstance") (rIsV X.K) := by
  intro pins s σ H xs us Q I r h
  obtain ⟨a, C, od, c, u, b, rfl, k, T, e, hd, hk, q⟩ := h
  obtain ⟨u1, u2, rfl, r1, r2⟩ := vals2 r
  have e2 := k.eq r2
  subst e2
  cases (show u1 = Value.ref a from r1)
  obtain ⟨ox, o, J⟩ := inst_exo I e hd
  have hcl : (PySem.W.clsIn X.K C).isSome = true := by
    obtain ⟨cd, hc, _⟩ := PySem.W.any_some T.hd
    rw [hc] <;> rfl
  exact PySem.W.kia_one (PySem.W.kitx_exc (ox := ox) (od := o) hcl T.hg T.hk T.hs T.ha T.hn T.ht T.hm) I.kIn J hk (fun z => nomatch z) fun tk => ⟨.bl b, H, I.tok tk, rfl, q⟩
/-! ### its field -/
def tXv (K : PySem.W.Frag) (f : Str) (te : TE) : TE := fun σ H Q => te σ H fun x H1 => ∃ (a C d : Addr) (fs : List (Str × V)) (v : V), x = .ref a ∧ XfC K C ∧ PySem.W.findIn K (.ref C) f = some none ∧ H1 a = some (exo a C (some d)) ∧ H1 d = some (exd d fs) ∧ fs.lookup f = some v ∧ Q v H1
theorem pe_xv {n : Str} {te : TE} (he : PE X e te) (hb : attributeBase e n X.env (eval e X.env) = eval e X.env := by rfl) : PE X (.Attribute e n pos) (tXv X.K n te) := by
  refine ⟨fun pins s σ H Q I h => ?_⟩
  refine attr_of hb (thn (he.run pins s σ H _ I h) fun u s1 hh => ?_)
  obtain ⟨x, H1, I1, rx, a, C, d, fs, v, ex, T, hno, ea, ed, l, q⟩ := hh
  subst ex
  obtain rfl : u = Value.ref a := rx
  obtain ⟨t1, h1⟩ := exo_at I1.hok ea
  obtain ⟨mA, hns, hr⟩ := exd_at I1.hok ed
  obtain ⟨od, ho, hl⟩ := lookIn_ns hns
  obtain ⟨u, hu, ru⟩ := RelO.some_of (v := v) (o := mA n) (by rw [← l]; exact hr n)
  have J : PySem.W.InstAt s1.heap a _ C (some od) := ⟨h1, rfl, rfl, ho⟩
  exact HandSPX.exc_get I1.kIn J T.ga T.gg T.exC (PySem.W.findObj_own T.hdC hno rfl (by rw [hl, hu])) (handed_of ru) ⟨v, H1, I1.tok _, ru, q⟩
end
end NF
set_option Elab.async false
set_option linter.all false
set_option maxRecDepth 100000
set_option maxHeartbeats 4000000
/-! What each law's own helpers keep: the source of draws. -/
namespace NF
open PySem PySem.Spec PyProof.Rows L2 He
/-- the names that a def reads off the module: those that stand for an object of the written part, those that are still Python's own -/
structure Txt (K : PySem.W.Frag) (mg : Str → Option Value) (gs fs : List Str) : Prop where
  gl : ∀ x, x ∈ gs → mg x = some (.ref (ga K x))
  fr : ∀ x, x ∈ fs → mg x = none
/-- a source of draws at p: three ints -/
def Src (H : Hp) (p : Addr) : Prop := ∃ a s c : Int, H p = some (.lst [.int a, .int s, .int c])
/-- a draw: some number from 0 below m; all but the source stands (H0: what the caller wants to stand) -/
def spPick : Sp := fun vs H Q _ => ∃ (H0 : Hp) (p : Addr) (m : Int), vs = [.ref p, .int m] ∧ Same H0 H ∧ H0 p = none ∧ Src H p ∧ 0 < m ∧ m < 1073741824 ∧
  ∀ d H', 0 ≤ d → d < m → Same H0 H' → Src H' p → Q (.int d) H'
/-- a new source of the script -/
def spSource (K : PySem.W.Frag) : Sp := fun vs H Q _ => ∃ (l : Addr) (ns : List Int) (i : Nat), vs = [.ref l, .int (i : Int)] ∧ SqL K H l (ns.map V.int) ∧ ns.length ≤ 63 ∧ (∀ k ∈ ns, Builtin.Int.intBits k ≤ 1048576) ∧ i < 1000 ∧
  ∀ p H', Same H H' → H p = none → Src H' p → Q (.ref p) H'
theorem Same.put {H0 H : Hp} {p : Addr} {o : HO} (h : Same H0 H) (n : H0 p = none) : Same H0 (upd H p o) := fun b u e => by
  rw [upd_ne (ne_of_none e n)]
  exact h b u e
theorem Same.new {H0 H : Hp} {p : Addr} {o : HO} (h : Same H0 H) (n : H p = none) : Same H0 (upd H p o) := NF.Same.put h (L2.Same.free h n)
/-- a def that may be called by its name; it lets nothing out -/
structure Cal (P : Program) (w : World) (K : PySem.W.Frag) (mg : Str → Option Value) (base : Heap) (k : Nat) (x : Str) (sp : Sp) : Prop where
  ex : ∃ (f : Addr) (fd : FuncData) (ps : List Str), FnOk P w K mg base CX0 k f fd ps sp ∧ mg x = some (.ref f) ∧ PySem.W.keepIn K (.ref f) = true ∧ Binds K fd ps []
theorem pe_c {X : Cx} {k j : Nat} {x : Str} {sp : Sp} {e : Expr} {es : List Expr} {t : TA} {p pos : Pos} (c : Cal X.prog X.w X.K X.mg X.base k x sp) (hr : Room j X.A) (hk : k ≤ j) (hg : Gl X x) (ha : PA X (e :: es) t)
    (hdb : (x == ("__debug__" : Str)) = false := by decide) (he : starEach (e :: es) X.env = (false, eval e X.env) :: starEach es X.env := by rfl) (hpl : (backTo pos (starEach es X.env)).any (·.1) = false := by rfl) :
    PE X (.Call (.Name x p) (e :: es) [] pos) (tCall sp [] E0 t) := by
  obtain ⟨f, fd, ps, F, hm, kp, b⟩ := c.ex
  exact pe_call F (hr.mono hk) hg hm kp b .nil pass0 ha hdb he hpl
theorem Cal.mk' {P : Program} {w : World} {K : PySem.W.Frag} {mg : Str → Option Value} {base : Heap} {k : Nat} {x q : Str} {pa : Arguments} {bd : List Stmt} {sc : Scope} {sp : Sp} {f : Addr} {fd : FuncData} {ps : List Str}
    (F : FunD K x q pa bd sc [] [] f fd) (ok : FnOk P w K mg base CX0 k f fd ps sp) (hm : mg x = some (.ref f)) (b : Binds K fd ps []) : Cal P w K mg base k x sp := ⟨f, fd, ps, ok, hm, F.kp, b⟩
theorem at0 {x y z : V} : atI [x, y, z] 0 = some x := rfl
theorem at1 {x y z : V} : atI [x, y, z] 1 = some y := rfl
theorem at2 {x y z : V} : atI [x, y, z] 2 = some z := rfl
end NF
namespace NF
open PySem PySem.Spec PyProof.Rows L2 He
/-- the heap without p -/
def wo (H : Hp) (p : Addr) : Hp := fun a => if a = p then none else H a
theorem wo_none {H : Hp} {p : Addr} : wo H p p = none := if_pos rfl
theorem wo_ne {H : Hp} {p a : Addr} (h : a ≠ p) : wo H p a = H a := if_neg h
theorem wo_same' {H : Hp} {p : Addr} : Same (wo H p) H := fun a o e => by
  by_cases h : a = p
  · rw [h, wo_none] at e
    cases e
  · rw [wo_ne h] at e
    exact e
theorem wo_same {H0 H H' : Hp} {p : Addr} (s : Same H0 H) (n : H0 p = none) (s' : Same (wo H p) H') : Same H0 H' := fun a o e =>
  s' a o ((wo_ne (ne_of_none e n)).trans (s a o e))
theorem Same.mut {H0 H : Hp} {p : Addr} {o : HO} (h : Same H0 H) (n : H0 p = none) : Same H0 (upd H p o) := NF.Same.put h n
theorem Src.mono {H H' : Hp} {p : Addr} (h : Src H p) (s : Same H H') : Src H' p := by
  obtain ⟨x, y, z, h⟩ := h
  exact ⟨x, y, z, s _ _ h⟩
end NF
namespace NF
open PySem PySem.Spec PyProof.Rows L2 He
theorem walk_ofEB {l : PySem.W.OpenLaw} {n k : Nat} {q : Program} {loose : List Str} {XP : (Str → Option Value) → Heap → Prop} {YP : World → Heap → Prop} {d : DefRec} {CX : CXT} {x : Str}
    (hn : l.most = some n) (hn2 : n ≤ sizeLine) (hdf : d.params.defaults = []) (hr : Room k callerA)
    (F : ∀ (w : World) (mg : Str → Option Value) (fa : Addr) (h : Heap), YP w h → h.Ns mainGlobals mg → mg d.name = some (.ref fa) →
      ∃ (K : PySem.W.Frag) (fd : FuncData) (sp : Sp), K.In h ∧ (∀ (s : Shared) (u : Value), BindsTo s fd ⟨[u], []⟩ [(x, u)]) ∧
        (∀ (H : Hp) (a : Addr) (ns : List Int), ns.length ≤ n → (∀ z ∈ ns, Builtin.Int.intBits z ≤ 1048576) → Only H → SqL K H a (ns.map V.int) → sp [.ref a] H (fun v _ => v = .bl true) fun _ _ _ => False) ∧
        ∀ base : Heap, K.In base → base.Ns mainGlobals mg → FnOk l.prog w K mg base CX k fa fd [x] sp)
    (hCX : ∀ (H : Hp) (s : Shared) (e : Value) (s' : Shared), CX [] H s (fun _ _ _ => False) e s' → False) :
    PySem.W.WalkO q loose XP YP l.row.toRowW d [] (fun f vs => PySem.call f vs) := by
  refine Att.attach_callB hn hdf fun w s₀ s₁ mg mb fa o pm cd doc a vs ns G Y ho hd hcd hmg hobj hints hlen hbits hg => ?_
  obtain ⟨K, fd, sp, KX, hb, hsp, hF⟩ := F w mg fa _ Y G.T.g hmg
  exact law_call KX G.T.g G.T.b G.T.builtins G.T.nolimit hg hobj hints (Nat.le_trans hlen hn2) hr hF hb (fun H hO hS => hsp H a ns hlen hbits hO hS) fun H e s' => hCX H s₁ e s'
end NF
set_option linter.all false
/-! Tables as plain Lean: head, loop, rise; the plain form is the only one. -/
namespace NT
/-- what a loop tells, from its first place on -/
def walk (l : List Int) (r : Int) (k : Nat) : Int := l.getD (k % l.length) 0 + r * ((k / l.length : Nat) : Int)
/-- the value at n, from 1 on; none: never -/
def at_ (h l : List Int) (r : Int) (n : Nat) : Option Int :=
  if n ≤ h.length then some (h.getD (n - 1) 0) else if l = [] then none else some (walk l r (n - h.length - 1))
/-- m steps on the values are a fixed number more -/
def Per (f : Nat → Int) (m : Nat) : Prop := ∃ c, ∀ k, f (k + m) = f k + c
def LoopMin (l : List Int) (r : Int) : Prop := ∀ m, 0 < m → m ∣ l.length → Per (walk l r) m → m = l.length
def HeadMin (h l : List Int) (r : Int) : Prop := ∀ k, h.length = k + 1 → h.getD k 0 + r ≠ l.getD (l.length - 1) 0

theorem walk_add {l : List Int} {r : Int} (hl : 0 < l.length) (k : Nat) : walk l r (k + l.length) = walk l r k + r := by
  unfold walk
  rw [Nat.add_mod_right, Nat.add_div_right _ hl]
  rw [Int.natCast_add, Int.mul_add]
  omega
theorem walk_add_mul {l : List Int} {r : Int} (hl : 0 < l.length) (k j : Nat) : walk l r (k + l.length * j) = walk l r k + r * (j : Int) := by
  induction j with
  | zero => simp
  | succ j ih =>
    rw [Nat.mul_succ, ← Nat.add_assoc, walk_add hl, ih, Int.natCast_add, Int.mul_add]
    omega
theorem walk_lt {l : List Int} {r : Int} {k : Nat} (h : k < l.length) : walk l r k = l.getD k 0 := by
  unfold walk
  rw [Nat.mod_eq_of_lt h, Nat.div_eq_of_lt h]
  simp
/-- periods, further on alone -/
def PerF (f : Nat → Int) (N m : Nat) : Prop := ∃ c, ∀ k, N ≤ k → f (k + m) = f k + c
theorem PerF.sub {f : Nat → Int} {N a b : Nat} (ha : PerF f N (a + b)) (hb : PerF f N b) : PerF f N a := by
  obtain ⟨c, hc⟩ := ha
  obtain ⟨d, hd⟩ := hb
  refine ⟨c - d, fun k hk => ?_⟩
  have h1 := hc k hk
  have h2 := hd (k + a) (by omega)
  rw [show k + a + b = k + (a + b) by omega, h1] at h2
  omega
theorem PerF.mul {f : Nat → Int} {N a : Nat} (ha : PerF f N a) (j : Nat) : PerF f N (a * j) := by
  obtain ⟨c, hc⟩ := ha
  refine ⟨c * (j : Int), ?_⟩
  induction j with
  | zero => intro k _; simp
  | succ j ih =>
    intro k hk
    have h1 := ih k hk
    have h2 := hc (k + a * j) (by omega)
    rw [Nat.mul_succ, ← Nat.add_assoc, h2, h1, Int.natCast_add, Int.mul_add]
    omega
theorem PerF.gcd {f : Nat → Int} {N : Nat} : ∀ (a b : Nat), PerF f N a → PerF f N b → PerF f N (Nat.gcd a b) := by
  intro a
  induction a using Nat.strongRecOn with
  | _ a ih =>
    intro b ha hb
    cases a with
    | zero => rw [Nat.gcd_zero_left]; exact hb
    | succ a =>
      rw [Nat.gcd_rec]
      have hlt : b % (a + 1) < a + 1 := Nat.mod_lt _ (Nat.succ_pos a)
      have hm : PerF f N (b % (a + 1)) := by
        have h1 : b = b % (a + 1) + (a + 1) * (b / (a + 1)) := (Nat.mod_add_div b (a + 1)).symm
        exact PerF.sub (b := (a + 1) * (b / (a + 1))) (by rw [← h1]; exact hb) (ha.mul _)
      exact ih _ hlt (a + 1) hm ha
theorem at_loop {h l : List Int} {r : Int} {n : Nat} (hl : l ≠ []) (hn : h.length < n) : at_ h l r n = some (walk l r (n - h.length - 1)) := by
  unfold at_
  rw [if_neg (by omega), if_neg hl]
theorem len_pos {l : List Int} (h : l ≠ []) : 0 < l.length := List.length_pos_iff.mpr h

section
variable {h1 l1 h2 l2 : List Int} {r1 r2 : Int}
theorem walk_eq (n1 : l1 ≠ []) (n2 : l2 ≠ []) (e : ∀ n, 1 ≤ n → at_ h1 l1 r1 n = at_ h2 l2 r2 n) {n : Nat} (g1 : h1.length < n) (g2 : h2.length < n) : walk l1 r1 (n - h1.length - 1) = walk l2 r2 (n - h2.length - 1) := by
  have q := e n (by omega)
  rw [at_loop n1 g1, at_loop n2 g2] at q
  exact Option.some.inj q
theorem one_loop_le (n1 : l1 ≠ []) (n2 : l2 ≠ []) (m1 : LoopMin l1 r1) (e : ∀ n, 1 ≤ n → at_ h1 l1 r1 n = at_ h2 l2 r2 n) : l1.length ∣ l2.length := by
  have p1 := len_pos n1
  have p2 := len_pos n2
  -- l1's walk is, further on, of both periods
  have hA : PerF (walk l1 r1) (h1.length + h2.length) l1.length := ⟨r1, fun k _ => walk_add p1 k⟩
  have hB : PerF (walk l1 r1) (h1.length + h2.length) l2.length := by
    refine ⟨r2, fun k hk => ?_⟩
    have q1 := walk_eq n1 n2 e (n := k + h1.length + 1) (by omega) (by omega)
    have q2 := walk_eq n1 n2 e (n := k + l2.length + h1.length + 1) (by omega) (by omega)
    rw [show k + h1.length + 1 - h1.length - 1 = k by omega] at q1
    rw [show k + l2.length + h1.length + 1 - h1.length - 1 = k + l2.length by omega, show k + l2.length + h1.length + 1 - h2.length - 1 = (k + h1.length + 1 - h2.length - 1) + l2.length by omega, walk_add p2, ← q1] at q2
    exact q2
  have hG := PerF.gcd _ _ hA hB
  obtain ⟨c, hc⟩ := hG
  have hP : Per (walk l1 r1) (Nat.gcd l1.length l2.length) := by
    refine ⟨c, fun k => ?_⟩
    have q := hc (k + l1.length * (h1.length + h2.length)) (by
      have : h1.length + h2.length ≤ l1.length * (h1.length + h2.length) := Nat.le_mul_of_pos_left _ p1
      omega)
    rw [show k + l1.length * (h1.length + h2.length) + Nat.gcd l1.length l2.length = (k + Nat.gcd l1.length l2.length) + l1.length * (h1.length + h2.length) by omega, walk_add_mul p1, walk_add_mul p1] at q
    omega
  have := m1 _ (Nat.gcd_pos_of_pos_left _ p1) (Nat.gcd_dvd_left _ _) hP
  rw [← this]
  exact Nat.gcd_dvd_right _ _
theorem one_head_le (n1 : l1 ≠ []) (n2 : l2 ≠ []) (el : l1.length = l2.length) (m2 : HeadMin h2 l2 r2) (er : r1 = r2) (e : ∀ n, 1 ≤ n → at_ h1 l1 r1 n = at_ h2 l2 r2 n) : h2.length ≤ h1.length := by
  have p1 := len_pos n1
  have p2 := len_pos n2
  refine Nat.le_of_not_lt fun hlt => ?_
  obtain ⟨k, hk⟩ : ∃ k, h2.length = k + 1 := ⟨h2.length - 1, by omega⟩
  have q1 := e (k + 1) (by omega)
  have q2 := e (k + 1 + l2.length) (by omega)
  rw [at_loop n1 (by omega), at_loop n2 (by omega)] at q2
  rw [at_loop n1 (by omega)] at q1
  unfold at_ at q1
  rw [if_pos (by omega)] at q1
  have q1 := Option.some.inj q1
  have q2 := Option.some.inj q2
  rw [show k + 1 + l2.length - h1.length - 1 = (k + 1 - h1.length - 1) + l1.length by omega, walk_add p1, q1] at q2
  rw [walk_lt (by omega), show k + 1 + l2.length - h2.length - 1 = l2.length - 1 by omega, show k + 1 - 1 = k by omega] at q2
  exact m2 k hk (by rw [← q2, er])
/-- two forms that can't be made smaller and tell the same are the same -/
theorem one_form (n1 : l1 ≠ []) (n2 : l2 ≠ []) (a1 : LoopMin l1 r1) (a2 : LoopMin l2 r2) (b1 : HeadMin h1 l1 r1) (b2 : HeadMin h2 l2 r2) (e : ∀ n, 1 ≤ n → at_ h1 l1 r1 n = at_ h2 l2 r2 n) : h1 = h2 ∧ l1 = l2 ∧ r1 = r2 := by
  have p1 := len_pos n1
  have p2 := len_pos n2
  have el : l1.length = l2.length := Nat.dvd_antisymm (one_loop_le n1 n2 a1 e) (one_loop_le n2 n1 a2 fun n hn => (e n hn).symm)
  have er : r1 = r2 := by
    have q1 := walk_eq n1 n2 e (n := h1.length + h2.length + 1) (by omega) (by omega)
    have q2 := walk_eq n1 n2 e (n := h1.length + h2.length + 1 + l1.length) (by omega) (by omega)
    rw [show h1.length + h2.length + 1 + l1.length - h1.length - 1 = (h1.length + h2.length + 1 - h1.length - 1) + l1.length by omega, walk_add p1,
      show h1.length + h2.length + 1 + l1.length - h2.length - 1 = (h1.length + h2.length + 1 - h2.length - 1) + l2.length by omega, walk_add p2, q1] at q2
    omega
  have eh : h1.length = h2.length := Nat.le_antisymm (one_head_le n2 n1 el.symm b1 er.symm fun n hn => (e n hn).symm) (one_head_le n1 n2 el b2 er e)
  refine ⟨List.ext_getElem eh fun i i1 i2 => ?_, List.ext_getElem el fun i i1 i2 => ?_, er⟩
  · have q := e (i + 1) (by omega)
    unfold at_ at q
    rw [if_pos (by omega), if_pos (by omega)] at q
    have q := Option.some.inj q
    rw [show i + 1 - 1 = i by omega, List.getD_eq_getElem?_getD, List.getD_eq_getElem?_getD, List.getElem?_eq_getElem i1, List.getElem?_eq_getElem i2] at q
    exact q
  · have q := walk_eq n1 n2 e (n := h1.length + 1 + i) (by omega) (by omega)
    rw [show h1.length + 1 + i - h1.length - 1 = i by omega, show h1.length + 1 + i - h2.length - 1 = i by omega, walk_lt i1, walk_lt i2,
      List.getD_eq_getElem?_getD, List.getD_eq_getElem?_getD, List.getElem?_eq_getElem i1, List.getElem?_eq_getElem i2] at q
    exact q
theorem one_never (e : ∀ n, 1 ≤ n → at_ h1 [] r1 n = at_ h2 [] r2 n) : h1 = h2 := by
  have el : h1.length = h2.length := by
    have q1 := e (h1.length + 1) (by omega)
    have q2 := e (h2.length + 1) (by omega)
    unfold at_ at q1 q2
    rw [if_neg (by omega), if_pos rfl] at q1
    rw [if_neg (show ¬ h2.length + 1 ≤ h2.length by omega), if_pos rfl] at q2
    by_cases c1 : h1.length + 1 ≤ h2.length
    · rw [if_pos c1] at q1
      cases q1
    · by_cases c2 : h2.length + 1 ≤ h1.length
      · rw [if_pos c2] at q2
        cases q2
      · omega
  refine List.ext_getElem el fun i i1 i2 => ?_
  have q := e (i + 1) (by omega)
  unfold at_ at q
  rw [if_pos (by omega), if_pos (by omega)] at q
  have q := Option.some.inj q
  rw [show i + 1 - 1 = i by omega, List.getD_eq_getElem?_getD, List.getD_eq_getElem?_getD, List.getElem?_eq_getElem i1, List.getElem?_eq_getElem i2] at q
  exact q
end
end NT
set_option linter.all false
namespace NT
structure LapIs (l : List Int) (r : Int) (m : Nat) : Prop where
  pos : 0 < m
  dvd : m ∣ l.length
  per : Per (walk l r) m
  least : ∀ m', 0 < m' → m' ∣ l.length → Per (walk l r) m' → m ≤ m'
theorem LapIs.one {l : List Int} {r : Int} {m m' : Nat} (a : LapIs l r m) (b : LapIs l r m') : m = m' := Nat.le_antisymm (a.least _ b.pos b.dvd b.per) (b.least _ a.pos a.dvd a.per)
theorem per_mul {f : Nat → Int} {m : Nat} {c : Int} (h : ∀ k, f (k + m) = f k + c) (k j : Nat) : f (k + m * j) = f k + c * (j : Int) := by
  induction j with
  | zero => simp
  | succ j ih =>
    rw [Nat.mul_succ, ← Nat.add_assoc, h, ih, Int.natCast_add, Int.mul_add]
    omega
/-- the rise of a part that comes round -/
theorem per_rise {l : List Int} {r c : Int} {m : Nat} (hl : l ≠ []) (h : ∀ k, walk l r (k + m) = walk l r k + c) {t : Nat} (ht : m * t = l.length) : r = c * (t : Int) := by
  have q := per_mul h 0 t
  rw [ht, walk_add (len_pos hl)] at q
  omega
theorem per_self {l : List Int} {r : Int} (hl : l ≠ []) : Per (walk l r) l.length := ⟨r, walk_add (len_pos hl)⟩
theorem getD_take {l : List Int} {m i : Nat} (h : i < m) : (l.take m).getD i 0 = l.getD i 0 := by
  rw [List.getD_eq_getElem?_getD, List.getD_eq_getElem?_getD, List.getElem?_take, if_pos h]
theorem getD_drop {l : List Int} {m i : Nat} : (l.drop m).getD i 0 = l.getD (m + i) 0 := by
  rw [List.getD_eq_getElem?_getD, List.getD_eq_getElem?_getD, List.getElem?_drop]
theorem getD_app1 {h l : List Int} {i : Nat} (q : i < h.length) : (h ++ l).getD i 0 = h.getD i 0 := by
  rw [List.getD_eq_getElem?_getD, List.getD_eq_getElem?_getD, List.getElem?_append_left q]
theorem getD_app2 {h l : List Int} {i : Nat} (q : h.length ≤ i) : (h ++ l).getD i 0 = l.getD (i - h.length) 0 := by
  rw [List.getD_eq_getElem?_getD, List.getD_eq_getElem?_getD, List.getElem?_append_right q]
/-- the shorter loop tells the same -/
theorem walk_short {l : List Int} {r c : Int} {m : Nat} (hm : 0 < m) (hle : m ≤ l.length) (h : ∀ k, walk l r (k + m) = walk l r k + c) (k : Nat) : walk (l.take m) c k = walk l r k := by
  have e : k = k % m + m * (k / m) := (Nat.mod_add_div k m).symm
  have hlt : k % m < m := Nat.mod_lt _ hm
  have q := per_mul h (k % m) (k / m)
  rw [← e] at q
  have w1 : walk l r (k % m) = l.getD (k % m) 0 := walk_lt (by omega)
  rw [q, w1]
  show (l.take m).getD (k % (l.take m).length) 0 + c * ((k / (l.take m).length : Nat) : Int) = _
  rw [List.length_take, Nat.min_eq_left hle, getD_take hlt]
theorem short_min {l : List Int} {r c : Int} {m : Nat} (hl : l ≠ []) (a : LapIs l r m) (h : ∀ k, walk l r (k + m) = walk l r k + c) : LoopMin (l.take m) c := by
  have hle : m ≤ l.length := Nat.le_of_dvd (len_pos hl) a.dvd
  intro m' p d q
  rw [List.length_take, Nat.min_eq_left hle] at d ⊢
  have e : walk (l.take m) c = walk l r := funext fun k => walk_short a.pos hle h k
  rw [e] at q
  exact Nat.le_antisymm (Nat.le_of_dvd a.pos d) (a.least _ p (Nat.dvd_trans d a.dvd) q)
/-! ### the head is cut -/
def cut (e : List Int) (p : Nat) (r : Int) : Nat → Nat
  | 0 => 0
  | k + 1 => if e.getD k 0 + r = e.getD (k + p) 0 then cut e p r k else k + 1
/-- the window of p entries behind the first `left` ones -/
def win (e : List Int) (left p : Nat) : List Int := (e.drop left).take p
theorem win_len {e : List Int} {left p : Nat} (h : left + p ≤ e.length) : (win e left p).length = p := by
  unfold win
  rw [List.length_take, List.length_drop]
  omega
theorem win_get {e : List Int} {left p i : Nat} (hi : i < p) : (win e left p).getD i 0 = e.getD (left + i) 0 := by
  unfold win
  rw [getD_take hi, getD_drop]
theorem win_step {e : List Int} {left p : Nat} {r : Int} (hp : 0 < p) (hle : left + 1 + p ≤ e.length) (hs : e.getD left 0 + r = e.getD (left + p) 0) (k : Nat) : walk (win e (left + 1) p) r k = walk (win e left p) r (k + 1) := by
  unfold walk
  rw [win_len (by omega), win_len (by omega)]
  have hlt : k % p < p := Nat.mod_lt _ hp
  rw [win_get hlt]
  by_cases c : k % p + 1 < p
  · have e1 : (k + 1) % p = k % p + 1 := by
      rw [Nat.add_mod, Nat.mod_eq_of_lt (show 1 < p by omega), Nat.mod_eq_of_lt c]
    have e2 : (k + 1) / p = k / p := by
      have q1 := Nat.div_add_mod (k + 1) p
      have q2 := Nat.div_add_mod k p
      rw [e1] at q1
      have : p * ((k + 1) / p) = p * (k / p) := by omega
      exact Nat.eq_of_mul_eq_mul_left hp this
    rw [e1, e2, win_get c]
    congr 2
    omega
  · have cp : k % p + 1 = p := by omega
    have hk : k + 1 = p * (k / p + 1) := by
      have q2 := Nat.div_add_mod k p
      rw [Nat.mul_add, Nat.mul_one]
      omega
    have e1 : (k + 1) % p = 0 := by rw [hk]; exact Nat.mul_mod_right _ _
    have e2 : (k + 1) / p = k / p + 1 := by rw [hk]; exact Nat.mul_div_cancel_left _ hp
    rw [e1, e2, win_get hp, Int.natCast_add, Int.mul_add, show left + 1 + k % p = left + p by omega, ← hs, show left + 0 = left from rfl]
    omega
theorem at_step {e : List Int} {left p : Nat} {r : Int} (hp : 0 < p) (hle : left + 1 + p ≤ e.length) (hs : e.getD left 0 + r = e.getD (left + p) 0) (n : Nat) (hn : 1 ≤ n) :
    at_ (e.take left) (win e left p) r n = at_ (e.take (left + 1)) (win e (left + 1) p) r n := by
  have n1 : win e left p ≠ [] := fun z => by
    have := win_len (e := e) (left := left) (p := p) (by omega)
    rw [z] at this
    simp at this
    omega
  have n2 : win e (left + 1) p ≠ [] := fun z => by
    have := win_len (e := e) (left := left + 1) (p := p) (by omega)
    rw [z] at this
    simp at this
    omega
  unfold at_
  rw [List.length_take, List.length_take, Nat.min_eq_left (by omega), Nat.min_eq_left (by omega), if_neg n1, if_neg n2]
  by_cases c1 : n ≤ left
  · rw [if_pos c1, if_pos (by omega), getD_take (by omega), getD_take (by omega)]
  · by_cases c2 : n ≤ left + 1
    · rw [if_neg c1, if_pos c2, getD_take (by omega), show n - left - 1 = 0 by omega, walk_lt (by rw [win_len (by omega)]; exact hp), win_get hp, show n - 1 = left + 0 by omega]
    · rw [if_neg c1, if_neg c2, win_step hp hle hs, show n - (left + 1) - 1 + 1 = n - left - 1 by omega]
theorem min_step {e : List Int} {left p : Nat} {r : Int} (hp : 0 < p) (hle : left + 1 + p ≤ e.length) (hs : e.getD left 0 + r = e.getD (left + p) 0) (h : LoopMin (win e (left + 1) p) r) : LoopMin (win e left p) r := by
  have l0 := win_len (e := e) (left := left) (p := p) (by omega)
  have l1 := win_len (e := e) (left := left + 1) (p := p) (by omega)
  intro m hm hd hq
  rw [l0] at hd ⊢
  have := h m hm (by rw [l1]; exact hd) (by
    obtain ⟨c, hc⟩ := hq
    refine ⟨c, fun k => ?_⟩
    rw [win_step hp hle hs, win_step hp hle hs, show k + m + 1 = k + 1 + m by omega, hc])
  rw [l1] at this
  exact this
theorem cut_le {e : List Int} {p : Nat} {r : Int} : ∀ k, cut e p r k ≤ k
  | 0 => Nat.le_refl _
  | k + 1 => by
    unfold cut
    split
    · exact Nat.le_succ_of_le (cut_le k)
    · exact Nat.le_refl _
theorem cut_at {e : List Int} {p : Nat} {r : Int} (hp : 0 < p) : ∀ k, k + p ≤ e.length → ∀ n, 1 ≤ n → at_ (e.take (cut e p r k)) (win e (cut e p r k) p) r n = at_ (e.take k) (win e k p) r n
  | 0, _, _, _ => rfl
  | k + 1, h, n, hn => by
    unfold cut
    split
    · rename_i c
      rw [cut_at hp k (by omega) n hn]
      exact at_step hp h c n hn
    · rfl
theorem cut_min {e : List Int} {p : Nat} {r : Int} (hp : 0 < p) : ∀ k, k + p ≤ e.length → LoopMin (win e k p) r → LoopMin (win e (cut e p r k) p) r
  | 0, _, h => h
  | k + 1, hk, h => by
    unfold cut
    split
    · rename_i c
      exact cut_min hp k (by omega) (min_step hp hk c h)
    · exact h
theorem cut_head {e : List Int} {p : Nat} {r : Int} (hp : 0 < p) : ∀ k, k + p ≤ e.length → HeadMin (e.take (cut e p r k)) (win e (cut e p r k) p) r
  | 0, h => fun k hk => by
    unfold cut at hk
    simp at hk
  | k + 1, h => by
    unfold cut
    split
    · exact cut_head hp k (by omega)
    · rename_i c
      intro j hj
      rw [List.length_take, Nat.min_eq_left (by omega)] at hj
      have ej : j = k := by omega
      subst ej
      rw [getD_take (by omega), win_len (by omega), win_get (by omega)]
      intro z
      exact c (by rw [z]; congr 1; omega)
/-! ### the plain form -/
def IsPlain (h l : List Int) (r : Int) (x : List Int × List Int × Int) : Prop :=
  (l = [] ∧ x = (h, [], 0)) ∨ (l ≠ [] ∧ x.2.1 ≠ [] ∧ LoopMin x.2.1 x.2.2 ∧ HeadMin x.1 x.2.1 x.2.2 ∧ ∀ n, 1 ≤ n → at_ x.1 x.2.1 x.2.2 n = at_ h l r n)
theorem plain_one {h1 l1 h2 l2 : List Int} {r1 r2 : Int} {x y : List Int × List Int × Int} (a : IsPlain h1 l1 r1 x) (b : IsPlain h2 l2 r2 y) (e : ∀ n, 1 ≤ n → at_ h1 l1 r1 n = at_ h2 l2 r2 n) : x = y := by
  rcases a with ⟨rfl, rfl⟩ | ⟨n1, n1', m1, k1, e1⟩
  · rcases b with ⟨rfl, rfl⟩ | ⟨n2, n2', m2, k2, e2⟩
    · rw [one_never e]
    · have q := e (h1.length + h2.length + 1) (by omega)
      rw [at_loop n2 (by omega)] at q
      unfold at_ at q
      rw [if_neg (by omega), if_pos rfl] at q
      cases q
  · rcases b with ⟨rfl, rfl⟩ | ⟨n2, n2', m2, k2, e2⟩
    · have q := e (h1.length + h2.length + 1) (by omega)
      rw [at_loop n1 (by omega)] at q
      unfold at_ at q
      rw [if_neg (by omega), if_pos rfl] at q
      cases q
    · obtain ⟨q1, q2, q3⟩ := one_form n1' n2' m1 m2 k1 k2 fun n hn => by rw [e1 n hn, e n hn, e2 n hn]
      obtain ⟨x1, x2, x3⟩ := x
      obtain ⟨y1, y2, y3⟩ := y
      dsimp only at q1 q2 q3
      rw [q1, q2, q3]
theorem plain_is {h l : List Int} {r : Int} {m : Nat} (hl : l ≠ []) (a : LapIs l r m) {c : Int} (hc : ∀ k, walk l r (k + m) = walk l r k + c) :
    IsPlain h l r ((h ++ l.take m).take (cut (h ++ l.take m) m c h.length), win (h ++ l.take m) (cut (h ++ l.take m) m c h.length) m, c) := by
  have hle : m ≤ l.length := Nat.le_of_dvd (len_pos hl) a.dvd
  have hlen : (h ++ l.take m).length = h.length + m := by rw [List.length_append, List.length_take, Nat.min_eq_left hle]
  have hcut := cut_le (e := h ++ l.take m) (p := m) (r := c) h.length
  have hw : win (h ++ l.take m) h.length m = l.take m := by
    unfold win
    rw [List.drop_left, List.take_of_length_le (by rw [List.length_take]; omega)]
  have ht : (h ++ l.take m).take h.length = h := List.take_left
  refine .inr ⟨hl, fun z => ?_, ?_, ?_, fun n hn => ?_⟩
  · have q := win_len (e := h ++ l.take m) (left := cut (h ++ l.take m) m c h.length) (p := m) (by rw [hlen]; omega)
    have z' : win (h ++ l.take m) (cut (h ++ l.take m) m c h.length) m = [] := z
    rw [z'] at q
    have := a.pos
    simp at q
    omega
  · exact cut_min a.pos _ (by rw [hlen]; exact Nat.le_refl _) (by rw [hw]; exact short_min hl a hc)
  · exact cut_head a.pos _ (by rw [hlen]; exact Nat.le_refl _)
  · show at_ ((h ++ l.take m).take (cut (h ++ l.take m) m c h.length)) (win (h ++ l.take m) (cut (h ++ l.take m) m c h.length) m) c n = _
    rw [cut_at a.pos _ (by rw [hlen]; exact Nat.le_refl _) n hn, hw, ht]
    unfold at_
    have n1 : l.take m ≠ [] := fun z => by
      have q := congrArg List.length z
      rw [List.length_take, Nat.min_eq_left hle] at q
      have := a.pos
      simp at q
      omega
    rw [if_neg hl, if_neg n1, walk_short a.pos hle hc]
end NT
set_option linter.all false
namespace NT
def sk (l : List Int) (r : Int) (k : Nat) : Int := walk l r (k + 1) - walk l r k
def steps (l : List Int) (r : Int) : List Int := (List.range l.length).map (sk l r)
section
variable {l : List Int} {r : Int} {m : Nat}
theorem sk_add (hl : l ≠ []) (k q : Nat) : sk l r (k + l.length * q) = sk l r k := by
  unfold sk
  rw [show k + l.length * q + 1 = (k + 1) + l.length * q by omega, walk_add_mul (len_pos hl), walk_add_mul (len_pos hl)]
  omega
theorem per_of_sk (h : ∀ k, sk l r (k + m) = sk l r k) : Per (walk l r) m := by
  refine ⟨walk l r m - walk l r 0, fun k => ?_⟩
  induction k with
  | zero => rw [Nat.zero_add]; omega
  | succ k ih =>
    have q := h k
    unfold sk at q
    rw [show k + 1 + m = k + m + 1 by omega]
    omega
theorem sk_of_per (h : Per (walk l r) m) (k : Nat) : sk l r (k + m) = sk l r k := by
  obtain ⟨c, hc⟩ := h
  unfold sk
  rw [show k + m + 1 = (k + 1) + m by omega, hc, hc]
  omega
theorem chain_up {f : Nat → Int} {n : Nat} {c : Int} (h : ∀ k, k + m < n → f (k + m) = f k + c) (j : Nat) : ∀ u, j + m * u < n → f (j + m * u) = f j + c * (u : Int)
  | 0, _ => by simp
  | u + 1, hu => by
    have e : j + m * (u + 1) = j + m * u + m := by rw [Nat.mul_succ]; omega
    have ih := chain_up h j u (by omega)
    rw [e, h _ (by omega), ih, Int.natCast_add, Int.mul_add]
    omega
/-- a place in the last part of a loop -/
theorem last_part {n i t : Nat} (hm : 0 < m) (ht : m * t = n) (hi : i < n) (hg : ¬ i + m < n) : ∃ j, j < m ∧ i + m = n + j ∧ i = j + m * (t - 1) ∧ 0 < t := by
  have t0 : 0 < t := Nat.pos_of_ne_zero fun z => by rw [z, Nat.mul_zero] at ht; omega
  obtain ⟨t', rfl⟩ : ∃ t', t = t' + 1 := ⟨t - 1, by omega⟩
  rw [Nat.mul_succ] at ht
  refine ⟨i + m - n, by omega, by omega, ?_, t0⟩
  rw [show t' + 1 - 1 = t' by omega]
  omega
theorem cond_iff (hl : l ≠ []) (hm : 0 < m) (hd : m ∣ l.length) : ((steps l r).drop m = (steps l r).take (l.length - m)) ↔ Per (walk l r) m := by
  obtain ⟨t, ht⟩ := hd
  have hle : m ≤ l.length := by rw [ht]; exact Nat.le_mul_of_pos_right _ (Nat.pos_of_ne_zero fun z => by rw [z, Nat.mul_zero] at ht; exact absurd ht (Nat.ne_of_gt (len_pos hl)))
  constructor
  · intro h
    have h0 : ∀ k, k + m < l.length → sk l r (k + m) = sk l r k + 0 := fun k hk => by
      have q := congrArg (fun z : List Int => z[k]?) h
      simp only [steps, List.getElem?_drop, List.getElem?_take, if_pos (show k < l.length - m by omega), List.getElem?_map, List.getElem?_range (show m + k < l.length by omega), List.getElem?_range (show k < l.length by omega), Option.map_some, Option.some.injEq] at q
      rw [show k + m = m + k by omega, q]
      omega
    refine per_of_sk fun k => ?_
    have hp := len_pos hl
    have e : k = k % l.length + l.length * (k / l.length) := (Nat.mod_add_div k _).symm
    have hi : k % l.length < l.length := Nat.mod_lt _ hp
    have e1 : sk l r k = sk l r (k % l.length) := by
      have := sk_add (r := r) hl (k % l.length) (k / l.length)
      rw [← e] at this
      exact this
    have e2 : sk l r (k + m) = sk l r (k % l.length + m) := by
      have := sk_add (r := r) hl (k % l.length + m) (k / l.length)
      rw [show k % l.length + m + l.length * (k / l.length) = k + m by omega] at this
      exact this
    rw [e1, e2]
    by_cases c : k % l.length + m < l.length
    · rw [h0 _ c]; omega
    · obtain ⟨j, j1, j2, j3, t0⟩ := last_part hm ht.symm hi c
      have q := chain_up (f := sk l r) (n := l.length) h0 j (t - 1) (by omega)
      rw [j2, show l.length + j = j + l.length * 1 by omega, sk_add hl, j3, q]
      omega
  · intro h
    refine List.ext_getElem? fun k => ?_
    simp only [steps, List.getElem?_drop, List.getElem?_take, List.getElem?_map]
    by_cases c : k < l.length - m
    · rw [if_pos c, List.getElem?_range (by omega), List.getElem?_range (by omega)]
      simp only [Option.map_some]
      rw [show m + k = k + m by omega, sk_of_per h]
    · rw [if_neg c, List.getElem?_eq_none (by rw [List.length_range]; omega)]
      rfl
theorem walk_i {i : Nat} (h : i < l.length) : walk l r i = l.getD i 0 := walk_lt h
/-- the law's own look at a part of a loop -/
theorem law_iff (hl : l ≠ []) (hm : 0 < m) {t : Nat} (ht : m * t = l.length) : (r % (t : Int) = 0 ∧ ∀ k, k + m < l.length → l.getD (k + m) 0 = l.getD k 0 + r / (t : Int)) ↔ Per (walk l r) m := by
  have hp := len_pos hl
  have t0 : 0 < t := Nat.pos_of_ne_zero fun z => by rw [z, Nat.mul_zero] at ht; omega
  constructor
  · rintro ⟨h1, h2⟩
    have hr : r = r / (t : Int) * (t : Int) := (Int.ediv_mul_cancel (Int.dvd_of_emod_eq_zero h1)).symm
    refine ⟨r / (t : Int), fun k => ?_⟩
    have e : k = k % l.length + l.length * (k / l.length) := (Nat.mod_add_div k _).symm
    have hi : k % l.length < l.length := Nat.mod_lt _ hp
    have e1 : walk l r k = walk l r (k % l.length) + r * ((k / l.length : Nat) : Int) := by
      have := walk_add_mul (r := r) hp (k % l.length) (k / l.length)
      rw [← e] at this
      exact this
    have e2 : walk l r (k + m) = walk l r (k % l.length + m) + r * ((k / l.length : Nat) : Int) := by
      have := walk_add_mul (r := r) hp (k % l.length + m) (k / l.length)
      rw [show k % l.length + m + l.length * (k / l.length) = k + m by omega] at this
      exact this
    rw [e1, e2, walk_i hi]
    by_cases c : k % l.length + m < l.length
    · rw [walk_i c, h2 _ c]; omega
    · obtain ⟨j, j1, j2, j3, _⟩ := last_part hm ht hi c
      have q := chain_up (f := fun i => l.getD i 0) (n := l.length) h2 j (t - 1) (by omega)
      have q' : l.getD (k % l.length) 0 = l.getD j 0 + r / (t : Int) * ((t - 1 : Nat) : Int) := by rw [← q]; exact congrArg (fun i => l.getD i 0) j3
      have hjl : j < l.length := by omega
      rw [j2, show l.length + j = j + l.length by omega, walk_add hp, walk_i hjl, q']
      have e3 : r / (t : Int) * (t : Int) = r / (t : Int) * ((t - 1 : Nat) : Int) + r / (t : Int) := by
        rw [show (t : Int) = ((t - 1 : Nat) : Int) + 1 by omega, Int.mul_add, Int.mul_one]
      omega
  · rintro ⟨c, hc⟩
    have hr := per_rise hl hc ht
    have hd : r / (t : Int) = c := by
      rw [hr]
      exact Int.mul_ediv_cancel _ (by omega)
    refine ⟨by rw [hr]; exact Int.mul_emod_left _ _, fun k hk => ?_⟩
    have q := hc k
    rw [walk_i hk, walk_i (by omega)] at q
    rw [q, hd]
/-- what goes on by a part goes on so by its rise -/
theorem per_at (hl : l ≠ []) (hm : 0 < m) (h : Per (walk l r) m) {t : Nat} (ht : m * t = l.length) : ∀ k, walk l r (k + m) = walk l r k + r / (t : Int) := by
  obtain ⟨c, hc⟩ := h
  have hr := per_rise hl hc ht
  have t0 : 0 < t := Nat.pos_of_ne_zero fun z => by rw [z, Nat.mul_zero] at ht; exact absurd ht.symm (Nat.ne_of_gt (len_pos hl))
  have hd : r / (t : Int) = c := by
    rw [hr]
    exact Int.mul_ediv_cancel _ (by omega)
  rw [hd]
  exact hc
/-- the program's search -/
theorem lap_prog (hl : l ≠ []) (hm : 0 < m) (hle : m ≤ l.length / 2) (hd : m ∣ l.length) (hp : Per (walk l r) m) (hno : ∀ m', 0 < m' → m' < m → m' ∣ l.length → ¬ Per (walk l r) m') : LapIs l r m :=
  ⟨hm, hd, hp, fun m' p d q => Nat.le_of_not_lt fun c => hno m' p c d q⟩
theorem lap_whole (hl : l ≠ []) (hno : ∀ m', 0 < m' → m' ≤ l.length / 2 → m' ∣ l.length → ¬ Per (walk l r) m') : LapIs l r l.length :=
  ⟨len_pos hl, Nat.dvd_refl _, per_self hl, fun m' p d q => Nat.le_of_not_lt fun c => hno m' p (by
    obtain ⟨t, ht⟩ := d
    have t2 : 2 ≤ t := Nat.le_of_not_lt fun z => by
      have : t = 0 ∨ t = 1 := by omega
      rcases this with rfl | rfl
      · rw [Nat.mul_zero] at ht; omega
      · rw [Nat.mul_one] at ht; omega
    have : m' * 2 ≤ l.length := by rw [ht]; exact Nat.mul_le_mul_left _ t2
    omega) d q⟩
end
end NT
set_option Elab.async false
set_option linter.all false
set_option maxRecDepth 100000
set_option maxHeartbeats 4000000
namespace NF
open PySem PySem.Spec PyProof.Rows L2 He RZ
theorem Same.tup {K : PySem.W.Frag} {H H' : Hp} {a : Addr} {xs : List V} (e : Same H H') (h : SqT K H a xs) : SqT K H' a xs := by
  rcases h with (h | ⟨o, h⟩) | h
  · exact .inl (.inl (e _ _ h))
  · exact .inl (.inr ⟨o, e _ _ h⟩)
  · exact .inr h
abbrev vI (l : List Int) : List V := l.map V.int
/-! ### o.f = v as one of several targets -/
def gFld (K : PySem.W.Frag) (ta : TE) (f : Str) : TG := fun v σ H Q => ta σ H fun x H1 => ∃ a C dx fs, x = .ref a ∧ H1 a = some (.ins C dx fs) ∧ Cls K C ∧ NoAttr K C f ∧ fs.length < 1000 ∧ Q σ (upd H1 a (.ins C dx (putF f v fs)))
theorem pg_fld {X : Cx} {o : Expr} {f : Str} {pos : Pos} {ta : TE} (ha : PE X o ta) : PG X (.Attribute o f pos) (gFld X.K ta f) := by
  refine ⟨fun pins s σ H v u Q I r h => ?_⟩
  refine PySem.W.kas_attr (thn (ha.run pins s σ H _ I h) fun ov s1 ⟨x, H1, I1, rx, a, C, dx, fs, ex, ea, c, n, l, q⟩ => ?_)
  subst ex
  obtain rfl : ov = Value.ref a := rx
  exact setattr_ok I1 ea c n l r fun s2 I2 => ⟨σ, _, I2, q⟩
/-! ### a name of the module that is a function of Python's own -/
theorem pe_gl {X : Cx} {x : Str} {a : Addr} {pos : Pos} (hm : X.mg x = some (.ref a)) (hg : Gl X x := by rfl) (hd : (x == ("__debug__" : Str)) = false := by decide) : PE X (.Name x pos) (tC (.ref a)) := pe_glob (v := .ref a) hg hm rfl hd
theorem ixl {X : Cx} {K : PySem.W.Frag} (h : X.K = K := by rfl) : IxR X (rIxL K) := h ▸ ix_list
theorem pgt {X : Cx} {K : PySem.W.Frag} {es : List Expr} {k : Nat} {pos : Pos} {t : TGs} {n : Nat} (hK : X.K = K) (hc : X.calm = true) (h : PGs X es t)
    (hn : (assignEach es X.env).length = n := by rfl) (hst : (assignEach es X.env).findIdx? (·.1) = none := by rfl) : PG X (.Tuple es k pos) (gTup K n t) := hK ▸ pg_tup hc h hn hst
theorem ixt {X : Cx} {K : PySem.W.Frag} (h : X.K = K := by rfl) : IxR X (rIxT K) := h ▸ ix_tup
/-! ### slices and sums of tuples: whatever object they give -/
theorem sIx_negN {n d k : Nat} (hk : 0 < k) : HT.sIx n d (some (-(k : Int))) = n - k := by
  show (if -(k : Int) < 0 then (-(k : Int) + (n : Int)).toNat else min (-(k : Int)).toNat n) = n - k
  rw [if_pos (by omega)]
  omega
theorem cut_whole {xs : List V} {lo hi : Option Int} (h : HT.sIx xs.length 0 lo = 0 ∧ HT.sIx xs.length xs.length hi = xs.length) : cutV xs lo hi = xs := by
  unfold cutV
  rw [h.1, h.2]
  simp
theorem slA_done {K : PySem.W.Frag} {H : Hp} {a : Addr} {xs : List V} {lo hi : Option Int} {Q : VK} (hx : SqT K H a xs) (q : ∀ p H', Same H H' → SqT K H' p (cutV xs lo hi) → Q (.ref p) H') : rSlA K (.ref a) lo hi H Q := by
  refine ⟨a, xs, rfl, hx, fun w => q a H (Same.refl H) (by rw [cut_whole w]; exact hx), fun _ p hp => q p _ (NF.Same.new (Same.refl H) hp) (SqT.of upd_same)⟩
theorem slA_from {K : PySem.W.Frag} {H : Hp} {a : Addr} {xs : List V} {lo : Option Int} {Q : VK} {σ : L2.St} (hx : SqT K H a xs) (q : ∀ p H', Same H H' → SqT K H' p (cutV xs lo none) → Q (.ref p) H') : tNoPart σ H fun u H3 => rSlA K (.ref a) lo u H3 Q := by
  show rSlA K (.ref a) lo none H Q
  exact slA_done hx q
theorem catA_done {K : PySem.W.Frag} {H : Hp} {a b : Addr} {xs ys : List V} {Q : VK} (hx : SqT K H a xs) (hy : SqT K H b ys) (hz : xs.length + ys.length ≤ sizeLine) (q : ∀ p H', Same H H' → SqT K H' p (xs ++ ys) → Q (.ref p) H') : rCatA K (.ref a) (.ref b) H Q := by
  refine ⟨a, b, xs, ys, rfl, rfl, hx, hy, hz, fun e => q b H (Same.refl H) (by rw [e]; exact hy), fun _ e => q a H (Same.refl H) (by rw [e, List.append_nil]; exact hx), fun _ _ p hp => q p _ (NF.Same.new (Same.refl H) hp) (SqT.of upd_same)⟩
theorem cut_from {xs : List V} {n : Nat} : cutV xs (some (n : Int)) none = xs.drop n := by
  unfold cutV
  rw [HT.sIx_nat]
  show (xs.drop (min n xs.length)).take (xs.length - min n xs.length) = xs.drop n
  by_cases h : n ≤ xs.length
  · rw [Nat.min_eq_left h, List.take_of_length_le (by rw [List.length_drop]; exact Nat.le_refl _)]
  · rw [Nat.min_eq_right (by omega), List.drop_of_length_le (Nat.le_refl _), List.drop_of_length_le (by omega)]
    simp
theorem cut_to {xs : List V} {n : Nat} : cutV xs none (some (n : Int)) = xs.take n := by
  unfold cutV
  rw [HT.sIx_nat]
  show (xs.drop 0).take (min n xs.length - 0) = xs.take n
  rw [List.drop_zero, Nat.sub_zero]
  by_cases h : n ≤ xs.length
  · rw [Nat.min_eq_left h]
  · rw [Nat.min_eq_right (by omega), List.take_of_length_le (Nat.le_refl _), List.take_of_length_le (by omega)]
theorem cut_toN {xs : List V} {n : Nat} (h : 0 < n) : cutV xs none (some (-(n : Int))) = xs.take (xs.length - n) := by
  unfold cutV
  rw [sIx_negN h]
  show (xs.drop 0).take (xs.length - n - 0) = _
  rw [List.drop_zero, Nat.sub_zero]
theorem cut_mid {xs : List V} {a b : Nat} (h : a ≤ b) (hb : b ≤ xs.length) : cutV xs (some (a : Int)) (some (b : Int)) = (xs.drop a).take (b - a) := by
  unfold cutV
  rw [HT.sIx_nat, HT.sIx_nat, Nat.min_eq_left hb, Nat.min_eq_left (by omega)]
theorem map_cut {l : List Int} {lo hi : Option Int} : ∃ m : List Int, cutV (vI l) lo hi = vI m := ⟨(l.drop (HT.sIx (vI l).length 0 lo)).take (HT.sIx (vI l).length (vI l).length hi - HT.sIx (vI l).length 0 lo), by unfold cutV; simp only [vI, List.map_take, List.map_drop]⟩
theorem at_int {l : List Int} {i : Int} {k : Nat} (e : i = (k : Int)) (h : k < l.length) : atI (vI l) i = some (V.int (l.getD k 0)) := by
  rw [e]
  exact atI_nat (by rw [List.getElem?_map, List.getElem?_eq_getElem h, List.getD_eq_getElem?_getD, List.getElem?_eq_getElem h] <;> rfl)
theorem at_last {l : List Int} (h : 0 < l.length) : atI (vI l) (-1) = some (V.int (l.getD (l.length - 1) 0)) := by
  unfold atI ixN
  rw [if_neg (by omega), List.length_map, if_pos (by omega)]
  show (vI l)[((-1 : Int) + (l.length : Int)).toNat]? = _
  rw [show ((-1 : Int) + (l.length : Int)).toNat = l.length - 1 by omega, List.getElem?_map, List.getElem?_eq_getElem (by omega), List.getD_eq_getElem?_getD, List.getElem?_eq_getElem (by omega)] <;> rfl
/-! ### [.. for a, b in zip(t, u)] of two tuples of one length -/
theorem lc_zipT {K : PySem.W.Frag} {a b : Addr} {xs ys : List V} {g : TG} {tt : TT} {te : TE} {vs : List Nat} {σ : L2.St} {H1 : Hp} {D : Addr} {Qd : Hp → Prop} (hl : xs.length = ys.length) (Pv : Nat → Hp → Prop) (h0 : Pv 0 (upd H1 D (.lst []))) (hq : ∀ i H, Pv i H → SqT K H a xs ∧ SqT K H b ys)
    (hs : ∀ i x y T H, xs[i]? = some x → ys[i]? = some y → Pv i H → H T = none → g (.ref T) (wipe σ vs) (upd H T (.tup [x, y])) fun σ2 H2 => wipe σ2 vs = wipe σ vs ∧ tt σ2 H2 fun b H3 =>
      if b = true then te σ2 H3 fun y H4 => ∃ acc, H4 D = some (.lst acc) ∧ acc.length < sizeLine ∧ Pv (i + 1) (upd H4 D (.lst (acc ++ [y]))) else Pv (i + 1) H3) (hd : ∀ H, Pv xs.length H → Qd H) :
    ∃ W : Nat → Nat → Hp → Prop, (∃ m, W 0 m (upd H1 D (.lst []))) ∧ ∀ i m H, W i m H →
      ((ItzT K a b).stop i H ∧ Qd H) ∨ ((ItzT K a b).go i H ∧ ∃ Nx : Hp → Prop, (∀ H', Nx H' → ∃ m', m' < m ∧ W (i + 1) m' H') ∧ ∀ x H', (ItzT K a b).yld i H x H' → g x (wipe σ vs) H' fun σ2 H2 => wipe σ2 vs = wipe σ vs ∧ tt σ2 H2 fun b H3 =>
        if b = true then te σ2 H3 fun y H4 => ∃ acc, H4 D = some (.lst acc) ∧ acc.length < sizeLine ∧ Nx (upd H4 D (.lst (acc ++ [y]))) else Nx H3) := by
  refine ⟨fun i m H => m = xs.length - i ∧ i ≤ xs.length ∧ Pv i H, ⟨xs.length, rfl, Nat.zero_le _, h0⟩, ?_⟩
  rintro i m H ⟨rfl, hi, p⟩
  obtain ⟨qx, qy⟩ := hq i H p
  by_cases hlt : i < xs.length
  · have hx : xs[i]? = some xs[i] := List.getElem?_eq_getElem hlt
    have hlt2 : i < ys.length := by omega
    have hy : ys[i]? = some ys[i] := List.getElem?_eq_getElem hlt2
    refine .inr ⟨⟨xs, ys, _, _, qx, qy, hx, hy⟩, Pv (i + 1), fun H' p' => ⟨xs.length - (i + 1), by omega, rfl, hlt, p'⟩, fun v H' y => ?_⟩
    obtain ⟨T, x', y', rfl, hT, rfl, f1, f2⟩ := y
    exact hs i x' y' T H (f1 xs qx) (f2 ys qy) p hT
  · have e : i = xs.length := by omega
    subst e
    exact .inl ⟨⟨xs, ys, qx, qy, Or.inl (Nat.le_refl _)⟩, hd H p⟩
theorem tru_tup {K : PySem.W.Frag} {H : Hp} {a : Addr} {l : List Int} (h : SqT K H a (vI l)) : TruV K (.ref a) H (!l.isEmpty) := Or.inr (Or.inl ⟨_, h, by cases l <;> rfl⟩)
theorem tru_int {K : PySem.W.Frag} {H : Hp} {i : Int} : TruV K (.int i) H (i != 0) := rfl
/-! ### deep == of lists and tuples of vI -/
theorem dp_ints {K : PySem.W.Frag} {H : Hp} : ∀ l : List Int, DpAll K H (vI l) (l.map PyData.int)
  | [] => .nil
  | i :: l => .cons (.int i) (dp_ints l)
theorem eqv_ints : ∀ a b : List Int, PyData.eqvAll (a.map PyData.int) (b.map PyData.int) = decide (a = b)
  | [], [] => rfl
  | [], _ :: _ => rfl
  | _ :: _, [] => rfl
  | x :: a, y :: b => by
    show (PyData.eqv (.int x) (.int y) && PyData.eqvAll (a.map PyData.int) (b.map PyData.int)) = _
    rw [eqv_ints a b]
    show ((x == y) && decide (a = b)) = _
    by_cases h : x = y <;> by_cases g : a = b <;> simp [h, g]
end NF
namespace NF
open PySem PySem.Spec PyProof.Rows L2 He RZ
theorem lay_ints : ∀ l : List Int, PyData.canLayAll0 (l.map PyData.int) = true
  | [] => rfl
  | _ :: l => lay_ints l
theorem depth_ints : ∀ l : List Int, PyData.depthAll (l.map PyData.int) = 0
  | [] => rfl
  | i :: l => by
    show max (PyData.depth (.int i)) (PyData.depthAll (l.map PyData.int)) = 0
    rw [depth_ints l]
    rfl
theorem shaped_L (l : List Int) : SeqAt.shaped (.list (l.map PyData.int)) = true := by
  show (PyData.canLayAll0 (l.map PyData.int) && decide (PyData.depthAll (l.map PyData.int) + 1 ≤ 64)) = true
  rw [lay_ints, depth_ints]
  rfl
theorem shaped_T (l : List Int) : SeqAt.shaped (.tuple (l.map PyData.int)) = true := by
  show (PyData.canLayAll0 (l.map PyData.int) && decide (PyData.depthAll (l.map PyData.int) + 1 ≤ 64)) = true
  rw [lay_ints, depth_ints]
  rfl
theorem eqL_done {K : PySem.W.Frag} {H : Hp} {a b : Addr} {x y : List Int} {Q : VK} (hx : SqL K H a (vI x)) (hy : SqL K H b (vI y)) (q : Q (.bl (decide (x = y))) H) : rEqD K (.ref a) (.ref b) H Q :=
  ⟨_, _, .lst hx (dp_ints x), .lst hy (dp_ints y), shaped_L x, shaped_L y, by rw [show PyData.eqv (.list (x.map PyData.int)) (.list (y.map PyData.int)) = decide (x = y) from eqv_ints x y]; exact q⟩
theorem eqT_done {K : PySem.W.Frag} {H : Hp} {a b : Addr} {x y : List Int} {Q : VK} (hx : SqT K H a (vI x)) (hy : SqT K H b (vI y)) (q : Q (.bl (decide (x = y))) H) : rEqD K (.ref a) (.ref b) H Q :=
  ⟨_, _, .tup hx (dp_ints x), .tup hy (dp_ints y), shaped_T x, shaped_T y, by rw [show PyData.eqv (.tuple (x.map PyData.int)) (.tuple (y.map PyData.int)) = decide (x = y) from eqv_ints x y]; exact q⟩
theorem neT_done {K : PySem.W.Frag} {H : Hp} {a b : Addr} {x y : List Int} {Q : VK} (hx : SqT K H a (vI x)) (hy : SqT K H b (vI y)) (q : Q (.bl (!decide (x = y))) H) : rNeD K (.ref a) (.ref b) H Q :=
  ⟨_, _, .tup hx (dp_ints x), .tup hy (dp_ints y), shaped_T x, shaped_T y, by rw [show PyData.eqv (.tuple (x.map PyData.int)) (.tuple (y.map PyData.int)) = decide (x = y) from eqv_ints x y]; exact q⟩
end NF
namespace NF
open PySem
theorem vI_drop {l : List Int} {n : Nat} : (vI l).drop n = vI (l.drop n) := by simp [vI, List.map_drop]
theorem vI_take {l : List Int} {n : Nat} : (vI l).take n = vI (l.take n) := by simp [vI, List.map_take]
theorem vI_app {l m : List Int} : vI l ++ vI m = vI (l ++ m) := by simp [vI]
theorem vI_len {l : List Int} : (vI l).length = l.length := by simp [vI]
end NF
namespace NF
open PySem PySem.Spec PyProof.Rows L2 He RZ
/-- a list or a tuple -/
def Row (K : PySem.W.Frag) (H : Hp) (a : Addr) (xs : List V) : Prop := SqL K H a xs ∨ SqT K H a xs
theorem Row.mono {K : PySem.W.Frag} {H H' : Hp} {a : Addr} {xs : List V} (h : Row K H a xs) (s : Same H H') : Row K H' a xs := h.elim (fun h => .inl (L2.Same.seq s h)) (fun h => .inr (NF.Same.tup s h))
def iRow (K : PySem.W.Frag) (tl : TE) : TI := fun σ H R => tl σ H fun x H1 => ∃ a, x = .ref a ∧ (((∃ xs, SqL K H1 a xs) ∧ R (Itl K a) H1) ∨ ((∃ xs, SqT K H1 a xs) ∧ R (Itt K a) H1))
theorem pi_row {X : Cx} {tg l : Expr} {tl : TE} (hl : PE X l tl) : PI X tg l (iRow X.K tl) := by
  refine ⟨fun pins s σ H R I h => ?_⟩
  refine thn (hl.run pins s σ H _ I h) fun v s1 ⟨x, H1, I1, r1, q1⟩ => ?_
  obtain ⟨a, e, q⟩ := q1
  subst e
  cases r1
  rcases q with ⟨⟨xs, hq⟩, q⟩ | ⟨⟨xs, hq⟩, q⟩
  · obtain ⟨its, rv, p, hz⟩ := I1.list hq
    refine wpAny_pyIter_list p.isList ?_
    refine ⟨s1.heap.objs.size, [s1.heap.objs.size], _, _, H1, rfl, I1.kept (t' := s1.toks) fun b o e => Heap.get?_push_of_some _ e, turn_list a _, ⟨_, Heap.get?_push_size _ rfl, rfl, rfl⟩, fun b hb => ?_, q⟩
    have e : b = s1.heap.objs.size := by simpa using hb
    subst e
    exact I1.fpOk (Nat.le_refl _) (I1.hok.fresh (Nat.le_refl _))
  · obtain ⟨its, rv, p, hz⟩ := I1.tuple hq
    refine wpAny_pyIter_tuple (show s1.heap.IsTuple a its.toArray from p) ?_
    refine ⟨s1.heap.objs.size, [s1.heap.objs.size], _, _, H1, rfl, I1.kept (t' := s1.toks) fun b o e => Heap.get?_push_of_some _ e, turn_tuple a _, ⟨_, Heap.get?_push_size _ rfl, rfl, rfl⟩, fun b hb => ?_, q⟩
    have e : b = s1.heap.objs.size := by simpa using hb
    subst e
    exact I1.fpOk (Nat.le_refl _) (I1.hok.fresh (Nat.le_refl _))
theorem for_row {K : PySem.W.Frag} {a : Addr} {xs : List V} {g : TG} {tb : TS} {D : Ends} {σ : L2.St} {H : Hp} (hr : Row K H a xs) (Pv : Nat → L2.St → Hp → Prop) (h0 : Pv 0 σ H) (hm : ∀ i σ H', Pv i σ H' → Same H H')
    (hs : ∀ i x σ H, xs[i]? = some x → Pv i σ H → g x σ H fun σ2 H2 => tb { D with nx := Pv (i + 1), ct := Pv (i + 1), bk := D.nx } σ2 H2) (hd : ∀ σ H, Pv xs.length σ H → D.nx σ H) :
    ((∃ xs, SqL K H a xs) ∧ (∃ W : Nat → Nat → L2.St → Hp → Prop, (∃ m, W 0 m σ H) ∧ ∀ i m σ H, W i m σ H →
      ((Itl K a).stop i H ∧ D.nx σ H) ∨ ((Itl K a).go i H ∧ ∃ N : L2.St → Hp → Prop, (∀ σ' H', N σ' H' → ∃ m', m' < m ∧ W (i + 1) m' σ' H') ∧ ∀ x H', (Itl K a).yld i H x H' → g x σ H' fun σ2 H2 => tb { D with nx := N, ct := N, bk := D.nx } σ2 H2))) ∨
    ((∃ xs, SqT K H a xs) ∧ (∃ W : Nat → Nat → L2.St → Hp → Prop, (∃ m, W 0 m σ H) ∧ ∀ i m σ H, W i m σ H →
      ((Itt K a).stop i H ∧ D.nx σ H) ∨ ((Itt K a).go i H ∧ ∃ N : L2.St → Hp → Prop, (∀ σ' H', N σ' H' → ∃ m', m' < m ∧ W (i + 1) m' σ' H') ∧ ∀ x H', (Itt K a).yld i H x H' → g x σ H' fun σ2 H2 => tb { D with nx := N, ct := N, bk := D.nx } σ2 H2))) := by
  rcases hr with hr | hr
  · exact .inl ⟨⟨_, hr⟩, for_list Pv h0 (fun i σ H' _ p => L2.Same.seq (hm i σ H' p) hr) hs hd⟩
  · exact .inr ⟨⟨_, hr⟩, for_tup Pv h0 (fun i σ H' _ p => NF.Same.tup (hm i σ H' p) hr) hs hd⟩
theorem ixs {X : Cx} {K : PySem.W.Frag} (h : X.K = K := by rfl) : IxR X (rIx K) := h ▸ ix_seq
theorem ix_done {K : PySem.W.Frag} {H : Hp} {a : Addr} {xs : List V} {i : Int} {v : V} {Q : VK} (hr : Row K H a xs) (hv : atI xs i = some v) (q : Q v H) : rIx K (.ref a) (.int i) H Q :=
  hr.elim (fun h => .inl ⟨a, xs, i, v, rfl, rfl, h, hv, q⟩) fun h => .inr (.inl ⟨a, xs, i, v, rfl, rfl, h, hv, q⟩)
theorem tru_row {K : PySem.W.Frag} {H : Hp} {a : Addr} {l : List Int} (h : Row K H a (vI l)) : TruV K (.ref a) H (!l.isEmpty) := h.elim (fun h => Or.inl ⟨_, h, by cases l <;> rfl⟩) tru_tup
theorem tyx_tup {K : PySem.W.Frag} {H : Hp} {a : Addr} {xs : List V} (h : SqT K H a xs) : TyX K H (.ref a) (.type "tuple") := by
  rcases h with (h | ⟨o, h⟩) | ⟨o, its, n, h1, h2, _⟩
  · exact .base (.tup h)
  · exact .fTuple h
  · exact .kTuple h1 h2
theorem tyx_lst {K : PySem.W.Frag} {H : Hp} {a : Addr} {xs : List V} (h : SqL K H a xs) : TyX K H (.ref a) (.type "list") := by
  rcases h with (h | ⟨o, h⟩) | ⟨o, its, n, h1, h2, _⟩
  · exact .base (.lst h)
  · exact .base (.frz h)
  · exact .kList h1 h2
theorem kit_i_i (K : PySem.W.Frag) : PySem.W.kitOne K (.type "int") (.type "int") = some true := if_pos (by decide +kernel)
theorem kit_i_b (K : PySem.W.Frag) : PySem.W.kitOne K (.type "int") (.type "bool") = some false := by kernel_rfl
theorem kit_b_b (K : PySem.W.Frag) : PySem.W.kitOne K (.type "bool") (.type "bool") = some true := if_pos (by decide +kernel)
theorem kit_t_t (K : PySem.W.Frag) : PySem.W.kitOne K (.type "tuple") (.type "tuple") = some true := if_pos (by decide +kernel)
theorem kit_t_tl (K : PySem.W.Frag) : PySem.W.kitAny K (.type "tuple") [.type "tuple", .type "list"] = some true := by kernel_rfl
theorem kit_l_tl (K : PySem.W.Frag) : PySem.W.kitAny K (.type "list") [.type "tuple", .type "list"] = some true := by kernel_rfl
end NF
namespace NT
def climbs : Int → List Int → Prop
  | _, [] => True
  | lo, x :: xs => lo ≤ x ∧ climbs x xs
structure Good (h l : List Int) (r : Int) : Prop where
  hd : climbs 0 h
  lp : climbs 0 l
  join : h ≠ [] → l ≠ [] → h.getD (h.length - 1) 0 ≤ l.getD 0 0
  r0 : 0 ≤ r
  rl : l = [] → r = 0
  last : l ≠ [] → l.getD (l.length - 1) 0 ≤ l.getD 0 0 + r
end NT
set_option Elab.async false
set_option linter.all false
set_option maxRecDepth 100000
set_option maxHeartbeats 4000000
namespace NT
theorem least_of {p : Nat → Prop} : ∀ n, p n → ∃ m, p m ∧ m ≤ n ∧ ∀ k, p k → m ≤ k := by
  intro n
  induction n using Nat.strongRecOn with
  | _ n ih =>
    intro hn
    by_cases h : ∃ k, p k ∧ k < n
    · obtain ⟨k, hk, hlt⟩ := h
      obtain ⟨m, h1, h2, h3⟩ := ih k hlt hk
      exact ⟨m, h1, by omega, h3⟩
    · exact ⟨n, hn, Nat.le_refl _, fun k hk => Nat.le_of_not_lt fun hlt => h ⟨k, hk, hlt⟩⟩
theorem lap_ex {l : List Int} {r : Int} (hl : l ≠ []) : ∃ m, LapIs l r m := by
  obtain ⟨m, ⟨h1, h2, h3⟩, _, hm⟩ := least_of (p := fun m => 0 < m ∧ m ∣ l.length ∧ Per (walk l r) m) l.length ⟨len_pos hl, Nat.dvd_refl _, per_self hl⟩
  exact ⟨m, h1, h2, h3, fun k a b c => hm k ⟨a, b, c⟩⟩
/-- the plain form is no longer than what it was told by -/
theorem plain_size {h l : List Int} {r : Int} {x : List Int × List Int × Int} (hx : IsPlain h l r x) : x.1.length ≤ h.length ∧ x.2.1.length ≤ l.length ∧ (l ≠ [] → x.2.1 ≠ []) ∧ (l = [] → x.2.1 = []) ∧ (0 ≤ r → 0 ≤ x.2.2 ∧ x.2.2 ≤ r) ∧ (l ≠ [] → (0 < r ↔ 0 < x.2.2)) ∧ (l = [] → x = (h, [], 0)) := by
  by_cases hl : l = []
  · subst hl
    rcases hx with ⟨_, rfl⟩ | ⟨z, _⟩
    · exact ⟨Nat.le_refl _, Nat.le_refl _, fun z => absurd rfl z, fun _ => rfl, fun h => ⟨Int.le_refl _, h⟩, fun z => absurd rfl z, fun _ => rfl⟩
    · exact absurd rfl z
  · obtain ⟨m, a⟩ := lap_ex (r := r) hl
    obtain ⟨t, ht⟩ := a.dvd
    have hc := per_at hl a.pos a.per ht.symm
    have hr := per_rise hl hc ht.symm
    have t0 : 0 < t := Nat.pos_of_ne_zero fun z => by rw [z, Nat.mul_zero] at ht; have := len_pos hl; omega
    have b := plain_is (h := h) hl a hc
    have e := plain_one hx b fun n _ => rfl
    have hle : m ≤ l.length := Nat.le_of_dvd (len_pos hl) a.dvd
    have hlen : (h ++ l.take m).length = h.length + m := by rw [List.length_append, List.length_take, Nat.min_eq_left hle]
    have hcut := cut_le (e := h ++ l.take m) (p := m) (r := r / (t : Int)) h.length
    have hw := win_len (e := h ++ l.take m) (left := cut (h ++ l.take m) m (r / (t : Int)) h.length) (p := m) (by rw [hlen]; omega)
    subst e
    have hm := a.pos
    refine ⟨?_, ?_, fun _ z => ?_, fun z => absurd z hl, fun h0 => ?_, fun _ => ?_, fun z => absurd z hl⟩
    · show ((h ++ l.take m).take _).length ≤ _
      rw [List.length_take]
      omega
    · show (win _ _ _).length ≤ _
      rw [hw]
      exact hle
    · have z' : win (h ++ l.take m) (cut (h ++ l.take m) m (r / (t : Int)) h.length) m = [] := z
      rw [z'] at hw
      simp at hw
      omega
    · show 0 ≤ r / (t : Int) ∧ r / (t : Int) ≤ r
      exact ⟨Int.ediv_nonneg h0 (by omega), Int.ediv_le_self _ h0⟩
    · show 0 < r ↔ 0 < r / (t : Int)
      have t1 : (0 : Int) < (t : Int) := by omega
      constructor
      · intro h0
        rcases Int.lt_or_le 0 (r / (t : Int)) with q | q
        · exact q
        · have := Int.mul_le_mul_of_nonneg_right q (Int.le_of_lt t1)
          omega
      · intro h0
        have := Int.mul_pos h0 t1
        omega
/-- the end of a table -/
def fin_ (l : List Int) (r : Int) : Option Int := if l = [] ∨ 0 < r then none else some (l.getD (l.length - 1) 0)
/-- the value at a count, or at never -/
def val_ (h l : List Int) (r : Int) : Option Nat → Option Int
  | none => fin_ l r
  | some n => if n = 0 then some 0 else at_ h l r n
end NT
namespace NF
open PySem PySem.Spec PyProof.Rows L2 He RZ NT
def vO : Option Int → V
  | none => .non
  | some i => .int i
def vN : Option Nat → V
  | none => .non
  | some n => .int (n : Int)
def tf (a b : Addr) (r : Int) : List (Str × V) := [("head", .ref a), ("loop", .ref b), ("rise", .int r)]
/-- a table with these three -/
def TabAt (K : PySem.W.Frag) (C : Addr) (H : Hp) (x : Addr) (y : List Int × List Int × Int) : Prop := ∃ dx a b, H x = some (.ins C dx (tf a b y.2.2)) ∧ SqT K H a (vI y.1) ∧ SqT K H b (vI y.2.1)
theorem TabAt.mono {K : PySem.W.Frag} {C : Addr} {H H' : Hp} {x : Addr} {y : List Int × List Int × Int} (h : TabAt K C H x y) (s : Same H H') : TabAt K C H' x y := by
  obtain ⟨dx, a, b, h1, h2, h3⟩ := h
  exact ⟨dx, a, b, s _ _ h1, NF.Same.tup s h2, NF.Same.tup s h3⟩
/-- what stands at p is no tuple -/
def NoTup : HO → Prop
  | .tup _ => False
  | .frz _ _ => False
  | _ => True
theorem SqT.put {K : PySem.W.Frag} {H : Hp} {a p : Addr} {o u : HO} {xs : List V} (h : SqT K H a xs) (hp : H p = some u) (n : match u with | .lst _ => True | .ins _ _ _ => True | _ => False) : SqT K (upd H p o) a xs := by
  rcases h with (h | ⟨w, h⟩) | h
  · refine .inl (.inl ?_)
    rw [upd_ne (fun z => by subst z; rw [h] at hp; cases hp; exact n)]
    exact h
  · refine .inl (.inr ⟨w, ?_⟩)
    rw [upd_ne (fun z => by subst z; rw [h] at hp; cases hp; exact n)]
    exact h
  · exact .inr h
theorem SqT.wo {K : PySem.W.Frag} {H : Hp} {a p : Addr} {u : HO} {xs : List V} (h : SqT K H a xs) (hp : H p = some u) (n : match u with | .lst _ => True | .ins _ _ _ => True | _ => False) : SqT K (wo H p) a xs := by
  rcases h with (h | ⟨w, h⟩) | h
  · refine .inl (.inl ?_)
    rw [wo_ne (fun z => by subst z; rw [h] at hp; cases hp; exact n)]
    exact h
  · refine .inl (.inr ⟨w, ?_⟩)
    rw [wo_ne (fun z => by subst z; rw [h] at hp; cases hp; exact n)]
    exact h
  · exact .inr h
theorem TabAt.wo {K : PySem.W.Frag} {C : Addr} {H : Hp} {x p : Addr} {y : List Int × List Int × Int} {l : List V} (h : TabAt K C H x y) (hp : H p = some (.lst l)) : TabAt K C (NF.wo H p) x y := by
  obtain ⟨dx, a, b, h1, h2, h3⟩ := h
  refine ⟨dx, a, b, ?_, SqT.wo h2 hp trivial, SqT.wo h3 hp trivial⟩
  rw [wo_ne (fun z => by subst z; rw [h1] at hp; cases hp)]
  exact h1
/-- a class that may be made by its name; sp: its __init__ -/
structure Mak (P : Program) (w : World) (K : PySem.W.Frag) (mg : Str → Option Value) (base : Heap) (k n : Nat) (x : Str) (C : Addr) (sp : Sp) (dvs : List V) : Prop where
  ex : ∃ (f : Addr) (fd : FuncData) (ps : List Str) (ds : List Value), Mk K C f ∧ FnOk P w K mg base CX0 k f fd ps sp ∧ mg x = some (.ref C) ∧ Binds K fd ps ds ∧ Vals dvs ds
theorem pe_mk {X : Cx} {k j n : Nat} {C : Addr} {x : Str} {sp : Sp} {dvs : List V} {p pos : Pos} {e : Expr} {es : List Expr} {t : TA} (c : Mak X.prog X.w X.K X.mg X.base k n x C sp dvs) (hr : Room j X.A) (hk : k + 1 ≤ j) (hg : Gl X x) (ha : PA X (e :: es) t)
    (hdb : (x == ("__debug__" : Str)) = false := by decide) (he : starEach (e :: es) X.env = (false, eval e X.env) :: starEach es X.env := by rfl) (hpl : (backTo pos (starEach es X.env)).any (·.1) = false := by rfl) :
    PE X (.Call (.Name x p) (e :: es) [] pos) (tMake C sp dvs E0 t) := by
  obtain ⟨f, fd, ps, ds, M, F, hm, b, d⟩ := c.ex
  exact pe_make M F (hr.mono hk) hg hm b d pass0 ha hdb he hpl
end NF
namespace NF
open PySem PySem.Spec PyProof.Rows L2 He RZ NT
/-- tuple(..) of a list or a tuple -/
def rTupOf (K : PySem.W.Frag) : List V → Hp → VK → Prop := fun xs H Q => ∃ a ys, xs = [.ref a] ∧ Row K H a ys ∧ ∀ p H', Same H H' → SqT K H' p ys → Q (.ref p) H'
theorem cr_tup {X : Cx} : CallR X (.type "tuple") (rTupOf X.K) := by
  intro pins s σ H xs us Q I r h
  obtain ⟨a, ys, rfl, hr, q⟩ := h
  refine call_tuple_of pins s σ H _ us Q I r ⟨a, ys, rfl, ?_⟩
  exact hr.elim (fun h => .inl ⟨h, fun l hl => q l _ (NF.Same.new (Same.refl H) hl) (SqT.of upd_same)⟩) fun h => .inr ⟨h, q a H (Same.refl H) h⟩
end NF
set_option Elab.async false
set_option linter.all false
set_option maxRecDepth 100000
set_option maxHeartbeats 4000000
/-! Instances of a plain class with an own __eq__: ==, !=, isinstance, calls, properties. -/
namespace NF
open PySem PySem.Spec PyProof.Rows L2 He RZ NT
theorem ns_some_of {K : PySem.W.Frag} {h : Heap} {N : Addr} {mg : Str → Option Value} {n : Str} {v : Value} (X : K.In h) (G : h.Ns N mg) (e : PySem.W.nsIn K N n = some (some v)) : mg n = some v := by
  rcases G with ⟨ob, rows, cnt, at_, isD, rest⟩
  have val := rest.2 n
  rcases hk : K.lookup N with _ | ⟨c0, d0, dt, sl⟩
  · simp only [PySem.W.nsIn, hk] at e
    cases e
  · have same := (X N _ hk).symm.trans at_
    injection same with same
    subst same
    dsimp only at isD
    subst isD
    simp only [PySem.W.nsIn, hk] at e
    rw [← val]
    unfold nsFind findBy
    rw [← Array.find?_toList]
    revert e
    cases rows.toList.find? _ with
    | some en => exact fun e => by simpa using e
    | none =>
      intro e
      by_cases hany : (rows.toList.any fun x => x.refKey) = true
      · simp [hany] at e
      · simp [hany] at e
/-- the class's own object: nothing above it but object, an own __eq__ at f, no own __ne__ -/
def plObjB (K : PySem.W.Frag) (C f : Addr) : Bool := match K.lookup C with
  | some ⟨.type t, _, .cls cd, sl⟩ => t == "type" && (match cd.mro with
    | .ref C' :: bm => C' == C && bm == [.type "object"]
    | _ => false) && (cd.hasDict && !cd.hasDel) && (PySem.W.nsOkIn K cd.ns && eqO (PySem.W.nsIn K cd.ns "__eq__") (some (some (.ref f))) && eqO (PySem.W.nsIn K cd.ns "__ne__") (some none)) && (match sl.toList with
    | [_, _, _, _, some (.builtin n), _] => n == "object.__new__"
    | _ => false)
  | _ => false
theorem plObjB_ok {K : PySem.W.Frag} {C f : Addr} (h : plObjB K C f = true) :
    ∃ nm q N bs sn sub ab col dd k0 k1 k2 k3 k5, K.lookup C = some (excClassObj nm q C N bs [.type "object"] true sn sub ab col dd k0 k1 k2 k3 k5 "object.__new__") ∧ PySem.W.nsOkIn K N = true ∧ PySem.W.nsIn K N "__eq__" = some (some (.ref f)) ∧ PySem.W.nsIn K N "__ne__" = some none := by
  unfold plObjB at h
  split at h
  · rename_i t dd cd sl hl
    obtain ⟨h, h4⟩ := ba h
    obtain ⟨h, h9⟩ := ba h
    obtain ⟨h, h3⟩ := ba h
    obtain ⟨h1, h2⟩ := ba h
    obtain ⟨h12, h11⟩ := ba h9
    obtain ⟨h13, h10⟩ := ba h12
    split at h2
    · rename_i C' bm hm
      obtain ⟨h5, h6⟩ := ba h2
      split at h4
      · rename_i k0 k1 k2 k3 n k5 hs
        obtain ⟨h7, h8⟩ := ba h3
        have e1 : t = "type" := eq_of_beq h1
        have e5 : C' = C := eq_of_beq h5
        have e6 : bm = [.type "object"] := eq_of_beq h6
        have e9 : n = "object.__new__" := eq_of_beq h4
        subst e1 e5 e6 e9
        obtain ⟨nm, bs, mro, N, q, hd, sn, sub, ab, col, hdel⟩ := cd
        dsimp only at hm h7 h8 h13 h10 h11
        subst hm h7
        have hdel' : hdel = false := by
          cases hdel with
          | false => rfl
          | true => cases h8
        subst hdel'
        have hsl : sl = #[k0, k1, k2, k3, some (.builtin "object.__new__"), k5] := by
          have := congrArg List.toArray hs
          simpa using this
        subst hsl
        exact ⟨nm, q, N, bs, sn, sub, ab, col, dd, k0, k1, k2, k3, k5, hl, h13, eqO_ok h10, eqO_ok h11⟩
      · cases h4
    · cases h2
  · cases h
/-- x == y, x an instance of C -/
def rEqO (K : PySem.W.Frag) (C : Addr) (sp : Sp) : R2 := fun x y H Q => ∃ a dx fs tb, x = .ref a ∧ H a = some (.ins C dx fs) ∧ TyX K H y tb ∧ PySem.W.notFirst K C tb = true ∧ sp [.ref a, y] H Q E0
/-- x != y, both instances of C -/
def rNeO (K : PySem.W.Frag) (C : Addr) (sp : Sp) : R2 := fun x y H Q => ∃ a dx fs b dy gs, x = .ref a ∧ H a = some (.ins C dx fs) ∧ y = .ref b ∧ H b = some (.ins C dy gs) ∧ sp [.ref a, .ref b] H (fun v H' => ∃ t, v = .bl t ∧ Q (.bl (!t)) H') E0
/-- a class with an own == at f -/
structure EqC (P : Program) (w : World) (K : PySem.W.Frag) (mg : Str → Option Value) (base : Heap) (k : Nat) (C : Addr) (sp : Sp) : Prop where
  ex : ∃ (f : Addr) (fd : FuncData) (ps : List Str), FnOk P w K mg base CX0 k f fd ps sp ∧ PySem.W.findIn K (.ref C) "__eq__" = some (some (.ref f)) ∧ PySem.W.isFn K (.ref f) = true ∧ plObjB K C f = true ∧ Binds K fd ps []
theorem op_eqO {X : Cx} {k j : Nat} {C : Addr} {sp : Sp} (c : EqC X.prog X.w X.K X.mg X.base k C sp) (hr : Room j X.A) (hk : k ≤ j) : OpR X (compareOp .Eq) (rEqO X.K C sp) := by
  obtain ⟨f, fd, ps, F, hs, hf, _, hb⟩ := c.ex
  intro pins s σ H x y v u Q I rx ry h
  obtain ⟨a, dx, fs, tb, rfl, ha, ty, hn, q⟩ := h
  cases rx
  obtain ⟨mA, O, _⟩ := ins_get I.hok ha
  obtain ⟨od, J, _⟩ := O.look
  obtain ⟨m, hF⟩ := I.fr
  obtain ⟨P, Z, p, _⟩ := kit_of I ry ty
  show wpAny (model X.prog X.w) X.A (richCompare .Eq (.ref a) u) (EP X pins σ Q) X.xe s
  refine PySem.W.cmp_K (op := .Eq) (tb := tb) hr.units0 hF I.ok.mod.kin J (Z.ty _ _ I.kIn p) hn hs hf ?_
  have r2 : Vals [V.ref a, y] [Value.ref a, u] := .cons rfl (.cons ry .nil)
  refine wpAny_mono (run_fn (us := [.ref a, u]) (vs := [.ref a, y]) F (hr.mono hk) hb .nil pass0 I r2 q) (fun r s' z => ?_) fun _ _ e => e
  obtain ⟨z, H', I', rz, q'⟩ := z
  have hni : r ≠ .notImplemented := fun e => by
    subst e
    cases z with
    | int i => obtain ⟨t, e⟩ := (show ∃ t, Value.notImplemented = Value.int i t from rz); cases e
    | str i => obtain ⟨t, e⟩ := (show ∃ t, Value.notImplemented = Value.str i t from rz); cases e
    | byt i => obtain ⟨t, e⟩ := (show ∃ t, Value.notImplemented = Value.bytes i t from rz); cases e
    | flt i => obtain ⟨t, e⟩ := (show ∃ t, Value.notImplemented = Value.float i t from rz); cases e
    | _ => cases rz
  unfold PySem.W.CmpBack
  split
  · exact hni rfl
  · exact ⟨z, H', I', rz, q'⟩
theorem op_neO {X : Cx} {k j : Nat} {C : Addr} {sp : Sp} (c : EqC X.prog X.w X.K X.mg X.base k C sp) (hr : Room j X.A) (hk : k + 1 ≤ j) : OpR X (compareOp .NotEq) (rNeO X.K C sp) := by
  obtain ⟨f, fd, ps, F, hs, hf, hp, hb⟩ := c.ex
  intro pins s σ H x y v u Q I rx ry h
  obtain ⟨a, dx, fs, b, dy, gs, rfl, ha, rfl, hb', q⟩ := h
  cases rx
  cases ry
  obtain ⟨mA, O, _⟩ := ins_get I.hok ha
  obtain ⟨od, J, _⟩ := O.look
  obtain ⟨mB, O', _⟩ := ins_get I.hok hb'
  obtain ⟨od', J', _⟩ := O'.look
  obtain ⟨nm, qn, N, bs, sn, sub, ab, col, dd, k0, k1, k2, k3, k5, hl, hok, he, hne⟩ := plObjB_ok hp
  have G : s.heap.Ns N (s.heap.nsMap N) := .of_isNs (PySem.W.isNs_of_in I.kIn hok)
  have hr1 := hr.mono hk
  have r2 : Vals [V.ref a, .ref b] [Value.ref a, .ref b] := .cons rfl (.cons rfl .nil)
  have hlen := F.len _ _ _ _ q
  have run : wpAny (model X.prog X.w) X.A.in1 (call (.ref f) [.ref a, .ref b]) (fun v s' => ∃ t, v = .bool t ∧ EP X pins σ Q (.bool (!t)) s') X.xe s := by
    refine wpAny_call (codeAny_mono (F.run X.A.in1 X.stack s H ⟨[.ref a, .ref b], []⟩ [.ref a, .ref b] [.ref a, .ref b] _ E0 hr1.in1 I.env0.in1 (by
      have := hb s [.ref a, .ref b] I.kIn (by simpa using hlen)
      simpa using this) r2 q) fun r s' hq => ?_)
    cases r with
    | error e => exact False.elim hq
    | ok fl =>
      cases fl with
      | ret w =>
        obtain ⟨z, H', I', rz, t, ez, q3⟩ := I.after hq
        subst ez
        cases rz
        exact ⟨t, rfl, .bl (!t), H', I', rfl, q3⟩
      | next => exact False.elim hq
      | brk => exact False.elim hq
      | cont => exact False.elim hq
  obtain ⟨j1, j2, _⟩ := J
  obtain ⟨j3, j4, _⟩ := J'
  obtain ⟨of, hfo, hfc⟩ : ∃ of, s.heap.get? f = some of ∧ of.cls = .type "function" := by
    have e : (K0 : PySem.W.Frag) → K0.In s.heap → PySem.W.isFn K0 (.ref f) = true → ∃ of, s.heap.get? f = some of ∧ of.cls = .type "function" := fun K0 hK h0 => by
      have e1 : (K0.lookup f).map (·.cls) = some (.type "function") := beq_iff_eq.mp h0
      obtain ⟨o, ho, hc⟩ := Option.map_eq_some_iff.mp e1
      exact ⟨o, hK _ _ ho, hc⟩
    exact e X.K I.kIn hf
  obtain ⟨hp', g, d, tk, os⟩ := s
  exact PySem.compareOp_ne_ownEq (B := "object") (bm := [.type "object"]) PySem.F.cmp_object ⟨_, of, nm, qn, N, bs, true, sn, sub, ab, col, dd, k0, k1, k2, k3, k5, "object.__new__", _, _, j1, j2, I.kIn _ _ hl, G, ns_some_of I.kIn G he, hfo, hfc, PySem.F.cmp_object.mro, PySem.F.cmp_object.eq.lookup, PySem.W.ns_none_of I.kIn G hne⟩ j3 j4 (by have := hr.un; omega) run
/-- an instance of C may be called -/
structure CalO (P : Program) (w : World) (K : PySem.W.Frag) (mg : Str → Option Value) (base : Heap) (k : Nat) (C : Addr) (sp : Sp) : Prop where
  ex : ∃ (g : Addr) (fd : FuncData) (ps : List Str), StX.CallO K C g ∧ FnOk P w K mg base CX0 k g fd ps sp ∧ Binds K fd ps []
theorem pe_co {X : Cx} {k j : Nat} {C : Addr} {sp : Sp} {fe e : Expr} {es : List Expr} {t : TA} {tf : TE} {pos : Pos} (hf : PE X fe tf) (c : CalO X.prog X.w X.K X.mg X.base k C sp) (hr : Room j X.A) (hk : k ≤ j) (ha : PA X (e :: es) t)
    (ht : eval (.Call fe (e :: es) [] pos) X.env = (do callWith pos (← eval fe X.env) [] (backTo pos (starEach (e :: es) X.env)) (backToKw pos (keywordEach [] X.env))) := by rfl)
    (he : starEach (e :: es) X.env = (false, eval e X.env) :: starEach es X.env := by rfl) (hpl : (backTo pos (starEach es X.env)).any (·.1) = false := by rfl) :
    PE X (.Call fe (e :: es) [] pos) (StX.tCallO X C (fun vs H Q E => sp (vs ++ []) H Q E) E0 tf t) := by
  obtain ⟨g, fd, ps, c, F, b⟩ := c.ex
  exact StX.pe_callO hf c (F.raw b .nil) (hr.mono hk) pass0 ha ht he hpl
/-- a property of C -/
structure PropC (P : Program) (w : World) (K : PySem.W.Frag) (mg : Str → Option Value) (base : Heap) (k : Nat) (C : Addr) (f : Str) (sp : Sp) : Prop where
  cl : Cls K C
  ex : ∃ (p g : Addr) (fd : FuncData) (ps : List Str), PropOf K C f p g ∧ FnOk P w K mg base CX0 k g fd ps sp ∧ Binds K fd ps []
theorem pe_pr {X : Cx} {k j : Nat} {C : Addr} {f : Str} {sp : Sp} {e : Expr} {ta : TE} {pos : Pos} (he : PE X e ta) (c : PropC X.prog X.w X.K X.mg X.base k C f sp) (hr : Room j X.A) (hk : k + 1 ≤ j) (hab : attributeBase e f X.env (eval e X.env) = eval e X.env := by rfl) :
    PE X (.Attribute e f pos) (tProp C sp [] E0 ta) := by
  obtain ⟨p, g, fd, ps, c2, F, b⟩ := c.ex
  exact pe_prop he c.cl c2 F (hr.mono hk) b .nil pass0 hab
end NF
set_option Elab.async false
set_option linter.all false
set_option maxRecDepth 100000
set_option maxHeartbeats 4000000
/-! The hook with getters: defs at addresses told by the written part. -/
namespace NF
open PySem PySem.Spec PyProof.Rows L2 He
def fnWa (K : PySem.W.Frag) (a : Addr) : FnW := match K.lookup a with
  | some ⟨_, _, .func fd, _⟩ => some (fd.name, fd.qualname, fd.params, fd.body, fd.scope, fd.globals, fd.closure, fd.builtins)
  | _ => none
def okA (K : PySem.W.Frag) (a : Addr) (d : DefD) : Bool := PySem.W.keepIn K (.ref a) && (match K.lookup a with
  | some ⟨_, _, .func fd, _⟩ => PySem.W.codeIn K fd.code d.qual && (dflB K fd.defaults (d.dvs K) && kwdB K fd.kwdefaults (d.kws K))
  | _ => false)
theorem funA {K : PySem.W.Frag} {a : Addr} {d : DefD} (e : fnWa K a = d.val) (c : okA K a d = true) : ∃ fd, FunD K d.name d.qual d.params d.body d.scope (d.dvs K) (d.kws K) a fd := by
  have hkp := (ba c).1
  have hrec := (ba c).2
  rcases hl : K.lookup a with _ | ⟨c0, d0, dt, sl⟩
  · simp only [hl] at hrec
    exact absurd hrec (by decide)
  · cases dt
    case func g =>
      simp only [fnWa, hl, DefD.val, Option.some.injEq, Prod.mk.injEq] at e
      rcases g with ⟨m1, m2, m3, m4, m5, m6, m7, m8, m9, m10, m11, m12, m13, m14, m15⟩
      simp only at e
      rcases e with ⟨z1, z2, z3, z4, z5, z6, z7, z8⟩
      simp only [hl] at hrec
      have hcode := (ba hrec).1
      have hdfl := dflB_ok (ba (ba hrec).2).1
      have hkwd := kwdB_ok (ba (ba hrec).2).2
      refine ⟨PySem.W.fnOf d.name d.qual d.params d.body d.scope m8 m9 m10 m11 m12 m13 m14, ⟨c0, d0, m8, m9, m10, m11, m12, m13, m14, sl, rfl, ?_, hcode, hdfl, hkwd⟩, hkp⟩
      subst z1 z2 z3 z4 z5 z6 z7 z8
      exact hl
    all_goals
      simp only [hl] at hrec
      exact absurd hrec (by decide)
abbrev Adr := (PySem.W.Frag → Addr) × DefD
def obsP (ex : PySem.W.Frag → Bool) (fn : List Adr) (K : PySem.W.Frag) : AlD := (ex K && fn.all fun d => okA K (d.1 K) d.2, fn.map fun d => fnWa K (d.1 K))
def valP (fn : List Adr) : AlD := (true, fn.map fun d => d.2.val)
def SaysP (ex : PySem.W.Frag → Bool) (fn : List Adr) (K : PySem.W.Frag) : Prop := obsP ex fn K = valP fn
def obsPG (n : Nat) (ex : PySem.W.Frag → Bool) (fn : List Adr) (g : Addr → Option Obj) : AlD := obsP ex fn (frG g (asD g n))
def hookP (n : Nat) (ex : PySem.W.Frag → Bool) (fn : List Adr) : PySem.W.Hook where
  α := AlD
  obs := fun s => obsPG n ex fn s.heap.get?
  val := fun _ => valP fn
  says := fun _ h => ∃ K : PySem.W.Frag, K.In h ∧ SaysP ex fn K
  of := fun _ _ e => ⟨_, frG_in, e⟩
  keeps := fun _ _ _ ⟨K, hK, c⟩ k => ⟨K, PySem.W.Frag.In.keeps hK k, c⟩
theorem obsPG_eq {n : Nat} {ex : PySem.W.Frag → Bool} {fn : List Adr} {g : Addr → Option Obj} {s : Shared} (h : ∀ a, g a = s.heap.get? a) : obsPG n ex fn g = (hookP n ex fn).obs s := by
  have e : g = s.heap.get? := funext h
  rw [e] <;> rfl
section
variable {ex : PySem.W.Frag → Bool} {fn : List Adr} {K : PySem.W.Frag}
theorem SaysP.truth (c : SaysP ex fn K) : ex K = true :=
  (ba (show (ex K && fn.all fun d => okA K (d.1 K) d.2) = true from congrArg (fun z : AlD => z.1) c)).1
theorem SaysP.def_ (c : SaysP ex fn K) (i : Nat) {d : Adr} (h : fn[i]? = some d := by rfl) : ∃ fd, FunD K d.2.name d.2.qual d.2.params d.2.body d.2.scope (d.2.dvs K) (d.2.kws K) (d.1 K) fd := by
  have c2 := (ba (show (ex K && fn.all fun d => okA K (d.1 K) d.2) = true from congrArg (fun z : AlD => z.1) c)).2
  have e : fn.map (fun d => fnWa K (d.1 K)) = fn.map fun d => d.2.val := congrArg (fun z : AlD => z.2) c
  have e2 : (fn.map fun d => fnWa K (d.1 K))[i]? = (fn.map fun d => d.2.val)[i]? := by rw [e]
  rw [List.getElem?_map, List.getElem?_map, h] at e2
  exact funA (Option.some.inj e2) (List.all_eq_true.mp c2 d (List.mem_of_getElem? h))
end
end NF
set_option Elab.async false
set_option linter.all false
set_option maxRecDepth 100000
set_option maxHeartbeats 4000000
/-! Makers and instances whose defs let an exception out. -/
namespace NF
open PySem PySem.Spec PyProof.Rows L2 He RZ NT
/-- a def's answer handed on, or its exception let through -/
theorem handS {X : Cx} {CX : CXT} {E : L2.St → XK} {σ : L2.St} {pins : List (Addr × Obj)} {H : Hp} {s : Shared} {Q : VK} (hx : PassesAt CX X σ (E σ)) (I : Inv X pins σ H s) {r : Result} {s' : Shared} (h : CR CX X.stack X.prog X.w H s Q (E σ) r s') :
    (∃ u, r = .ok (.ret u) ∧ EP X pins σ Q u s') ∨ ∃ e, r = .error e ∧ X.xe e s' := by
  cases r with
  | error e => exact .inr ⟨e, rfl, hx pins H s e s' I h⟩
  | ok fl => cases fl with
    | ret u => exact .inl ⟨u, rfl, I.after h⟩
    | next => exact h.elim
    | brk => exact h.elim
    | cont => exact h.elim
def tMakeS (C : Addr) (sp : Sp) (dvs : List V) (E : L2.St → XK) (t : TA) : TE := fun σ H Q => t σ H fun vs H1 => ∀ x dx, H1 x = none → H1 dx = none → dx ≠ x →
  sp (.ref x :: (vs ++ dvs)) (upd (upd H1 dx (.own x)) x (.ins C dx [])) (fun v H2 => v = .non ∧ Q (.ref x) H2) (E σ)
theorem make_runs {X : Cx} {CX : CXT} {k : Nat} {C f : Addr} {fd : FuncData} {ps : List Str} {sp : Sp} {dvs : List V} {ds : List Value} {E : L2.St → XK} {pins : List (Addr × Obj)} {σ : L2.St} {H : Hp} {s : Shared} {Q : VK} {us : List Value} {vs : List V}
    (M : Mk X.K C f) (F : FnOk X.prog X.w X.K X.mg X.base CX k f fd ps sp) (hr : Room (k + 1) X.A) (hb : Binds X.K fd ps ds) (hd : Vals dvs ds) (hx : PassesAt CX X σ (E σ)) (I : Inv X pins σ H s) (r : Vals vs us)
    (h : ∀ x dx, H x = none → H dx = none → dx ≠ x → sp (.ref x :: (vs ++ dvs)) (upd (upd H dx (.own x)) x (.ins C dx [])) (fun v H2 => v = .non ∧ Q (.ref x) H2) (E σ)) :
    wpAny (model X.prog X.w) X.A (call (.ref C) us) (EP X pins σ Q) X.xe s := by
  have want := h (s.heap.objs.size + 1) s.heap.objs.size (I.hok.fresh (Nat.le_succ _)) (I.hok.fresh (Nat.le_refl _)) (Nat.ne_of_lt (Nat.lt_succ_self _))
  have J := Inv.made (C := C) I
  have rr : Vals (V.ref (s.heap.objs.size + 1) :: (vs ++ dvs)) (Value.ref (s.heap.objs.size + 1) :: (us ++ ds)) := .cons rfl (r.append hd)
  have len : (Value.ref (s.heap.objs.size + 1) :: us ++ ds).length = ps.length := rr.length.symm.trans (F.len _ _ _ _ want)
  have body := F.run _ X.stack _ _ ⟨Value.ref (s.heap.objs.size + 1) :: us, []⟩ (Value.ref (s.heap.objs.size + 1) :: (us ++ ds)) _ _ (E σ) (hr.make C us []) (J.env0.make C us []) (hb _ (Value.ref (s.heap.objs.size + 1) :: us) J.kIn len) rr want
  refine wpAny_call (make_map (f := f) I.kIn M.makes M.init (beq_iff_eq.mp M.fn) (codeAny_mono body fun q s' hq => ?_))
  rcases handS hx J hq with ⟨u, rfl, v, H', J', rv, ev, q3⟩ | ⟨e, rfl, hz⟩
  · subst ev
    exact ⟨rv, V.ref (s.heap.objs.size + 1), H', J', rfl, q3⟩
  · exact hz
/-- a class whose __init__ may let an exception out -/
structure MakX (P : Program) (w : World) (K : PySem.W.Frag) (mg : Str → Option Value) (base : Heap) (k n : Nat) (x : Str) (C : Addr) (sp : Sp) (dvs : List V) : Prop where
  ex : ∃ (f : Addr) (fd : FuncData) (ps : List Str) (ds : List Value), Mk K C f ∧ FnOk P w K mg base (L2.CX P w) k f fd ps sp ∧ mg x = some (.ref C) ∧ Binds K fd ps ds ∧ Vals dvs ds
theorem pe_mkX {X : Cx} {k j n : Nat} {C : Addr} {x : Str} {sp : Sp} {dvs : List V} {W : WX} {p pos : Pos} {e : Expr} {es : List Expr} {t : TA} (tk : Takes X W) (c : MakX X.prog X.w X.K X.mg X.base k n x C sp dvs) (hr : Room j X.A) (hk : k + 1 ≤ j) (hg : Gl X x) (ha : PA X (e :: es) t)
    (hdb : (x == ("__debug__" : Str)) = false := by decide) (he : starEach (e :: es) X.env = (false, eval e X.env) :: starEach es X.env := by rfl) (hpl : (backTo pos (starEach es X.env)).any (·.1) = false := by rfl) :
    PE X (.Call (.Name x p) (e :: es) [] pos) (tMakeS C sp dvs (WE W) t) := by
  obtain ⟨f, fd, ps, ds, M, F, hm, b, d⟩ := c.ex
  refine ⟨fun pins s σ H Q I h => ?_⟩
  refine wpAny_Call_Name_kw (ld_glob I hg hm ?_ hdb)
  refine PySem.W.callWith_K (h₀ := X.base) I.ok.mod.kin M.kp (thn (ha.run pos pins s σ H _ I h) fun us s1 ⟨vs, H1, I1, r, q⟩ => ⟨I1.kIn, ?_⟩) he hpl
  exact make_runs (E := WE W) M F (hr.mono hk) b d (passAt tk σ) I1 r q
/-- a def that may let an exception out, by its name -/
structure CalX (P : Program) (w : World) (K : PySem.W.Frag) (mg : Str → Option Value) (base : Heap) (k : Nat) (x : Str) (sp : Sp) : Prop where
  ex : ∃ (f : Addr) (fd : FuncData) (ps : List Str), FnOk P w K mg base (L2.CX P w) k f fd ps sp ∧ mg x = some (.ref f) ∧ PySem.W.keepIn K (.ref f) = true ∧ Binds K fd ps []
theorem pe_cX {X : Cx} {k j : Nat} {x : Str} {sp : Sp} {W : WX} {e : Expr} {es : List Expr} {t : TA} {p pos : Pos} (tk : Takes X W) (c : CalX X.prog X.w X.K X.mg X.base k x sp) (hr : Room j X.A) (hk : k ≤ j) (hg : Gl X x) (ha : PA X (e :: es) t)
    (hdb : (x == ("__debug__" : Str)) = false := by decide) (he : starEach (e :: es) X.env = (false, eval e X.env) :: starEach es X.env := by rfl) (hpl : (backTo pos (starEach es X.env)).any (·.1) = false := by rfl) :
    PE X (.Call (.Name x p) (e :: es) [] pos) (tCallS sp (WE W) t) := by
  obtain ⟨f, fd, ps, F, hm, kp, b⟩ := c.ex
  exact pe_callS F (hr.mono hk) hg hm kp b (fun σ => passAt tk σ) ha hdb he hpl
/-- an instance that may be called, and may let an exception out -/
structure CalOX (P : Program) (w : World) (K : PySem.W.Frag) (mg : Str → Option Value) (base : Heap) (k : Nat) (C : Addr) (sp : Sp) : Prop where
  ex : ∃ (g : Addr) (fd : FuncData) (ps : List Str), StX.CallO K C g ∧ FnOk P w K mg base (L2.CX P w) k g fd ps sp ∧ Binds K fd ps []
def tCallOS (C : Addr) (sp : Sp) (E : L2.St → XK) (tf : TE) (t : TA) : TE := fun σ H Q => tf σ H fun y H1 => ∃ a, y = V.ref a ∧ t σ H1 fun vs H2 => (∃ dx fs, H2 a = some (.ins C dx fs)) ∧ sp (V.ref a :: vs) H2 Q (E σ)
theorem pe_coX {X : Cx} {k j : Nat} {C : Addr} {sp : Sp} {W : WX} {fe e : Expr} {es : List Expr} {t : TA} {tf : TE} {pos : Pos} (tk : Takes X W) (hf : PE X fe tf) (c : CalOX X.prog X.w X.K X.mg X.base k C sp) (hr : Room j X.A) (hk : k ≤ j) (ha : PA X (e :: es) t)
    (ht : eval (.Call fe (e :: es) [] pos) X.env = (do callWith pos (← eval fe X.env) [] (backTo pos (starEach (e :: es) X.env)) (backToKw pos (keywordEach [] X.env))) := by rfl)
    (he : starEach (e :: es) X.env = (false, eval e X.env) :: starEach es X.env := by rfl) (hpl : (backTo pos (starEach es X.env)).any (·.1) = false := by rfl) :
    PE X (.Call fe (e :: es) [] pos) (tCallOS C sp (WE W) tf t) := by
  obtain ⟨g, fd, ps, co, F, b⟩ := c.ex
  refine ⟨fun pins s σ H Q I h => ?_⟩
  refine Call_ (thn (hf.run pins s σ H _ I h) fun u s1 ⟨y, H1, I1, ry, a, ey, q⟩ => ?_) ht
  subst ey
  cases ry
  refine StX.callO_with (thn (ha.run pos pins s1 σ H1 _ I1 q) fun us s2 ⟨vs, H2, I2, r, hi0, q2⟩ => ?_) he hpl
  have hi : StX.InsC X H2 a C := .inr hi0
  obtain ⟨ox, od, J, hd⟩ := StX.insC_at I2 hi
  refine ⟨⟨C, ox, od, J, hd⟩, ?_⟩
  have rr : Vals (V.ref a :: vs) (Value.ref a :: us) := .cons rfl r
  have len : (Value.ref a :: us).length = ps.length := rr.length.symm.trans (F.len _ _ _ _ q2)
  have bb := b s2 (Value.ref a :: us) I2.kIn (by rw [List.append_nil]; exact len)
  rw [List.append_nil] at bb
  refine wpAny_call (PySem.W.kco_code I2.kIn J hd co.at_ co.fn co.fi (codeAny_mono (F.run X.A X.stack s2 H2 ⟨Value.ref a :: us, []⟩ (Value.ref a :: us) (V.ref a :: vs) Q (WE W σ) (hr.mono hk) I2.env0 bb rr q2) fun z s' hq => ?_))
  rcases handS (E := WE W) (passAt tk σ) I2 hq with ⟨u, rfl, hz⟩ | ⟨e, rfl, hz⟩
  · exact hz
  · exact hz
/-! ### own exceptions that keep their one argument -/
/-- what __init__ of a class whose errors bear f does -/
def spExc (C : Addr) (f : Str) : Sp := fun vs H Q _ => ∃ (a : Addr) (v : V), vs = [.ref a, v] ∧ H a = some (exo a C none) ∧ ∀ d, H d = none → d ≠ a → Q .non (upd (upd H d (exd d [(f, v)])) a (exo a C (some d)))
structure ExcI (P : Program) (w : World) (K : PySem.W.Frag) (mg : Str → Option Value) (base : Heap) (x f : Str) : Prop where
  T : OexC K (ga K x)
  ex : ∃ (fI : Addr) (fd : FuncData), PySem.W.findIn K (.ref (ga K x)) "__init__" = some (some (.ref fI)) ∧ PySem.W.typeIn K (.ref fI) = some (.type "function") ∧ FnOk P w K mg base CX0 1 fI fd ["self", f] (spExc (ga K x) f) ∧ Binds K fd ["self", f] []
  gm : mg x = some (.ref (ga K x))
abbrev bodyE (f : Str) (q1 q2 q3 q4 : Pos) : List Stmt := [.Assign [.Attribute (.Name "self" q1) f q2] (.Name f q3) q4]
theorem ok_exc {P : Program} {w : World} {K : PySem.W.Frag} {mg : Str → Option Value} {base : Heap} {x q f : Str} {pa : Arguments} {bd : List Stmt} {sc : Scope} {fI : Addr} {fd : FuncData} {q1 q2 q3 q4 : Pos} (F : FunD K "__init__" q pa bd sc [] [] fI fd) (hb : bd = bodyE f q1 q2 q3 q4) (S : FnScope ["self", f] ["self", f] sc)
    (T : OexC K (ga K x)) (hno : PySem.W.findIn K (.ref (ga K x)) f = some none) (hv0 : Vis sc "self") (hv1 : Vis sc f) (hd : (f == ("__debug__" : Str)) = false) (hcd : (f == ("__classdict__" : Str)) = false) :
    FnOk P w K mg base CX0 1 fI fd ["self", f] (spExc (ga K x) f) := by
  subst hb
  refine F.ok S (fun vs H Q E h => ?_) (fun cdv A outer s H vs Q E hr h => ?_)
  · obtain ⟨a, v, rfl, _⟩ := h
    rfl
  · obtain ⟨a, v, rfl, ha, k⟩ := h
    refine ⟨_, PSs.nox (pss_one (ps_ost (pe_var (i := 0) rfl hv0) (pe_var (i := 1) rfl hv1 hd hcd))), ?_⟩
    exact ⟨_, rfl, _, rfl, a, ga K x, rfl, T, hno, Or.inl ⟨ha, fun d hd hda => k d hd hda⟩⟩
/-- raise X(e) -/
theorem ps_rz {X : Cx} {W : WX} {x f : Str} {e : Expr} {te : TE} {p pos pos' : Pos} {j : Nat} (hc : X.calm = true) (tk : Takes X W) (M : ExcI X.prog X.w X.K X.mg X.base x f) (hr : Room j X.A) (hj : 2 ≤ j) (hg : Gl X x) (he : PE X e te) (hdb : (x == ("__debug__" : Str)) = false := by decide)
    (hs : starEach (e :: []) X.env = (false, eval e X.env) :: starEach [] X.env := by rfl) : PS X (.Raise (some (.Call (.Name x p) [e] [] pos)) none pos') (fun _ σ H => tMkO (ga X.K x) (spExc (ga X.K x) f) [] (tCons te tNil) σ H fun cls d H' => W cls d σ H') := by
  obtain ⟨fI, fd, h1, h2, h3, h4⟩ := M.ex
  exact ps_raise hc tk (pmk_oex M.T h1 h2 h3 (hr.mono hj) h4 .nil pass0 hg M.gm (pa_cons he pa_nil hs) hdb hs)
theorem raise_done {C : Addr} {f : Str} {v : V} {H1 : Hp} {Q : XK} (k : ∀ d H2, H1 d = none → Same H1 H2 → H2 d = some (.xd [(f, v)]) → Q (.ref C) (some d) H2) :
    ([v] : List V).length ≤ 1000 ∧ ∀ a, H1 a = none → spExc C f (.ref a :: ([v] ++ [])) (upd H1 a (exo a C none)) (fun u H2 => u = .non ∧ ∃ (d : Addr) (fs : List (Str × V)), H2 a = some (exo a C (some d)) ∧ H2 d = some (exd d fs) ∧ H1 d = none ∧ Q (.ref C) (some d) (upd (del H2 a) d (.xd fs))) (fun _ _ _ => False) := by
  refine ⟨by show 1 ≤ 1000; decide, fun a ha => ⟨a, v, rfl, upd_same, fun d hd hda => ?_⟩⟩
  have hd0 : H1 d = none := by
    rw [upd_ne hda] at hd
    exact hd
  refine ⟨rfl, d, [(f, v)], upd_same, by rw [upd_ne hda, upd_same], hd0, k d _ hd0 ?_ upd_same⟩
  intro b u e
  have hb : b ≠ d := ne_of_none e hd0
  have hba : b ≠ a := ne_of_none e ha
  rw [upd_ne hb, del_ne hba, upd_ne hba, upd_ne hb, upd_ne hba]
  exact e
end NF
set_option Elab.async false
set_option linter.all false
set_option maxRecDepth 100000
set_option maxHeartbeats 4000000
/-! tuple * int for any int that is not too great. -/
namespace NF
open PySem PySem.Spec PyProof.Rows L2 He RZ
theorem rep_none (l : Addr) (items : Array Value) (n : Nat) (dd : Option Addr) (sl : Array (Option Value)) (x : Int) (u : Tok) (c0 : (decide (x < -(2 ^ 63)) || decide (x ≥ 2 ^ 63)) = false) (c1 : (items.isEmpty || x == 1) = false) (c2 : (decide (x ≤ 0) || items.isEmpty) = true) :
    Meets (Builtin.«tuple.__mul__» ⟨[.ref l, .int x u], []⟩) (fun _ R s => s.heap.get? l = some { cls := .type "tuple", dict := dd, data := .seq items n, slots := sl } ∧
      R (.ok (.ret (Value.ref s.heap.objs.size))) { s with heap := s.heap.push { cls := Value.type "tuple", data := Data.seq #[] } }) :=
  .of_wp fun prog w A R s h => by
    obtain ⟨hp, g, d, tk, os⟩ := s
    obtain ⟨hl, h⟩ := h
    have f1 := AutoSeq1.idx_int
    wp_walk using wpAny_loadPart' hl
    repeat (first
      | (refine wpAny_ite_false (decide_eq_false (by rw [c0]; exact Bool.false_ne_true)) ?_; wp_walk using wpAny_loadPart' hl)
      | (refine wpAny_ite_false (decide_eq_false (by rw [c1]; exact Bool.false_ne_true)) ?_; wp_walk using wpAny_loadPart' hl)
      | (refine wpAny_ite_true (decide_eq_true (by rw [c2])) ?_; wp_walk using wpAny_loadPart' hl))
    exact ⟨_, rfl, h⟩
theorem rep_one (l : Addr) (items : Array Value) (n : Nat) (dd : Option Addr) (sl : Array (Option Value)) (x : Int) (u : Tok) (c0 : (decide (x < -(2 ^ 63)) || decide (x ≥ 2 ^ 63)) = false) (c1 : (items.isEmpty || x == 1) = true) :
    Meets (Builtin.«tuple.__mul__» ⟨[.ref l, .int x u], []⟩) (fun _ R s => s.heap.get? l = some { cls := .type "tuple", dict := dd, data := .seq items n, slots := sl } ∧ R (.ok (.ret (Value.ref l))) s) :=
  .of_wp fun prog w A R s h => by
    obtain ⟨hp, g, d, tk, os⟩ := s
    obtain ⟨hl, h⟩ := h
    have f1 := AutoSeq1.idx_int
    wp_walk using wpAny_loadPart' hl
    repeat (first
      | (refine wpAny_ite_false (decide_eq_false (by rw [c0]; exact Bool.false_ne_true)) ?_; wp_walk using wpAny_loadPart' hl)
      | (refine wpAny_ite_true (decide_eq_true (by rw [c1])) ?_; wp_walk using wpAny_loadPart' hl))
    exact ⟨_, rfl, h⟩
def rRepA (K : PySem.W.Frag) : R2 := fun x y H Q => ∃ l k xs, x = .ref l ∧ y = .int k ∧ SqT K H l xs ∧ xs ≠ [] ∧ xs.length ≤ 100 ∧ -10000 ≤ k ∧ k ≤ 10000 ∧ ∀ p H', Same H H' → SqT K H' p (List.replicate k.toNat xs).flatten → Q (.ref p) H'
/-- t * k -/
theorem op_repA {X : Cx} : OpR X (binaryOp .Mult) (rRepA X.K) := by
  intro pins s σ H x y v u Q I rx ry h
  obtain ⟨l, k, xs, rfl, rfl, hT, hne, hz, k1, k2, q⟩ := h
  cases rx
  obtain ⟨t, rfl⟩ := ry
  obtain ⟨its, r, ⟨⟨cls, dd, data, sl⟩, ho, hc, n, hd⟩, hs⟩ := I.tuple hT
  simp only at hc hd
  subst hc hd
  have hle : its.length = xs.length := r.length.symm
  have hpos : 0 < its.length := by
    rw [hle]
    exact List.length_pos_iff.mpr hne
  have hfull : its.toArray.isEmpty = false := by
    cases hi : its with
    | nil => rw [hi] at hpos; simp at hpos
    | cons _ _ => rfl
  have small : (decide (k < -(2 ^ 63)) || decide (k ≥ 2 ^ 63)) = false := by
    rw [decide_eq_false (show ¬ k < -(2 ^ 63) by omega), decide_eq_false (show ¬ k ≥ 2 ^ 63 by omega)]
    rfl
  have ty : s.TypeIs (.ref l) "tuple" := ⟨_, ho, rfl⟩
  have road : ∀ {W : Value → Shared → Prop}, wpAny (model X.prog X.w) X.A (call (.builtin "tuple.__mul__") [.ref l, .int k t]) W X.xe s → wpAny (model X.prog X.w) X.A (binaryOp .Mult (.ref l) (.int k t)) W X.xe s := fun {W} z =>
    wpAny_binaryOp_repeat_ref (T := "tuple") (U := "int") (by decide) ty (fun s' => typeIs_int s' k t) noFill_tuple_mul F.fills_int_mul F.slot_int_rmul repeat_tuple F.slot_int_index.lookup
      (call_meets F.slot_int_rmul (typeIs_int s k t) F.entry_int_rmul (F.args_int_rmul_2 _ _) (int_rmul_tuple k t l its.toArray n dd sl) ⟨ho, rfl, ty, z⟩)
  refine road ?_
  by_cases c1 : k = 1
  · subst c1
    refine call_meets F.slot_tuple_mul ty F.entry_tuple_mul (F.args_tuple_mul_2 _ _) (rep_one l its.toArray n dd sl 1 t small (by rw [hfull]; rfl)) ⟨ho, ?_⟩
    refine ⟨.ref l, H, I, rfl, q l H (Same.refl H) ?_⟩
    rw [show (List.replicate (1 : Int).toNat xs).flatten = xs by simp]
    exact hT
  · have not1 : (its.toArray.isEmpty || k == 1) = false := by
      rw [hfull, Bool.false_or]
      exact beq_eq_false_iff_ne.mpr c1
    by_cases c0 : k ≤ 0
    · refine call_meets F.slot_tuple_mul ty F.entry_tuple_mul (F.args_tuple_mul_2 _ _) (rep_none l its.toArray n dd sl k t small not1 (by rw [decide_eq_true c0]; rfl)) ⟨ho, ?_⟩
      have hn := I.hok.fresh (Nat.le_refl s.heap.objs.size)
      have e0 : (List.replicate k.toNat xs).flatten = [] := by
        rw [show k.toNat = 0 by omega]
        rfl
      refine ⟨.ref s.heap.objs.size, _, I.laid (t' := s.toks) (o := .tup []) (fun b ob q => Heap.get?_push_of_some _ q) (Nat.le_refl _) ?_, rfl, q _ _ (NF.Same.new (Same.refl H) hn) (by rw [e0]; exact SqT.of upd_same)⟩
      exact ⟨Nat.zero_le _, [], .nil, IsTup.new _ _⟩
    · have many : its.toArray.size = xs.length := by rw [List.size_toArray, hle]
      have prod : ((its.toArray.size : Nat) : Int) * k ≤ 100 * 10000 := by
        rw [many]
        exact Int.mul_le_mul (by omega) k2 (by omega) (by decide)
      have flat : (List.replicate k.toNat xs).flatten.length ≤ 1000000 := by
        rw [PyProof.Rows.lm_len_rep_flat]
        exact Nat.le_trans (Nat.mul_le_mul (show k.toNat ≤ 10000 by omega) hz) (by decide)
      have flat2 : (List.replicate k.toNat its).flatten.length ≤ 1000000 := by
        rw [PyProof.Rows.lm_len_rep_flat, hle]
        exact Nat.le_trans (Nat.mul_le_mul (show k.toNat ≤ 10000 by omega) hz) (by decide)
      refine call_meets F.slot_tuple_mul ty F.entry_tuple_mul (F.args_tuple_mul_2 _ _) (tuple_mulW l its.toArray n dd sl k t small not1 (by rw [hfull, Bool.or_false]; exact decide_eq_false c0) (by omega) ?_ ?_) ⟨ho, ?_⟩
      · unfold Builtin.Tuple.tupleTooMany
        rw [sizeLine_eq]
        exact decide_eq_false (by omega)
      · rw [size_rep, List.size_toArray, sizeLine_eq]
        omega
      · rw [size_rep]
        have hn := I.hok.fresh (Nat.le_refl s.heap.objs.size)
        refine ⟨.ref s.heap.objs.size, _, I.laid (t' := s.toks) (o := .tup (List.replicate k.toNat xs).flatten) (fun b ob q => Heap.get?_push_of_some _ q) (Nat.le_refl _) ?_, rfl, q _ _ (NF.Same.new (Same.refl H) hn) (SqT.of upd_same)⟩
        exact ⟨by rw [sizeLine_eq]; omega, _, r.rep k.toNat, IsTup.new _ _⟩
end NF
set_option Elab.async false
set_option linter.all false
set_option maxRecDepth 100000
set_option maxHeartbeats 4000000
/-! C.m(..), m a static method that may let an exception out. -/
namespace NF
open PySem PySem.Spec PyProof.Rows L2 He RZ
structure SMet (K : PySem.W.Frag) (C : Addr) (mc : Value) (m : Str) (p g : Addr) : Prop where
  ty : PySem.W.typeIn K (.ref C) = some mc
  rd : PySem.W.readsIn K C mc = true
  ga : PySem.W.specialIn K (.ref C) "__getattribute__" = some (some (.builtin "type.__getattribute__"))
  at_ : PySem.W.findCls K (.ref C) mc m = some (.get (.builtin "staticmethod.__get__") (.ref p) .none (.ref C))
  rc : ∃ rest, PySem.W.recIn K p "staticmethod" = some (.ref g :: rest)
  kp : PySem.W.keepIn K (.ref g) = true
structure StaX (P : Program) (w : World) (K : PySem.W.Frag) (mg : Str → Option Value) (base : Heap) (k : Nat) (C : Addr) (m : Str) (sp : Sp) : Prop where
  ex : ∃ (mc : Value) (p g : Addr) (fd : FuncData) (ps : List Str), SMet K C mc m p g ∧ FnOk P w K mg base (L2.CX P w) k g fd ps sp ∧ Binds K fd ps []
def tStaS (C : Addr) (sp : Sp) (E : L2.St → XK) (ta : TE) (t : TA) : TE := fun σ H Q => ta σ H fun x H1 => x = .ref C ∧ t σ H1 fun vs H2 => sp vs H2 Q (E σ)
theorem pe_smX {X : Cx} {k j : Nat} {C : Addr} {m : Str} {sp : Sp} {W : WX} {o e : Expr} {es : List Expr} {ta : TE} {t : TA} {pos apos : Pos} {pl : Sem Bool} (tk : Takes X W) (he : PE X o ta) (c : StaX X.prog X.w X.K X.mg X.base k C m sp) (hr : Room j X.A) (hk : k ≤ j) (ha : PA X (e :: es) t)
    (hst : starEach (e :: es) X.env = (false, eval e X.env) :: starEach es X.env := by rfl) (hpl : (backTo pos (starEach es X.env)).any (·.1) = false := by rfl)
    (ht : eval (.Call (.Attribute o m apos) (e :: es) [] pos) X.env = (do
      let ov ← eval o X.env
      standAt apos.atName
      let (f, first) ← holding [ov] (getMethod ov m pl)
      callWith pos f first (backTo pos (starEach (e :: es) X.env)) (backToKw pos (keywordEach [] X.env))) := by rfl) :
    PE X (.Call (.Attribute o m apos) (e :: es) [] pos) (tStaS C sp (WE W) ta t) := by
  obtain ⟨mc, p, g, fd, ps, S, F, hb⟩ := c.ex
  obtain ⟨rest, hp⟩ := S.rc
  refine ⟨fun pins s σ H Q I h => ?_⟩
  refine PySem.W.methodCall_KW (pl := pl) (thn (he.run pins s σ H _ I h) fun u s1 ⟨x, H1, I1, rx, ex, q⟩ => ?_) ht
  subst ex
  cases rx
  obtain ⟨fm, hF⟩ := I1.fr
  refine PySem.W.method_cls I1.kIn S.ga (PySem.W.cls_sm hF I1.ok.mod.kin S.ty S.rd S.at_ hp rfl ?_)
  have I2 := I1.tok (s1.toks + 1)
  show wpAny _ _ (callWith pos (.ref g) [] (backTo pos (starEach (e :: es) X.env)) []) _ _ _
  refine PySem.W.callWith_K (h₀ := X.base) I2.ok.mod.kin S.kp (thn (ha.run pos pins _ σ H1 _ I2 q) fun us s3 ⟨vs, H2, I3, r, q2⟩ => ⟨I3.kIn, ?_⟩) hst hpl
  exact run_fnS (E := WE W) F (hr.mono hk) hb (passAt tk σ) I3 r q2
end NF
set_option Elab.async false
set_option linter.all false
set_option maxRecDepth 100000
set_option maxHeartbeats 4000000
/-! Facts of a top, each as one Bool of the written part, with what it says. -/
namespace NF
open PySem PySem.Spec PyProof.Rows L2 He RZ
def dG (x : Str) (st : Stmt) : Adr := (fun K => ga K x, ⟨(x, none), x, x, defArgs st, defBody st, defScope st, [], []⟩)
def dGd (x : Str) (st : Stmt) (dfl : List He.Dv) : Adr := (fun K => ga K x, ⟨(x, none), x, x, defArgs st, defBody st, defScope st, dfl, []⟩)
def dM (c m q : Str) (st : Stmt) (dfl : List He.Dv) : Adr := (fun K => ma K (ga K c) m, ⟨(c, some m), m, q, defArgs st, defBody st, defScope st, dfl, []⟩)
def getW (t : String) (c f : Str) (K : PySem.W.Frag) : Addr := match PySem.W.recIn K (ma K (ga K c) f) t with
  | some (.ref g :: _) => g
  | _ => 0
def dP (c m q : Str) (st : Stmt) : Adr := (getW "property" c m, ⟨(c, some m), m, q, defArgs st, defBody st, defScope st, [], []⟩)
def dS (c m q : Str) (st : Stmt) : Adr := (getW "staticmethod" c m, ⟨(c, some m), m, q, defArgs st, defBody st, defScope st, [], []⟩)
def recB (t : String) (c f : Str) (K : PySem.W.Frag) : Bool := match PySem.W.recIn K (ma K (ga K c) f) t with
  | some (.ref _ :: _) => true
  | _ => false
theorem rec_ok {t : String} {c f : Str} {K : PySem.W.Frag} (h : recB t c f K = true) : ∃ rest, PySem.W.recIn K (ma K (ga K c) f) t = some (.ref (getW t c f K) :: rest) := by
  unfold recB at h
  unfold getW
  cases q : PySem.W.recIn K (ma K (ga K c) f) t with
  | none =>
    rw [q] at h
    cases h
  | some l =>
    rw [q] at h
    match l, h with
    | .ref g' :: rest, _ => exact ⟨rest, rfl⟩
/-! ### names -/
def namB (gs fs : List Str) (K : PySem.W.Frag) : Bool := (gs.all fun x => eqO (PySem.W.nsIn K mainGlobals x) (some (some (.ref (ga K x))))) && fs.all fun x => eqO (PySem.W.nsIn K mainGlobals x) (some none)
theorem nam_ok {gs fs : List Str} {K : PySem.W.Frag} {mg : Str → Option Value} {h : Heap} (c : namB gs fs K = true) (X : K.In h) (G : h.Ns mainGlobals mg) : Txt K mg gs fs := by
  obtain ⟨h1, h2⟩ := ba c
  exact ⟨fun x hx => PySem.W.mg_of X G (eqO_ok (List.all_eq_true.mp h1 x hx)), fun x hx => PySem.W.mg_none_of X G (eqO_ok (List.all_eq_true.mp h2 x hx))⟩
def bltB (x : Str) (b : String) (K : PySem.W.Frag) : Bool := eqO (PySem.W.nsIn K mainGlobals x) (some (some (.builtin b)))
theorem blt_ok {x : Str} {b : String} {K : PySem.W.Frag} {mg : Str → Option Value} {h : Heap} (c : bltB x b K = true) (X : K.In h) (G : h.Ns mainGlobals mg) : mg x = some (.builtin b) := PySem.W.mg_of X G (eqO_ok c)
def intB (x : Str) (n : Int) (K : PySem.W.Frag) : Bool := match PySem.W.nsIn K mainGlobals x with
  | some (some (.int m _)) => decide (m = n)
  | _ => false
theorem int_ok {x : Str} {n : Int} {K : PySem.W.Frag} {mg : Str → Option Value} {h : Heap} (c : intB x n K = true) (X : K.In h) (G : h.Ns mainGlobals mg) : ∃ tok, mg x = some (.int n tok) := by
  unfold intB at c
  split at c
  · rename_i m tok q
    have e : m = n := of_decide_eq_true c
    subst e
    exact ⟨tok, PySem.W.mg_of X G q⟩
  · cases c
def strB (x s : Str) (K : PySem.W.Frag) : Bool := match PySem.W.nsIn K mainGlobals x with
  | some (some (.str m _)) => decide (m = s)
  | _ => false
theorem str_ok {x s : Str} {K : PySem.W.Frag} {mg : Str → Option Value} {h : Heap} (c : strB x s K = true) (X : K.In h) (G : h.Ns mainGlobals mg) : ∃ tok, mg x = some (.str s tok) := by
  unfold strB at c
  split at c
  · rename_i m tok q
    have e : m = s := of_decide_eq_true c
    subst e
    exact ⟨tok, PySem.W.mg_of X G q⟩
  · cases c
/-! ### an own exception that keeps its one argument under f -/
structure ExcK (K : PySem.W.Frag) (x f : Str) : Prop where
  xc : ExcC K (ga K x)
  T : OexC K (ga K x)
  i : PySem.W.findIn K (.ref (ga K x)) "__init__" = some (some (.ref (ma K (ga K x) "__init__")))
  t : PySem.W.typeIn K (.ref (ma K (ga K x) "__init__")) = some (.type "function")
  no : PySem.W.findIn K (.ref (ga K x)) f = some none
  xf : XfC K (ga K x)
def excKB (x f : Str) (K : PySem.W.Frag) : Bool := (excB K (ga K x) && (oexB K (ga K x) && eqO (PySem.W.findIn K (.ref (ga K x)) "__init__") (some (some (.ref (ma K (ga K x) "__init__")))))) &&
  (decide (PySem.W.typeIn K (.ref (ma K (ga K x) "__init__")) = some (.type "function")) && (eqO (PySem.W.findIn K (.ref (ga K x)) f) (some none) && xfB K (ga K x)))
theorem excK_ok {x f : Str} {K : PySem.W.Frag} (h : excKB x f K = true) : ExcK K x f := by
  obtain ⟨h1, h2⟩ := ba h
  obtain ⟨a1, h1⟩ := ba h1
  obtain ⟨a2, a3⟩ := ba h1
  obtain ⟨a4, h2⟩ := ba h2
  obtain ⟨a5, a6⟩ := ba h2
  exact ⟨excB_ok a1, oexB_ok a2, eqO_ok a3, of_decide_eq_true a4, eqO_ok a5, xfB_ok a6⟩
theorem ExcK.excI {P : Program} {w : World} {K : PySem.W.Frag} {mg : Str → Option Value} {base : Heap} {x f q : Str} {gs fs : List Str} {pa : Arguments} {bd : List Stmt} {sc : Scope} {fd : FuncData} {q1 q2 q3 q4 : Pos} (e : ExcK K x f) (T : Txt K mg gs fs) (hx : x ∈ gs)
    (F : FunD K "__init__" q pa bd sc [] [] (ma K (ga K x) "__init__") fd) (hb : bd = bodyE f q1 q2 q3 q4) (S : FnScope ["self", f] ["self", f] sc)
    (hv0 : Vis sc "self") (hv1 : Vis sc f) (hd : (f == ("__debug__" : Str)) = false) (hcd : (f == ("__classdict__" : Str)) = false) (b : Binds K fd ["self", f] []) : ExcI P w K mg base x f :=
  ⟨e.T, ⟨_, fd, e.i, e.t, ok_exc (x := x) F hb S e.T e.no hv0 hv1 hd hcd, b⟩, T.gl x hx⟩
/-! ### which class is under which -/
def kitPB (ps : List (Str × Str × Bool)) (K : PySem.W.Frag) : Bool := ps.all fun p => decide (PySem.W.kitOne K (.ref (ga K p.1)) (.ref (ga K p.2.1)) = some p.2.2)
theorem kitP_ok {ps : List (Str × Str × Bool)} {K : PySem.W.Frag} (h : kitPB ps K = true) {x y : Str} {b : Bool} (m : (x, y, b) ∈ ps) : PySem.W.kitOne K (.ref (ga K x)) (.ref (ga K y)) = some b := of_decide_eq_true (List.all_eq_true.mp h _ m)
def exmPB (ps : List (Str × Str × Bool)) (K : PySem.W.Frag) : Bool := ps.all fun p => decide (PySem.W.exmOne K (.ref (ga K p.1)) (.ref (ga K p.2.1)) = some p.2.2)
theorem exmP_ok {ps : List (Str × Str × Bool)} {K : PySem.W.Frag} (h : exmPB ps K = true) {x y : Str} {b : Bool} (m : (x, y, b) ∈ ps) : PySem.W.exmOne K (.ref (ga K x)) (.ref (ga K y)) = some b := of_decide_eq_true (List.all_eq_true.mp h _ m)
/-! ### an own class -/
def clsB (c : Str) (K : PySem.W.Frag) : Bool := (PySem.W.plainGet K (ga K c) Str.empty && PySem.W.hasDictIn K (ga K c)) && (PySem.W.plainOver K (ga K c) && eqO (PySem.W.findIn K (.ref (ga K c)) "__setattr__") (some (some (.builtin "object.__setattr__"))))
theorem cls_ok {c : Str} {K : PySem.W.Frag} (h : clsB c K = true) : Cls K (ga K c) := by
  obtain ⟨h1, h2⟩ := ba h
  obtain ⟨a1, a2⟩ := ba h1
  obtain ⟨a3, a4⟩ := ba h2
  exact ⟨a1, a2, a3, eqO_ok a4⟩
def fldsB (c : Str) (fs : List Str) (K : PySem.W.Frag) : Bool := fs.all fun f => eqO (PySem.W.findIn K (.ref (ga K c)) f) (some none)
theorem flds_ok {c : Str} {fs : List Str} {K : PySem.W.Frag} (h : fldsB c fs K = true) {f : Str} (m : f ∈ fs) : PySem.W.findIn K (.ref (ga K c)) f = some none := eqO_ok (List.all_eq_true.mp h f m)
structure TyC (K : PySem.W.Frag) (C : Addr) : Prop where
  ac : PySem.W.findIn K (.ref C) "__class__" = some (some (.builtin "object.__class__"))
  ag : PySem.W.specialIn K (.builtin "object.__class__") "__get__" = some (some (.builtin "getset_descriptor.__get__"))
  at_ : PySem.W.takesIn K (.builtin "object.__class__") = some true
  am : PySem.W.mroIn K C (.type "object") = some true
  self : PySem.W.kitOne K (.ref C) (.ref C) = some true
  tup : PySem.W.kitOne K (.type "tuple") (.ref C) = some false
  int : PySem.W.kitOne K (.type "int") (.ref C) = some false
  non : PySem.W.kitOne K (.type "NoneType") (.ref C) = some false
def tyB (c : Str) (K : PySem.W.Frag) : Bool := ((eqO (PySem.W.findIn K (.ref (ga K c)) "__class__") (some (some (.builtin "object.__class__"))) && eqO (PySem.W.specialIn K (.builtin "object.__class__") "__get__") (some (some (.builtin "getset_descriptor.__get__")))) &&
  (decide (PySem.W.takesIn K (.builtin "object.__class__") = some true) && decide (PySem.W.mroIn K (ga K c) (.type "object") = some true))) &&
  ((decide (PySem.W.kitOne K (.ref (ga K c)) (.ref (ga K c)) = some true) && decide (PySem.W.kitOne K (.type "tuple") (.ref (ga K c)) = some false)) && (decide (PySem.W.kitOne K (.type "int") (.ref (ga K c)) = some false) && decide (PySem.W.kitOne K (.type "NoneType") (.ref (ga K c)) = some false)))
theorem ty_ok {c : Str} {K : PySem.W.Frag} (h : tyB c K = true) : TyC K (ga K c) := by
  obtain ⟨h1, h2⟩ := ba h
  obtain ⟨t1, t2⟩ := ba h1
  obtain ⟨t1, t3⟩ := ba t1
  obtain ⟨t2, t4⟩ := ba t2
  obtain ⟨k1, k2⟩ := ba h2
  obtain ⟨k1, k3⟩ := ba k1
  obtain ⟨k2, k4⟩ := ba k2
  exact ⟨eqO_ok t1, eqO_ok t3, of_decide_eq_true t2, of_decide_eq_true t4, of_decide_eq_true k1, of_decide_eq_true k3, of_decide_eq_true k2, of_decide_eq_true k4⟩
def nfB (c : Str) (ts : List String) (K : PySem.W.Frag) : Bool := ts.all fun t => PySem.W.notFirst K (ga K c) (.type t)
theorem nf_ok {c : Str} {ts : List String} {K : PySem.W.Frag} (h : nfB c ts K = true) {t : String} (m : t ∈ ts) : PySem.W.notFirst K (ga K c) (.type t) = true := List.all_eq_true.mp h t m
def mkB (c : Str) (K : PySem.W.Frag) : Bool := (PySem.W.makesIn K (ga K c) && eqO (PySem.W.findIn K (.ref (ga K c)) "__init__") (some (some (.ref (ma K (ga K c) "__init__"))))) && (PySem.W.isFn K (.ref (ma K (ga K c) "__init__")) && PySem.W.keepIn K (.ref (ga K c)))
theorem mk_ok {c : Str} {K : PySem.W.Frag} (h : mkB c K = true) : Mk K (ga K c) (ma K (ga K c) "__init__") := by
  obtain ⟨m1, m2⟩ := ba h
  obtain ⟨m1, m3⟩ := ba m1
  obtain ⟨m2, m4⟩ := ba m2
  exact ⟨m1, eqO_ok m3, m2, m4⟩
def callB (c : Str) (K : PySem.W.Frag) : Bool := eqO (PySem.W.findIn K (.ref (ga K c)) "__call__") (some (some (.ref (ma K (ga K c) "__call__")))) && (PySem.W.isFn K (.ref (ma K (ga K c) "__call__")) && PySem.W.fnIn K (ma K (ga K c) "__call__"))
theorem call_ok {c : Str} {K : PySem.W.Frag} (h : callB c K = true) : StX.CallO K (ga K c) (ma K (ga K c) "__call__") := by
  obtain ⟨g1, g2⟩ := ba h
  obtain ⟨g2, g3⟩ := ba g2
  exact ⟨eqO_ok g1, g2, g3⟩
structure EqM (K : PySem.W.Frag) (C : Addr) : Prop where
  e1 : PySem.W.findIn K (.ref C) "__eq__" = some (some (.ref (ma K C "__eq__")))
  e2 : PySem.W.isFn K (.ref (ma K C "__eq__")) = true
  e3 : plObjB K C (ma K C "__eq__") = true
def eqB (c : Str) (K : PySem.W.Frag) : Bool := (eqO (PySem.W.findIn K (.ref (ga K c)) "__eq__") (some (some (.ref (ma K (ga K c) "__eq__")))) && PySem.W.isFn K (.ref (ma K (ga K c) "__eq__"))) && plObjB K (ga K c) (ma K (ga K c) "__eq__")
theorem eq_ok {c : Str} {K : PySem.W.Frag} (h : eqB c K = true) : EqM K (ga K c) := by
  obtain ⟨e1, e2⟩ := ba h
  obtain ⟨e1, e3⟩ := ba e1
  exact ⟨eqO_ok e1, e3, e2⟩
def propB (c f : Str) (K : PySem.W.Frag) : Bool := (eqO (PySem.W.findIn K (.ref (ga K c)) f) (some (some (.ref (ma K (ga K c) f)))) && eqO (PySem.W.specialIn K (.ref (ma K (ga K c) f)) "__get__") (some (some (.builtin "property.__get__")))) &&
  (decide (PySem.W.takesIn K (.ref (ma K (ga K c) f)) = some true) && recB "property" c f K)
theorem prop_ok {c f : Str} {K : PySem.W.Frag} (h : propB c f K = true) : PropOf K (ga K c) f (ma K (ga K c) f) (getW "property" c f K) := by
  obtain ⟨h1, h2⟩ := ba h
  obtain ⟨h1, h3⟩ := ba h1
  obtain ⟨h2, h4⟩ := ba h2
  exact ⟨eqO_ok h1, eqO_ok h3, of_decide_eq_true h2, rec_ok h4⟩
def staB (c m : Str) (K : PySem.W.Frag) : Bool := (decide (PySem.W.typeIn K (.ref (ga K c)) = some (.type "type")) && (PySem.W.readsIn K (ga K c) (.type "type") && eqO (PySem.W.specialIn K (.ref (ga K c)) "__getattribute__") (some (some (.builtin "type.__getattribute__"))))) &&
  ((match PySem.W.findCls K (.ref (ga K c)) (.type "type") m with
    | some (.get g a o t) => decide (g = .builtin "staticmethod.__get__") && (decide (a = .ref (ma K (ga K c) m)) && (decide (o = .none) && decide (t = .ref (ga K c))))
    | _ => false) && (recB "staticmethod" c m K && PySem.W.keepIn K (.ref (getW "staticmethod" c m K))))
theorem sta_ok {c m : Str} {K : PySem.W.Frag} (h : staB c m K = true) : SMet K (ga K c) (.type "type") m (ma K (ga K c) m) (getW "staticmethod" c m K) := by
  obtain ⟨h1, h2⟩ := ba h
  obtain ⟨a1, h1⟩ := ba h1
  obtain ⟨a2, a3⟩ := ba h1
  obtain ⟨a4, h2⟩ := ba h2
  obtain ⟨a5, a6⟩ := ba h2
  refine ⟨of_decide_eq_true a1, a2, eqO_ok a3, ?_, rec_ok a5, a6⟩
  split at a4
  · rename_i g a o t q
    obtain ⟨b1, a4⟩ := ba a4
    obtain ⟨b2, a4⟩ := ba a4
    obtain ⟨b3, b4⟩ := ba a4
    rw [q, of_decide_eq_true b1, of_decide_eq_true b2, of_decide_eq_true b3, of_decide_eq_true b4]
  · cases a4
/-! ### a default that is an empty tuple -/
def e0B (e0 : PySem.W.Frag → Addr) (K : PySem.W.Frag) : Bool := match K.lookup (e0 K) with
  | some ⟨.type c, _, .seq its _, _⟩ => decide (c = "tuple") && decide (its.toList = [])
  | _ => false
theorem e0_ok {e0 : PySem.W.Frag → Addr} {K : PySem.W.Frag} (h : e0B e0 K = true) (H : Hp) : SqT K H (e0 K) [] := by
  unfold e0B at h
  split at h
  · rename_i c dd its n sl q
    obtain ⟨h1, h2⟩ := ba h
    have e : its.toList = [] := of_decide_eq_true h2
    refine .inr ⟨_, its, n, q, congrArg Value.type (of_decide_eq_true h1), rfl, ?_, ?_⟩
    · rw [← Array.length_toList, e]
      exact Nat.zero_le _
    · rw [e]
      exact .nil
  · cases h
/-! ### what the module's names reach, each address once (seen ones are bits of a number) -/
def newB : List Addr → Nat → List Addr → List Addr × Nat
  | [], seen, acc => (acc, seen)
  | a :: r, seen, acc => match Nat.beq (Nat.land (Nat.shiftRight seen a) 1) 0 with
    | true => newB r (Nat.lor seen (Nat.shiftLeft 1 a)) (a :: acc)
    | false => newB r seen acc
def asB (g : Addr → Option Obj) : Nat → List Addr → Nat → List Addr → List Addr
  | 0, fr, _, all => fr ++ all
  | n + 1, fr, seen, all => match newB (fr.flatMap fun a => match g a with
      | some o => refsD o
      | none => []) seen [] with
    | (fr', seen') => asB g n fr' seen' (fr ++ all)
/-! ### the hook, with the classes' statics beside -/
def obsQG (n : Nat) (ex : PySem.W.Frag → Bool) (fn : List Adr) (g : Addr → Option Obj) : AlD := obsP ex fn (frG g (asB g n [mainGlobals] (Nat.shiftLeft 1 mainGlobals) [] ++ [cStatics]))
def hookQ (n : Nat) (ex : PySem.W.Frag → Bool) (fn : List Adr) : PySem.W.Hook where
  α := AlD
  obs := fun s => obsQG n ex fn s.heap.get?
  val := fun _ => valP fn
  says := fun _ h => ∃ K : PySem.W.Frag, K.In h ∧ SaysP ex fn K
  of := fun _ _ e => ⟨_, frG_in, e⟩
  keeps := fun _ _ _ ⟨K, hK, c⟩ k => ⟨K, PySem.W.Frag.In.keeps hK k, c⟩
theorem obsQG_eq {n : Nat} {ex : PySem.W.Frag → Bool} {fn : List Adr} {g : Addr → Option Obj} {s : Shared} (h : ∀ a, g a = s.heap.get? a) : obsQG n ex fn g = (hookQ n ex fn).obs s := by
  have e : g = s.heap.get? := funext h
  rw [e] <;> rfl
end NF
set_option Elab.async false
set_option linter.all false
set_option maxRecDepth 100000
set_option maxHeartbeats 4000000
/-! Own binary operators of a class: x * y, x & y, x | y, both instances of it. -/
namespace NF
open PySem PySem.Spec PyProof.Rows L2 He RZ NT
def rBinO (C : Addr) (sp : Sp) : R2 := fun x y H Q => ∃ a dx fs b dy gs, x = .ref a ∧ H a = some (.ins C dx fs) ∧ y = .ref b ∧ H b = some (.ins C dy gs) ∧ sp [.ref a, .ref b] H Q E0
structure OpM (K : PySem.W.Frag) (C f : Addr) (nm : Str) : Prop where
  o1 : PySem.W.findIn K (.ref C) nm = some (some (.ref f))
  o2 : PySem.W.isFn K (.ref f) = true
  o3 : PySem.W.selfFirst K C = true
/-- a class with an own operator, and how its instances' type is read -/
structure OpC (P : Program) (w : World) (K : PySem.W.Frag) (mg : Str → Option Value) (base : Heap) (k : Nat) (C : Addr) (nm : Str) (sp : Sp) : Prop where
  cl : Cls K C
  ac : PySem.W.findIn K (.ref C) "__class__" = some (some (.builtin "object.__class__"))
  ag : PySem.W.specialIn K (.builtin "object.__class__") "__get__" = some (some (.builtin "getset_descriptor.__get__"))
  at_ : PySem.W.takesIn K (.builtin "object.__class__") = some true
  am : PySem.W.mroIn K C (.type "object") = some true
  ex : ∃ (f : Addr) (fd : FuncData) (ps : List Str), FnOk P w K mg base CX0 k f fd ps sp ∧ OpM K C f nm ∧ Binds K fd ps []
theorem op_bin {X : Cx} {k j : Nat} {C : Addr} {sp : Sp} {op : Operator} {nm : Str} (c : OpC X.prog X.w X.K X.mg X.base k C nm sp) (hr : Room j X.A) (hk : k ≤ j) (hnm : PySem.dunder op.info.2 = nm := by rfl) : OpR X (binaryOp op) (rBinO C sp) := by
  obtain ⟨f, fd, ps, F, ⟨hs, hf, hc⟩, hb⟩ := c.ex
  intro pins s σ H x y v u Q I rx ry h
  obtain ⟨a, dx, fs, b, dy, gs, rfl, ha, rfl, hb2, q⟩ := h
  cases rx
  obtain ⟨mA, O, _⟩ := ins_get I.hok ha
  obtain ⟨od, J, _⟩ := O.look
  obtain ⟨m, hF⟩ := I.fr
  obtain ⟨P, Z, p, _⟩ := kit_of I ry (.base (.ins hb2 c.cl c.ac c.ag c.at_ c.am))
  cases ry
  show wpAny (model X.prog X.w) X.A (binaryOp op (.ref a) (.ref b)) (EP X pins σ Q) X.xe s
  refine PySem.W.binop_K hF I.ok.mod.kin J (Z.ty _ _ I.kIn p) hc (by rw [hnm]; exact hs) hf ?_
  have r2 : Vals [V.ref a, V.ref b] [Value.ref a, Value.ref b] := .cons rfl (.cons rfl .nil)
  refine wpAny_mono (run_fn (us := [.ref a, .ref b]) (vs := [.ref a, .ref b]) F (hr.mono hk) hb .nil pass0 I r2 q) (fun r s' z => ?_) fun _ _ e => e
  obtain ⟨z, H', I', rz, q'⟩ := z
  have hni : r ≠ .notImplemented := fun e => by
    subst e
    cases z with
    | int i => obtain ⟨t, e⟩ := (show ∃ t, Value.notImplemented = Value.int i t from rz); cases e
    | str i => obtain ⟨t, e⟩ := (show ∃ t, Value.notImplemented = Value.str i t from rz); cases e
    | byt i => obtain ⟨t, e⟩ := (show ∃ t, Value.notImplemented = Value.bytes i t from rz); cases e
    | flt i => obtain ⟨t, e⟩ := (show ∃ t, Value.notImplemented = Value.float i t from rz); cases e
    | _ => cases rz
  unfold PySem.W.CmpBack
  split
  · exact hni rfl
  · exact ⟨z, H', I', rz, q'⟩
end NF
set_option Elab.async false
set_option linter.all false
set_option maxRecDepth 100000
set_option maxHeartbeats 4000000
namespace NF
open PySem PySem.Spec PyProof.Rows L2 He RZ NT
def binB (c m : Str) (K : PySem.W.Frag) : Bool := eqO (PySem.W.findIn K (.ref (ga K c)) m) (some (some (.ref (ma K (ga K c) m)))) && (PySem.W.isFn K (.ref (ma K (ga K c) m)) && PySem.W.selfFirst K (ga K c))
theorem bin_ok {c m : Str} {K : PySem.W.Frag} (h : binB c m K = true) : OpM K (ga K c) (ma K (ga K c) m) m := by
  obtain ⟨h1, h2⟩ := ba h
  obtain ⟨h2, h3⟩ := ba h2
  exact ⟨eqO_ok h1, h2, h3⟩
end NF
set_option Elab.async false
set_option linter.all false
set_option maxRecDepth 100000
set_option maxHeartbeats 4000000
/-! o.m(..): a method of a class of one's own. -/
namespace NF
open PySem PySem.Spec PyProof.Rows L2 He RZ NT
structure MetC (P : Program) (w : World) (K : PySem.W.Frag) (mg : Str → Option Value) (base : Heap) (k : Nat) (C : Addr) (m : Str) (sp : Sp) : Prop where
  cl : Cls K C
  ex : ∃ (f : Addr) (fd : FuncData) (ps : List Str), Meth K C m f ∧ FnOk P w K mg base CX0 k f fd ps sp ∧ Binds K fd ps []
theorem pe_mt {X : Cx} {k j : Nat} {C : Addr} {m : Str} {sp : Sp} {o e : Expr} {es : List Expr} {ta : TE} {t : TA} {pl : Sem Bool} {pos apos : Pos} (he : PE X o ta) (c : MetC X.prog X.w X.K X.mg X.base k C m sp) (hr : Room j X.A) (hk : k ≤ j) (ha : PA X (e :: es) t)
    (hst : starEach (e :: es) X.env = (false, eval e X.env) :: starEach es X.env := by rfl) (hpl : (backTo pos (starEach es X.env)).any (·.1) = false := by rfl)
    (ht : eval (.Call (.Attribute o m apos) (e :: es) [] pos) X.env = (do
      let ov ← eval o X.env
      standAt apos.atName
      let (f, first) ← holding [ov] (getMethod ov m pl)
      callWith pos f first (backTo pos (starEach (e :: es) X.env)) (backToKw pos (keywordEach [] X.env))) := by rfl) :
    PE X (.Call (.Attribute o m apos) (e :: es) [] pos) (tMeth C m sp [] E0 ta t) := by
  obtain ⟨f, fd, ps, hm, F, b⟩ := c.ex
  exact pe_meth he c.cl hm F (hr.mono hk) b .nil pass0 ha hst hpl ht
/-- o.m() -/
theorem pe_mt0 {X : Cx} {k j : Nat} {C : Addr} {m : Str} {sp : Sp} {o : Expr} {ta : TE} {pl : Sem Bool} {pos apos : Pos} (he : PE X o ta) (c : MetC X.prog X.w X.K X.mg X.base k C m sp) (hr : Room j X.A) (hk : k ≤ j)
    (ht : eval (.Call (.Attribute o m apos) [] [] pos) X.env = (do
      let ov ← eval o X.env
      standAt apos.atName
      let (f, first) ← holding [ov] (getMethod ov m pl)
      callWith pos f first (backTo pos (starEach [] X.env)) (backToKw pos (keywordEach [] X.env))) := by rfl) :
    PE X (.Call (.Attribute o m apos) [] [] pos) (tMeth C m sp [] E0 ta tNil) := by
  obtain ⟨f, fd, ps, hm, F, b⟩ := c.ex
  exact pe_meth0 he c.cl hm F (hr.mono hk) b .nil pass0 ht
end NF
set_option linter.all false
namespace NF
open PySem PySem.Spec PyProof.Rows L2 He RZ
/-- o.m(..): a plain method, as the head's run finds it -/
def metB (c m : Str) (K : PySem.W.Frag) : Bool := eqO (PySem.W.findIn K (.ref (ga K c)) m) (some (some (.ref (ma K (ga K c) m)))) && (PySem.W.isFn K (.ref (ma K (ga K c) m)) && PySem.W.keepIn K (.ref (ma K (ga K c) m)))
theorem met_ok {c m : Str} {K : PySem.W.Frag} (h : metB c m K = true) : Meth K (ga K c) m (ma K (ga K c) m) := by
  obtain ⟨h1, h2⟩ := ba h
  obtain ⟨h2, h3⟩ := ba h2
  exact ⟨eqO_ok h1, h2, h3⟩
end NF
set_option Elab.async false
set_option linter.all false
set_option maxHeartbeats 4000000
namespace NT
variable {h l : List Int} {r : Int}
theorem climbs_lo : ∀ {l : List Int} {lo : Int} {i : Nat}, climbs lo l → i < l.length → lo ≤ l.getD i 0
  | [], _, _, _, h => by simp at h
  | x :: l, lo, 0, c, _ => c.1
  | x :: l, lo, i + 1, c, h => by
    have := climbs_lo (i := i) c.2 (by simpa using h)
    have := c.1
    show lo ≤ l.getD i 0
    omega
theorem climbs_up : ∀ {l : List Int} {lo : Int} {i : Nat}, climbs lo l → i + 1 < l.length → l.getD i 0 ≤ l.getD (i + 1) 0
  | [], _, _, _, h => by simp at h
  | x :: l, lo, 0, c, h => climbs_lo (i := 0) c.2 (by simpa using h)
  | x :: l, lo, i + 1, c, h => climbs_up (i := i) c.2 (by simpa using h)
theorem climbs_of : ∀ {l : List Int} {lo : Int}, (∀ i, i < l.length → lo ≤ l.getD i 0) → (∀ i, i + 1 < l.length → l.getD i 0 ≤ l.getD (i + 1) 0) → climbs lo l
  | [], _, _, _ => trivial
  | x :: l, lo, h1, h2 => by
    refine ⟨h1 0 (by simp), climbs_of (fun i hi => ?_) fun i hi => h2 (i + 1) (by simpa using hi)⟩
    induction i with
    | zero => exact h2 0 (by simpa using hi)
    | succ i ih => exact Int.le_trans (ih (by omega)) (h2 (i + 1) (by simpa using hi))
/-- the value at n as a number -/
def num (h l : List Int) (r : Int) (n : Nat) : Int := (at_ h l r n).getD 0
theorem walk_up (g : Good h l r) (hl : l ≠ []) (k : Nat) : walk l r k ≤ walk l r (k + 1) := by
  have hp := len_pos hl
  have e : k = k % l.length + l.length * (k / l.length) := (Nat.mod_add_div k _).symm
  have hi : k % l.length < l.length := Nat.mod_lt _ hp
  generalize k % l.length = a at e hi
  generalize k / l.length = b at e
  subst e
  rw [walk_add_mul hp, show a + l.length * b + 1 = (a + 1) + l.length * b by omega, walk_add_mul hp, walk_lt hi]
  by_cases c : a + 1 < l.length
  · rw [walk_lt c]
    have := climbs_up g.lp c
    omega
  · have : a + 1 = 0 + l.length := by omega
    rw [this, walk_add hp, walk_lt hp]
    have := g.last hl
    have e : l.length - 1 = a := by omega
    rw [e] at this
    omega
theorem at_some (n : Nat) (hn : n ≤ h.length ∨ l ≠ []) : at_ h l r n = some (num h l r n) := by
  unfold num at_
  by_cases c : n ≤ h.length
  · rw [if_pos c]; rfl
  · rw [if_neg c, if_neg (hn.resolve_left c)]; rfl
theorem num_up (g : Good h l r) (n : Nat) (hn : 1 ≤ n) (hs : n + 1 ≤ h.length ∨ l ≠ []) : num h l r n ≤ num h l r (n + 1) := by
  unfold num at_
  by_cases c : n + 1 ≤ h.length
  · rw [if_pos c, if_pos (by omega)]
    show h.getD (n - 1) 0 ≤ h.getD (n + 1 - 1) 0
    have := climbs_up (i := n - 1) g.hd (by omega)
    rw [show n - 1 + 1 = n + 1 - 1 by omega] at this
    exact this
  · have hl := hs.resolve_left c
    have e1 : (if n + 1 ≤ h.length then some (h.getD (n + 1 - 1) 0) else if l = [] then none else some (walk l r (n + 1 - h.length - 1))).getD 0 = walk l r (n + 1 - h.length - 1) := by rw [if_neg c, if_neg hl]; rfl
    rw [e1]
    by_cases c2 : n ≤ h.length
    · rw [if_pos c2]
      have e : n = h.length := by omega
      subst e
      show h.getD (h.length - 1) 0 ≤ walk l r (h.length + 1 - h.length - 1)
      rw [show h.length + 1 - h.length - 1 = 0 by omega, walk_lt (len_pos hl)]
      exact g.join (fun z => by rw [z] at hn; simp at hn) hl
    · rw [if_neg c2, if_neg hl]
      show walk l r (n - h.length - 1) ≤ walk l r (n + 1 - h.length - 1)
      rw [show n + 1 - h.length - 1 = (n - h.length - 1) + 1 by omega]
      exact walk_up g hl _
theorem walk_ge (g : Good h l r) (hl : l ≠ []) (k : Nat) : 0 ≤ walk l r k := by
  induction k with
  | zero =>
    rw [walk_lt (len_pos hl)]
    exact climbs_lo g.lp (len_pos hl)
  | succ k ih => exact Int.le_trans ih (walk_up g hl k)
theorem num_ge (g : Good h l r) (n : Nat) (hn : 1 ≤ n) : 0 ≤ num h l r n := by
  unfold num at_
  by_cases c : n ≤ h.length
  · rw [if_pos c]
    exact climbs_lo (i := n - 1) g.hd (by omega)
  · rw [if_neg c]
    by_cases hl : l = []
    · rw [if_pos hl]; exact Int.le_refl _
    · rw [if_neg hl]; exact walk_ge g hl _
theorem walk_mono (g : Good h l r) (hl : l ≠ []) (k d : Nat) : walk l r k ≤ walk l r (k + d) := by
  induction d with
  | zero => exact Int.le_refl _
  | succ d ih => exact Int.le_trans ih (walk_up g hl (k + d))
/-- the plain form is made of counts -/
theorem plain_counts (g : Good h l r) {x : List Int × List Int × Int} (hx : IsPlain h l r x) : (∀ i, i ∈ x.1 ++ x.2.1 → 0 ≤ i) ∧ 0 ≤ x.2.2 := by
  have hz := plain_size hx
  refine ⟨fun i hi => ?_, (hz.2.2.2.2.1 g.r0).1⟩
  have all : ∀ n, 1 ≤ n → ∀ v, at_ x.1 x.2.1 x.2.2 n = some v → 0 ≤ v := by
    rcases hx with ⟨rfl, rfl⟩ | ⟨_, _, _, _, e⟩
    · intro n hn v hv
      unfold at_ at hv
      by_cases c : n ≤ h.length
      · rw [if_pos c] at hv
        injection hv with hv
        rw [← hv]
        exact climbs_lo (l := h) (i := n - 1) g.hd (by omega)
      · rw [if_neg c, if_pos rfl] at hv
        cases hv
    · intro n hn v hv
      rw [e n hn] at hv
      have := num_ge g n hn
      unfold num at this
      rw [hv] at this
      exact this
  rcases List.mem_append.mp hi with h1 | h1
  · obtain ⟨k, hk, rfl⟩ := List.getElem_of_mem h1
    refine all (k + 1) (by omega) _ ?_
    unfold at_
    rw [if_pos (by omega), Nat.add_sub_cancel, List.getD_eq_getElem?_getD, List.getElem?_eq_getElem hk]
    rfl
  · obtain ⟨k, hk, rfl⟩ := List.getElem_of_mem h1
    have hne : x.2.1 ≠ [] := fun z => by rw [z] at hk; simp at hk
    refine all (x.1.length + k + 1) (by omega) _ ?_
    rw [at_loop hne (by omega), show x.1.length + k + 1 - x.1.length - 1 = k by omega, walk_lt hk, List.getD_eq_getElem?_getD, List.getElem?_eq_getElem hk]
    rfl
/-! ### the same table with more values in the head and a longer loop -/
def tell (h l : List Int) (r : Int) (n : Nat) : List Int := (List.range n).map fun k => num h l r (k + 1)
theorem tell_len (n : Nat) : (tell h l r n).length = n := by unfold tell; rw [List.length_map, List.length_range]
theorem tell_get {n k : Nat} (hk : k < n) : (tell h l r n).getD k 0 = num h l r (k + 1) := by
  unfold tell
  rw [List.getD_eq_getElem?_getD, List.getElem?_map, List.getElem?_range hk]
  rfl
theorem getD_take' {l : List Int} {m i : Nat} (h : i < m) : (l.take m).getD i 0 = l.getD i 0 := getD_take h
theorem tell_good (g : Good h l r) {more t : Nat} (hm : l = [] → more = 0) (ht : 0 < t) :
    Good ((tell h l r (h.length + more + l.length * t)).take (h.length + more)) ((tell h l r (h.length + more + l.length * t)).drop (h.length + more)) (r * (t : Int)) := by
  generalize hN : h.length + more + l.length * t = N
  generalize hc : h.length + more = c
  have some_ : ∀ n, n ≤ N → n ≤ h.length ∨ l ≠ [] := fun n hn => by
    by_cases hl : l = []
    · left
      have := hm hl
      have : l.length = 0 := by rw [hl]; rfl
      rw [this, Nat.zero_mul] at hN
      omega
    · exact .inr hl
  have cle : c ≤ N := by omega
  have hlt : ((tell h l r N).take c).length = c := by rw [List.length_take, tell_len]; omega
  have hld : ((tell h l r N).drop c).length = N - c := by rw [List.length_drop, tell_len]
  refine ⟨climbs_of (fun i hi => ?_) (fun i hi => ?_), climbs_of (fun i hi => ?_) (fun i hi => ?_), fun h1 h2 => ?_, ?_, fun hl => ?_, fun hl => ?_⟩
  · rw [hlt] at hi
    rw [getD_take hi, tell_get (by omega)]
    exact num_ge g _ (by omega)
  · rw [hlt] at hi
    rw [getD_take (by omega), getD_take hi, tell_get (by omega), tell_get (by omega)]
    exact num_up g _ (by omega) (some_ _ (by omega))
  · rw [hld] at hi
    rw [getD_drop, tell_get (by omega)]
    exact num_ge g _ (by omega)
  · rw [hld] at hi
    rw [getD_drop, getD_drop, tell_get (by omega), tell_get (by omega)]
    have := num_up g (c + i + 1) (by omega) (some_ _ (by omega))
    exact this
  · have c0 : 0 < c := by
      rcases Nat.eq_zero_or_pos c with z | z
      · rw [z] at h1; exact absurd rfl h1
      · exact z
    have d0 : 0 < N - c := by rw [← hld]; exact len_pos h2
    rw [hlt, getD_take (by omega), getD_drop, tell_get (by omega), tell_get (by omega)]
    have := num_up g c (by omega) (some_ _ (by omega))
    rw [show c - 1 + 1 = c by omega, show c + 0 + 1 = c + 1 by omega]
    exact this
  · exact Int.mul_nonneg g.r0 (by omega)
  · have z : N - c = 0 := by rw [← hld, hl]; rfl
    have z2 : l.length * t = 0 := by omega
    have z3 : l.length = 0 := by
      rcases Nat.mul_eq_zero.mp z2 with q | q
      · exact q
      · omega
    rw [g.rl (List.eq_nil_of_length_eq_zero z3), Int.zero_mul]
  · have d0 : 0 < N - c := by rw [← hld]; exact len_pos hl
    have hl2 : l ≠ [] := fun z => by
      have : l.length = 0 := by rw [z]; rfl
      rw [this, Nat.zero_mul] at hN
      omega
    rw [hld, getD_drop, getD_drop, tell_get (by omega), tell_get (by omega)]
    have w : ∀ j, num h l r (c + j + 1) = walk l r (more + j) := fun j => by
      unfold num
      rw [at_loop hl2 (by omega), show c + j + 1 - h.length - 1 = more + j by omega]
      rfl
    rw [w (N - c - 1), w 0, ← walk_add_mul (len_pos hl2)]
    have e : more + 0 + l.length * t = (more + (N - c - 1)) + 1 := by omega
    rw [e]
    exact walk_mono g hl2 _ 1
theorem tell_at {more t : Nat} (hm : l = [] → more = 0) (ht : 0 < t) (n : Nat) (hn : 1 ≤ n) :
    at_ ((tell h l r (h.length + more + l.length * t)).take (h.length + more)) ((tell h l r (h.length + more + l.length * t)).drop (h.length + more)) (r * (t : Int)) n = at_ h l r n := by
  by_cases hl : l = []
  · subst hl
    have hm := hm rfl
    subst hm
    have e : h.length + 0 + ([] : List Int).length * t = h.length := by simp
    rw [e, Nat.add_zero]
    unfold at_
    have e1 : ((tell h [] r h.length).take h.length).length = h.length := by rw [List.length_take, tell_len]; omega
    have e2 : (tell h [] r h.length).drop h.length = [] := List.drop_of_length_le (by rw [tell_len]; exact Nat.le_refl _)
    rw [e1, e2]
    by_cases c : n ≤ h.length
    · rw [if_pos c, if_pos c, getD_take (by omega), tell_get (by omega)]
      unfold num at_
      rw [show n - 1 + 1 = n by omega, if_pos c]
      rfl
    · rw [if_neg c, if_neg c, if_pos rfl, if_pos rfl]
  · have hp := len_pos hl
    generalize hN : h.length + more + l.length * t = N
    generalize hc : h.length + more = c
    have lt0 : 0 < l.length * t := Nat.mul_pos hp ht
    have hlt : ((tell h l r N).take c).length = c := by rw [List.length_take, tell_len]; omega
    have hld : ((tell h l r N).drop c).length = l.length * t := by rw [List.length_drop, tell_len]; omega
    have hne : (tell h l r N).drop c ≠ [] := fun z => by rw [z] at hld; simp at hld; omega
    by_cases q : n ≤ c
    · have : at_ h l r n = some (num h l r n) := at_some n (.inr hl)
      rw [this]
      unfold at_
      rw [hlt, if_pos q, getD_take (by omega), tell_get (by omega), show n - 1 + 1 = n by omega]
    · rw [at_loop hne (by rw [hlt]; omega), hlt, at_loop hl (by omega)]
      congr 1
      unfold walk
      rw [hld]
      generalize hk : n - c - 1 = k
      have hi : k % (l.length * t) < l.length * t := Nat.mod_lt _ lt0
      have w : ∀ j, num h l r (c + j + 1) = walk l r (more + j) := fun j => by
        unfold num
        rw [at_loop hl (by omega), show c + j + 1 - h.length - 1 = more + j by omega]
        rfl
      rw [getD_drop, tell_get (by omega), w]
      have e : n - h.length - 1 = (more + k % (l.length * t)) + l.length * (t * (k / (l.length * t))) := by
        have := Nat.mod_add_div k (l.length * t)
        rw [← Nat.mul_assoc]
        omega
      have e2 : walk l r (n - h.length - 1) = walk l r (more + k % (l.length * t)) + r * ((t * (k / (l.length * t)) : Nat) : Int) := by rw [e, walk_add_mul hp]
      have e3 : walk l r (n - h.length - 1) = l.getD ((n - h.length - 1) % l.length) 0 + r * (((n - h.length - 1) / l.length : Nat) : Int) := rfl
      rw [← e3, e2, Int.natCast_mul, Int.mul_assoc]
end NT
set_option Elab.async false
set_option linter.all false
set_option maxHeartbeats 4000000
/-! Rows of values that climb and may come to never: their tellings; the values of one table at the values of another one. -/
namespace NT
structure Asc (F : Nat → Option Int) : Prop where
  ge : ∀ n v, 1 ≤ n → F n = some v → 0 ≤ v
  up : ∀ n v, 1 ≤ n → F (n + 1) = some v → ∃ u, F n = some u ∧ u ≤ v
def numF (F : Nat → Option Int) (n : Nat) : Int := (F n).getD 0
def seg (F : Nat → Option Int) (a m : Nat) : List (Option Int) := (List.range m).map fun k => F (a + k + 1)
def segN (F : Nat → Option Int) (a m : Nat) : List Int := (List.range m).map fun k => numF F (a + k + 1)
variable {F : Nat → Option Int}
theorem seg_succ {a m : Nat} : seg F a (m + 1) = seg F a m ++ [F (a + m + 1)] := by
  unfold seg
  rw [List.range_succ, List.map_append]
  rfl
theorem segN_succ {a m : Nat} : segN F a (m + 1) = segN F a m ++ [numF F (a + m + 1)] := by
  unfold segN
  rw [List.range_succ, List.map_append]
  rfl
theorem seg_len {a m : Nat} : (seg F a m).length = m := by unfold seg; rw [List.length_map, List.length_range]
theorem segN_len {a m : Nat} : (segN F a m).length = m := by unfold segN; rw [List.length_map, List.length_range]
theorem segN_get {a m k : Nat} (hk : k < m) : (segN F a m).getD k 0 = numF F (a + k + 1) := by
  unfold segN
  rw [List.getD_eq_getElem?_getD, List.getElem?_map, List.getElem?_range hk]
  rfl
theorem Asc.below (A : Asc F) {m d : Nat} (hm : 1 ≤ m) : ∀ {v : Int}, F (m + d) = some v → ∃ u, F m = some u ∧ u ≤ v := by
  induction d with
  | zero => exact fun {v} h => ⟨v, h, Int.le_refl _⟩
  | succ d ih =>
    intro v h
    obtain ⟨u, hu, le⟩ := A.up (m + d) v (by omega) h
    obtain ⟨u2, h2, le2⟩ := ih hu
    exact ⟨u2, h2, Int.le_trans le2 le⟩
theorem Asc.none_up (A : Asc F) {m n : Nat} (hm : 1 ≤ m) (h : F m = none) (le : m ≤ n) : F n = none := by
  cases e : F n with
  | none => rfl
  | some v =>
    obtain ⟨d, rfl⟩ : ∃ d, n = m + d := ⟨n - m, by omega⟩
    obtain ⟨u, hu, _⟩ := A.below hm e
    rw [h] at hu
    cases hu
theorem numF_some {n : Nat} (h : F n ≠ none) : F n = some (numF F n) := by
  unfold numF
  cases e : F n with
  | none => exact absurd e h
  | some v => rfl
theorem Asc.mono (A : Asc F) {m n : Nat} (hm : 1 ≤ m) (le : m ≤ n) (h : F n ≠ none) : numF F m ≤ numF F n := by
  obtain ⟨d, rfl⟩ : ∃ d, n = m + d := ⟨n - m, by omega⟩
  obtain ⟨u, hu, le2⟩ := A.below hm (numF_some h)
  have : numF F m = u := by unfold numF; rw [hu]; rfl
  rw [this]
  exact le2
theorem Asc.nonneg (A : Asc F) {n : Nat} (hn : 1 ≤ n) (h : F n ≠ none) : 0 ≤ numF F n := A.ge n _ hn (numF_some h)
/-- those that are counts -/
theorem cnt_ex (A : Asc F) (N : Nat) : ∃ M, M ≤ N ∧ (seg F 0 N).filterMap id = segN F 0 M ∧ (∀ n, 1 ≤ n → n ≤ M → F n ≠ none) ∧ (∀ n, M < n → n ≤ N → F n = none) := by
  induction N with
  | zero => exact ⟨0, Nat.le_refl _, rfl, fun n h1 h2 => by omega, fun n h1 h2 => by omega⟩
  | succ N ih =>
    obtain ⟨M, hM, e, s, z⟩ := ih
    cases h : F (N + 1) with
    | none =>
      refine ⟨M, by omega, ?_, s, fun n h1 h2 => ?_⟩
      · rw [seg_succ, List.filterMap_append, e, show 0 + N + 1 = N + 1 by omega, h]
        simp
      · by_cases c : n ≤ N
        · exact z n h1 c
        · rw [show n = N + 1 by omega, h]
    | some v =>
      have hall : M = N := by
        rcases Nat.lt_or_ge M N with c | c
        · have := z (M + 1) (by omega) (by omega)
          have := A.none_up (by omega) this (show M + 1 ≤ N + 1 by omega)
          rw [h] at this
          cases this
        · omega
      subst hall
      refine ⟨M + 1, Nat.le_refl _, ?_, fun n h1 h2 => ?_, fun n h1 h2 => by omega⟩
      · rw [seg_succ, List.filterMap_append, e, segN_succ, show 0 + M + 1 = M + 1 by omega, h]
        unfold numF
        rw [h]
        rfl
      · by_cases c : n ≤ M
        · exact s n h1 c
        · rw [show n = M + 1 by omega, h]
          exact fun y => by cases y
theorem ended (A : Asc F) {M : Nat} (s : ∀ n, 1 ≤ n → n ≤ M → F n ≠ none) : Good (segN F 0 M) [] 0 := by
  refine ⟨climbs_of (fun i hi => ?_) (fun i hi => ?_), trivial, fun _ z => absurd rfl z, Int.le_refl _, fun _ => rfl, fun z => absurd rfl z⟩
  · rw [segN_len] at hi
    rw [segN_get hi]
    exact A.nonneg (by omega) (s _ (by omega) (by omega))
  · rw [segN_len] at hi
    rw [segN_get (by omega), segN_get hi]
    exact A.mono (by omega) (by omega) (s _ (by omega) (by omega))
theorem at_ended {M : Nat} (s : ∀ n, 1 ≤ n → n ≤ M → F n ≠ none) (z : ∀ n, M < n → F n = none) {n : Nat} (hn : 1 ≤ n) : at_ (segN F 0 M) [] 0 n = F n := by
  unfold at_
  rw [segN_len]
  by_cases c : n ≤ M
  · rw [if_pos c, segN_get (by omega), show 0 + (n - 1) + 1 = n by omega]
    exact (numF_some (s n hn c)).symm
  · rw [if_neg c, if_pos rfl]
    exact (z n (by omega)).symm
theorem per_num {N m : Nat} {c : Int} (p : ∀ n, N < n → numF F (n + m) = numF F n + c) (i j : Nat) : numF F (N + 1 + i + m * j) = numF F (N + 1 + i) + c * (j : Int) := by
  induction j with
  | zero => simp
  | succ j ih =>
    have e : N + 1 + i + m * (j + 1) = (N + 1 + i + m * j) + m := by rw [Nat.mul_succ]; omega
    rw [e, p _ (by omega), ih, Int.natCast_succ, Int.mul_add]
    omega
theorem looped (A : Asc F) {N m : Nat} {c : Int} (hm : 0 < m) (s : ∀ n, 1 ≤ n → F n ≠ none) (p : ∀ n, N < n → numF F (n + m) = numF F n + c) :
    Good (segN F 0 N) (segN F N m) c ∧ ∀ n, 1 ≤ n → at_ (segN F 0 N) (segN F N m) c n = F n := by
  have hl : segN F N m ≠ [] := fun z => by
    have := congrArg List.length z
    rw [segN_len] at this
    simp at this
    omega
  refine ⟨⟨climbs_of (fun i hi => ?_) (fun i hi => ?_), climbs_of (fun i hi => ?_) (fun i hi => ?_), fun h1 _ => ?_, ?_, fun z => absurd z hl, fun _ => ?_⟩, fun n hn => ?_⟩
  · rw [segN_len] at hi
    rw [segN_get hi]
    exact A.nonneg (by omega) (s _ (by omega))
  · rw [segN_len] at hi
    rw [segN_get (by omega), segN_get hi]
    exact A.mono (by omega) (by omega) (s _ (by omega))
  · rw [segN_len] at hi
    rw [segN_get hi]
    exact A.nonneg (by omega) (s _ (by omega))
  · rw [segN_len] at hi
    rw [segN_get (by omega), segN_get hi]
    exact A.mono (by omega) (by omega) (s _ (by omega))
  · have : 0 < N := by
      rcases Nat.eq_zero_or_pos N with z | z
      · subst z; exact absurd rfl h1
      · exact z
    rw [segN_len, segN_get (by omega), segN_get hm]
    exact A.mono (by omega) (by omega) (s _ (by omega))
  · have e := p (N + 1) (by omega)
    have := A.mono (m := N + 1) (n := N + 1 + m) (by omega) (by omega) (s _ (by omega))
    omega
  · rw [segN_len, segN_get (by omega), segN_get hm]
    have e := p (N + 0 + 1) (by omega)
    have := A.mono (m := N + (m - 1) + 1) (n := N + 0 + 1 + m) (by omega) (by omega) (s _ (by omega))
    omega
  · by_cases q : n ≤ N
    · unfold at_
      rw [segN_len, if_pos q, segN_get (by omega), show 0 + (n - 1) + 1 = n by omega]
      exact (numF_some (s n hn)).symm
    · rw [at_loop hl (by rw [segN_len]; omega), segN_len, numF_some (s n hn)]
      congr 1
      unfold walk
      rw [segN_len, segN_get (Nat.mod_lt _ hm)]
      have e := per_num p ((n - N - 1) % m) ((n - N - 1) / m)
      have e2 : N + 1 + (n - N - 1) % m + m * ((n - N - 1) / m) = n := by
        have := Nat.mod_add_div (n - N - 1) m
        omega
      rw [e2] at e
      rw [e, show N + (n - N - 1) % m + 1 = N + 1 + (n - N - 1) % m by omega]
/-- how the program tells a table that comes to an end -/
def settled (vs : List (Option Int)) : Option Int → List Int × List Int × Int
  | none => (vs.filterMap id, [], 0)
  | some v => if (vs.filterMap id).length < vs.length then (vs.filterMap id, [], 0) else (vs.filterMap id, [v], 0)
theorem settled_ok (A : Asc F) {N : Nat} {t : Option Int} (ht : ∀ n, N < n → F n = t) :
    Good (settled (seg F 0 N) t).1 (settled (seg F 0 N) t).2.1 (settled (seg F 0 N) t).2.2 ∧ (∀ n, 1 ≤ n → at_ (settled (seg F 0 N) t).1 (settled (seg F 0 N) t).2.1 (settled (seg F 0 N) t).2.2 n = F n) ∧
      (settled (seg F 0 N) t).1.length ≤ N ∧ (settled (seg F 0 N) t).2.1.length ≤ 1 := by
  obtain ⟨M, hM, e, s, z⟩ := cnt_ex A N
  have short : M < N ∨ t = none → Good (segN F 0 M) [] 0 ∧ (∀ n, 1 ≤ n → at_ (segN F 0 M) [] 0 n = F n) ∧ (segN F 0 M).length ≤ N ∧ ([] : List Int).length ≤ 1 := fun h => by
    refine ⟨ended A s, fun n hn => at_ended s (fun k hk => ?_) hn, by rw [segN_len]; exact hM, Nat.zero_le _⟩
    rcases h with h | h
    · exact A.none_up (m := M + 1) (by omega) (z (M + 1) (by omega) (by omega)) (by omega)
    · by_cases c : k ≤ N
      · exact z k hk c
      · rw [ht k (by omega), h]
  unfold settled
  cases t with
  | none =>
    dsimp only
    rw [e]
    exact short (.inr rfl)
  | some v =>
    dsimp only
    rw [e, seg_len, segN_len]
    by_cases c : M < N
    · rw [if_pos c]
      exact short (.inl c)
    · rw [if_neg c]
      have hMN : M = N := by omega
      subst hMN
      have sall : ∀ n, 1 ≤ n → F n ≠ none := fun n hn => by
        by_cases q : n ≤ M
        · exact s n hn q
        · rw [ht n (by omega)]
          exact fun y => by cases y
      have el : segN F M 1 = [v] := by
        unfold segN
        show [numF F (M + 0 + 1)] = [v]
        unfold numF
        rw [ht _ (by omega)]
        rfl
      have g := looped A (N := M) (m := 1) (c := 0) (by decide) sall (fun n hn => by
        unfold numF
        rw [ht n hn, ht (n + 1) (by omega)]
        simp)
      rw [el] at g
      exact ⟨g.1, g.2, by rw [segN_len]; exact Nat.le_refl _, Nat.le_refl _⟩
/-! ### a table's own values -/
section
variable {h l : List Int} {r : Int}
theorem asc_at (g : Good h l r) : Asc (at_ h l r) := by
  have some_of : ∀ n v, at_ h l r n = some v → n ≤ h.length ∨ l ≠ [] := fun n v e => by
    by_cases c : n ≤ h.length
    · exact .inl c
    · refine .inr fun z => ?_
      unfold at_ at e
      rw [if_neg c, if_pos z] at e
      cases e
  refine ⟨fun n v hn e => ?_, fun n v hn e => ?_⟩
  · have := num_ge g n hn
    unfold num at this
    rw [e] at this
    exact this
  · have c := some_of _ _ e
    have e1 := at_some (h := h) (l := l) (r := r) n (c.imp (fun q => by omega) id)
    refine ⟨_, e1, ?_⟩
    have := num_up g n hn c
    have e2 : num h l r (n + 1) = v := by unfold num; rw [e]; rfl
    omega
theorem good_of (A : Asc (at_ h l r)) (r0 : 0 ≤ r) (rl : l = [] → r = 0) : Good h l r := by
  have ah : ∀ i, i < h.length → at_ h l r (i + 1) = some (h.getD i 0) := fun i hi => by
    unfold at_
    rw [if_pos (by omega), Nat.add_sub_cancel]
  have al : ∀ i, i < l.length → at_ h l r (h.length + i + 1) = some (l.getD i 0) := fun i hi => by
    have hl : l ≠ [] := fun z => by rw [z] at hi; simp at hi
    rw [at_loop hl (by omega), show h.length + i + 1 - h.length - 1 = i by omega, walk_lt hi]
  refine ⟨climbs_of (fun i hi => A.ge _ _ (by omega) (ah i hi)) (fun i hi => ?_), climbs_of (fun i hi => A.ge _ _ (by omega) (al i hi)) (fun i hi => ?_), fun h1 h2 => ?_, r0, rl, fun hl => ?_⟩
  · obtain ⟨u, hu, le⟩ := A.up _ _ (by omega) (ah (i + 1) hi)
    rw [ah i (by omega)] at hu
    injection hu with hu
    omega
  · obtain ⟨u, hu, le⟩ := A.up _ _ (by omega) (al (i + 1) hi)
    rw [show h.length + (i + 1) = h.length + i + 1 by omega, al i (by omega)] at hu
    injection hu with hu
    omega
  · have h0 := len_pos h1
    obtain ⟨u, hu, le⟩ := A.up _ _ (by omega) (al 0 (len_pos h2))
    have := ah (h.length - 1) (by omega)
    rw [show h.length - 1 + 1 = h.length by omega] at this
    rw [this] at hu
    injection hu with hu
    omega
  · have l0 := len_pos hl
    have e : at_ h l r (h.length + (l.length - 1) + 1 + 1) = some (l.getD 0 0 + r) := by
      rw [at_loop hl (by omega), show h.length + (l.length - 1) + 1 + 1 - h.length - 1 = 0 + l.length by omega, walk_add l0, walk_lt l0]
    obtain ⟨u, hu, le⟩ := A.up _ _ (by omega) e
    rw [al (l.length - 1) (by omega)] at hu
    injection hu with hu
    omega
theorem at_fin (g : Good h l r) (c : l = [] ∨ r = 0) {n : Nat} (hn : h.length < n) : at_ h l r n = fin_ l r := by
  unfold fin_
  by_cases hl : l = []
  · rw [if_pos (.inl hl)]
    unfold at_
    rw [if_neg (by omega), if_pos hl]
  · have hr := c.resolve_left hl
    rw [if_neg (fun z => z.elim hl fun z => by omega), at_loop hl hn]
    have l0 := len_pos hl
    congr 1
    unfold walk
    rw [hr, Int.zero_mul, Int.add_zero]
    have hi := Nat.mod_lt (n - h.length - 1) l0
    generalize (n - h.length - 1) % l.length = i at hi
    have up : ∀ i d, i + d < l.length → l.getD i 0 ≤ l.getD (i + d) 0 := fun i d => by
      induction d with
      | zero => exact fun _ => Int.le_refl _
      | succ d ih => exact fun q => Int.le_trans (ih (by omega)) (climbs_up g.lp q)
    have e1 := up 0 i (by omega)
    have e2 := up i (l.length - 1 - i) (by omega)
    rw [Nat.zero_add] at e1
    rw [show i + (l.length - 1 - i) = l.length - 1 by omega] at e2
    have := g.last hl
    omega
theorem val_mono (g : Good h l r) {a b : Nat} (le : a ≤ b) {v : Int} (e : val_ h l r (some b) = some v) : ∃ u, val_ h l r (some a) = some u ∧ u ≤ v ∧ 0 ≤ u := by
  have A := asc_at g
  unfold val_ at e ⊢
  dsimp only at e ⊢
  by_cases ha : a = 0
  · rw [if_pos ha]
    refine ⟨0, rfl, ?_, Int.le_refl _⟩
    by_cases hb : b = 0
    · rw [if_pos hb] at e
      injection e with e
      omega
    · rw [if_neg hb] at e
      exact A.ge _ _ (by omega) e
  · rw [if_neg ha]
    rw [if_neg (by omega)] at e
    obtain ⟨d, rfl⟩ : ∃ d, b = a + d := ⟨b - a, by omega⟩
    obtain ⟨u, hu, le2⟩ := A.below (by omega) e
    exact ⟨u, hu, le2, A.ge _ _ (by omega) hu⟩
theorem val_fin (g : Good h l r) {v : Int} (e : fin_ l r = some v) (a : Nat) : ∃ u, val_ h l r (some a) = some u ∧ u ≤ v ∧ 0 ≤ u := by
  have c : l = [] ∨ r = 0 := by
    unfold fin_ at e
    by_cases q : l = [] ∨ 0 < r
    · rw [if_pos q] at e
      cases e
    · have := g.r0
      right
      have : ¬ 0 < r := fun z => q (.inr z)
      omega
  refine val_mono g (b := a + h.length + 1) (by omega) ?_
  unfold val_
  dsimp only
  rw [if_neg (by omega), at_fin g c (by omega), e]
end
/-! ### the values of one table at the values of another one -/
section
variable {h1 l1 h2 l2 : List Int} {r1 r2 : Int}
def beh (h1 l1 : List Int) (r1 : Int) (h2 l2 : List Int) (r2 : Int) (n : Nat) : Option Int := val_ h1 l1 r1 ((at_ h2 l2 r2 n).map Int.toNat)
theorem beh_asc (g1 : Good h1 l1 r1) (g2 : Good h2 l2 r2) : Asc (beh h1 l1 r1 h2 l2 r2) := by
  have A := asc_at g2
  refine ⟨fun n v hn e => ?_, fun n v hn e => ?_⟩
  · unfold beh at e
    cases q : at_ h2 l2 r2 n with
    | none =>
      rw [q] at e
      obtain ⟨u, _, h, h'⟩ := val_fin g1 e 0
      omega
    | some k =>
      rw [q] at e
      obtain ⟨u, h0, _, h⟩ := val_mono g1 (Nat.le_refl _) e
      have : some u = some v := h0.symm.trans e
      injection this with this
      omega
  · unfold beh at e ⊢
    cases q : at_ h2 l2 r2 (n + 1) with
    | none =>
      rw [q] at e
      cases q2 : at_ h2 l2 r2 n with
      | none => exact ⟨v, e, Int.le_refl _⟩
      | some k =>
        obtain ⟨u, h0, h, _⟩ := val_fin g1 e k.toNat
        exact ⟨u, h0, h⟩
    | some k =>
      rw [q] at e
      obtain ⟨j, hj, le⟩ := A.up n k hn q
      rw [hj]
      obtain ⟨u, h0, h, _⟩ := val_mono g1 (show j.toNat ≤ k.toNat by omega) e
      exact ⟨u, h0, h⟩
theorem beh_end (g2 : Good h2 l2 r2) (c : l2 = [] ∨ r2 = 0) {n : Nat} (hn : h2.length < n) : beh h1 l1 r1 h2 l2 r2 n = val_ h1 l1 r1 ((fin_ l2 r2).map Int.toNat) := by
  unfold beh
  rw [at_fin g2 c hn]
theorem beh_far {n : Nat} {v : Int} (e : at_ h2 l2 r2 n = some v) (hv : (h1.length : Int) < v) : beh h1 l1 r1 h2 l2 r2 n = at_ h1 l1 r1 v.toNat := by
  unfold beh
  rw [e]
  show val_ h1 l1 r1 (some v.toNat) = _
  unfold val_
  dsimp only
  rw [if_neg (by omega)]
theorem beh_flat (g1 : Good h1 l1 r1) (c : l1 = [] ∨ r1 = 0) {n : Nat} {v : Int} (e : at_ h2 l2 r2 n = some v) (hv : (h1.length : Int) < v) : beh h1 l1 r1 h2 l2 r2 n = fin_ l1 r1 := by
  rw [beh_far e hv, at_fin g1 c (by omega)]
theorem beh_some (n1 : l1 ≠ []) (n2 : l2 ≠ []) (n : Nat) : beh h1 l1 r1 h2 l2 r2 n ≠ none := by
  unfold beh
  rw [at_some n (.inr n2)]
  show val_ h1 l1 r1 (some _) ≠ none
  unfold val_
  dsimp only
  by_cases c : (num h2 l2 r2 n).toNat = 0
  · rw [if_pos c]
    exact fun z => by cases z
  · rw [if_neg c, at_some _ (.inr n1)]
    exact fun z => by cases z
theorem beh_per (n1 : l1 ≠ []) (n2 : l2 ≠ []) {lead q : Nat} {rq gg : Nat} (hq : l1.length = gg * q) (hr : r2 = ((gg * rq : Nat) : Int)) (hl : h2.length ≤ lead) (far : ∀ n, lead < n → ∃ v, at_ h2 l2 r2 n = some v ∧ (h1.length : Int) < v) (n : Nat) (hn : lead < n) :
    numF (beh h1 l1 r1 h2 l2 r2) (n + l2.length * q) = numF (beh h1 l1 r1 h2 l2 r2) n + r1 * (rq : Int) := by
  obtain ⟨v, hv, lv⟩ := far n hn
  obtain ⟨v', hv', lv'⟩ := far (n + l2.length * q) (by omega)
  have e : v' = v + (l1.length : Int) * (rq : Int) := by
    have a := at_loop n2 (r := r2) (h := h2) (n := n) (by omega)
    have b := at_loop n2 (r := r2) (h := h2) (n := n + l2.length * q) (by omega)
    rw [hv] at a
    rw [hv', show n + l2.length * q - h2.length - 1 = (n - h2.length - 1) + l2.length * q by omega, walk_add_mul (len_pos n2)] at b
    injection a with a
    injection b with b
    rw [b, a, hr, hq, Int.natCast_mul, Int.natCast_mul, Int.mul_assoc, Int.mul_assoc, Int.mul_comm (rq : Int) (q : Int)]
  unfold numF
  rw [beh_far hv lv, beh_far hv' lv', at_loop n1 (by omega), at_loop n1 (by omega)]
  show walk l1 r1 _ = walk l1 r1 _ + _
  have e3 : v'.toNat - h1.length - 1 = (v.toNat - h1.length - 1) + l1.length * rq := by
    have : (l1.length : Int) * (rq : Int) = ((l1.length * rq : Nat) : Int) := (Int.natCast_mul _ _).symm
    omega
  rw [e3, walk_add_mul (len_pos n1)]
end
end NT
namespace NT
section
variable {h l : List Int} {r : Int}
theorem at_bound {B R : Int} (hh : ∀ i, i < h.length → h.getD i 0 ≤ B) (hl : ∀ i, i < l.length → l.getD i 0 ≤ B) (r0 : 0 ≤ r) (hr : r ≤ R) (R0 : 0 ≤ R) {n : Nat} (hn : 1 ≤ n) {v : Int} (e : at_ h l r n = some v) : v ≤ B + R * (n : Int) := by
  have Rn : 0 ≤ R * (n : Int) := Int.mul_nonneg R0 (by omega)
  unfold at_ at e
  by_cases c : n ≤ h.length
  · rw [if_pos c] at e
    injection e with e
    have := hh (n - 1) (by omega)
    omega
  · rw [if_neg c] at e
    by_cases z : l = []
    · rw [if_pos z] at e
      cases e
    · rw [if_neg z] at e
      injection e with e
      unfold walk at e
      have a := hl ((n - h.length - 1) % l.length) (Nat.mod_lt _ (len_pos z))
      have b : (n - h.length - 1) / l.length ≤ n := Nat.le_trans (Nat.div_le_self _ _) (by omega)
      have c1 : r * (((n - h.length - 1) / l.length : Nat) : Int) ≤ R * (n : Int) := Int.mul_le_mul hr (Int.ofNat_le.mpr b) (Int.natCast_nonneg _) R0
      omega
/-- all that a form names is less than a bound -/
structure Few (x : List Int × List Int × Int) (B : Int) : Prop where
  v : ∀ n v, 1 ≤ n → n ≤ x.1.length + x.2.1.length → at_ x.1 x.2.1 x.2.2 n = some v → 0 ≤ v ∧ v < B
  r0 : 0 ≤ x.2.2
  r1 : x.2.2 < B
theorem plain_at {x : List Int × List Int × Int} (p : IsPlain h l r x) (n : Nat) (hn : 1 ≤ n) : at_ x.1 x.2.1 x.2.2 n = at_ h l r n := by
  rcases p with ⟨rfl, rfl⟩ | ⟨_, _, _, _, e⟩
  · rfl
  · exact e n hn
theorem plain_few {x : List Int × List Int × Int} {B : Int} (p : IsPlain h l r x) (f : Few (h, l, r) B) : Few x B := by
  have z := plain_size p
  refine ⟨fun n v hn h2 e => f.v n v hn ?_ ((plain_at p n hn).symm.trans e), (z.2.2.2.2.1 f.r0).1, Int.lt_of_le_of_lt (z.2.2.2.2.1 f.r0).2 f.r1⟩
  have := z.1
  have := z.2.1
  dsimp only
  omega
theorem few_head {x : List Int × List Int × Int} {B : Int} (f : Few x B) {i : Nat} (hi : i < x.1.length) : 0 ≤ x.1.getD i 0 ∧ x.1.getD i 0 < B := by
  refine f.v (i + 1) _ (by omega) (by omega) ?_
  unfold at_
  rw [if_pos (by omega), Nat.add_sub_cancel]
theorem few_loop {x : List Int × List Int × Int} {B : Int} (f : Few x B) {i : Nat} (hi : i < x.2.1.length) : 0 ≤ x.2.1.getD i 0 ∧ x.2.1.getD i 0 < B := by
  refine f.v (x.1.length + i + 1) _ (by omega) (by omega) ?_
  rw [at_loop (fun z => by rw [z] at hi; simp at hi) (by omega), show x.1.length + i + 1 - x.1.length - 1 = i by omega, walk_lt hi]
theorem plain_fin {x : List Int × List Int × Int} (g : Good h l r) (p : IsPlain h l r x) : Good x.1 x.2.1 x.2.2 ∧ fin_ x.2.1 x.2.2 = fin_ l r := by
  have z := plain_size p
  have gx : Good x.1 x.2.1 x.2.2 := by
    refine good_of ?_ (z.2.2.2.2.1 g.r0).1 fun hl => ?_
    · have A := asc_at g
      refine ⟨fun n v hn e => A.ge n v hn ((plain_at p n hn).symm.trans e), fun n v hn e => ?_⟩
      obtain ⟨u, hu, le⟩ := A.up n v hn ((plain_at p (n + 1) (by omega)).symm.trans e)
      exact ⟨u, (plain_at p n hn).trans hu, le⟩
    · by_cases q : l = []
      · rw [z.2.2.2.2.2.2 q]
      · exact absurd hl (z.2.2.1 q)
  refine ⟨gx, ?_⟩
  by_cases q : l = []
  · have hx := z.2.2.2.1 q
    unfold fin_
    rw [if_pos (.inl hx), if_pos (.inl q)]
  · have hx := z.2.2.1 q
    have hr := z.2.2.2.2.2.1 q
    by_cases q2 : 0 < r
    · unfold fin_
      rw [if_pos (.inr (hr.mp q2)), if_pos (.inr q2)]
    · have r0 : r = 0 := by have := g.r0; omega
      have rx : x.2.2 = 0 := by
        have := gx.r0
        have : ¬ 0 < x.2.2 := fun y => q2 (hr.mpr y)
        omega
      rw [← at_fin gx (.inr rx) (n := x.1.length + h.length + 1) (by omega), ← at_fin g (.inr r0) (n := x.1.length + h.length + 1) (by omega)]
      exact plain_at p _ (by omega)
theorem val_plain {x : List Int × List Int × Int} (g : Good h l r) (p : IsPlain h l r x) (n : Option Nat) : val_ x.1 x.2.1 x.2.2 n = val_ h l r n := by
  unfold val_
  cases n with
  | none => exact (plain_fin g p).2
  | some n =>
    dsimp only
    by_cases c : n = 0
    · rw [if_pos c, if_pos c]
    · rw [if_neg c, if_neg c]
      exact plain_at p n (by omega)
end
theorem beh_plain {h1 l1 h2 l2 : List Int} {r1 r2 : Int} {x y : List Int × List Int × Int} (g1 : Good h1 l1 r1) (p1 : IsPlain h1 l1 r1 x) (p2 : IsPlain h2 l2 r2 y) (n : Nat) (hn : 1 ≤ n) : beh x.1 x.2.1 x.2.2 y.1 y.2.1 y.2.2 n = beh h1 l1 r1 h2 l2 r2 n := by
  unfold beh
  rw [plain_at p2 n hn, val_plain g1 p1]
/-- what is not after a place at which a bound is passed -/
theorem far_of {h l : List Int} {r : Int} (g : Good h l r) (hl : l ≠ []) {lead : Nat} {lim : Int} (e : lim < num h l r (lead + 1)) (n : Nat) (hn : lead < n) : ∃ v, at_ h l r n = some v ∧ lim < v := by
  refine ⟨_, at_some n (.inr hl), ?_⟩
  have := (asc_at g).mono (m := lead + 1) (n := n) (by omega) (by omega) (by rw [at_some n (.inr hl)]; exact fun z => by cases z)
  exact Int.lt_of_lt_of_le e this
end NT
set_option linter.all false
set_option maxHeartbeats 4000000
/-! Deeds of makers: none gives a piece, some i takes one at inlet i. Plain Lean. -/
namespace NT
abbrev Deed := Option Nat
/-- how many pieces are taken at inlet i -/
def took (i : Nat) : List Deed → Nat
  | [] => 0
  | none :: ds => took i ds
  | some j :: ds => (if j = i then 1 else 0) + took i ds
/-- for each give how many pieces are taken at inlet i ahead of it, t of them before -/
def ahead (i : Nat) : List Deed → Int → List Int
  | [], _ => []
  | none :: ds, t => t :: ahead i ds t
  | some j :: ds, t => ahead i ds (if j = i then t + 1 else t)
theorem took_app {i : Nat} : ∀ {a b : List Deed}, took i (a ++ b) = took i a + took i b
  | [], b => by simp [took]
  | none :: a, b => by simp only [List.cons_append, took]; exact took_app
  | some j :: a, b => by simp only [List.cons_append, took]; rw [took_app]; omega
theorem ahead_app {i : Nat} : ∀ {a b : List Deed} {t : Int}, ahead i (a ++ b) t = ahead i a t ++ ahead i b (t + (took i a : Int))
  | [], b, t => by simp [took, ahead]
  | none :: a, b, t => by simp only [List.cons_append, took, ahead]; rw [ahead_app]
  | some j :: a, b, t => by
    simp only [List.cons_append, took, ahead]
    rw [ahead_app]
    congr 2
    by_cases h : j = i
    · rw [if_pos h, if_pos h]; omega
    · rw [if_neg h, if_neg h]; omega
theorem ahead_add {i : Nat} : ∀ {a : List Deed} {t c : Int}, ahead i a (t + c) = (ahead i a t).map (· + c)
  | [], _, _ => rfl
  | none :: a, t, c => by simp only [ahead, List.map_cons]; rw [ahead_add]
  | some j :: a, t, c => by
    simp only [ahead]
    by_cases h : j = i
    · rw [if_pos h, if_pos h, show t + c + 1 = t + 1 + c by omega, ahead_add]
    · rw [if_neg h, if_neg h, ahead_add]
theorem ahead_off {i : Nat} {a : List Deed} {t : Int} : ahead i a t = (ahead i a 0).map (t + ·) := by
  have := ahead_add (i := i) (a := a) (t := 0) (c := t)
  rw [Int.zero_add] at this
  rw [this]
  exact List.map_congr_left fun x _ => Int.add_comm _ _
theorem ahead_len {i : Nat} : ∀ {a : List Deed} {t : Int}, (ahead i a t).length ≤ a.length
  | [], _ => Nat.le_refl _
  | none :: a, t => by simp only [ahead, List.length_cons]; exact Nat.succ_le_succ ahead_len
  | some j :: a, t => by simp only [ahead, List.length_cons]; exact Nat.le_succ_of_le ahead_len
theorem took_len {i : Nat} : ∀ {a : List Deed}, took i a ≤ a.length
  | [] => Nat.le_refl _
  | none :: a => by simp only [took, List.length_cons]; exact Nat.le_succ_of_le took_len
  | some j :: a => by
    have := took_len (i := i) (a := a)
    simp only [took, List.length_cons]
    by_cases h : j = i
    · rw [if_pos h]; omega
    · rw [if_neg h]; omega
theorem ahead_climbs {i : Nat} : ∀ {a : List Deed} {lo t : Int}, lo ≤ t → climbs lo (ahead i a t)
  | [], _, _, _ => trivial
  | none :: a, lo, t, h => ⟨h, ahead_climbs (Int.le_refl t)⟩
  | some j :: a, lo, t, h => by
    simp only [ahead]
    by_cases e : j = i
    · rw [if_pos e]; exact ahead_climbs (by omega)
    · rw [if_neg e]; exact ahead_climbs h
theorem ahead_le {i : Nat} : ∀ {a : List Deed} {t : Int}, ∀ x ∈ ahead i a t, t ≤ x ∧ x ≤ t + (took i a : Int)
  | [], _, x, h => nomatch h
  | none :: a, t, x, h => by
    simp only [ahead, took] at h ⊢
    rcases List.mem_cons.mp h with rfl | h
    · omega
    · exact ahead_le x h
  | some j :: a, t, x, h => by
    simp only [ahead, took] at h ⊢
    by_cases e : j = i
    · rw [if_pos e] at h ⊢
      have := ahead_le x h
      omega
    · rw [if_neg e] at h ⊢
      have := ahead_le x h
      omega
theorem ahead_nil {i : Nat} : ∀ {a : List Deed} {t : Int}, ahead i a t = [] ↔ none ∉ a
  | [], _ => by simp [ahead]
  | none :: a, t => by simp [ahead]
  | some j :: a, t => by simp only [ahead]; rw [ahead_nil]; simp
theorem took_snoc {i : Nat} {a : List Deed} {d : Deed} : took i (a ++ [d]) = match d with
  | none => took i a
  | some j => if j = i then took i a + 1 else took i a := by
  rw [took_app]
  cases d with
  | none => rfl
  | some j =>
    show took i a + ((if j = i then 1 else 0) + 0) = if j = i then took i a + 1 else took i a
    split <;> omega
theorem ahead_snoc {i : Nat} {a : List Deed} {d : Deed} : ahead i (a ++ [d]) 0 = match d with
  | none => ahead i a 0 ++ [(took i a : Int)]
  | some _ => ahead i a 0 := by
  rw [ahead_app, Int.zero_add]
  cases d with
  | none => rfl
  | some j => exact List.append_nil _
/-- the need at inlet i: first these deeds, then those for ever -/
def needT (i : Nat) (b c : List Deed) : List Int × List Int × Int :=
  (ahead i b 0, ahead i c (took i b : Int), if ahead i c (took i b : Int) = [] then 0 else (took i c : Int))
theorem getD_mem {l : List Int} {k : Nat} (h : k < l.length) : l.getD k 0 ∈ l := by
  rw [List.getD_eq_getElem?_getD, List.getElem?_eq_getElem h]
  exact List.getElem_mem h
theorem needT_good (i : Nat) (b c : List Deed) : Good (needT i b c).1 (needT i b c).2.1 (needT i b c).2.2 := by
  unfold needT
  refine ⟨ahead_climbs (Int.le_refl 0), ahead_climbs (by omega), fun h1 h2 => ?_, ?_, fun h => if_pos h, fun h => ?_⟩
  · dsimp only at h1 h2
    have p1 := List.length_pos_iff.mpr h1
    have p2 := List.length_pos_iff.mpr h2
    have q1 := ahead_le _ (getD_mem (l := ahead i b 0) (k := (ahead i b 0).length - 1) (by omega))
    have q2 := ahead_le _ (getD_mem (l := ahead i c (took i b : Int)) (k := 0) p2)
    dsimp only
    omega
  · dsimp only
    split <;> omega
  · dsimp only at h ⊢
    rw [if_neg h]
    have p2 := List.length_pos_iff.mpr h
    have q1 := ahead_le _ (getD_mem (l := ahead i c (took i b : Int)) (k := 0) p2)
    have q2 := ahead_le _ (getD_mem (l := ahead i c (took i b : Int)) (k := (ahead i c (took i b : Int)).length - 1) (by omega))
    omega
/-- so often -/
def rep (c : List Deed) : Nat → List Deed
  | 0 => []
  | k + 1 => c ++ rep c k
theorem walk_shift {l : List Int} {r c : Int} {q : Nat} (h : 0 < l.length) : walk (l.map (· + c)) r q = walk l r q + c := by
  unfold walk
  rw [List.length_map, List.getD_eq_getElem?_getD, List.getD_eq_getElem?_getD, List.getElem?_map, List.getElem?_eq_getElem (Nat.mod_lt _ h)]
  show _ + c + _ = _
  show l[q % l.length]'(Nat.mod_lt _ h) + c + _ = l[q % l.length]'(Nat.mod_lt _ h) + _ + c
  omega
theorem rep_walk {i : Nat} {c : List Deed} : ∀ {k : Nat} {t : Int} {q : Nat}, q < k * (ahead i c t).length → q < (ahead i (rep c k) t).length ∧ (ahead i (rep c k) t).getD q 0 = walk (ahead i c t) (took i c : Int) q
  | 0, _, _, h => by omega
  | k + 1, t, q, h => by
    have l0 : 0 < (ahead i c t).length := by
      rcases Nat.eq_zero_or_pos (ahead i c t).length with z | z
      · rw [z] at h; omega
      · exact z
    have e : (ahead i c (t + (took i c : Int))) = (ahead i c t).map (· + (took i c : Int)) := ahead_add
    have el : (ahead i c (t + (took i c : Int))).length = (ahead i c t).length := by rw [e, List.length_map]
    simp only [rep]
    rw [ahead_app, List.length_append]
    by_cases z : q < (ahead i c t).length
    · refine ⟨by omega, ?_⟩
      rw [List.getD_eq_getElem?_getD, List.getElem?_append_left z, ← List.getD_eq_getElem?_getD, walk_lt z]
    · have h2 : q - (ahead i c t).length < k * (ahead i c (t + (took i c : Int))).length := by
        rw [el]
        rw [Nat.succ_mul] at h
        omega
      obtain ⟨r1, r2⟩ := rep_walk h2
      refine ⟨by omega, ?_⟩
      rw [List.getD_eq_getElem?_getD, List.getElem?_append_right (by omega), ← List.getD_eq_getElem?_getD, r2, e, walk_shift l0]
      have := walk_add (l := ahead i c t) (r := (took i c : Int)) l0 (q - (ahead i c t).length)
      rw [show q - (ahead i c t).length + (ahead i c t).length = q by omega] at this
      exact this.symm
theorem rep_none {i : Nat} {c : List Deed} (h : ∀ t, ahead i c t = []) : ∀ {k : Nat} {t : Int}, ahead i (rep c k) t = []
  | 0, _ => rfl
  | k + 1, t => by simp only [rep]; rw [ahead_app, h, rep_none h]; rfl
/-- the need, place by place, as it comes by walking -/
theorem needT_at {i : Nat} {b c : List Deed} {k n : Nat} (hn : 1 ≤ n) (hk : n ≤ k) : at_ (needT i b c).1 (needT i b c).2.1 (needT i b c).2.2 n = (ahead i (b ++ rep c k) 0)[n - 1]? := by
  unfold needT
  dsimp only
  rw [ahead_app, Int.zero_add]
  by_cases h : n ≤ (ahead i b 0).length
  · unfold at_
    rw [if_pos h, List.getElem?_append_left (by omega), List.getD_eq_getElem?_getD, List.getElem?_eq_getElem (by omega)]
    rfl
  · rw [List.getElem?_append_right (by omega)]
    by_cases z : ahead i c (took i b : Int) = []
    · unfold at_
      rw [if_neg h, if_pos z, rep_none fun t => ahead_nil.mpr (ahead_nil.mp z)]
      rfl
    · have l0 := List.length_pos_iff.mpr z
      rw [at_loop z (by omega), if_neg z]
      have lt : n - 1 - (ahead i b 0).length < k * (ahead i c (took i b : Int)).length := Nat.lt_of_lt_of_le (show n - 1 - (ahead i b 0).length < k by omega) (Nat.le_mul_of_pos_right _ l0)
      obtain ⟨r1, r2⟩ := rep_walk lt
      rw [List.getElem?_eq_getElem r1]
      rw [List.getD_eq_getElem?_getD, List.getElem?_eq_getElem r1] at r2
      rw [show n - (ahead i b 0).length - 1 = n - 1 - (ahead i b 0).length by omega, ← r2]
      rfl
end NT
set_option Elab.async false
set_option linter.all false
set_option maxRecDepth 100000
set_option maxHeartbeats 4000000
/-! A comprehension over a list or a tuple; rows of deeds. -/
namespace NF
open PySem PySem.Spec PyProof.Rows L2 He RZ NT
theorem lc_row {K : PySem.W.Frag} {a : Addr} {xs : List V} {g : TG} {tt : TT} {te : TE} {vs : List Nat} {σ : L2.St} {H1 : Hp} {Qd : Addr → Hp → Prop} (hr : Row K H1 a xs) (Pv : Addr → Nat → Hp → Prop) (h0 : ∀ D, H1 D = none → Pv D 0 (upd H1 D (.lst [])))
    (hl : ∀ D i H, H1 D = none → Pv D i H → Same H1 H)
    (hs : ∀ D, H1 D = none → ∀ i x H, xs[i]? = some x → Pv D i H → g x (wipe σ vs) H fun σ2 H2 => wipe σ2 vs = wipe σ vs ∧ tt σ2 H2 fun b H3 =>
      if b = true then te σ2 H3 fun y H4 => ∃ acc, H4 D = some (.lst acc) ∧ acc.length < sizeLine ∧ Pv D (i + 1) (upd H4 D (.lst (acc ++ [y]))) else Pv D (i + 1) H3) (hd : ∀ D, H1 D = none → ∀ H, Pv D xs.length H → Qd D H) :
    ((∃ xs, SqL K H1 a xs) ∧ ∀ D, H1 D = none → ∃ W : Nat → Nat → Hp → Prop, (∃ m, W 0 m (upd H1 D (.lst []))) ∧ ∀ i m H, W i m H →
      ((Itl K a).stop i H ∧ Qd D H) ∨ ((Itl K a).go i H ∧ ∃ Nx : Hp → Prop, (∀ H', Nx H' → ∃ m', m' < m ∧ W (i + 1) m' H') ∧ ∀ x H', (Itl K a).yld i H x H' → g x (wipe σ vs) H' fun σ2 H2 => wipe σ2 vs = wipe σ vs ∧ tt σ2 H2 fun b H3 =>
        if b = true then te σ2 H3 fun y H4 => ∃ acc, H4 D = some (.lst acc) ∧ acc.length < sizeLine ∧ Nx (upd H4 D (.lst (acc ++ [y]))) else Nx H3)) ∨
    ((∃ xs, SqT K H1 a xs) ∧ ∀ D, H1 D = none → ∃ W : Nat → Nat → Hp → Prop, (∃ m, W 0 m (upd H1 D (.lst []))) ∧ ∀ i m H, W i m H →
      ((Itt K a).stop i H ∧ Qd D H) ∨ ((Itt K a).go i H ∧ ∃ Nx : Hp → Prop, (∀ H', Nx H' → ∃ m', m' < m ∧ W (i + 1) m' H') ∧ ∀ x H', (Itt K a).yld i H x H' → g x (wipe σ vs) H' fun σ2 H2 => wipe σ2 vs = wipe σ vs ∧ tt σ2 H2 fun b H3 =>
        if b = true then te σ2 H3 fun y H4 => ∃ acc, H4 D = some (.lst acc) ∧ acc.length < sizeLine ∧ Nx (upd H4 D (.lst (acc ++ [y]))) else Nx H3)) := by
  rcases hr with hr | hr
  · exact .inl ⟨⟨_, hr⟩, fun D hD => lc_list (Pv D) (h0 D hD) (fun i H _ p => L2.Same.seq (hl D i H hD p) hr) (hs D hD) (hd D hD)⟩
  · exact .inr ⟨⟨_, hr⟩, fun D hD => lc_tup (Pv D) (h0 D hD) (fun i H _ p => NF.Same.tup (hl D i H hD p) hr) (hs D hD) (hd D hD)⟩
theorem for_rowM {K : PySem.W.Frag} {a : Addr} {xs : List V} {g : TG} {tb : TS} {D : Ends} {σ : L2.St} {H H0 : Hp} (hr : Row K H0 a xs) (Pv : Nat → L2.St → Hp → Prop) (h0 : Pv 0 σ H) (hm : ∀ i σ H', Pv i σ H' → Same H0 H')
    (hs : ∀ i x σ H, xs[i]? = some x → Pv i σ H → g x σ H fun σ2 H2 => tb { D with nx := Pv (i + 1), ct := Pv (i + 1), bk := D.nx } σ2 H2) (hd : ∀ σ H, Pv xs.length σ H → D.nx σ H) :
    ((∃ xs, SqL K H a xs) ∧ (∃ W : Nat → Nat → L2.St → Hp → Prop, (∃ m, W 0 m σ H) ∧ ∀ i m σ H, W i m σ H →
      ((Itl K a).stop i H ∧ D.nx σ H) ∨ ((Itl K a).go i H ∧ ∃ N : L2.St → Hp → Prop, (∀ σ' H', N σ' H' → ∃ m', m' < m ∧ W (i + 1) m' σ' H') ∧ ∀ x H', (Itl K a).yld i H x H' → g x σ H' fun σ2 H2 => tb { D with nx := N, ct := N, bk := D.nx } σ2 H2))) ∨
    ((∃ xs, SqT K H a xs) ∧ (∃ W : Nat → Nat → L2.St → Hp → Prop, (∃ m, W 0 m σ H) ∧ ∀ i m σ H, W i m σ H →
      ((Itt K a).stop i H ∧ D.nx σ H) ∨ ((Itt K a).go i H ∧ ∃ N : L2.St → Hp → Prop, (∀ σ' H', N σ' H' → ∃ m', m' < m ∧ W (i + 1) m' σ' H') ∧ ∀ x H', (Itt K a).yld i H x H' → g x σ H' fun σ2 H2 => tb { D with nx := N, ct := N, bk := D.nx } σ2 H2))) := by
  rcases hr with hr | hr
  · exact .inl ⟨⟨_, L2.Same.seq (hm 0 σ H h0) hr⟩, for_list Pv h0 (fun i σ H' _ p => L2.Same.seq (hm i σ H' p) hr) hs hd⟩
  · exact .inr ⟨⟨_, NF.Same.tup (hm 0 σ H h0) hr⟩, for_tup Pv h0 (fun i σ H' _ p => NF.Same.tup (hm i σ H' p) hr) hs hd⟩
theorem cr_tupK {X : Cx} {K : PySem.W.Frag} (h : X.K = K := by rfl) : CallR X (.type "tuple") (rTupOf K) := h ▸ cr_tup
theorem call_list_ofK {X : Cx} {K : PySem.W.Frag} (h : X.K = K := by rfl) : CallR X (.type "list") (fun xs H Q => ∃ p ys, xs = [.ref p] ∧ (SqL K H p ys ∨ SqT K H p ys) ∧ ∀ l, H l = none → Q (.ref l) (upd H l (.lst ys))) := h ▸ call_list_of
theorem call_isiK {X : Cx} {K : PySem.W.Frag} (h : X.K = K := by rfl) : CallR X (.builtin "isinstance") (rIsi K) := h ▸ call_isi
/-- a deed -/
def dV : Deed → V
  | none => .str "give"
  | some i => .int (i : Int)
theorem dV_give {d : Deed} : decide (dV d = V.str "give") = d.isNone := by
  cases d with
  | none => exact decide_eq_true rfl
  | some i => exact decide_eq_false fun z => by cases z
theorem dV_int {j i : Nat} : decide (dV (some j) = V.int (i : Int)) = decide (j = i) := by
  by_cases h : j = i
  · subst h
    rw [decide_eq_true rfl]
    exact decide_eq_true rfl
  · rw [decide_eq_false h]
    exact decide_eq_false fun z => h (by injection z with z; omega)
theorem dV_scal {d : Deed} {s : Str} : scal (dV d) (.str s) = true := by cases d <;> rfl
theorem dV_scalI {d : Deed} {i : Int} : scal (dV d) (.int i) = true := by cases d <;> rfl
/-- rows of deeds, each one at its own address -/
def WaysR (K : PySem.W.Frag) (H : Hp) (pw : Addr) (ws : List (List Deed)) : Prop := ∃ as : List Addr, Row K H pw (as.map V.ref) ∧ as.length = ws.length ∧ ∀ (j : Nat) (a : Addr) (w : List Deed), as[j]? = some a → ws[j]? = some w → Row K H a (w.map dV)
def WaysT (K : PySem.W.Frag) (H : Hp) (pw : Addr) (ws : List (List Deed)) : Prop := ∃ as : List Addr, SqT K H pw (as.map V.ref) ∧ as.length = ws.length ∧ ∀ (j : Nat) (a : Addr) (w : List Deed), as[j]? = some a → ws[j]? = some w → SqT K H a (w.map dV)
theorem WaysT.r {K : PySem.W.Frag} {H : Hp} {pw : Addr} {ws : List (List Deed)} (h : WaysT K H pw ws) : WaysR K H pw ws := by
  obtain ⟨as, h1, h2, h3⟩ := h
  exact ⟨as, .inr h1, h2, fun j a w e1 e2 => .inr (h3 j a w e1 e2)⟩
theorem WaysR.mono {K : PySem.W.Frag} {H H' : Hp} {pw : Addr} {ws : List (List Deed)} (h : WaysR K H pw ws) (s : Same H H') : WaysR K H' pw ws := by
  obtain ⟨as, h1, h2, h3⟩ := h
  exact ⟨as, h1.mono s, h2, fun j a w e1 e2 => (h3 j a w e1 e2).mono s⟩
theorem WaysT.mono {K : PySem.W.Frag} {H H' : Hp} {pw : Addr} {ws : List (List Deed)} (h : WaysT K H pw ws) (s : Same H H') : WaysT K H' pw ws := by
  obtain ⟨as, h1, h2, h3⟩ := h
  exact ⟨as, NF.Same.tup s h1, h2, fun j a w e1 e2 => NF.Same.tup s (h3 j a w e1 e2)⟩
end NF
set_option Elab.async false
set_option linter.all false
set_option maxRecDepth 100000
set_option maxHeartbeats 4000000
/-! Deep == of rows of anything that is equal only to itself. -/
namespace NF
open PySem PySem.Spec PyProof.Rows L2 He RZ NT
theorem iteT' {b : Bool} {A B : Prop} (e : b = true) (h : A) : if b = true then A else B := by rw [e]; exact iteT h
theorem iteF' {b : Bool} {A B : Prop} (e : b = false) (h : B) : if b = true then A else B := by rw [e]; exact iteF h
theorem eqv_map {α : Type} [DecidableEq α] {f : α → PyData} (h : ∀ a b, PyData.eqv (f a) (f b) = decide (a = b)) : ∀ a b : List α, PyData.eqvAll (a.map f) (b.map f) = decide (a = b)
  | [], [] => rfl
  | [], _ :: _ => rfl
  | _ :: _, [] => rfl
  | x :: a, y :: b => by
    show (PyData.eqv (f x) (f y) && PyData.eqvAll (a.map f) (b.map f)) = _
    rw [eqv_map h a b, h]
    by_cases h1 : x = y <;> by_cases h2 : a = b <;> simp [h1, h2]
theorem lay_map {α : Type} {f : α → PyData} : ∀ (l : List α), (∀ a ∈ l, PyData.canLay0 (f a) = true) → PyData.canLayAll0 (l.map f) = true
  | [], _ => rfl
  | a :: l, h => by
    show (PyData.canLay0 (f a) && PyData.canLayAll0 (l.map f)) = true
    rw [h a List.mem_cons_self, lay_map l fun b hb => h b (List.mem_cons_of_mem _ hb)]
    rfl
theorem depth_map {α : Type} {f : α → PyData} {n : Nat} : ∀ (l : List α), (∀ a ∈ l, PyData.depth (f a) ≤ n) → PyData.depthAll (l.map f) ≤ n
  | [], _ => Nat.zero_le _
  | a :: l, h => by
    show max (PyData.depth (f a)) (PyData.depthAll (l.map f)) ≤ n
    have := h a List.mem_cons_self
    have := depth_map l fun b hb => h b (List.mem_cons_of_mem _ hb)
    omega
theorem shaped_map {α : Type} {f : α → PyData} {n : Nat} (l : List α) (h1 : ∀ a ∈ l, PyData.canLay0 (f a) = true) (h2 : ∀ a ∈ l, PyData.depth (f a) ≤ n) (h3 : n ≤ 60) : SeqAt.shaped (.tuple (l.map f)) = true := by
  show (PyData.canLayAll0 (l.map f) && decide (PyData.depthAll (l.map f) + 1 ≤ 64)) = true
  rw [lay_map l h1, decide_eq_true (by have := depth_map l h2; omega)]
  rfl
/-- a deed as data -/
def dataD : Deed → PyData
  | none => .str "give"
  | some i => .int (i : Int)
theorem eqv_dP : ∀ a b : Deed, PyData.eqv (dataD a) (dataD b) = decide (a = b)
  | none, none => by decide
  | none, some _ => rfl
  | some _, none => rfl
  | some i, some j => by
    show ((i : Int) == (j : Int)) = _
    by_cases h : i = j
    · subst h
      simp
    · rw [decide_eq_false (fun z => h (by injection z))]
      exact beq_eq_false_iff_ne.mpr fun z => h (by omega)
theorem lay_dP (a : Deed) : PyData.canLay0 (dataD a) = true := by
  cases a with
  | none => decide +kernel
  | some i => rfl
theorem depth_dP (a : Deed) : PyData.depth (dataD a) ≤ 0 := by cases a <;> exact Nat.le_refl _
theorem dp_deeds {K : PySem.W.Frag} {H : Hp} : ∀ l : List Deed, DpAll K H (l.map dV) (l.map dataD)
  | [] => .nil
  | none :: l => .cons (.str _) (dp_deeds l)
  | some i :: l => .cons (.int _) (dp_deeds l)
def dataW (w : List Deed) : PyData := .tuple (w.map dataD)
theorem eqv_wP (a b : List Deed) : PyData.eqv (dataW a) (dataW b) = decide (a = b) := eqv_map eqv_dP a b
theorem lay_wP (a : List Deed) : PyData.canLay0 (dataW a) = true := lay_map a fun d _ => lay_dP d
theorem depth_wP (a : List Deed) : PyData.depth (dataW a) ≤ 1 := by
  show PyData.depthAll (a.map dataD) + 1 ≤ 1
  have := depth_map a fun d _ => depth_dP d
  omega
theorem shaped_wP (a : List Deed) : SeqAt.shaped (dataW a) = true := shaped_map a (fun d _ => lay_dP d) (fun d _ => depth_dP d) (by decide)
theorem dp_way {K : PySem.W.Frag} {H : Hp} {a : Addr} {w : List Deed} (h : SqT K H a (w.map dV)) : Dp K H (.ref a) (dataW w) := .tup h (dp_deeds w)
theorem dp_waysL {K : PySem.W.Frag} {H : Hp} : ∀ (as : List Addr) (ws : List (List Deed)), as.length = ws.length → (∀ (j : Nat) (a : Addr) (w : List Deed), as[j]? = some a → ws[j]? = some w → SqT K H a (w.map dV)) → DpAll K H (as.map V.ref) (ws.map dataW)
  | [], [], _, _ => .nil
  | [], _ :: _, h, _ => nomatch h
  | _ :: _, [], h, _ => nomatch h
  | a :: as, w :: ws, h, q => .cons (dp_way (q 0 a w rfl rfl)) (dp_waysL as ws (by simpa using h) fun j a' w' e1 e2 => q (j + 1) a' w' (by simpa using e1) (by simpa using e2))
def dataWs (ws : List (List Deed)) : PyData := .tuple (ws.map dataW)
theorem eqv_wsP (a b : List (List Deed)) : PyData.eqv (dataWs a) (dataWs b) = decide (a = b) := eqv_map eqv_wP a b
theorem shaped_wsP (a : List (List Deed)) : SeqAt.shaped (dataWs a) = true := shaped_map a (fun w _ => lay_wP w) (fun w _ => depth_wP w) (by decide)
theorem dp_ways {K : PySem.W.Frag} {H : Hp} {pw : Addr} {ws : List (List Deed)} (h : WaysT K H pw ws) : Dp K H (.ref pw) (dataWs ws) := by
  obtain ⟨as, h1, h2, h3⟩ := h
  exact .tup h1 (dp_waysL as ws h2 h3)
theorem eqD_deeds {K : PySem.W.Frag} {H : Hp} {a b : Addr} {x y : List Deed} {Q : VK} (hx : SqT K H a (x.map dV)) (hy : SqT K H b (y.map dV)) (q : Q (.bl (decide (x = y))) H) : rEqD K (.ref a) (.ref b) H Q :=
  ⟨_, _, dp_way hx, dp_way hy, shaped_wP x, shaped_wP y, by rw [eqv_wP]; exact q⟩
theorem eqD_ways {K : PySem.W.Frag} {H : Hp} {a b : Addr} {x y : List (List Deed)} {Q : VK} (hx : WaysT K H a x) (hy : WaysT K H b y) (q : Q (.bl (decide (x = y))) H) : rEqD K (.ref a) (.ref b) H Q :=
  ⟨_, _, dp_ways hx, dp_ways hy, shaped_wsP x, shaped_wsP y, by rw [eqv_wsP]; exact q⟩
end NF
set_option Elab.async false
set_option linter.all false
set_option maxRecDepth 100000
set_option maxHeartbeats 4000000
/-! f(e, .., k = v, ..) of a def with keyword-only parameters. -/
namespace NF
open PySem PySem.Spec PyProof.Rows L2 He
theorem kbN {K : PySem.W.Frag} {x qual : Str} {params : Arguments} {body : List Stmt} {scope : Scope} {kws : List (Str × V)} {f : Addr} {fd : FuncData} {ps : List Str} (F : FunD K x qual params body scope [] kws f fd) (n : Nat) (ks : List Str)
    (h : ∀ (kV doc pm : Value) (an : Option Addr) (cdv ct : Value) (us ws : List Value), us.length = n → ws.length = ks.length → bindArgs (PySem.W.fnOf x qual params body scope .none kV doc pm an cdv ct) ⟨us, ks.zip ws⟩ = pure (ps.zip (us ++ ws))) : KBn K fd ps n ks (fun us ws => us ++ ws) (fun vs zs => vs ++ zs) := by
  obtain ⟨oc, od, dV, kV, doc, pm, an, cdv, ct, osl, rfl, lk, hcd, hD, hK⟩ := F.ex
  rcases hD with ⟨_, rfl⟩ | ⟨e, _⟩
  · exact ⟨fun s us ws X l1 l2 => .of_eq (h kV doc pm an cdv ct us ws l1 l2), fun r1 r2 => r1.append r2⟩
  · exact absurd rfl e
structure CalK (P : Program) (w : World) (K : PySem.W.Frag) (mg : Str → Option Value) (base : Heap) (k : Nat) (x : Str) (n : Nat) (ks : List Str) (sp : Sp) : Prop where
  ex : ∃ (f : Addr) (fd : FuncData) (ps : List Str), FnOk P w K mg base CX0 k f fd ps sp ∧ mg x = some (.ref f) ∧ PySem.W.keepIn K (.ref f) = true ∧ KBn K fd ps n ks (fun us ws => us ++ ws) (fun vs zs => vs ++ zs)
theorem pe_ck {X : Cx} {k j n : Nat} {x : Str} {ks : List Str} {sp : Sp} {e : Expr} {es : List Expr} {kws : List Keyword} {t tk : TA} {p pos : Pos} (c : CalK X.prog X.w X.K X.mg X.base k x n ks sp) (hr : Room j X.A) (hk : k ≤ j) (hg : Gl X x) (ha : PA X (e :: es) t) (hkw : PK X kws tk)
    (hall : (backToKw pos (keywordEach kws X.env)).all (·.1.isSome) = true := by rfl) (hks : (backToKw pos (keywordEach kws X.env)).filterMap (·.1) = ks := by rfl)
    (hdb : (x == ("__debug__" : Str)) = false := by decide) (he : starEach (e :: es) X.env = (false, eval e X.env) :: starEach es X.env := by rfl)
    (hpl : ((backTo pos (starEach (e :: es) X.env)).any (·.1) || (backToKw pos (keywordEach kws X.env)).any (·.1.isNone)) = false := by rfl) :
    PE X (.Call (.Name x p) (e :: es) kws pos) (tCallN n ks.length sp (fun vs zs => vs ++ zs) E0 t tk) := by
  obtain ⟨f, fd, ps, F, hm, kp, b⟩ := c.ex
  exact pe_callN F (hr.mono hk) hg hm kp b pass0 ha hkw hall hks hdb he hpl
end NF
set_option Elab.async false
set_option linter.all false
set_option maxRecDepth 100000
set_option maxHeartbeats 4000000
/-! f(e, ..) of a def whose keyword-only parameters keep their defaults. -/
namespace NF
open PySem PySem.Spec PyProof.Rows L2 He
def dGk (x : Str) (st : Stmt) (kwd : List (Str × He.Dv)) : Adr := (fun K => ga K x, ⟨(x, none), x, x, defArgs st, defBody st, defScope st, [], kwd⟩)
structure CalD (P : Program) (w : World) (K : PySem.W.Frag) (mg : Str → Option Value) (base : Heap) (k : Nat) (x : Str) (sp : Sp) (dvs : List V) : Prop where
  ex : ∃ (f : Addr) (fd : FuncData) (ps : List Str) (ds : List Value), FnOk P w K mg base CX0 k f fd ps sp ∧ mg x = some (.ref f) ∧ PySem.W.keepIn K (.ref f) = true ∧ Binds K fd ps ds ∧ Vals dvs ds
theorem pe_cd {X : Cx} {k j : Nat} {x : Str} {sp : Sp} {dvs : List V} {e : Expr} {es : List Expr} {t : TA} {p pos : Pos} (c : CalD X.prog X.w X.K X.mg X.base k x sp dvs) (hr : Room j X.A) (hk : k ≤ j) (hg : Gl X x) (ha : PA X (e :: es) t)
    (hdb : (x == ("__debug__" : Str)) = false := by decide) (he : starEach (e :: es) X.env = (false, eval e X.env) :: starEach es X.env := by rfl) (hpl : (backTo pos (starEach es X.env)).any (·.1) = false := by rfl) :
    PE X (.Call (.Name x p) (e :: es) [] pos) (tCall sp dvs E0 t) := by
  obtain ⟨f, fd, ps, ds, F, hm, kp, b, v⟩ := c.ex
  exact pe_call F (hr.mono hk) hg hm kp b v pass0 ha hdb he hpl
end NF
set_option Elab.async false
set_option linter.all false
set_option maxRecDepth 100000
set_option maxHeartbeats 0
namespace K28
open PySem PySem.Spec PyProof.Rows L2 He NF RZ
def top (i : Nat) : Stmt := PySem.Challenge.pw_needforth_k28_whole_makers_of_tables.main.body.getD i (.Pass ⟨0, 0, 0, 0⟩)
abbrev s__wall : Stmt := top 1
abbrev s_TooMany_init : Stmt := inClass (top 4) 0
abbrev s_BadCount_init : Stmt := inClass (top 5) 0
abbrev s_BadInlet_init : Stmt := inClass (top 6) 0
abbrev s_BadCourse_init : Stmt := inClass (top 7) 0
abbrev s_BadTable_init : Stmt := inClass (top 8) 0
abbrev s_BadMaker_init : Stmt := inClass (top 9) 0
abbrev s_BadTables_init : Stmt := inClass (top 10) 0
abbrev s_is_integer : Stmt := top 12
abbrev s_is_count : Stmt := top 13
abbrev s_is_row : Stmt := top 14
abbrev s_is_pair : Stmt := top 15
abbrev s_is_climb : Stmt := top 16
abbrev s_end_of : Stmt := top 18
abbrev s_value_at : Stmt := top 19
abbrev s_values_from : Stmt := top 20
abbrev s_many_at_most : Stmt := top 21
abbrev s_last_at_most : Stmt := top 22
abbrev s_shortest_lap : Stmt := top 23
abbrev s_plain_form : Stmt := top 24
abbrev s_settled_form : Stmt := top 25
abbrev s_spread : Stmt := top 26
abbrev s_ladder_of : Stmt := top 28
abbrev s_least_in : Stmt := top 29
abbrev s_first_under : Stmt := top 30
abbrev s_last_under : Stmt := top 31
abbrev s_Chase_init : Stmt := inClass (top 32) 0
abbrev s_Chase_ladder_from : Stmt := inClass (top 32) 1
abbrev s_Chase_runners_of : Stmt := inClass (top 32) 2
abbrev s_Chase_greatest_lead : Stmt := inClass (top 32) 3
abbrev s_Chase_first_lead : Stmt := inClass (top 32) 4
abbrev s_Chase_last_lead : Stmt := inClass (top 32) 5
abbrev s_Chase_place_of : Stmt := inClass (top 32) 6
abbrev s_drift_of : Stmt := top 33
abbrev s_longest_head : Stmt := top 34
abbrev s_values_behind : Stmt := top 36
abbrev s_behind_form : Stmt := top 37
abbrev s_chosen : Stmt := top 38
abbrev s_settling : Stmt := top 39
abbrev s_joined_form : Stmt := top 40
abbrev s_both_form : Stmt := top 41
abbrev s_either_form : Stmt := top 42
abbrev s_turn_form : Stmt := top 43
abbrev s_check_table : Stmt := top 45
abbrev s_Table_init : Stmt := inClass (top 46) 0
abbrev s_Table_eq : Stmt := inClass (top 46) 1
abbrev s_Table_call : Stmt := inClass (top 46) 2
abbrev s_Table_end : Stmt := inClass (top 46) 3
abbrev s_Table_rate : Stmt := inClass (top 46) 4
abbrev s_Table_steady : Stmt := inClass (top 46) 5
abbrev s_Table_shift : Stmt := inClass (top 46) 6
abbrev s_Table_mul : Stmt := inClass (top 46) 7
abbrev s_Table_and : Stmt := inClass (top 46) 8
abbrev s_Table_or : Stmt := inClass (top 46) 9
abbrev s_Table_invert : Stmt := inClass (top 46) 10
abbrev s_Round_init : Stmt := inClass (top 48) 0
abbrev s_marks_along : Stmt := top 49
abbrev s_is_deed : Stmt := top 57
abbrev s_are_deeds : Stmt := top 58
abbrev s_are_ways : Stmt := top 59
abbrev s_check_maker : Stmt := top 60
abbrev s_are_numbers : Stmt := top 61
abbrev s_is_course : Stmt := top 62
abbrev s_check_inlet : Stmt := top 63
abbrev s_Maker_init : Stmt := inClass (top 64) 0
abbrev s_Maker_eq : Stmt := inClass (top 64) 1
abbrev s_Maker_need : Stmt := inClass (top 64) 2
abbrev s_Outlook_init : Stmt := inClass (top 66) 0
abbrev s_Outlook_stopping : Stmt := inClass (top 66) 1
abbrev s_Outlook_look : Stmt := inClass (top 66) 2
abbrev s_Outlook_better : Stmt := inClass (top 66) 3
abbrev s_Outlook_best_way : Stmt := inClass (top 66) 4
abbrev s_Outlook_ahead_of : Stmt := inClass (top 66) 5
abbrev s_Outlook_values_up_to : Stmt := inClass (top 66) 6
abbrev s_Outlook_form : Stmt := inClass (top 66) 7
abbrev s_Outlook_course : Stmt := inClass (top 66) 8
abbrev s_Outlook_others_ahead : Stmt := inClass (top 66) 9
abbrev s_least : Stmt := top 68
abbrev s_greatest : Stmt := top 69
abbrev s_check_needs : Stmt := top 70
abbrev s_shared_lap : Stmt := top 71
abbrev s_steps_to : Stmt := top 72
abbrev s_maker_of : Stmt := top 73
abbrev s__law_source : Stmt := top 75
abbrev s__law_pick : Stmt := top 76
abbrev s__law_is_integer : Stmt := top 77
abbrev s__law_is_count : Stmt := top 78
abbrev s__law_rising : Stmt := top 79
abbrev s__law_raw : Stmt := top 80
abbrev s__law_end : Stmt := top 81
abbrev s__law_at : Stmt := top 82
abbrev s__law_plain : Stmt := top 83
abbrev s__law_counts : Stmt := top 84
abbrev s__law_same : Stmt := top 85
abbrev s__law_table : Stmt := top 86
abbrev s__law_ahead : Stmt := top 87
abbrev s__law_on : Stmt := top 88
abbrev s__law_ended : Stmt := top 89
abbrev s__law_tables : Stmt := top 90
abbrev s__law_seen : Stmt := top 91
abbrev s_law : Stmt := top 92
def FS : List Str := ["len", "int", "abs", "range", "isinstance", "all", "bool", "tuple", "list", "zip", "divmod", "max", "min", "enumerate", "str", "sum", "sorted", "dict", "set", "any"]
end K28
set_option Elab.async false
set_option linter.all false
set_option maxRecDepth 100000
set_option maxHeartbeats 0
namespace K28
open PySem PySem.Spec PyProof.Rows L2 He NF RZ
def kTyB (c : Str) (K : PySem.W.Frag) : Bool := decide (PySem.W.kitOne K (.type "str") (.ref (ga K c)) = some false) && decide (PySem.W.kitOne K (.type "bool") (.ref (ga K c)) = some false)
def e0 (K : PySem.W.Frag) : Addr := He.dflAt ("Table", some "__init__") 0 K
def exms : List (Str × Str × Bool) := [("BadTables", "BadTables", true), ("TooMany", "BadTables", false), ("TooMany", "TooMany", true)]
def fn : List Adr := ([dG "shortest_lap" s_shortest_lap, dG "plain_form" s_plain_form, dG "is_integer" s_is_integer, dG "is_count" s_is_count, dG "is_row" s_is_row, dG "is_climb" s_is_climb, dG "check_table" s_check_table, dM "Table" "__init__" "Table.__init__" s_Table_init [.adr e0, .int 0], dG "end_of" s_end_of, dG "value_at" s_value_at, dM "Table" "__call__" "Table.__call__" s_Table_call [], dM "Table" "__eq__" "Table.__eq__" s_Table_eq [], dG "is_deed" s_is_deed, dG "are_deeds" s_are_deeds, dG "are_ways" s_are_ways, dG "check_maker" s_check_maker, dM "Maker" "__init__" "Maker.__init__" s_Maker_init [], dM "Round" "__init__" "Round.__init__" s_Round_init [], dG "is_pair" s_is_pair, dG "are_numbers" s_are_numbers] : List Adr) ++ ([dG "is_course" s_is_course, dG "check_inlet" s_check_inlet, dG "marks_along" s_marks_along, dM "Maker" "need" "Maker.need" s_Maker_need [], dG "_law_pick" s__law_pick, dG "_law_source" s__law_source, dG "_law_plain" s__law_plain, dG "_law_ahead" s__law_ahead, dG "_law_on" s__law_on, dG "_law_is_integer" s__law_is_integer, dG "_law_is_count" s__law_is_count, dG "_law_same" s__law_same, dG "_law_end" s__law_end, dG "_law_at" s__law_at, dM "Outlook" "better" "Outlook.better" s_Outlook_better [], dM "Outlook" "stopping" "Outlook.stopping" s_Outlook_stopping [], dM "Outlook" "__init__" "Outlook.__init__" s_Outlook_init [], dM "Outlook" "look" "Outlook.look" s_Outlook_look [], dM "Outlook" "best_way" "Outlook.best_way" s_Outlook_best_way [], dM "Outlook" "values_up_to" "Outlook.values_up_to" s_Outlook_values_up_to []] : List Adr) ++ ([dM "Outlook" "form" "Outlook.form" s_Outlook_form [], dG "least" s_least, dG "greatest" s_greatest, dG "_law_rising" s__law_rising, dG "_law_raw" s__law_raw, dG "_law_counts" s__law_counts, dG "_law_table" s__law_table, dG "_law_ended" s__law_ended, dG "_law_tables" s__law_tables, dG "check_needs" s_check_needs, dG "shared_lap" s_shared_lap, dG "steps_to" s_steps_to, dG "maker_of" s_maker_of, dG "_law_seen" s__law_seen, dG "law" s_law, dM "BadTables" "__init__" "BadTables.__init__" s_BadTables_init [], dM "TooMany" "__init__" "TooMany.__init__" s_TooMany_init []] : List Adr)
def gs : List Str := (["shortest_lap", "plain_form", "is_integer", "is_count", "is_row", "is_climb", "check_table", "end_of", "value_at", "is_deed", "are_deeds", "are_ways", "check_maker", "is_pair", "are_numbers", "is_course", "check_inlet", "marks_along", "_law_pick", "_law_source", "_law_plain", "_law_ahead", "_law_on", "_law_is_integer", "_law_is_count"] : List Str) ++ (["_law_same", "_law_end", "_law_at", "least", "greatest", "_law_rising", "_law_raw", "_law_counts", "_law_table", "_law_ended", "_law_tables", "check_needs", "shared_lap", "steps_to", "maker_of", "_law_seen", "law", "NeedforthError", "TooMany", "BadCount", "BadInlet", "BadCourse", "BadTable", "BadMaker", "BadTables"] : List Str) ++ (["Chase", "Table", "Round", "Maker", "Outlook"] : List Str)
def exL : List (PySem.W.Frag → Bool) := [namB gs FS, bltB "lcm" "math.lcm", intB "MOST_INLETS" 3, intB "MOST_WAYS" 4, intB "MOST_DEEDS" 600, intB "MOST_DEEDS_OF_SEVERAL" 24, intB "MOST_FIRST" 200, intB "MOST_THEN" 40, excKB "BadTables" "number", excKB "TooMany" "word", exmPB exms, clsB "Table", fldsB "Table" ["head", "loop", "rise"], tyB "Table", mkB "Table", callB "Table", clsB "Maker", fldsB "Maker" ["inlets", "begin", "ways"], tyB "Maker", mkB "Maker", metB "Maker" "need", eqB "Table", kTyB "Table", clsB "Round", fldsB "Round" ["taken", "marks"], mkB "Round", clsB "Outlook", fldsB "Outlook" ["most", "begin", "rounds", "giving", "shares", "taken", "lasts"], mkB "Outlook", metB "Outlook" "better", metB "Outlook" "stopping", metB "Outlook" "look", metB "Outlook" "best_way", metB "Outlook" "values_up_to", metB "Outlook" "form"]
def exB (K : PySem.W.Frag) : Bool := exL.all fun f => f K
end K28
set_option Elab.async false
set_option linter.all false
set_option maxRecDepth 100000
set_option maxHeartbeats 0
namespace K28
open PySem PySem.Spec PyProof.Rows L2 He NF
abbrev R : PySem.W.OpenRow := PySem.W.OpenLaw.row PySem.Challenge.rw_needforth_k28_whole_makers_of_tables
abbrev hk : PySem.W.Hook := hookQ 5 exB fn
def ob (s : PySem.W.SharedT) : He.AlD := obsQG 5 exB fn (HandSHeadRun.getT s)
theorem ob_eq (s : PySem.W.SharedT) : ob s = hk.obs s.abs := obsQG_eq (HandSHeadRun.getT_eq s)
def loose : List Str := (["_wall", "__name__", "NeedforthError", "TooMany", "BadCount", "BadInlet", "BadCourse", "BadTable", "BadMaker", "BadTables", "is_integer", "is_count", "is_row", "is_pair", "is_climb", "end_of", "value_at", "values_from", "many_at_most", "last_at_most", "shortest_lap", "plain_form", "settled_form", "spread", "ladder_of"] : List Str) ++ (["least_in", "first_under", "last_under", "Chase", "drift_of", "longest_head", "values_behind", "behind_form", "chosen", "settling", "joined_form", "both_form", "either_form", "turn_form", "check_table", "Table", "Round", "marks_along", "MOST_INLETS", "MOST_WAYS", "MOST_DEEDS", "MOST_DEEDS_OF_SEVERAL", "MOST_FIRST", "MOST_THEN", "is_deed"] : List Str) ++ (["are_deeds", "are_ways", "check_maker", "are_numbers", "is_course", "check_inlet", "Maker", "Outlook", "least", "greatest", "check_needs", "shared_lap", "steps_to", "maker_of", "_law_source", "_law_pick", "_law_is_integer", "_law_is_count", "_law_rising", "_law_raw", "_law_end", "_law_at", "_law_plain", "_law_counts", "_law_same"] : List Str) ++ (["_law_table", "_law_ahead", "_law_on", "_law_ended", "_law_tables", "_law_seen"] : List Str)
theorem run (w : World) : HandSHeadRun.RunEqI R (PySem.W.view R.prog [0, 92]) hk ob 12000 loose w := by
  show _ = _
  kernel_rfl
end K28
set_option Elab.async false
set_option linter.all false
set_option maxRecDepth 100000
set_option maxHeartbeats 4000000
namespace K28
open PySem PySem.Spec PyProof.Rows L2 He NF RZ NT
/-- the shortest lap of a loop -/
def spLap (K : PySem.W.Frag) : Sp := fun vs H Q _ => ∃ (a : Addr) (l : List Int) (r : Int), vs = [.ref a, .int r] ∧ SqT K H a (vI l) ∧ l ≠ [] ∧ l.length ≤ 10000 ∧ ∀ m H', LapIs l r m → Same H H' → Q (.int (m : Int)) H'
theorem sc_shortest_lap : FnScope ["loop", "rise", "following", "steps", "many", "entry", "later"] ["loop", "rise"] (defScope s_shortest_lap) := ⟨rfl, rfl, rfl, by decide +kernel, rfl, by decide +kernel, by decide +kernel⟩
theorem following_is {l : List Int} {r : Int} (hl : l ≠ []) : cutV (vI l) (some 1) none ++ [V.int (l.getD 0 0 + r)] = vI ((List.range l.length).map fun k => walk l r (k + 1)) := by
  rw [show (1 : Int) = ((1 : Nat) : Int) from rfl, cut_from]
  have hp := len_pos hl
  refine List.ext_getElem? fun k => ?_
  simp only [vI, List.getElem?_map]
  by_cases c : k + 1 < l.length
  · rw [List.getElem?_append_left (by rw [List.length_drop, List.length_map]; omega), List.getElem?_drop, List.getElem?_map, List.getElem?_range (by omega), List.getElem?_eq_getElem (show 1 + k < l.length by omega)]
    simp only [Option.map_some]
    rw [walk_i c, List.getD_eq_getElem?_getD, List.getElem?_eq_getElem c]
    simp only [Option.getD_some, Option.some.injEq, V.int.injEq]
    congr 1
    omega
  · by_cases c2 : k + 1 = l.length
    · rw [List.getElem?_append_right (by rw [List.length_drop, List.length_map]; omega), List.length_drop, List.length_map, show k - (l.length - 1) = 0 by omega, List.getElem?_range (by omega)]
      simp only [Option.map_some, List.getElem?_cons_zero]
      rw [show k + 1 = 0 + l.length by omega, walk_add hp, walk_i hp]
    · rw [List.getElem?_eq_none (by rw [List.length_append, List.length_drop, List.length_map, List.length_singleton]; omega), List.getElem?_eq_none (by rw [List.length_range]; omega)]
      rfl
theorem steps_get {l : List Int} {r : Int} {k : Nat} (h : k < l.length) : (vI (steps l r))[k]? = some (V.int (walk l r (k + 1) - l.getD k 0)) := by
  unfold steps
  simp only [vI, List.getElem?_map]
  rw [List.getElem?_range h]
  simp only [Option.map_some, sk]
  rw [walk_i h]
section
variable {P : Program} {w : World} {K : PySem.W.Frag} {mg : Str → Option Value} {base : Heap} {gs fs : List Str}
theorem ok_shortest_lap {f : Addr} {fd : FuncData} (F : FunD K "shortest_lap" "shortest_lap" (defArgs s_shortest_lap) (defBody s_shortest_lap) (defScope s_shortest_lap) [] [] f fd) (T : Txt K mg gs fs) (hfs : fs = FS) : FnOk P w K mg base CX0 1 f fd ["loop", "rise"] (spLap K) := by
  subst hfs
  refine F.ok sc_shortest_lap (fun vs H Q E h => ?_) (fun cdv A outer s H vs Q E hr h => ?_)
  · obtain ⟨a, l, r, rfl, _⟩ := h
    rfl
  · obtain ⟨a, l, r, rfl, ha, hl, hz, q⟩ := h
    have hu : (A.deeper (envOfC "shortest_lap" (defScope s_shortest_lap) s.heap.objs.size f cdv)).units + 64 < cLine := by
      have := hr.un
      omega
    have hp := len_pos hl
    refine ⟨_, PSs.nox (pss_cons (ps_set (i := 2) sc_shortest_lap.nd rfl (Or.inl rfl) (pe_op op_catA (pe_slice sl_tupA (pv 0) (po_some pe_int) po_none) (pe_tup (pa_cons (pe_op op_add (pe_ix (ixt (K := K)) (pv 0) pe_int fun _ _ => rfl) (pv 1)) pa_nil)))) (pss_cons (ps_setLc (i := 3) (own := [("entry", 5), ("later", 6)]) rfl sc_shortest_lap.nd rfl rfl (sw_true rfl rfl rfl (by decide +kernel)) (pi_zipA rfl (T.fr _ (by decide +kernel)) (pa_cons (pv 0) (pa_cons (pv 2) pa_nil))) (blkOk_by (N := ["loop", "rise", "following", "steps", "many", "entry", "later"]) (sc := defScope s_shortest_lap) (by decide +kernel)) (fun _ _ _ _ _ => by exact (pgt (K := K) (n := 2) rfl rfl (pgs_cons (pg_name (i := 5) sc_shortest_lap.nd rfl (Or.inl rfl)) (pgs_cons (pg_name (i := 6) sc_shortest_lap.nd rfl (Or.inl rfl)) pgs_nil)))) (fun _ _ _ _ _ => by exact pts_nil) (fun _ _ _ _ _ => by exact (pe_op op_sub (pv 6) (pv 5)))) (pss_cons (ps_for PassesOwn.never rfl (pi_range2 rfl (T.fr _ (by decide +kernel)) (pa_cons pe_int (pa_cons (pe_op op_add (pe_op op_fdiv (pe_callB call_len_seq rfl (T.fr _ (by decide +kernel)) boot_len (pa_cons (pv 3) pa_nil)) pe_int) pe_int) pa_nil))) (pg_name (i := 4) sc_shortest_lap.nd rfl (Or.inl rfl)) (pss_one (ps_if (PW.pt (pw_and (pt_cmpR op_eq (pe_op op_mod (pe_callB call_len_seq rfl (T.fr _ (by decide +kernel)) boot_len (pa_cons (pv 3) pa_nil)) (pv 4)) pe_int (nomark _)) (pw_and1 (pt_cmpR (op_eqD hu) (pe_slice sl_list (pv 3) (po_some (pv 4)) po_none) (pe_slice sl_list (pv 3) po_none (po_some (pe_un un_neg (pv 4)))) (nomark _))))) (pss_one (ps_ret (pv 4))) pss_nil))) (pss_one (ps_ret (pe_callB call_len_seq rfl (T.fr _ (by decide +kernel)) boot_len (pa_cons (pv 3) pa_nil))))))), ?_⟩
    refine ⟨_, rfl, _, rfl, ?_⟩
    refine slA_from (K := K) ha fun p1 H1 s1 t1 => ?_
    refine ⟨_, rfl, a, _, 0, _, rfl, rfl, NF.Same.tup s1 ha, at_int (k := 0) rfl hp, _, rfl, _, _, rfl, rfl, (by show 1 ≤ sizeLine; decide), fun p2 hp2 => ?_⟩
    refine catA_done (NF.Same.tup (NF.Same.new (Same.refl _) hp2) t1) (SqT.of upd_same) ?_ fun p3 H3 s3 t3 => ?_
    · have : (cutV (vI l) (some 1) none).length = l.length - 1 := by
        rw [show (1 : Int) = ((1 : Nat) : Int) from rfl, cut_from, List.length_drop, List.length_map]
      rw [this]
      exact Nat.le_trans (show l.length - 1 + 1 ≤ 10001 by omega) (by decide)
    rw [following_is hl] at t3
    have s03 : Same H H3 := Same.trans s1 (Same.trans (NF.Same.new (Same.refl _) hp2) s3)
    refine ⟨_, rfl, _, rfl, a, p3, _, _, rfl, Or.inr ⟨NF.Same.tup s03 ha, t3, fun D hD => ?_⟩⟩
    have hsl : (vI (steps l r)).length = l.length := by unfold steps; simp
    refine lc_zipT (by simp) (fun i G => Same H3 G ∧ G D = some (.lst ((vI (steps l r)).take i))) ⟨NF.Same.new (Same.refl _) hD, upd_same⟩ (fun i G z => ⟨NF.Same.tup (Same.trans s03 z.1) ha, NF.Same.tup z.1 t3⟩) ?_ ?_
    · rintro i x y U G hx hy ⟨hG, hD2⟩ hU
      have hi : i < l.length := by
        have := (List.getElem?_eq_some_iff.mp hx).1
        rw [List.length_map] at this
        exact this
      obtain rfl : x = V.int (l.getD i 0) := by
        rw [List.getElem?_map, List.getElem?_eq_getElem hi] at hx
        rw [List.getD_eq_getElem?_getD, List.getElem?_eq_getElem hi]
        exact (Option.some.inj hx).symm
      obtain rfl : y = V.int (walk l r (i + 1)) := by
        rw [List.getElem?_map, List.getElem?_map, List.getElem?_range hi] at hy
        exact (Option.some.inj hy).symm
      refine ⟨U, _, rfl, SqT.of upd_same, rfl, _, _, rfl, _, _, rfl, rfl, rfl, ?_⟩
      refine ⟨_, rfl, _, rfl, _, _, rfl, rfl, (vI (steps l r)).take i, ?_, ?_, ?_, ?_⟩
      · rw [upd_ne (ne_of_none hD2 hU)]
        exact hD2
      · rw [List.length_take, hsl]
        exact Nat.lt_of_le_of_lt (show min i l.length ≤ 10000 by omega) (by decide)
      · exact NF.Same.mut (NF.Same.new hG hU) hD
      · rw [upd_same, List.take_add_one, steps_get hi]
        rfl
    · rintro G ⟨hG, hD2⟩
      rw [List.length_map, List.take_of_length_le (by rw [hsl]; exact Nat.le_refl _)] at hD2
      have hlen : (vI (steps l r)).length = l.length := hsl
      refine ⟨_, rfl, D, _, rfl, Or.inl (SqL.of hD2), _, _, rfl, rfl, ⟨by decide, by decide⟩, _, _, rfl, rfl, 1, _, rfl, ⟨by decide, by decide, ?_, ?_⟩, ?_⟩
      · rw [hlen]; omega
      · rw [hlen]; omega
      have en : (((vI (steps l r)).length : Int) / 2 + 1 - 1).toNat = l.length / 2 := by rw [hlen]; omega
      have s0G : Same H G := Same.trans s03 hG
      show (fun J H1 => _) (Itr 1 (((vI (steps l r)).length : Int) / 2 + 1 - 1).toNat) G
      rw [en]
      refine for_range (lo := 1) (n := l.length / 2) (fun i σ G' => Same G G' ∧ (∀ m', 0 < m' → m' ≤ i → m' ∣ l.length → ¬ Per (walk l r) m') ∧ ∃ v : Option V, σ = [some (.ref a), some (.int r), some (.ref p3), some (.ref D), v, none, none])
        ⟨Same.refl _, fun m' h1 h2 => by omega, none, rfl⟩ ?_ ?_
      · rintro i σ G' hi ⟨hs, hno, v, rfl⟩
        have e1 : (1 : Int) + (i : Int) = ((i + 1 : Nat) : Int) := by omega
        rw [e1]
        have hD3 := hs _ _ hD2
        refine ⟨_, rfl, D, _, rfl, Or.inl (SqL.of hD3), _, rfl, _, _, rfl, rfl, (by show (0 : Int) < ((i + 1 : Nat) : Int); omega), rfl, _, rfl, ?_⟩
        have hnext : ¬ ((i + 1 ∣ l.length) ∧ Per (walk l r) (i + 1)) → (∀ m', 0 < m' → m' ≤ i + 1 → m' ∣ l.length → ¬ Per (walk l r) m') := fun hn m' h1 h2 h3 h4 => by
          by_cases c : m' ≤ i
          · exact hno m' h1 c h3 h4
          · have : m' = i + 1 := by omega
            subst this
            exact hn ⟨h3, h4⟩
        refine ite2 (fun hc => ?_) (fun hc => ?_)
        · have hd : i + 1 ∣ l.length := by
            have hc := of_decide_eq_true hc
            injection hc with hc
            rw [hlen] at hc
            have := Int.dvd_of_emod_eq_zero hc
            exact Int.natCast_dvd_natCast.mp this
          refine ⟨_, rfl, _, rfl, _, rfl, D, _, rfl, SqL.of hD3, fun q1 hq1 => ?_⟩
          have hD4 : upd G' q1 (.lst (cutV (vI (steps l r)) (some ((i + 1 : Nat) : Int)) none)) D = some (.lst (vI (steps l r))) := by
            rw [upd_ne (ne_of_none hD3 hq1)]
            exact hD3
          refine ⟨_, rfl, _, rfl, _, rfl, _, rfl, D, _, rfl, SqL.of hD4, fun q2 hq2 => ?_⟩
          have hq3 : upd (upd G' q1 (.lst (cutV (vI (steps l r)) (some ((i + 1 : Nat) : Int)) none))) q2 (.lst (cutV (vI (steps l r)) none (some (-((i + 1 : Nat) : Int))))) q1 = some (.lst (vI ((steps l r).drop (i + 1)))) := by
            rw [upd_ne (ne_of_none upd_same hq2), upd_same, cut_from, vI_drop]
          have hq4 : upd (upd G' q1 (.lst (cutV (vI (steps l r)) (some ((i + 1 : Nat) : Int)) none))) q2 (.lst (cutV (vI (steps l r)) none (some (-((i + 1 : Nat) : Int))))) q2 = some (.lst (vI ((steps l r).take (l.length - (i + 1))))) := by
            rw [upd_same, cut_toN (by omega), hlen, vI_take]
          have hsD : Same G (upd (upd G' q1 (.lst (cutV (vI (steps l r)) (some ((i + 1 : Nat) : Int)) none))) q2 (.lst (cutV (vI (steps l r)) none (some (-((i + 1 : Nat) : Int)))))) := NF.Same.new (NF.Same.new hs hq1) hq2
          refine eqL_done (SqL.of hq3) (SqL.of hq4) ⟨_, rfl, ?_⟩
          refine ite2 (fun hc2 => ?_) (fun hc2 => ?_)
          · have hper := (cond_iff hl (Nat.succ_pos i) hd).mp (of_decide_eq_true hc2)
            exact ⟨_, rfl, q (i + 1) _ (lap_prog hl (Nat.succ_pos i) (by omega) hd hper fun m' h1 h2 h3 h4 => hno m' h1 (by omega) h3 h4) (Same.trans s0G hsD)⟩
          · refine ⟨hsD, hnext fun ⟨_, h⟩ => hc2 (decide_eq_true ((cond_iff hl (Nat.succ_pos i) hd).mpr h)), _, rfl⟩
        · refine ⟨hs, hnext fun ⟨h, _⟩ => hc (decide_eq_true ?_), _, rfl⟩
          rw [hlen]
          exact congrArg V.int (Int.emod_eq_zero_of_dvd (Int.natCast_dvd_natCast.mpr h))
      · rintro σ G' ⟨hs, hno, v, rfl⟩
        refine ⟨_, rfl, D, _, rfl, Or.inl (SqL.of (hs _ _ hD2)), ?_⟩
        rw [hlen]
        exact q l.length _ (lap_whole hl hno) (Same.trans s0G hs)
end
end K28
set_option Elab.async false
set_option linter.all false
set_option maxRecDepth 100000
set_option maxHeartbeats 4000000
namespace K28
open PySem PySem.Spec PyProof.Rows L2 He NF RZ NT
/-- a tuple of two tuples of ints and an int stands at p -/
def FormAt (K : PySem.W.Frag) (H : Hp) (p : Addr) (x : List Int × List Int × Int) : Prop := ∃ a b, SqT K H p [.ref a, .ref b, .int x.2.2] ∧ SqT K H a (vI x.1) ∧ SqT K H b (vI x.2.1)
theorem FormAt.mono {K : PySem.W.Frag} {H H' : Hp} {p : Addr} {x : List Int × List Int × Int} (h : FormAt K H p x) (s : Same H H') : FormAt K H' p x := by
  obtain ⟨a, b, h1, h2, h3⟩ := h
  exact ⟨a, b, NF.Same.tup s h1, NF.Same.tup s h2, NF.Same.tup s h3⟩
def spForm (K : PySem.W.Frag) : Sp := fun vs H Q _ => ∃ (a b : Addr) (h l : List Int) (r : Int), vs = [.ref a, .ref b, .int r] ∧ SqT K H a (vI h) ∧ SqT K H b (vI l) ∧ h.length + l.length ≤ 10000 ∧ ∀ x p H', IsPlain h l r x → Same H H' → FormAt K H' p x → Q (.ref p) H'
theorem sc_plain_form : FnScope ["head", "loop", "rise", "many", "lap_rise", "entries", "left"] ["head", "loop", "rise"] (defScope s_plain_form) := ⟨rfl, rfl, rfl, by decide +kernel, rfl, by decide +kernel, by decide +kernel⟩
section
variable {P : Program} {w : World} {K : PySem.W.Frag} {mg : Str → Option Value} {base : Heap} {gs fs : List Str}
theorem ok_plain_form {f : Addr} {fd : FuncData} (F : FunD K "plain_form" "plain_form" (defArgs s_plain_form) (defBody s_plain_form) (defScope s_plain_form) [] [] f fd) (T : Txt K mg gs fs) (hfs : fs = FS) (c_shortest_lap : Cal P w K mg base 1 "shortest_lap" (spLap K)) : FnOk P w K mg base CX0 2 f fd ["head", "loop", "rise"] (spForm K) := by
  subst hfs
  refine F.ok sc_plain_form (fun vs H Q E h => ?_) (fun cdv A outer s H vs Q E hr h => ?_)
  · obtain ⟨a, b, h, l, r, rfl, _⟩ := h
    rfl
  · obtain ⟨a, b, h, l, r, rfl, ha, hb, hz, q⟩ := h
    refine ⟨_, PSs.nox (pss_cons (ps_if (pt_not (pt_truth (pv 1) (fun _ => rfl))) (pss_one (ps_ret (pe_tup (pa_cons (pv 0) (pa_cons (pe_tup pa_nil) (pa_cons pe_int pa_nil)))))) pss_nil) (pss_cons (ps_set (i := 3) sc_plain_form.nd rfl (Or.inl rfl) (pe_c c_shortest_lap hr (by decide) rfl (pa_cons (pv 1) (pa_cons (pv 2) pa_nil)))) (pss_cons (ps_set (i := 4) sc_plain_form.nd rfl (Or.inl rfl) (pe_op op_fdiv (pe_op op_mul (pv 2) (pv 3)) (pe_callB call_len_seq rfl (T.fr _ (by decide +kernel)) boot_len (pa_cons (pv 1) pa_nil)))) (pss_cons (ps_set (i := 5) sc_plain_form.nd rfl (Or.inl rfl) (pe_op op_catA (pv 0) (pe_slice sl_tupA (pv 1) po_none (po_some (pv 3))))) (pss_cons (ps_set (i := 6) sc_plain_form.nd rfl (Or.inl rfl) (pe_callB call_len_seq rfl (T.fr _ (by decide +kernel)) boot_len (pa_cons (pv 0) pa_nil))) (pss_cons (ps_while PassesOwn.never (PW.pt (pw_and (pt_cmpR op_gt (pv 6) pe_int (nomark _)) (pw_and1 (pt_cmpR op_eq (pe_op op_add (pe_ix (ixt (K := K)) (pv 5) (pe_op op_sub (pv 6) pe_int) fun _ _ => rfl) (pv 4)) (pe_ix (ixt (K := K)) (pv 5) (pe_op op_add (pe_op op_sub (pv 6) pe_int) (pv 3)) fun _ _ => rfl) (nomark _))))) (pss_one (ps_set (i := 6) sc_plain_form.nd rfl (Or.inl rfl) (pe_op op_sub (pv 6) pe_int)))) (pss_one (ps_ret (pe_tup (pa_cons (pe_slice sl_tupA (pv 5) po_none (po_some (pv 6))) (pa_cons (pe_slice sl_tupA (pv 5) (po_some (pv 6)) (po_some (pe_op op_add (pv 6) (pv 3)))) (pa_cons (pv 4) pa_nil)))))))))))), ?_⟩
    refine ⟨_, rfl, _, tru_tup hb, ?_⟩
    by_cases hl : l = []
    · subst hl
      refine iteT ?_
      refine ⟨_, rfl, (by show 0 ≤ sizeLine; decide), fun p1 hp1 => ⟨(by show 3 ≤ sizeLine; decide), fun p2 hp2 => ?_⟩⟩
      have s1 := NF.Same.new (o := .tup []) (Same.refl H) hp1
      have s2 := NF.Same.new (o := .tup [V.ref a, V.ref p1, V.int 0]) s1 hp2
      exact q (h, [], 0) p2 _ (.inl ⟨rfl, rfl⟩) s2 ⟨a, p1, SqT.of upd_same, NF.Same.tup s2 ha, SqT.of (by rw [upd_ne (ne_of_none upd_same hp2)]; exact upd_same)⟩
    · have hne : (!l.isEmpty) = true := by cases l with
        | nil => exact absurd rfl hl
        | cons _ _ => rfl
      rw [hne]
      refine iteF ?_
      have hp := len_pos hl
      refine ⟨_, rfl, _, rfl, b, l, r, rfl, hb, hl, by omega, fun m H1 hm s1 => ?_⟩
      have hle : m ≤ l.length := Nat.le_of_dvd hp hm.dvd
      obtain ⟨t, ht⟩ := hm.dvd
      have hc := per_at hl hm.pos hm.per ht.symm
      have hb1 := NF.Same.tup s1 hb
      have t0 : 0 < t := Nat.pos_of_ne_zero fun z => by rw [z, Nat.mul_zero] at ht; omega
      have hcr : r * (m : Int) / ((vI l).length : Int) = r / (t : Int) := by
        rw [vI_len]
        have hr := per_rise hl hc ht.symm
        have e : r * (m : Int) = r / (t : Int) * (l.length : Int) := by
          rw [ht, Int.natCast_mul]
          calc r * (m : Int) = (r / (t : Int) * (t : Int)) * (m : Int) := by rw [← hr]
            _ = r / (t : Int) * ((m : Int) * (t : Int)) := by rw [Int.mul_assoc, Int.mul_comm (t : Int)]
        rw [e]
        exact Int.mul_ediv_cancel _ (by omega)
      refine ⟨_, rfl, _, rfl, _, _, rfl, rfl, Or.inr ⟨by omega, by omega⟩, ?_⟩
      refine ⟨_, rfl, b, _, rfl, Or.inr hb1, _, _, rfl, rfl, ⟨by rw [vI_len]; omega, by rw [vI_len]; omega⟩, ?_⟩
      show gName 4 (V.int (r * (m : Int) / ((vI l).length : Int))) _ _ _
      rw [hcr]
      generalize hcc : r / (t : Int) = cc at hc
      refine ⟨_, rfl, _, rfl, _, rfl, _, rfl, ?_⟩
      refine slA_done (K := K) hb1 fun p2 H2 s2 t2 => ?_
      rw [cut_to, vI_take] at t2
      refine catA_done (K := K) (NF.Same.tup (Same.trans s1 s2) ha) t2 (Nat.le_trans (show (vI h).length + (vI (l.take m)).length ≤ 10000 by rw [vI_len, vI_len, List.length_take]; omega) (by decide)) fun p3 H3 s3 t3 => ?_
      rw [vI_app] at t3
      have s03 : Same H H3 := Same.trans s1 (Same.trans s2 s3)
      refine ⟨_, rfl, a, _, rfl, Or.inr (NF.Same.tup s03 ha), ?_⟩
      rw [vI_len]
      have hel : (h ++ l.take m).length = h.length + m := by rw [List.length_append, List.length_take, Nat.min_eq_left hle]
      refine ⟨fun k σ G => G = H3 ∧ k ≤ h.length ∧ cut (h ++ l.take m) m cc h.length = cut (h ++ l.take m) m cc k ∧ σ = [some (.ref a), some (.ref b), some (.int r), some (.int (m : Int)), some (.int cc), some (.ref p3), some (.int (k : Int))], ⟨h.length, rfl, Nat.le_refl _, rfl, rfl⟩, ?_⟩
      rintro k σ G ⟨rfl, hk, hcut, rfl⟩
      -- what is handed back
      have hdone : cut (h ++ l.take m) m cc k = k → (tRet (tTup (tCons (tSl (rSlA K) (tVar 5) tNoPart (tPart (tVar 6))) (tCons (tSl (rSlA K) (tVar 5) (tPart (tVar 6)) (tPart (tOp (rI0 fun i j => .int (i + j)) (tVar 6) (tVar 3)))) (tCons (tVar 4) tNil))))) { nx := fun _ H' => Q .non H', rt := Q }
          [some (.ref a), some (.ref b), some (.int r), some (.int (m : Int)), some (.int cc), some (.ref p3), some (.int (k : Int))] G := fun hk2 => by
        refine ⟨_, rfl, _, rfl, _, rfl, ?_⟩
        refine slA_done (K := K) t3 fun p4 H4 s4 t4 => ?_
        refine ⟨_, rfl, _, rfl, _, rfl, _, rfl, _, rfl, _, _, rfl, rfl, _, rfl, ?_⟩
        refine slA_done (K := K) (NF.Same.tup s4 t3) fun p5 H5 s5 t5 => ?_
        refine ⟨_, rfl, (by show 3 ≤ sizeLine; decide), fun p6 hp6 => ?_⟩
        have s6 := NF.Same.new (o := .tup [V.ref p4, V.ref p5, V.int cc]) (Same.refl H5) hp6
        have hx := plain_is (h := h) hl hm hc
        rw [hcut, hk2] at hx
        rw [cut_to, vI_take] at t4
        rw [show (k : Int) + (m : Int) = ((k + m : Nat) : Int) by omega, cut_mid (by omega) (by rw [vI_len, hel]; omega), vI_drop, vI_take, show k + m - k = m by omega] at t5
        exact q _ p6 _ hx (Same.trans s03 (Same.trans s4 (Same.trans s5 s6))) ⟨p4, p5, SqT.of upd_same, NF.Same.tup (Same.trans s5 s6) t4, NF.Same.tup s6 t5⟩
      refine ⟨_, rfl, _, _, rfl, rfl, _, rfl, ?_⟩
      refine ite2 (fun h1 => ?_) (fun h1 => ?_)
      · have k0 : 0 < k := by
          have := of_decide_eq_true h1
          omega
        obtain ⟨j, rfl⟩ : ∃ j, k = j + 1 := ⟨k - 1, by omega⟩
        have e1 : ((j + 1 : Nat) : Int) - 1 = (j : Int) := by omega
        refine ⟨_, rfl, _, rfl, _, _, rfl, rfl, p3, _, _, _, rfl, rfl, t3, at_int (k := j) e1 (by rw [hel]; omega), _, rfl, _, _, rfl, rfl, ?_⟩
        refine ⟨_, rfl, _, rfl, _, _, rfl, rfl, _, rfl, _, _, rfl, rfl, p3, _, _, _, rfl, rfl, t3, at_int (k := j + m) (by omega) (by rw [hel]; omega), rfl, _, rfl, ?_⟩
        refine ite2 (fun h2 => ?_) (fun h2 => ?_)
        · have h2' : (h ++ l.take m).getD j 0 + cc = (h ++ l.take m).getD (j + m) 0 := by
            have := of_decide_eq_true h2
            injection this
          refine ⟨fun σ' G' => G' = G ∧ σ' = [some (.ref a), some (.ref b), some (.int r), some (.int (m : Int)), some (.int cc), some (.ref p3), some (.int (j : Int))], fun σ' G' ⟨z1, z2⟩ => ⟨j, Nat.lt_succ_self j, z1, by omega, ?_, z2⟩, ?_⟩
          · rw [hcut]
            show (if (h ++ l.take m).getD j 0 + cc = (h ++ l.take m).getD (j + m) 0 then _ else _) = _
            rw [if_pos h2']
          · refine ⟨_, rfl, _, _, rfl, rfl, rfl, ?_⟩
            show _ = _
            rw [← e1]
            rfl
        · refine hdone ?_
          show (if (h ++ l.take m).getD j 0 + cc = (h ++ l.take m).getD (j + m) 0 then _ else _) = _
          rw [if_neg fun z => h2 (decide_eq_true (congrArg V.int z))]
      · have k0 : k = 0 := by
          have : ¬ (0 : Int) < (k : Int) := fun z => h1 (decide_eq_true z)
          omega
        subst k0
        exact hdone rfl
end
end K28
set_option Elab.async false
set_option linter.all false
set_option maxRecDepth 100000
set_option maxHeartbeats 4000000
namespace K28
open PySem PySem.Spec PyProof.Rows L2 He NF RZ NT
def spIsInt : Sp := fun vs H Q _ => ∃ i : Int, vs = [.int i] ∧ Q (.bl true) H
def spIsCount : Sp := fun vs H Q _ => ∃ i : Int, vs = [.int i] ∧ Q (.bl (decide (0 ≤ i))) H
def spIsRow (K : PySem.W.Frag) : Sp := fun vs H Q _ => ∃ (a : Addr) (xs : List V), vs = [.ref a] ∧ Row K H a xs ∧ ∀ H', Same H H' → Q (.bl true) H'
def spIsClimb (K : PySem.W.Frag) : Sp := fun vs H Q _ => ∃ (a : Addr) (l : List Int), vs = [.ref a] ∧ Row K H a (vI l) ∧ climbs 0 l ∧ ∀ H', Same H H' → Q (.bl true) H'
def spCheck (K : PySem.W.Frag) : Sp := fun vs H Q _ => ∃ (a b : Addr) (h l : List Int) (r : Int), vs = [.ref a, .ref b, .int r] ∧ Row K H a (vI h) ∧ Row K H b (vI l) ∧ Good h l r ∧ ∀ H', Same H H' → Q .non H'
theorem sc_is_integer : FnScope ["thing"] ["thing"] (defScope s_is_integer) := ⟨rfl, rfl, rfl, by decide +kernel, rfl, by decide +kernel, by decide +kernel⟩
theorem sc_is_count : FnScope ["thing"] ["thing"] (defScope s_is_count) := ⟨rfl, rfl, rfl, by decide +kernel, rfl, by decide +kernel, by decide +kernel⟩
theorem sc_is_row : FnScope ["thing"] ["thing"] (defScope s_is_row) := ⟨rfl, rfl, rfl, by decide +kernel, rfl, by decide +kernel, by decide +kernel⟩
theorem sc_is_climb : FnScope ["thing", "last", "entry"] ["thing"] (defScope s_is_climb) := ⟨rfl, rfl, rfl, by decide +kernel, rfl, by decide +kernel, by decide +kernel⟩
theorem sc_check_table : FnScope ["head", "loop", "rise"] ["head", "loop", "rise"] (defScope s_check_table) := ⟨rfl, rfl, rfl, by decide +kernel, rfl, by decide +kernel, by decide +kernel⟩
theorem climbs_get : ∀ {l : List Int} {lo : Int} {i : Nat}, climbs lo l → i < l.length → (if i = 0 then lo else l.getD (i - 1) 0) ≤ l.getD i 0
  | [], _, _, _, h => by simp at h
  | x :: l, lo, 0, c, _ => c.1
  | x :: l, lo, i + 1, c, h => by
    have ih := climbs_get (i := i) c.2 (by simpa using h)
    rw [if_neg (Nat.succ_ne_zero i)]
    by_cases z : i = 0
    · subst z
      simpa using ih
    · rw [if_neg z] at ih
      obtain ⟨j, rfl⟩ : ∃ j, i = j + 1 := ⟨i - 1, by omega⟩
      simpa using ih
section
variable {P : Program} {w : World} {K : PySem.W.Frag} {mg : Str → Option Value} {base : Heap} {gs fs : List Str}
theorem ok_is_integer {f : Addr} {fd : FuncData} (F : FunD K "is_integer" "is_integer" (defArgs s_is_integer) (defBody s_is_integer) (defScope s_is_integer) [] [] f fd) (T : Txt K mg gs FS) : FnOk P w K mg base CX0 1 f fd ["thing"] spIsInt := by
  refine F.ok sc_is_integer (fun vs H Q E h => ?_) (fun cdv A outer s H vs Q E hr h => ?_)
  · obtain ⟨i, rfl, _⟩ := h
    rfl
  · obtain ⟨i, rfl, q⟩ := h
    refine ⟨_, PSs.nox (pss_one (ps_ret (pe_and (pe_callB call_isi rfl (T.fr _ (by decide +kernel)) (by decide +kernel) (pa_cons (pv 0) (pa_cons (pe_bltn (v := .ty "int") rfl (T.fr _ (by decide +kernel)) (by decide +kernel) rfl) pa_nil))) (pe_one (pe_not (pe_callB call_isi rfl (T.fr _ (by decide +kernel)) (by decide +kernel) (pa_cons (pv 0) (pa_cons (pe_bltn (v := .ty "bool") rfl (T.fr _ (by decide +kernel)) (by decide +kernel) rfl) pa_nil)))))))), ?_⟩
    exact ⟨_, rfl, _, _, _, _, true, rfl, .ty "int", .base (.int i), kit_i_i K, true, rfl, _, rfl, _, _, _, _, false, rfl, .ty "bool", .base (.int i), kit_i_b K, false, rfl, q⟩
theorem ok_is_count {f : Addr} {fd : FuncData} (F : FunD K "is_count" "is_count" (defArgs s_is_count) (defBody s_is_count) (defScope s_is_count) [] [] f fd) (T : Txt K mg gs FS) (c_is_integer : Cal P w K mg base 1 "is_integer" spIsInt) : FnOk P w K mg base CX0 2 f fd ["thing"] spIsCount := by
  refine F.ok sc_is_count (fun vs H Q E h => ?_) (fun cdv A outer s H vs Q E hr h => ?_)
  · obtain ⟨i, rfl, _⟩ := h
    rfl
  · obtain ⟨i, rfl, q⟩ := h
    refine ⟨_, PSs.nox (pss_one (ps_ret (pe_and (pe_c c_is_integer hr (by decide) rfl (pa_cons (pv 0) pa_nil)) (pe_one (pe_cmpR op_ge (pv 0) pe_int (nomark _)))))), ?_⟩
    exact ⟨_, rfl, i, rfl, true, rfl, _, rfl, _, _, rfl, rfl, q⟩
theorem ok_is_row {f : Addr} {fd : FuncData} (F : FunD K "is_row" "is_row" (defArgs s_is_row) (defBody s_is_row) (defScope s_is_row) [] [] f fd) (T : Txt K mg gs FS) : FnOk P w K mg base CX0 1 f fd ["thing"] (spIsRow K) := by
  refine F.ok sc_is_row (fun vs H Q E h => ?_) (fun cdv A outer s H vs Q E hr h => ?_)
  · obtain ⟨a, xs, rfl, _⟩ := h
    rfl
  · obtain ⟨a, xs, rfl, ha, q⟩ := h
    refine ⟨_, PSs.nox (pss_one (ps_ret (pe_callB call_isiT rfl (T.fr _ (by decide +kernel)) (by decide +kernel) (pa_cons (pv 0) (pa_cons (pe_tup (pa_cons (pe_bltn (v := .ty "tuple") rfl (T.fr _ (by decide +kernel)) (by decide +kernel) rfl) (pa_cons (pe_bltn (v := .ty "list") rfl (T.fr _ (by decide +kernel)) (by decide +kernel) rfl) pa_nil))) pa_nil))))), ?_⟩
    refine ⟨_, rfl, (by show 2 ≤ sizeLine; decide), fun p hp => ?_⟩
    have s1 := NF.Same.new (o := .tup [V.ty "tuple", V.ty "list"]) (Same.refl H) hp
    rcases ha.mono s1 with h | h
    · exact ⟨_, p, _, _, _, true, rfl, upd_same, .cons (.ty _) (.cons (.ty _) .nil), tyx_lst h, kit_l_tl K, q _ s1⟩
    · exact ⟨_, p, _, _, _, true, rfl, upd_same, .cons (.ty _) (.cons (.ty _) .nil), tyx_tup h, kit_t_tl K, q _ s1⟩
theorem ok_is_climb {f : Addr} {fd : FuncData} (F : FunD K "is_climb" "is_climb" (defArgs s_is_climb) (defBody s_is_climb) (defScope s_is_climb) [] [] f fd) (T : Txt K mg gs FS) (c_is_row : Cal P w K mg base 1 "is_row" (spIsRow K)) (c_is_integer : Cal P w K mg base 1 "is_integer" spIsInt) : FnOk P w K mg base CX0 2 f fd ["thing"] (spIsClimb K) := by
  refine F.ok sc_is_climb (fun vs H Q E h => ?_) (fun cdv A outer s H vs Q E hr h => ?_)
  · obtain ⟨a, l, rfl, _⟩ := h
    rfl
  · obtain ⟨a, l, rfl, ha, hc, q⟩ := h
    refine ⟨_, PSs.nox (pss_cons (ps_if (pt_not (pt_val (pe_c c_is_row hr (by decide) rfl (pa_cons (pv 0) pa_nil)))) (pss_one (ps_ret pe_bl)) pss_nil) (pss_cons (ps_set (i := 1) sc_is_climb.nd rfl (Or.inl rfl) pe_int) (pss_cons (ps_for PassesOwn.never rfl (pi_row (pv 0)) (pg_name (i := 2) sc_is_climb.nd rfl (Or.inl rfl)) (pss_cons (ps_if (PW.pt (pw_or (pt_not (pt_val (pe_c c_is_integer hr (by decide) rfl (pa_cons (pv 2) pa_nil)))) (pw_or1 (pt_cmpR op_lt (pv 2) (pv 1) (nomark _))))) (pss_one (ps_ret pe_bl)) pss_nil) (pss_one (ps_set (i := 1) sc_is_climb.nd rfl (Or.inl rfl) (pv 2))))) (pss_one (ps_ret pe_bl))))), ?_⟩
    refine ⟨_, rfl, a, _, rfl, ha, fun H1 s1 => ⟨true, rfl, iteF ?_⟩⟩
    refine ⟨_, rfl, a, rfl, ?_⟩
    refine for_row (ha.mono s1) (fun i σ G => Same H1 G ∧ ∃ v : Option V, σ = [some (.ref a), some (.int (if i = 0 then 0 else l.getD (i - 1) 0)), v]) ⟨Same.refl _, none, rfl⟩ (fun i σ G z => z.1) ?_ ?_
    · rintro i x σ G hx ⟨s2, v, rfl⟩
      have hi : i < l.length := by
        have := (List.getElem?_eq_some_iff.mp hx).1
        rw [List.length_map] at this
        exact this
      obtain rfl : x = V.int (l.getD i 0) := by
        rw [List.getElem?_map, List.getElem?_eq_getElem hi] at hx
        rw [List.getD_eq_getElem?_getD, List.getElem?_eq_getElem hi]
        exact (Option.some.inj hx).symm
      have hle := climbs_get hc hi
      refine ⟨_, rfl, _, rfl, true, rfl, iteF ⟨_, rfl, _, rfl, _, _, rfl, rfl, false, congrArg V.bl (decide_eq_false (by omega)), iteF ?_⟩⟩
      refine ⟨_, rfl, s2, some (V.int (l.getD i 0)), ?_⟩
      rw [if_neg (Nat.succ_ne_zero i)]
      rfl
    · rintro σ G ⟨s2, v, rfl⟩
      exact q _ (Same.trans s1 s2)
theorem ok_check_table {f : Addr} {fd : FuncData} (F : FunD K "check_table" "check_table" (defArgs s_check_table) (defBody s_check_table) (defScope s_check_table) [] [] f fd) (T : Txt K mg gs FS) (c_is_climb : Cal P w K mg base 2 "is_climb" (spIsClimb K)) (c_is_count : Cal P w K mg base 2 "is_count" spIsCount) : FnOk P w K mg base CX0 3 f fd ["head", "loop", "rise"] (spCheck K) := by
  refine F.ok sc_check_table (fun vs H Q E h => ?_) (fun cdv A outer s H vs Q E hr h => ?_)
  · obtain ⟨a, b, h, l, r, rfl, _⟩ := h
    rfl
  · obtain ⟨a, b, h, l, r, rfl, ha, hb, hg, q⟩ := h
    refine ⟨_, PSs.nox (pss_cons (ps_if (pt_not (pt_val (pe_c c_is_climb hr (by decide) rfl (pa_cons (pv 0) pa_nil)))) (pss_one ps_never) pss_nil) (pss_cons (ps_if (PW.pt (pw_or (pt_not (pt_val (pe_c c_is_climb hr (by decide) rfl (pa_cons (pv 1) pa_nil)))) (pw_or1 (PW.pt (pw_and (pt_truth (pv 1) (fun _ => rfl)) (pw_and (pt_truth (pv 0) (fun _ => rfl)) (pw_and1 (pt_cmpR op_lt (pe_ix (ixs (K := K)) (pv 1) pe_int fun _ _ => rfl) (pe_ix (ixs (K := K)) (pv 0) (pe_un un_neg pe_int) fun _ _ => rfl) (nomark _))))))))) (pss_one ps_never) pss_nil) (pss_one (ps_if (PW.pt (pw_or (pt_not (pt_val (pe_c c_is_count hr (by decide) rfl (pa_cons (pv 2) pa_nil)))) (pw_or (PW.pt (pw_and (pt_not (pt_truth (pv 1) (fun _ => rfl))) (pw_and1 (pt_cmpR op_ne (pv 2) pe_int (nomark _))))) (pw_or1 (PW.pt (pw_and (pt_truth (pv 1) (fun _ => rfl)) (pw_and1 (pt_cmpR op_gt (pe_ix (ixs (K := K)) (pv 1) (pe_un un_neg pe_int) fun _ _ => rfl) (pe_op op_add (pe_ix (ixs (K := K)) (pv 1) pe_int fun _ _ => rfl) (pv 2)) (nomark _))))))))) (pss_one ps_never) pss_nil)))), ?_⟩
    refine ⟨_, rfl, a, h, rfl, ha, hg.hd, fun H1 s1 => ⟨true, rfl, iteF ?_⟩⟩
    refine ⟨_, rfl, b, l, rfl, hb.mono s1, hg.lp, fun H2 s2 => ⟨true, rfl, iteF ?_⟩⟩
    have s02 := Same.trans s1 s2
    have ha2 := ha.mono s02
    have hb2 := hb.mono s02
    -- the rise
    have hrise : (tIfS (tOr (tNot (tB (tCall spIsCount [] E0 (tCons (tVar 2) tNil)))) (tOr (tAnd (tNot (fun σ H Q => tVar 1 σ H fun x H' => ∃ k, TruV K x H' k ∧ Q k H')) (tTest (tOp rNe (tVar 2) (tC (.int 0)))))
        (tAnd (fun σ H Q => tVar 1 σ H fun x H' => ∃ k, TruV K x H' k ∧ Q k H') (tTest (tOp (rI0 fun i j => .bl (decide (j < i))) (tOp (rIx K) (tVar 1) (tUn (rU fun i => .int (-i)) (tC (.int 1)))) (tOp (rI0 fun i j => .int (i + j)) (tOp (rIx K) (tVar 1) (tC (.int 0))) (tVar 2)))))))
        tNever tNext) { nx := fun _ H' => Q .non H', rt := Q } (start ["head", "loop", "rise"] [.ref a, .ref b, .int r]) H2 := by
      refine ⟨_, rfl, r, rfl, decide (0 ≤ r), rfl, ?_⟩
      rw [decide_eq_true hg.r0]
      refine iteF ?_
      refine ⟨_, rfl, _, tru_row hb2, ?_⟩
      by_cases hl : l = []
      · have hl2 : (!l.isEmpty) = false := by rw [hl]; rfl
        rw [hl2]
        refine iteT ⟨_, rfl, rfl, false, ?_, iteF ⟨_, rfl, _, tru_row hb2, ?_⟩⟩
        · rw [hg.rl hl]; rfl
        · rw [hl2]
          exact iteF (iteF (q _ s02))
      · have hl2 : (!l.isEmpty) = true := by cases l with
          | nil => exact absurd rfl hl
          | cons _ _ => rfl
        rw [hl2]
        refine iteF (iteF ⟨_, rfl, _, tru_row hb2, ?_⟩)
        rw [hl2]
        refine iteT ⟨_, rfl, _, rfl, ix_done hb2 (at_last (len_pos hl)) ⟨_, rfl, ix_done hb2 (at_int (k := 0) rfl (len_pos hl)) ⟨_, rfl, _, _, rfl, rfl, _, _, rfl, rfl, false, congrArg V.bl (decide_eq_false ?_), iteF (q _ s02)⟩⟩⟩
        have := hg.last hl
        omega
    refine ⟨_, rfl, _, tru_row hb2, ?_⟩
    by_cases hl : l = []
    · have hl2 : (!l.isEmpty) = false := by rw [hl]; rfl
      rw [hl2]
      exact iteF (iteF hrise)
    · have hl2 : (!l.isEmpty) = true := by cases l with
        | nil => exact absurd rfl hl
        | cons _ _ => rfl
      rw [hl2]
      refine iteT ⟨_, rfl, _, tru_row ha2, ?_⟩
      by_cases hh : h = []
      · have hh2 : (!h.isEmpty) = false := by rw [hh]; rfl
        rw [hh2]
        exact iteF (iteF hrise)
      · have hh2 : (!h.isEmpty) = true := by cases h with
          | nil => exact absurd rfl hh
          | cons _ _ => rfl
        rw [hh2]
        refine iteT ⟨_, rfl, ?_⟩
        refine ix_done hb2 (at_int (k := 0) rfl (len_pos hl)) ⟨_, rfl, _, rfl, ix_done ha2 (at_last (len_pos hh)) ⟨_, _, rfl, rfl, false, congrArg V.bl (decide_eq_false ?_), iteF hrise⟩⟩
        have := hg.join hh hl
        omega
end
end K28
set_option Elab.async false
set_option linter.all false
set_option maxRecDepth 100000
set_option maxHeartbeats 4000000
namespace K28
open PySem PySem.Spec PyProof.Rows L2 He NF RZ NT
/-- a table is told -/
def spInit (K : PySem.W.Frag) (C : Addr) : Sp := fun vs H Q _ => ∃ (x dx a b : Addr) (h l : List Int) (r : Int), vs = [.ref x, .ref a, .ref b, .int r] ∧ H x = some (.ins C dx []) ∧ Row K H a (vI h) ∧ Row K H b (vI l) ∧ Good h l r ∧ h.length + l.length ≤ 10000 ∧
  ∀ y H', IsPlain h l r y → Same (wo H x) H' → TabAt K C H' x y → Q .non H'
theorem sc_Table___init__ : FnScope ["self", "head", "loop", "rise"] ["self", "head", "loop", "rise"] (defScope s_Table_init) := ⟨rfl, rfl, rfl, by decide +kernel, rfl, by decide +kernel, by decide +kernel⟩
theorem tf_eq (a b : Addr) (r : Int) : putF "rise" (.int r) (putF "loop" (.ref b) (putF "head" (.ref a) [])) = tf a b r := by rfl
theorem few1 (a : V) : (putF "head" a []).length < 1000 := show 1 < 1000 by decide
theorem few2 (a b : V) : (putF "loop" b (putF "head" a [])).length < 1000 := show 2 < 1000 by decide
section
variable {P : Program} {w : World} {K : PySem.W.Frag} {mg : Str → Option Value} {base : Heap} {gs fs : List Str}
theorem ok_Table_init {C : Addr} {dvs : List V} {f : Addr} {fd : FuncData} (F : FunD K "__init__" "Table.__init__" (defArgs s_Table_init) (defBody s_Table_init) (defScope s_Table_init) dvs [] f fd) (T : Txt K mg gs FS) (hc : Cls K C) (n1 : NoAttr K C "head") (n2 : NoAttr K C "loop") (n3 : NoAttr K C "rise") (c_check_table : Cal P w K mg base 3 "check_table" (spCheck K)) (c_plain_form : Cal P w K mg base 2 "plain_form" (spForm K)) : FnOk P w K mg base CX0 4 f fd ["self", "head", "loop", "rise"] (spInit K C) := by
  refine F.ok sc_Table___init__ (fun vs H Q E h => ?_) (fun cdv A outer s H vs Q E hr h => ?_)
  · obtain ⟨x, dx, a, b, h, l, r, rfl, _⟩ := h
    rfl
  · obtain ⟨x, dx, a, b, h, l, r, rfl, hx, ha, hb, hg, hz, q⟩ := h
    refine ⟨_, PSs.nox (pss_cons (ps_expr (pe_c c_check_table hr (by decide) rfl (pa_cons (pv 1) (pa_cons (pv 2) (pa_cons (pv 3) pa_nil))))) (pss_one (ps_asg (pe_c c_plain_form hr (by decide) rfl (pa_cons (pe_callTy cr_tup rfl (T.fr _ (by decide +kernel)) (by decide +kernel) (pa_cons (pv 1) pa_nil)) (pa_cons (pe_callTy cr_tup rfl (T.fr _ (by decide +kernel)) (by decide +kernel) (pa_cons (pv 2) pa_nil)) (pa_cons (pv 3) pa_nil)))) (pgt (K := K) (n := 3) rfl rfl (pgs_cons (pg_fld (pv 0)) (pgs_cons (pg_fld (pv 0)) (pgs_cons (pg_fld (pv 0)) pgs_nil))))))), ?_⟩
    refine ⟨_, rfl, _, rfl, _, rfl, a, b, h, l, r, rfl, ha, hb, hg, fun H1 s1 => ?_⟩
    refine ⟨_, rfl, a, _, rfl, ha.mono s1, fun p1 H2 s2 t1 => ?_⟩
    refine ⟨_, rfl, b, _, rfl, hb.mono (Same.trans s1 s2), fun p2 H3 s3 t2 => ?_⟩
    refine ⟨_, rfl, p1, p2, h, l, r, rfl, NF.Same.tup s3 t1, t2, hz, fun y p H4 hy s4 fo => ?_⟩
    obtain ⟨u, v, f1, f2, f3⟩ := fo
    have s04 : Same H H4 := Same.trans s1 (Same.trans s2 (Same.trans s3 s4))
    have x4 := s04 _ _ hx
    refine ⟨p, _, rfl, f1, rfl, ?_⟩
    refine ⟨_, _, rfl, _, rfl, x, C, dx, _, rfl, x4, hc, n1, by decide, ?_⟩
    refine ⟨_, _, rfl, _, rfl, x, C, dx, _, rfl, upd_same, hc, n2, few1 _, ?_⟩
    refine ⟨_, _, rfl, _, rfl, x, C, dx, _, rfl, upd_same, hc, n3, few2 _ _, ?_⟩
    refine ⟨rfl, ?_⟩
    refine q y _ hy ?_ ⟨dx, u, v, ?_, ?_, ?_⟩
    · exact Same.put (Same.put (Same.put (Same.trans wo_same' s04) wo_none) wo_none) wo_none
    · rw [upd_same, ← tf_eq]
    · exact SqT.put (SqT.put (SqT.put f2 x4 trivial) upd_same trivial) upd_same trivial
    · exact SqT.put (SqT.put (SqT.put f3 x4 trivial) upd_same trivial) upd_same trivial
end
end K28
set_option Elab.async false
set_option linter.all false
set_option maxRecDepth 100000
set_option maxHeartbeats 4000000
namespace K28
open PySem PySem.Spec PyProof.Rows L2 He NF RZ NT
/-- what the class of tables is -/
structure TabC (K : PySem.W.Frag) (C : Addr) : Prop where
  cl : Cls K C
  hd : NoAttr K C "head"
  lp : NoAttr K C "loop"
  ri : NoAttr K C "rise"
  ac : PySem.W.findIn K (.ref C) "__class__" = some (some (.builtin "object.__class__"))
  ag : PySem.W.specialIn K (.builtin "object.__class__") "__get__" = some (some (.builtin "getset_descriptor.__get__"))
  at_ : PySem.W.takesIn K (.builtin "object.__class__") = some true
  am : PySem.W.mroIn K C (.type "object") = some true
  self : PySem.W.kitOne K (.ref C) (.ref C) = some true
  tup : PySem.W.kitOne K (.type "tuple") (.ref C) = some false
  int : PySem.W.kitOne K (.type "int") (.ref C) = some false
  non : PySem.W.kitOne K (.type "NoneType") (.ref C) = some false
theorem TabC.ty {K : PySem.W.Frag} {C : Addr} (c : TabC K C) {H : Hp} {a dx : Addr} {fs : List (Str × V)} (h : H a = some (.ins C dx fs)) : TyX K H (.ref a) (.ref C) := .base (.ins h c.cl c.ac c.ag c.at_ c.am)
/-- what a table must be that it can be asked -/
structure Small (y : List Int × List Int × Int) : Prop where
  h : y.1.length ≤ 10000
  l : y.2.1.length ≤ 10000
  r0 : 0 ≤ y.2.2
  r1 : y.2.2 ≤ 1000000
def spEnd (K : PySem.W.Frag) (C : Addr) : Sp := fun vs H Q _ => ∃ x y, vs = [.ref x] ∧ TabAt K C H x y ∧ Q (vO (fin_ y.2.1 y.2.2)) H
def spAt (K : PySem.W.Frag) (C : Addr) : Sp := fun vs H Q _ => ∃ x y n, vs = [.ref x, vN n] ∧ TabAt K C H x y ∧ Small y ∧ ∀ H', Same H H' → Q (vO (val_ y.1 y.2.1 y.2.2 n)) H'
/-- ==: with another table, with what is none -/
def spEq (K : PySem.W.Frag) (C : Addr) : Sp := fun vs H Q _ => ∃ x y v, vs = [.ref x, v] ∧ TabAt K C H x y ∧
  ((∃ x2 y2, v = .ref x2 ∧ TabAt K C H x2 y2 ∧ Q (.bl (decide (y = y2))) H) ∨ (∃ t, TyX K H v t ∧ PySem.W.kitOne K t (.ref C) = some false ∧ Q (.bl false) H))
theorem sc_end_of : FnScope ["table"] ["table"] (defScope s_end_of) := ⟨rfl, rfl, rfl, by decide +kernel, rfl, by decide +kernel, by decide +kernel⟩
theorem sc_value_at : FnScope ["table", "n", "lap", "at"] ["table", "n"] (defScope s_value_at) := ⟨rfl, rfl, rfl, by decide +kernel, rfl, by decide +kernel, by decide +kernel⟩
theorem sc_Table___call__ : FnScope ["self", "n"] ["self", "n"] (defScope s_Table_call) := ⟨rfl, rfl, rfl, by decide +kernel, rfl, by decide +kernel, by decide +kernel⟩
theorem sc_Table_end : FnScope ["self"] ["self"] (defScope s_Table_end) := ⟨rfl, rfl, rfl, by decide +kernel, rfl, by decide +kernel, by decide +kernel⟩
theorem sc_Table___eq__ : FnScope ["self", "other"] ["self", "other"] (defScope s_Table_eq) := ⟨rfl, rfl, rfl, by decide +kernel, rfl, by decide +kernel, by decide +kernel⟩
theorem ne_nil {l : List Int} (h : l ≠ []) : (!l.isEmpty) = true := by cases l with
  | nil => exact absurd rfl h
  | cons _ _ => rfl
theorem is_nil {l : List Int} (h : l = []) : (!l.isEmpty) = false := by rw [h]; rfl
section
variable {P : Program} {w : World} {K : PySem.W.Frag} {mg : Str → Option Value} {base : Heap} {gs fs : List Str} {C : Addr}
theorem ok_end_of {f : Addr} {fd : FuncData} (F : FunD K "end_of" "end_of" (defArgs s_end_of) (defBody s_end_of) (defScope s_end_of) [] [] f fd) (T : Txt K mg gs FS) (tc : TabC K C) : FnOk P w K mg base CX0 1 f fd ["table"] (spEnd K C) := by
  refine F.ok sc_end_of (fun vs H Q E h => ?_) (fun cdv A outer s H vs Q E hr h => ?_)
  · obtain ⟨x, y, rfl, _⟩ := h
    rfl
  · obtain ⟨x, ⟨h, l, r⟩, rfl, ⟨dx, a, b, hx, ha, hb⟩, q⟩ := h
    dsimp only at hx ha hb q
    refine ⟨_, PSs.nox (pss_cons (ps_if (PW.pt (pw_or (pt_not (pt_truth (pe_fld (pv 0) rfl) (fun _ => rfl))) (pw_or1 (pt_cmpR op_gt (pe_fld (pv 0) rfl) pe_int (nomark _))))) (pss_one (ps_ret pe_non)) pss_nil) (pss_one (ps_ret (pe_ix (ixt (K := K)) (pe_fld (pv 0) rfl) (pe_un un_neg pe_int) fun _ _ => rfl)))), ?_⟩
    refine ⟨_, rfl, x, C, dx, _, _, rfl, hx, tc.cl, tc.lp, rfl, _, tru_tup hb, ?_⟩
    by_cases hl : l = []
    · rw [is_nil hl]
      refine iteT (iteT ?_)
      unfold fin_ at q
      rw [if_pos (.inl hl)] at q
      exact q
    · rw [ne_nil hl]
      refine iteF ⟨_, rfl, x, C, dx, _, _, rfl, hx, tc.cl, tc.ri, rfl, _, _, rfl, rfl, _, rfl, ?_⟩
      refine ite2 (fun h1 => ?_) (fun h1 => ?_)
      · have h2 : (0 : Int) < r := of_decide_eq_true h1
        unfold fin_ at q
        rw [if_pos (.inr h2)] at q
        exact q
      · have h2 : ¬ (0 : Int) < r := fun z => h1 (decide_eq_true z)
        unfold fin_ at q
        rw [if_neg (fun z => z.elim hl h2)] at q
        exact ⟨_, rfl, x, C, dx, _, _, rfl, hx, tc.cl, tc.lp, rfl, _, rfl, b, _, _, _, rfl, rfl, hb, at_last (len_pos hl), q⟩
theorem ok_value_at {f : Addr} {fd : FuncData} (F : FunD K "value_at" "value_at" (defArgs s_value_at) (defBody s_value_at) (defScope s_value_at) [] [] f fd) (T : Txt K mg gs FS) (tc : TabC K C) (c_end_of : Cal P w K mg base 1 "end_of" (spEnd K C)) : FnOk P w K mg base CX0 2 f fd ["table", "n"] (spAt K C) := by
  refine F.ok sc_value_at (fun vs H Q E h => ?_) (fun cdv A outer s H vs Q E hr h => ?_)
  · obtain ⟨x, y, n, rfl, _⟩ := h
    rfl
  · obtain ⟨x, ⟨h, l, r⟩, n, rfl, tb, sm, q⟩ := h
    have tb0 := tb
    obtain ⟨dx, a, b, hx, ha, hb⟩ := tb0
    dsimp only at hx ha hb q
    refine ⟨_, PSs.nox (pss_cons (ps_if (pt_cmpR op_isN (pv 1) pe_non (nomark _)) (pss_one (ps_ret (pe_c c_end_of hr (by decide) rfl (pa_cons (pv 0) pa_nil)))) pss_nil) (pss_cons (ps_if (pt_cmpR op_eq (pv 1) pe_int (nomark _)) (pss_one (ps_ret pe_int)) pss_nil) (pss_cons (ps_if (pt_cmpR op_le (pv 1) (pe_callB call_len_seq rfl (T.fr _ (by decide +kernel)) boot_len (pa_cons (pe_fld (pv 0) rfl) pa_nil)) (nomark _)) (pss_one (ps_ret (pe_ix (ixt (K := K)) (pe_fld (pv 0) rfl) (pe_op op_sub (pv 1) pe_int) fun _ _ => rfl))) pss_nil) (pss_cons (ps_if (pt_not (pt_truth (pe_fld (pv 0) rfl) (fun _ => rfl))) (pss_one (ps_ret pe_non)) pss_nil) (pss_cons (ps_asg (pe_callB call_divmod rfl (T.fr _ (by decide +kernel)) (by decide +kernel) (pa_cons (pe_op op_sub (pe_op op_sub (pv 1) (pe_callB call_len_seq rfl (T.fr _ (by decide +kernel)) boot_len (pa_cons (pe_fld (pv 0) rfl) pa_nil))) pe_int) (pa_cons (pe_callB call_len_seq rfl (T.fr _ (by decide +kernel)) boot_len (pa_cons (pe_fld (pv 0) rfl) pa_nil)) pa_nil))) (pgt (K := K) (n := 2) rfl rfl (pgs_cons (pg_name (i := 2) sc_value_at.nd rfl (Or.inl rfl)) (pgs_cons (pg_name (i := 3) sc_value_at.nd rfl (Or.inl rfl)) pgs_nil)))) (pss_one (ps_ret (pe_op op_add (pe_ix (ixt (K := K)) (pe_fld (pv 0) rfl) (pv 3) fun _ _ => rfl) (pe_op op_mul (pv 2) (pe_fld (pv 0) rfl)))))))))), ?_⟩
    cases n with
    | none => exact ⟨_, rfl, rfl, _, rfl, iteT ⟨_, rfl, x, _, rfl, tb, q _ (Same.refl H)⟩⟩
    | some n =>
      refine ⟨_, rfl, rfl, _, rfl, iteF ?_⟩
      refine ⟨_, rfl, rfl, _, rfl, ite2 (fun h1 => ?_) (fun h1 => ?_)⟩
      · have h2 : n = 0 := by
          have := of_decide_eq_true h1
          injection this with this
          omega
        subst h2
        exact q _ (Same.refl H)
      have n0 : n ≠ 0 := fun z => h1 (by rw [z]; exact decide_eq_true rfl)
      unfold val_ at q
      dsimp only at q
      rw [if_neg n0] at q
      refine ⟨_, rfl, _, rfl, x, C, dx, _, _, rfl, hx, tc.cl, tc.hd, rfl, a, _, rfl, Or.inr ha, ?_⟩
      rw [vI_len]
      refine ⟨_, _, rfl, rfl, _, rfl, ite2 (fun h1 => ?_) (fun h1 => ?_)⟩
      · have h2 : n ≤ h.length := by
          have := of_decide_eq_true h1
          omega
        unfold at_ at q
        rw [if_pos h2] at q
        exact ⟨_, rfl, x, C, dx, _, _, rfl, hx, tc.cl, tc.hd, rfl, _, rfl, _, _, rfl, rfl, a, _, _, _, rfl, rfl, ha, at_int (k := n - 1) (by omega) (by omega), q _ (Same.refl H)⟩
      have h2 : ¬ n ≤ h.length := fun z => h1 (decide_eq_true (by omega))
      refine ⟨_, rfl, x, C, dx, _, _, rfl, hx, tc.cl, tc.lp, rfl, _, tru_tup hb, ?_⟩
      by_cases hl : l = []
      · rw [is_nil hl]
        unfold at_ at q
        rw [if_neg h2, if_pos hl] at q
        exact iteT (q _ (Same.refl H))
      rw [ne_nil hl]
      have hp := len_pos hl
      have hsl := sm.l
      dsimp only at hsl
      rw [at_loop hl (by omega)] at q
      refine iteF ?_
      refine ⟨_, rfl, _, rfl, x, C, dx, _, _, rfl, hx, tc.cl, tc.hd, rfl, a, _, rfl, Or.inr ha, _, _, rfl, rfl, _, _, rfl, rfl, ?_⟩
      refine ⟨_, rfl, x, C, dx, _, _, rfl, hx, tc.cl, tc.lp, rfl, b, _, rfl, Or.inr hb, ?_⟩
      rw [vI_len, vI_len]
      refine ⟨_, _, rfl, ⟨by omega, by omega⟩, fun p hpn => ?_⟩
      have s1 := NF.Same.new (o := .tup [V.int (((n : Int) - (h.length : Int) - 1) / (l.length : Int)), V.int (((n : Int) - (h.length : Int) - 1) % (l.length : Int))]) (Same.refl H) hpn
      refine ⟨p, _, rfl, SqT.of upd_same, rfl, _, _, rfl, ?_⟩
      refine ⟨_, _, rfl, ?_⟩
      refine ⟨rfl, ?_⟩
      have hx1 := s1 _ _ hx
      have hb1 := NF.Same.tup s1 hb
      have e1 : (n : Int) - (h.length : Int) - 1 = ((n - h.length - 1 : Nat) : Int) := by omega
      have e2 : ((n : Int) - (h.length : Int) - 1) % (l.length : Int) = (((n - h.length - 1) % l.length : Nat) : Int) := by rw [e1]; rfl
      refine ⟨_, rfl, x, C, dx, _, _, rfl, hx1, tc.cl, tc.lp, rfl, _, rfl, b, _, _, _, rfl, rfl, hb1, at_int (k := (n - h.length - 1) % l.length) e2 (Nat.mod_lt _ hp), ?_⟩
      have r0 := sm.r0
      have r1 := sm.r1
      dsimp only at r0 r1
      refine ⟨_, rfl, _, rfl, x, C, dx, _, _, rfl, hx1, tc.cl, tc.ri, rfl, _, _, rfl, rfl, Or.inr ⟨by omega, by omega⟩, ?_⟩
      refine ⟨_, _, rfl, rfl, ?_⟩
      have e3 : l.getD ((n - h.length - 1) % l.length) 0 + ((n : Int) - (h.length : Int) - 1) / (l.length : Int) * r = walk l r (n - h.length - 1) := by
        unfold walk
        rw [e1, Int.mul_comm]
        rfl
      show Q (V.int _) _
      rw [e3]
      exact q _ s1
theorem ok_Table_call {f : Addr} {fd : FuncData} (F : FunD K "__call__" "Table.__call__" (defArgs s_Table_call) (defBody s_Table_call) (defScope s_Table_call) [] [] f fd) (T : Txt K mg gs FS) (c_is_count : Cal P w K mg base 2 "is_count" spIsCount) (c_value_at : Cal P w K mg base 2 "value_at" (spAt K C)) : FnOk P w K mg base CX0 3 f fd ["self", "n"] (spAt K C) := by
  refine F.ok sc_Table___call__ (fun vs H Q E h => ?_) (fun cdv A outer s H vs Q E hr h => ?_)
  · obtain ⟨x, y, n, rfl, _⟩ := h
    rfl
  · obtain ⟨x, y, n, rfl, tb, sm, q⟩ := h
    refine ⟨_, PSs.nox (pss_cons (ps_if (PW.pt (pw_and (pt_cmpR op_notN (pv 1) pe_non (nomark _)) (pw_and1 (pt_not (pt_val (pe_c c_is_count hr (by decide) rfl (pa_cons (pv 1) pa_nil))))))) (pss_one ps_never) pss_nil) (pss_one (ps_ret (pe_c c_value_at hr (by decide) rfl (pa_cons (pv 0) (pa_cons (pv 1) pa_nil)))))), ?_⟩
    cases n with
    | none => exact ⟨_, rfl, rfl, _, rfl, iteF (iteF ⟨_, rfl, _, rfl, x, y, none, rfl, tb, sm, q⟩)⟩
    | some n =>
      refine ⟨_, rfl, rfl, _, rfl, iteT ⟨_, rfl, (n : Int), rfl, true, congrArg V.bl (decide_eq_true (by omega)), iteF ?_⟩⟩
      exact ⟨_, rfl, _, rfl, x, y, some n, rfl, tb, sm, q⟩
theorem ok_Table_end {f : Addr} {fd : FuncData} (F : FunD K "end" "Table.end" (defArgs s_Table_end) (defBody s_Table_end) (defScope s_Table_end) [] [] f fd) (T : Txt K mg gs FS) (c_end_of : Cal P w K mg base 1 "end_of" (spEnd K C)) : FnOk P w K mg base CX0 2 f fd ["self"] (spEnd K C) := by
  refine F.ok sc_Table_end (fun vs H Q E h => ?_) (fun cdv A outer s H vs Q E hr h => ?_)
  · obtain ⟨x, y, rfl, _⟩ := h
    rfl
  · obtain ⟨x, y, rfl, tb, q⟩ := h
    exact ⟨_, PSs.nox (pss_one (ps_ret (pe_c c_end_of hr (by decide) rfl (pa_cons (pv 0) pa_nil)))), _, rfl, x, y, rfl, tb, q⟩
theorem ok_Table_eq {f : Addr} {fd : FuncData} (F : FunD K "__eq__" "Table.__eq__" (defArgs s_Table_eq) (defBody s_Table_eq) (defScope s_Table_eq) [] [] f fd) (T : Txt K mg gs FS) (hT : mg "Table" = some (.ref C)) (tc : TabC K C) : FnOk P w K mg base CX0 1 f fd ["self", "other"] (spEq K C) := by
  refine F.ok sc_Table___eq__ (fun vs H Q E h => ?_) (fun cdv A outer s H vs Q E hr h => ?_)
  · obtain ⟨x, y, v, rfl, _⟩ := h
    rfl
  · obtain ⟨x, ⟨h, l, r⟩, v, rfl, ⟨dx, a, b, hx, ha, hb⟩, q⟩ := h
    have hu : (A.deeper (envOfC "Table.__eq__" (defScope s_Table_eq) s.heap.objs.size f cdv)).units + 64 < cLine := by
      have := hr.un
      omega
    refine ⟨_, PSs.nox (pss_one (ps_ret (pe_and (pe_callB call_isi rfl (T.fr _ (by decide +kernel)) (by decide +kernel) (pa_cons (pv 1) (pa_cons (pe_gl hT) pa_nil))) (pe_and (pe_cmpR (op_eqD hu) (pe_fld (pv 0) rfl) (pe_fld (pv 1) rfl) (nomark _)) (pe_and (pe_cmpR (op_eqD hu) (pe_fld (pv 0) rfl) (pe_fld (pv 1) rfl) (nomark _)) (pe_one (pe_cmpR op_eq (pe_fld (pv 0) rfl) (pe_fld (pv 1) rfl) (nomark _)))))))), ?_⟩
    rcases q with ⟨x2, ⟨h2, l2, r2⟩, rfl, ⟨dx2, a2, b2, hx2, ha2, hb2⟩, q⟩ | ⟨t, ty, hk, q⟩
    · have tx := tc.ty hx2
      dsimp only at hx ha hb hx2 ha2 hb2 q
      refine ⟨_, rfl, _, _, _, _, true, rfl, .own C, tx, tc.self, true, rfl, iteT ?_⟩
      refine ⟨_, rfl, x, C, dx, _, _, rfl, hx, tc.cl, tc.hd, rfl, _, rfl, x2, C, dx2, _, _, rfl, hx2, tc.cl, tc.hd, rfl, ?_⟩
      refine eqT_done (K := K) ha ha2 ⟨_, rfl, ite2 (fun h1 => ?_) (fun h1 => ?_)⟩
      · have e1 : h = h2 := of_decide_eq_true h1
        refine ⟨_, rfl, x, C, dx, _, _, rfl, hx, tc.cl, tc.lp, rfl, _, rfl, x2, C, dx2, _, _, rfl, hx2, tc.cl, tc.lp, rfl, ?_⟩
        refine eqT_done (K := K) hb hb2 ⟨_, rfl, ite2 (fun h3 => ?_) (fun h3 => ?_)⟩
        · have e2 : l = l2 := of_decide_eq_true h3
          refine ⟨_, rfl, x, C, dx, _, _, rfl, hx, tc.cl, tc.ri, rfl, _, rfl, x2, C, dx2, _, _, rfl, hx2, tc.cl, tc.ri, rfl, rfl, ?_⟩
          have e : decide ((h, l, r) = (h2, l2, r2)) = decide (V.int r = V.int r2) := by
            subst e1 e2
            by_cases z : r = r2
            · subst z; simp
            · rw [decide_eq_false (fun y => z (by injection y with _ y; injection y)), decide_eq_false (fun y => z (by injection y))]
          rw [← e]
          exact q
        · have e2 : l ≠ l2 := fun z => h3 (decide_eq_true z)
          rw [decide_eq_false (fun y => e2 (by injection y with _ y; injection y))] at q
          exact q
      · have e1 : h ≠ h2 := fun z => h1 (decide_eq_true z)
        rw [decide_eq_false (fun y => e1 (by injection y))] at q
        exact q
    · exact ⟨_, rfl, _, _, _, _, false, rfl, .own C, ty, hk, false, rfl, iteF q⟩
end
end K28
set_option Elab.async false
set_option linter.all false
set_option maxRecDepth 100000
set_option maxHeartbeats 4000000
/-! A comprehension with two fors: the outer one, the inner one. -/
namespace NF
open PySem PySem.Spec PyProof.Rows L2
theorem pi_tupK {X : Cx} {K : PySem.W.Frag} {tg l : Expr} {tl : TE} (hl : PE X l tl) (h : X.K = K := by rfl) : PI X tg l (iTup K tl) := h ▸ pi_tup hl
theorem pi_listK {X : Cx} {K : PySem.W.Frag} {tg l : Expr} {tl : TE} (hl : PE X l tl) (h : X.K = K := by rfl) : PI X tg l (iList K tl) := h ▸ pi_list hl
theorem pe_fldK {X : Cx} {K : PySem.W.Frag} {e : Expr} {f : Str} {pos : Pos} {ta : TE} (he : PE X e ta) (hb : attributeBase e f X.env (eval e X.env) = eval e X.env) (h : X.K = K := by rfl) : PE X (.Attribute e f pos) (tFld K ta f) := h ▸ pe_fld he hb
theorem lc2_range {lo : Int} {n : Nat} {g g1 : TG} {tt tt1 : TT} {wi1 : TI} {te : TE} {vs vs1 : List Nat} {σ : L2.St} {H1 : Hp} {D : Addr} {Qd : Hp → Prop} (Pv : Nat → Hp → Prop) (h0 : Pv 0 (upd H1 D (.lst [])))
    (hs : ∀ i H, i < n → Pv i H → g (.int (lo + i)) (wipe σ vs) H fun σ2 H2 => wipe σ2 vs = wipe σ vs ∧ tt σ2 H2 fun b H3 =>
      if b = true then wi1 σ2 H3 fun J1 H4 => ∃ W1 : Nat → Nat → Hp → Prop, (∃ m, W1 0 m H4) ∧ ∀ j k H, W1 j k H →
        (J1.stop j H ∧ Pv (i + 1) H) ∨ (J1.go j H ∧ ∃ Nx1 : Hp → Prop, (∀ H', Nx1 H' → ∃ k', k' < k ∧ W1 (j + 1) k' H') ∧ ∀ x H', J1.yld j H x H' → g1 x (wipe σ2 vs1) H' fun σ3 H5 => wipe σ3 vs1 = wipe σ2 vs1 ∧ tt1 σ3 H5 fun b H6 =>
          if b = true then te σ3 H6 fun y H7 => ∃ acc, H7 D = some (.lst acc) ∧ acc.length < sizeLine ∧ Nx1 (upd H7 D (.lst (acc ++ [y]))) else Nx1 H6)
      else Pv (i + 1) H3) (hd : ∀ H, Pv n H → Qd H) :
    ∃ W : Nat → Nat → Hp → Prop, (∃ m, W 0 m (upd H1 D (.lst []))) ∧ ∀ i m H, W i m H →
      ((Itr lo n).stop i H ∧ Qd H) ∨ ((Itr lo n).go i H ∧ ∃ Nx : Hp → Prop, (∀ H', Nx H' → ∃ m', m' < m ∧ W (i + 1) m' H') ∧ ∀ x H', (Itr lo n).yld i H x H' → g x (wipe σ vs) H' fun σ2 H2 => wipe σ2 vs = wipe σ vs ∧ tt σ2 H2 fun b H3 =>
        if b = true then wi1 σ2 H3 fun J1 H4 => ∃ W1 : Nat → Nat → Hp → Prop, (∃ m, W1 0 m H4) ∧ ∀ j k H, W1 j k H →
          (J1.stop j H ∧ Nx H) ∨ (J1.go j H ∧ ∃ Nx1 : Hp → Prop, (∀ H', Nx1 H' → ∃ k', k' < k ∧ W1 (j + 1) k' H') ∧ ∀ x H', J1.yld j H x H' → g1 x (wipe σ2 vs1) H' fun σ3 H5 => wipe σ3 vs1 = wipe σ2 vs1 ∧ tt1 σ3 H5 fun b H6 =>
            if b = true then te σ3 H6 fun y H7 => ∃ acc, H7 D = some (.lst acc) ∧ acc.length < sizeLine ∧ Nx1 (upd H7 D (.lst (acc ++ [y]))) else Nx1 H6)
        else Nx H3) := by
  refine ⟨fun i m H => m = n - i ∧ i ≤ n ∧ Pv i H, ⟨n, by simp, Nat.zero_le _, h0⟩, ?_⟩
  rintro i m H ⟨rfl, hi, p⟩
  by_cases hlt : i < n
  · refine .inr ⟨hlt, Pv (i + 1), fun H' p' => ⟨n - (i + 1), by omega, rfl, hlt, p'⟩, fun x H' y => ?_⟩
    obtain ⟨e, y⟩ := y
    subst e y
    exact hs i _ hlt p
  · have e : i = n := by omega
    subst e
    exact .inl ⟨Nat.le_refl _, hd H p⟩
theorem in_it {J : It} {n : Nat} {G : Hp → Prop} {Y : Nat → Hp → V → Hp → Prop} (w : Walk J n G Y) {g : TG} {tt : TT} {te : TE} {vs : List Nat} {σ : L2.St} {H4 : Hp} {D : Addr} {Qd : Hp → Prop} (Pv : Nat → Hp → Prop) (h0 : Pv 0 H4) (hG : ∀ i H, i ≤ n → Pv i H → G H)
    (hs : ∀ i x H H', i < n → Pv i H → Y i H x H' → g x (wipe σ vs) H' fun σ2 H2 => wipe σ2 vs = wipe σ vs ∧ tt σ2 H2 fun b H3 =>
      if b = true then te σ2 H3 fun y H4 => ∃ acc, H4 D = some (.lst acc) ∧ acc.length < sizeLine ∧ Pv (i + 1) (upd H4 D (.lst (acc ++ [y]))) else Pv (i + 1) H3) (hd : ∀ H, Pv n H → Qd H) :
    ∃ W : Nat → Nat → Hp → Prop, (∃ m, W 0 m H4) ∧ ∀ i m H, W i m H →
      (J.stop i H ∧ Qd H) ∨ (J.go i H ∧ ∃ Nx : Hp → Prop, (∀ H', Nx H' → ∃ m', m' < m ∧ W (i + 1) m' H') ∧ ∀ x H', J.yld i H x H' → g x (wipe σ vs) H' fun σ2 H2 => wipe σ2 vs = wipe σ vs ∧ tt σ2 H2 fun b H3 =>
        if b = true then te σ2 H3 fun y H4 => ∃ acc, H4 D = some (.lst acc) ∧ acc.length < sizeLine ∧ Nx (upd H4 D (.lst (acc ++ [y]))) else Nx H3) := by
  refine ⟨fun i m H => m = n - i ∧ i ≤ n ∧ Pv i H, ⟨n, by simp, Nat.zero_le _, h0⟩, ?_⟩
  rintro i m H ⟨rfl, hi, p⟩
  have q := hG i H hi p
  by_cases hlt : i < n
  · exact .inr ⟨w.goes i H hlt q, Pv (i + 1), fun H' p' => ⟨n - (i + 1), by omega, rfl, hlt, p'⟩, fun x H' y => hs i x H H' hlt p (w.yields i H x H' hlt q y)⟩
  · have e : i = n := by omega
    subst e
    exact .inl ⟨w.stops H q, hd H p⟩
end NF
set_option Elab.async false
set_option linter.all false
/-! Rules within a comprehension: what is read is told by the class's K, not by the block's. -/
namespace NF
open PySem PySem.Spec PyProof.Rows L2 He RZ
theorem call_lenK {X : Cx} {K : PySem.W.Frag} (h : X.K = K := by rfl) : CallR X (.builtin "len") (fun xs H Q => ∃ p ys, xs = [.ref p] ∧ (SqL K H p ys ∨ SqT K H p ys) ∧ Q (.int ys.length) H) := h ▸ call_len_seq
theorem pt_truthK {X : Cx} {K : PySem.W.Frag} {a : Expr} {ta : TE} (ha : PE X a ta) (he : ∀ whole, isTrue a X.env whole = (do let v ← whole; standAt a.pos; holding [v] (truthy v))) (h : X.K = K := by rfl) :
    PT X a (fun σ H Q => ta σ H fun x H' => ∃ k, TruV K x H' k ∧ Q k H') := h ▸ pt_truth ha he
end NF
set_option Elab.async false
set_option linter.all false
set_option maxRecDepth 100000
set_option maxHeartbeats 4000000
namespace K28
open PySem PySem.Spec PyProof.Rows L2 He NF RZ NT
/-- what the class of makers is -/
structure MakC (K : PySem.W.Frag) (C : Addr) : Prop where
  cl : Cls K C
  ni : NoAttr K C "inlets"
  nb : NoAttr K C "begin"
  nw : NoAttr K C "ways"
  ac : PySem.W.findIn K (.ref C) "__class__" = some (some (.builtin "object.__class__"))
  ag : PySem.W.specialIn K (.builtin "object.__class__") "__get__" = some (some (.builtin "getset_descriptor.__get__"))
  at_ : PySem.W.takesIn K (.builtin "object.__class__") = some true
  am : PySem.W.mroIn K C (.type "object") = some true
  self : PySem.W.kitOne K (.ref C) (.ref C) = some true
  tup : PySem.W.kitOne K (.type "tuple") (.ref C) = some false
  int : PySem.W.kitOne K (.type "int") (.ref C) = some false
theorem MakC.ty {K : PySem.W.Frag} {C : Addr} (c : MakC K C) {H : Hp} {a dx : Addr} {fs : List (Str × V)} (h : H a = some (.ins C dx fs)) : TyX K H (.ref a) (.ref C) := .base (.ins h c.cl c.ac c.ag c.at_ c.am)
structure RouC (K : PySem.W.Frag) (C : Addr) : Prop where
  cl : Cls K C
  nt : NoAttr K C "taken"
  nm : NoAttr K C "marks"
/-- a right maker -/
structure GoodM (n : Nat) (b : List Deed) (ws : List (List Deed)) : Prop where
  n1 : 1 ≤ n
  n3 : n ≤ 3
  bd : ∀ i, some i ∈ b → i < n
  wy : ∀ v ∈ ws, v ≠ [] ∧ (v.length ≤ 24 ∨ (ws.length = 1 ∧ v.length ≤ 600)) ∧ ∀ i, some i ∈ v → i < n
  m1 : 1 ≤ ws.length
  m4 : ws.length ≤ 4
  bl : b.length ≤ 600
def okD (n : Nat) : Deed → Bool
  | none => true
  | some i => decide (i < n)
def mf (n : Nat) (pb pw : Addr) : List (Str × V) := [("inlets", .int (n : Int)), ("begin", .ref pb), ("ways", .ref pw)]
def MakAt (K : PySem.W.Frag) (C : Addr) (H : Hp) (x : Addr) (n : Nat) (b : List Deed) (ws : List (List Deed)) : Prop := ∃ dx pb pw, H x = some (.ins C dx (mf n pb pw)) ∧ SqT K H pb (b.map dV) ∧ WaysT K H pw ws
theorem MakAt.mono {K : PySem.W.Frag} {C : Addr} {H H' : Hp} {x : Addr} {n : Nat} {b : List Deed} {ws : List (List Deed)} (h : MakAt K C H x n b ws) (s : Same H H') : MakAt K C H' x n b ws := by
  obtain ⟨dx, pb, pw, h1, h2, h3⟩ := h
  exact ⟨dx, pb, pw, s _ _ h1, NF.Same.tup s h2, h3.mono s⟩
def rf (i : Nat) (ds : List Deed) (m : Addr) : List (Str × V) := [("taken", .int (took i ds : Int)), ("marks", .ref m)]
def RouAt (K : PySem.W.Frag) (C : Addr) (H : Hp) (x : Addr) (i : Nat) (ds : List Deed) : Prop := ∃ dx m, H x = some (.ins C dx (rf i ds m)) ∧ SqT K H m (vI (ahead i ds 0))
theorem RouAt.mono {K : PySem.W.Frag} {C : Addr} {H H' : Hp} {x : Addr} {i : Nat} {ds : List Deed} (h : RouAt K C H x i ds) (s : Same H H') : RouAt K C H' x i ds := by
  obtain ⟨dx, m, h1, h2⟩ := h
  exact ⟨dx, m, s _ _ h1, NF.Same.tup s h2⟩
def spDeed : Sp := fun vs H Q _ => ∃ (d : Deed) (n : Nat), vs = [dV d, .int (n : Int)] ∧ Q (.bl (okD n d)) H
def spDeeds (K : PySem.W.Frag) : Sp := fun vs H Q _ => ∃ (a : Addr) (n : Nat) (ds : List Deed), vs = [.ref a, .int (n : Int)] ∧ Row K H a (ds.map dV) ∧ (∀ i, some i ∈ ds → i < n) ∧ ds.length ≤ 10000 ∧ ∀ H', Same H H' → Q (.bl true) H'
def spWays (K : PySem.W.Frag) : Sp := fun vs H Q _ => ∃ (a : Addr) (n : Nat) (b : List Deed) (ws : List (List Deed)), vs = [.ref a, .int (n : Int)] ∧ WaysR K H a ws ∧ GoodM n b ws ∧ ∀ H', Same H H' → Q (.bl true) H'
def spCheckM (K : PySem.W.Frag) : Sp := fun vs H Q _ => ∃ (pb pw : Addr) (n : Nat) (b : List Deed) (ws : List (List Deed)), vs = [.int (n : Int), .ref pb, .ref pw] ∧ Row K H pb (b.map dV) ∧ WaysR K H pw ws ∧ GoodM n b ws ∧ ∀ H', Same H H' → Q .non H'
theorem sc_is_deed : FnScope ["thing", "inlets"] ["thing", "inlets"] (defScope s_is_deed) := ⟨rfl, rfl, rfl, by decide +kernel, rfl, by decide +kernel, by decide +kernel⟩
theorem sc_are_deeds : FnScope ["thing", "inlets", "deed"] ["thing", "inlets"] (defScope s_are_deeds) := ⟨rfl, rfl, rfl, by decide +kernel, rfl, by decide +kernel, by decide +kernel⟩
theorem sc_are_ways : FnScope ["thing", "inlets", "way"] ["thing", "inlets"] (defScope s_are_ways) := ⟨rfl, rfl, rfl, by decide +kernel, rfl, by decide +kernel, by decide +kernel⟩
theorem sc_check_maker : FnScope ["inlets", "begin", "ways", "most", "way"] ["inlets", "begin", "ways"] (defScope s_check_maker) := ⟨rfl, rfl, rfl, by decide +kernel, rfl, by decide +kernel, by decide +kernel⟩
section
variable {P : Program} {w : World} {K : PySem.W.Frag} {mg : Str → Option Value} {base : Heap} {gs fs : List Str} {C : Addr}
theorem kit_s_s (K : PySem.W.Frag) : PySem.W.kitOne K (.type "str") (.type "str") = some true := if_pos (by decide +kernel)
theorem kit_i_s (K : PySem.W.Frag) : PySem.W.kitOne K (.type "int") (.type "str") = some false := by kernel_rfl
theorem ok_is_deed {f : Addr} {fd : FuncData} (F : FunD K "is_deed" "is_deed" (defArgs s_is_deed) (defBody s_is_deed) (defScope s_is_deed) [] [] f fd) (T : Txt K mg gs FS) (c_is_count : Cal P w K mg base 2 "is_count" spIsCount) : FnOk P w K mg base CX0 3 f fd ["thing", "inlets"] spDeed := by
  refine F.ok sc_is_deed (fun vs H Q E h => ?_) (fun cdv A outer s H vs Q E hr h => ?_)
  · obtain ⟨d, n, rfl, _⟩ := h
    rfl
  · obtain ⟨d, n, rfl, q⟩ := h
    refine ⟨_, PSs.nox (pss_cons (ps_if (pt_val (pe_callB call_isi rfl (T.fr _ (by decide +kernel)) (by decide +kernel) (pa_cons (pv 0) (pa_cons (pe_bltn (v := .ty "str") rfl (T.fr _ (by decide +kernel)) (by decide +kernel) rfl) pa_nil)))) (pss_one (ps_ret (pe_cmpR op_eq (pv 0) pe_str (nomark _)))) pss_nil) (pss_one (ps_ret (pe_and (pe_c c_is_count hr (by decide) rfl (pa_cons (pv 0) pa_nil)) (pe_one (pe_cmpR op_lt (pv 0) (pv 1) (nomark _))))))), ?_⟩
    cases d with
    | none => exact ⟨_, rfl, _, _, _, _, true, rfl, .ty "str", .base (.str _), kit_s_s K, true, rfl, iteT ⟨_, rfl, rfl, q⟩⟩
    | some i =>
      refine ⟨_, rfl, _, _, _, _, false, rfl, .ty "str", .base (.int _), kit_i_s K, false, rfl, iteF ?_⟩
      refine ⟨_, rfl, (i : Int), rfl, decide (0 ≤ (i : Int)), rfl, ?_⟩
      rw [decide_eq_true (by omega)]
      refine ⟨_, rfl, _, rfl, _, _, rfl, rfl, ?_⟩
      have e : decide ((i : Int) < (n : Int)) = okD n (some i) := by
        show _ = decide (i < n)
        by_cases h : i < n
        · rw [decide_eq_true h, decide_eq_true (by omega)]
        · rw [decide_eq_false h, decide_eq_false (by omega)]
      show Q (V.bl (decide ((i : Int) < (n : Int)))) H
      rw [e]
      exact q
theorem ok_are_deeds {f : Addr} {fd : FuncData} (F : FunD K "are_deeds" "are_deeds" (defArgs s_are_deeds) (defBody s_are_deeds) (defScope s_are_deeds) [] [] f fd) (T : Txt K mg gs FS) (c_is_row : Cal P w K mg base 1 "is_row" (spIsRow K)) (c_is_deed : Cal P w K mg base 3 "is_deed" spDeed) : FnOk P w K mg base CX0 4 f fd ["thing", "inlets"] (spDeeds K) := by
  refine F.ok sc_are_deeds (fun vs H Q E h => ?_) (fun cdv A outer s H vs Q E hr h => ?_)
  · obtain ⟨a, n, ds, rfl, _⟩ := h
    rfl
  · obtain ⟨a, n, ds, rfl, ha, ok, hl, q⟩ := h
    refine ⟨_, PSs.nox (pss_one (ps_ret (pe_and (pe_c c_is_row hr (by decide) rfl (pa_cons (pv 0) pa_nil)) (pe_one (pe_callB (cr_all rfl) rfl (T.fr _ (by decide +kernel)) (by decide +kernel) (pa_cons (pe_lc (own := [("deed", 2)]) rfl sc_are_deeds.nd (pi_row (pv 0)) (blkOk_by (N := ["thing", "inlets", "deed"]) (sc := defScope s_are_deeds) (by decide +kernel)) (fun _ _ _ _ _ => by exact (pg_name (i := 2) sc_are_deeds.nd rfl (Or.inl rfl))) (fun _ _ _ _ _ => by exact pts_nil) (fun _ _ _ _ _ => by exact (pe_c c_is_deed hr (by decide) rfl (pa_cons (pv 2) (pa_cons (pv 1) pa_nil))))) pa_nil)))))), ?_⟩
    refine ⟨_, rfl, a, _, rfl, ha, fun H1 s1 => ⟨true, rfl, iteT ?_⟩⟩
    refine ⟨_, rfl, a, rfl, ?_⟩
    refine lc_row (ha.mono s1) (fun D j G => Same H1 G ∧ G D = some (.lst ((List.replicate j true).map V.bl))) (fun D hD => ⟨NF.Same.new (Same.refl H1) hD, upd_same⟩) (fun D i G _ z => z.1) ?_ ?_
    · rintro D hD j v G hv ⟨hG, hD2⟩
      have hj := (List.getElem?_eq_some_iff.mp hv).1
      rw [List.length_map] at hj
      obtain rfl : dV (ds[j]) = v := by
        rw [List.getElem?_map, List.getElem?_eq_getElem hj] at hv
        exact Option.some.inj hv
      refine ⟨rfl, _, rfl, _, rfl, ds[j], n, rfl, ?_⟩
      have e : okD n ds[j] = true := by
        cases ed : ds[j] with
        | none => rfl
        | some i => exact decide_eq_true (ok i (by rw [← ed]; exact List.getElem_mem hj))
      rw [e]
      refine ⟨_, hD2, by rw [List.length_map, List.length_replicate]; exact Nat.lt_of_lt_of_le (show j < 10000 by omega) (by decide), NF.Same.mut hG hD, ?_⟩
      rw [upd_same, List.replicate_succ', List.map_append] <;> rfl
    · rintro D hD G ⟨hG, hD2⟩
      refine ⟨D, _, rfl, SqL.of hD2, ?_⟩
      have : (List.replicate ((ds.map dV).length) true).all id = true := by
        rw [List.all_replicate]
        simp
      rw [this]
      exact q G (Same.trans s1 hG)
theorem ok_are_ways {f : Addr} {fd : FuncData} (F : FunD K "are_ways" "are_ways" (defArgs s_are_ways) (defBody s_are_ways) (defScope s_are_ways) [] [] f fd) (T : Txt K mg gs FS) (h_MOST_WAYS : mg "MOST_WAYS" = some (.int 4 tok_w)) (c_is_row : Cal P w K mg base 1 "is_row" (spIsRow K)) (c_are_deeds : Cal P w K mg base 4 "are_deeds" (spDeeds K)) : FnOk P w K mg base CX0 5 f fd ["thing", "inlets"] (spWays K) := by
  refine F.ok sc_are_ways (fun vs H Q E h => ?_) (fun cdv A outer s H vs Q E hr h => ?_)
  · obtain ⟨a, n, b, ws, rfl, _⟩ := h
    rfl
  · obtain ⟨a, n, b, ws, rfl, ⟨as, ha, hl, hw⟩, g, q⟩ := h
    have m1 := g.m1
    have m4 := g.m4
    refine ⟨_, PSs.nox (pss_cons (ps_if (PW.pt (pw_or (pt_not (pt_val (pe_c c_is_row hr (by decide) rfl (pa_cons (pv 0) pa_nil)))) (pw_or1 (pt_not (pt_chain op_le op_le pe_int (pe_callB call_len_seq rfl (T.fr _ (by decide +kernel)) boot_len (pa_cons (pv 0) pa_nil)) (pe_glob (v := .int 4) rfl h_MOST_WAYS ⟨_, rfl⟩)))))) (pss_one (ps_ret pe_bl)) pss_nil) (pss_one (ps_ret (pe_callB (cr_all rfl) rfl (T.fr _ (by decide +kernel)) (by decide +kernel) (pa_cons (pe_lc (own := [("way", 2)]) rfl sc_are_ways.nd (pi_row (pv 0)) (blkOk_by (N := ["thing", "inlets", "way"]) (sc := defScope s_are_ways) (by decide +kernel)) (fun _ _ _ _ _ => by exact (pg_name (i := 2) sc_are_ways.nd rfl (Or.inl rfl))) (fun _ _ _ _ _ => by exact pts_nil) (fun _ _ _ _ _ => by exact (pe_and (pe_c c_are_deeds hr (by decide) rfl (pa_cons (pv 2) (pa_cons (pv 1) pa_nil))) (pe_one (pe_cmpR op_gt (pe_callB (call_lenK (K := K)) rfl (T.fr _ (by decide +kernel)) boot_len (pa_cons (pv 2) pa_nil)) pe_int (nomark _)))))) pa_nil))))), ?_⟩
    refine ⟨_, rfl, a, _, rfl, ha, fun H1 s1 => ⟨true, rfl, iteF ?_⟩⟩
    refine ⟨_, rfl, a, _, rfl, ha.mono s1, ?_⟩
    rw [List.length_map, hl]
    refine ⟨_, _, rfl, rfl, _, rfl, iteT' (decide_eq_true (by omega)) ⟨_, _, rfl, rfl, _, rfl, ?_⟩⟩
    rw [show decide ((ws.length : Int) ≤ 4) = true from decide_eq_true (by omega)]
    refine iteF ?_
    refine ⟨_, rfl, a, rfl, ?_⟩
    refine lc_row (ha.mono s1) (fun D j G => Same H1 G ∧ G D = some (.lst ((List.replicate j true).map V.bl))) (fun D hD => ⟨NF.Same.new (Same.refl H1) hD, upd_same⟩) (fun D i G _ z => z.1) ?_ ?_
    · rintro D hD j v G hv ⟨hG, hD2⟩
      have hj := (List.getElem?_eq_some_iff.mp hv).1
      rw [List.length_map] at hj
      obtain rfl : V.ref (as[j]) = v := by
        rw [List.getElem?_map, List.getElem?_eq_getElem hj] at hv
        exact Option.some.inj hv
      have hjw : j < ws.length := by omega
      have hr1 := (hw j as[j] ws[j] (List.getElem?_eq_getElem hj) (List.getElem?_eq_getElem hjw)).mono (Same.trans s1 hG)
      obtain ⟨w1, w2, w3⟩ := g.wy ws[j] (List.getElem_mem hjw)
      have w0 := List.length_pos_iff.mpr w1
      refine ⟨rfl, _, rfl, _, rfl, as[j], n, ws[j], rfl, hr1, w3, by omega, fun G2 s2 => ⟨true, rfl, iteT ?_⟩⟩
      refine ⟨_, rfl, as[j], _, rfl, hr1.mono s2, _, _, rfl, rfl, ?_⟩
      rw [List.length_map]
      refine ⟨_, s2 _ _ hD2, by rw [List.length_map, List.length_replicate]; exact Nat.lt_of_lt_of_le (show j < 10000 by omega) (by decide), NF.Same.mut (Same.trans hG s2) hD, ?_⟩
      rw [upd_same, List.replicate_succ', List.map_append]
      show some (HO.lst (_ ++ [V.bl (decide ((0 : Int) < (ws[j].length : Int)))])) = _
      rw [decide_eq_true (by omega)]
      rfl
    · rintro D hD G ⟨hG, hD2⟩
      refine ⟨D, _, rfl, SqL.of hD2, ?_⟩
      have : (List.replicate ((as.map V.ref).length) true).all id = true := by
        rw [List.all_replicate]
        simp
      rw [this]
      exact q G (Same.trans s1 hG)
theorem ok_check_maker {f : Addr} {fd : FuncData} (F : FunD K "check_maker" "check_maker" (defArgs s_check_maker) (defBody s_check_maker) (defScope s_check_maker) [] [] f fd) (T : Txt K mg gs FS) (h_MOST_INLETS : mg "MOST_INLETS" = some (.int 3 tok_i)) (h_MOST_DEEDS : mg "MOST_DEEDS" = some (.int 600 tok_d)) (h_MOST_DEEDS_OF_SEVERAL : mg "MOST_DEEDS_OF_SEVERAL" = some (.int 24 tok_s)) (c_is_integer : Cal P w K mg base 1 "is_integer" spIsInt) (c_are_deeds : Cal P w K mg base 4 "are_deeds" (spDeeds K)) (c_are_ways : Cal P w K mg base 5 "are_ways" (spWays K)) : FnOk P w K mg base CX0 6 f fd ["inlets", "begin", "ways"] (spCheckM K) := by
  refine F.ok sc_check_maker (fun vs H Q E h => ?_) (fun cdv A outer s H vs Q E hr h => ?_)
  · obtain ⟨pb, pw, n, b, ws, rfl, _⟩ := h
    rfl
  · obtain ⟨pb, pw, n, b, ws, rfl, hb, hw, g, q⟩ := h
    have n1 := g.n1
    have n3 := g.n3
    have m1 := g.m1
    have m4 := g.m4
    have gb := g.bl
    refine ⟨_, PSs.nox (pss_cons (ps_if (PW.pt (pw_or (pt_not (pt_val (pe_c c_is_integer hr (by decide) rfl (pa_cons (pv 0) pa_nil)))) (pw_or1 (pt_not (pt_chain op_le op_le pe_int (pv 0) (pe_glob (v := .int 3) rfl h_MOST_INLETS ⟨_, rfl⟩)))))) (pss_one ps_never) pss_nil) (pss_cons (ps_if (pt_not (pt_val (pe_c c_are_deeds hr (by decide) rfl (pa_cons (pv 1) (pa_cons (pv 0) pa_nil))))) (pss_one ps_never) pss_nil) (pss_cons (ps_if (pt_not (pt_val (pe_c c_are_ways hr (by decide) rfl (pa_cons (pv 2) (pa_cons (pv 0) pa_nil))))) (pss_one ps_never) pss_nil) (pss_cons (ps_set (i := 3) sc_check_maker.nd rfl (Or.inl rfl) (pe_ifExp (pt_cmpR op_eq (pe_callB call_len_seq rfl (T.fr _ (by decide +kernel)) boot_len (pa_cons (pv 2) pa_nil)) pe_int (nomark _)) (pe_glob (v := .int 600) rfl h_MOST_DEEDS ⟨_, rfl⟩) (pe_glob (v := .int 24) rfl h_MOST_DEEDS_OF_SEVERAL ⟨_, rfl⟩))) (pss_one (ps_if (PW.pt (pw_or (pt_cmpR op_gt (pe_callB call_len_seq rfl (T.fr _ (by decide +kernel)) boot_len (pa_cons (pv 1) pa_nil)) (pe_glob (v := .int 600) rfl h_MOST_DEEDS ⟨_, rfl⟩) (nomark _)) (pw_or1 (pt_cmpR op_gt (pe_callB (cr_max rfl) rfl (T.fr _ (by decide +kernel)) (by decide +kernel) (pa_cons (pe_lc (own := [("way", 4)]) rfl sc_check_maker.nd (pi_row (pv 2)) (blkOk_by (N := ["inlets", "begin", "ways", "most", "way"]) (sc := defScope s_check_maker) (by decide +kernel)) (fun _ _ _ _ _ => by exact (pg_name (i := 4) sc_check_maker.nd rfl (Or.inl rfl))) (fun _ _ _ _ _ => by exact pts_nil) (fun _ _ _ _ _ => by exact (pe_callB (call_lenK (K := K)) rfl (T.fr _ (by decide +kernel)) boot_len (pa_cons (pv 4) pa_nil)))) pa_nil)) (pv 3) (nomark _))))) (pss_one ps_never) pss_nil)))))), ?_⟩
    refine ⟨_, rfl, (n : Int), rfl, true, rfl, iteF ?_⟩
    refine ⟨_, rfl, _, _, rfl, rfl, _, rfl, iteT' (decide_eq_true (by omega)) ⟨_, _, rfl, rfl, _, rfl, ?_⟩⟩
    rw [show decide ((n : Int) ≤ 3) = true from decide_eq_true (by omega)]
    refine iteF ?_
    refine ⟨_, rfl, _, rfl, pb, n, b, rfl, hb, g.bd, by omega, fun H1 s1 => ⟨true, rfl, iteF ?_⟩⟩
    refine ⟨_, rfl, _, rfl, pw, n, b, ws, rfl, hw.mono s1, g, fun H2 s2 => ⟨true, rfl, iteF ?_⟩⟩
    have s02 := Same.trans s1 s2
    obtain ⟨as, ha, hl, hws⟩ := hw.mono s02
    refine ⟨_, rfl, pw, _, rfl, ha, rfl, _, rfl, ite2 (fun c1 => ?_) (fun c1 => ?_)⟩
    all_goals
      refine ⟨_, rfl, pb, _, rfl, hb.mono s02, _, _, rfl, rfl, _, rfl, iteF' (decide_eq_false (by rw [List.length_map]; omega)) ?_⟩
      refine ⟨_, rfl, pw, rfl, ?_⟩
      refine lc_row ha (fun D j G => Same H2 G ∧ G D = some (.lst (vI ((ws.take j).map fun v => (v.length : Int))))) (fun D hD => ⟨NF.Same.new (Same.refl H2) hD, upd_same⟩) (fun D i G _ z => z.1) ?_ ?_
      · rintro D hD j v G hv ⟨hG, hD2⟩
        have hj := (List.getElem?_eq_some_iff.mp hv).1
        rw [List.length_map] at hj
        obtain rfl : V.ref (as[j]) = v := by
          rw [List.getElem?_map, List.getElem?_eq_getElem hj] at hv
          exact Option.some.inj hv
        have hjw : j < ws.length := by omega
        have hr1 := (hws j as[j] ws[j] (List.getElem?_eq_getElem hj) (List.getElem?_eq_getElem hjw)).mono hG
        refine ⟨rfl, _, rfl, as[j], _, rfl, hr1, ?_⟩
        rw [List.length_map]
        refine ⟨_, hD2, by rw [vI_len, List.length_map, List.length_take]; exact Nat.lt_of_le_of_lt (show min j ws.length ≤ 4 by omega) (by decide), NF.Same.mut hG hD, ?_⟩
        rw [upd_same, List.take_add_one, List.getElem?_eq_getElem hjw, List.map_append, ← vI_app]
        rfl
      · rintro D hD G ⟨hG, hD2⟩
        rw [List.length_map, hl, List.take_length] at hD2
        refine ⟨D, _, rfl, SqL.of hD2, by rw [List.length_map]; omega, fun m hm _ => ?_⟩
        have e1 : V.int (((as.map V.ref).length : Nat) : Int) = V.int 1 ↔ ws.length = 1 := by
          rw [List.length_map, hl]
          constructor
          · intro z
            injection z with z
            omega
          · intro z
            rw [z]
            rfl
        have m24 : m ≤ 24 ∨ (ws.length = 1 ∧ m ≤ 600) := by
          obtain ⟨v, hv, rfl⟩ := List.mem_map.mp hm
          have := (g.wy v hv).2.1
          omega
        have c2 := fun z => e1.mp (of_decide_eq_true (p := V.int (((as.map V.ref).length : Nat) : Int) = V.int 1) z)
        have c3 := fun z => decide_eq_true (p := V.int (((as.map V.ref).length : Nat) : Int) = V.int 1) (e1.mpr z)
        refine ⟨_, rfl, _, _, rfl, rfl, _, rfl, iteF' (decide_eq_false (by first | omega | (have nn : ¬ ws.length = 1 := fun z => c1 (c3 z); omega))) ?_⟩
        exact q G (Same.trans s02 hG)
end
/-- a maker is made -/
def spMkInit (K : PySem.W.Frag) (C : Addr) : Sp := fun vs H Q _ => ∃ (x dx pb pw : Addr) (n : Nat) (b : List Deed) (ws : List (List Deed)), vs = [.ref x, .int (n : Int), .ref pb, .ref pw] ∧ H x = some (.ins C dx []) ∧ Row K (wo H x) pb (b.map dV) ∧ WaysR K (wo H x) pw ws ∧ GoodM n b ws ∧
  ∀ H', Same (wo H x) H' → MakAt K C H' x n b ws → Q .non H'
def spRoInit (K : PySem.W.Frag) (C : Addr) : Sp := fun vs H Q _ => ∃ (x dx a : Addr) (i : Nat) (ds : List Deed), vs = [.ref x, .ref a, .int (i : Int)] ∧ H x = some (.ins C dx []) ∧ Row K (wo H x) a (ds.map dV) ∧ ds.length ≤ 10000 ∧
  ∀ H', Same (wo H x) H' → RouAt K C H' x i ds → Q .non H'
theorem sc_Maker___init__ : FnScope ["self", "inlets", "begin", "ways", "way"] ["self", "inlets", "begin", "ways"] (defScope s_Maker_init) := ⟨rfl, rfl, rfl, by decide +kernel, rfl, by decide +kernel, by decide +kernel⟩
theorem sc_Round___init__ : FnScope ["self", "deeds", "inlet", "taken", "marks", "deed"] ["self", "deeds", "inlet"] (defScope s_Round_init) := ⟨rfl, rfl, rfl, by decide +kernel, rfl, by decide +kernel, by decide +kernel⟩
theorem mf_eq (n : Nat) (pb pw : Addr) : putF "ways" (.ref pw) (putF "begin" (.ref pb) (putF "inlets" (.int (n : Int)) [])) = mf n pb pw := by rfl
theorem rf_eq (i : Nat) (ds : List Deed) (m : Addr) : putF "marks" (.ref m) (putF "taken" (.int (took i ds : Int)) []) = rf i ds m := by rfl
section
variable {P : Program} {w : World} {K : PySem.W.Frag} {mg : Str → Option Value} {base : Heap} {gs fs : List Str} {C : Addr}
theorem ok_Maker_init {f : Addr} {fd : FuncData} (F : FunD K "__init__" "Maker.__init__" (defArgs s_Maker_init) (defBody s_Maker_init) (defScope s_Maker_init) [] [] f fd) (T : Txt K mg gs FS) (mc : MakC K C) (c_check_maker : Cal P w K mg base 6 "check_maker" (spCheckM K)) : FnOk P w K mg base CX0 7 f fd ["self", "inlets", "begin", "ways"] (spMkInit K C) := by
  refine F.ok sc_Maker___init__ (fun vs H Q E h => ?_) (fun cdv A outer s H vs Q E hr h => ?_)
  · obtain ⟨x, dx, pb, pw, n, b, ws, rfl, _⟩ := h
    rfl
  · obtain ⟨x, dx, pb, pw, n, b, ws, rfl, hx, hb, hw, g, q⟩ := h
    refine ⟨_, PSs.nox (pss_cons (ps_expr (pe_c c_check_maker hr (by decide) rfl (pa_cons (pv 1) (pa_cons (pv 2) (pa_cons (pv 3) pa_nil))))) (pss_cons (ps_fld (pv 0) (pv 1) rfl) (pss_cons (ps_fld (pv 0) (pe_callTy cr_tup rfl (T.fr _ (by decide +kernel)) (by decide +kernel) (pa_cons (pv 2) pa_nil)) rfl) (pss_one (ps_fld (pv 0) (pe_callTy cr_tup rfl (T.fr _ (by decide +kernel)) (by decide +kernel) (pa_cons (pe_lc (own := [("way", 4)]) rfl sc_Maker___init__.nd (pi_row (pv 3)) (blkOk_by (N := ["self", "inlets", "begin", "ways", "way"]) (sc := defScope s_Maker_init) (by decide +kernel)) (fun _ _ _ _ _ => by exact (pg_name (i := 4) sc_Maker___init__.nd rfl (Or.inl rfl))) (fun _ _ _ _ _ => by exact pts_nil) (fun _ _ _ _ _ => by exact (pe_callTy (cr_tupK (K := K)) rfl (T.fr _ (by decide +kernel)) (by decide +kernel) (pa_cons (pv 4) pa_nil)))) pa_nil)) rfl))))), ?_⟩
    have hb0 := hb.mono wo_same'
    have hw0 := hw.mono wo_same'
    refine ⟨_, rfl, _, rfl, _, rfl, pb, pw, n, b, ws, rfl, hb0, hw0, g, fun H1 s1 => ?_⟩
    have sw : Same (wo H x) H1 := Same.trans wo_same' s1
    have hx1 := s1 _ _ hx
    refine ⟨_, rfl, _, rfl, x, C, dx, _, rfl, hx1, mc.cl, mc.ni, (by decide), ?_⟩
    have sw2 := NF.Same.put (o := .ins C dx (putF "inlets" (.int (n : Int)) [])) sw wo_none
    have hx2 := upd_same (H := H1) (a := x) (o := .ins C dx (putF "inlets" (.int (n : Int)) []))
    generalize upd H1 x (.ins C dx (putF "inlets" (.int (n : Int)) [])) = H2 at sw2 hx2
    refine ⟨_, rfl, pb, _, rfl, hb.mono sw2, fun p1 H3 s3 t1 => ?_⟩
    have hx3 := s3 _ _ hx2
    have sw3 := Same.trans sw2 s3
    refine ⟨_, rfl, x, C, dx, _, rfl, hx3, mc.cl, mc.nb, (show 1 < 1000 by decide), ?_⟩
    have sw4 := NF.Same.put (o := .ins C dx (putF "begin" (.ref p1) (putF "inlets" (.int (n : Int)) []))) sw3 wo_none
    have hx4 := upd_same (H := H3) (a := x) (o := .ins C dx (putF "begin" (.ref p1) (putF "inlets" (.int (n : Int)) [])))
    have t1 := SqT.put (o := .ins C dx (putF "begin" (.ref p1) (putF "inlets" (.int (n : Int)) []))) t1 hx3 trivial
    generalize upd H3 x (.ins C dx (putF "begin" (.ref p1) (putF "inlets" (.int (n : Int)) []))) = H4 at sw4 hx4 t1
    obtain ⟨as, ha, hl, hws⟩ := hw.mono sw4
    have m4 := g.m4
    refine ⟨_, rfl, pw, rfl, ?_⟩
    refine lc_row ha (fun D j G => Same H4 G ∧ ∃ bs : List Addr, bs.length = j ∧ G D = some (.lst (bs.map V.ref)) ∧ ∀ (k : Nat) (c : Addr) (v : List Deed), bs[k]? = some c → ws[k]? = some v → SqT K G c (v.map dV)) (fun D hD => ⟨NF.Same.new (Same.refl H4) hD, [], rfl, upd_same, fun k c v e => by simp at e⟩) (fun D i G _ z => z.1) ?_ ?_
    · rintro D hD j v G hv ⟨hG, bs, hbs, hD2, hts⟩
      have hj := (List.getElem?_eq_some_iff.mp hv).1
      rw [List.length_map] at hj
      obtain rfl : V.ref (as[j]) = v := by
        rw [List.getElem?_map, List.getElem?_eq_getElem hj] at hv
        exact Option.some.inj hv
      have hjw : j < ws.length := by omega
      have hr1 := (hws j as[j] ws[j] (List.getElem?_eq_getElem hj) (List.getElem?_eq_getElem hjw)).mono hG
      refine ⟨rfl, _, rfl, as[j], _, rfl, hr1, fun p G2 s2 t2 => ?_⟩
      have hD3 := s2 _ _ hD2
      refine ⟨_, hD3, by rw [List.length_map, hbs]; exact Nat.lt_of_lt_of_le (show j < 10000 by omega) (by decide), NF.Same.mut (Same.trans hG s2) hD, bs ++ [p], by simp [hbs], ?_, fun k c v e1 e2 => ?_⟩
      · rw [upd_same, List.map_append]
        rfl
      · refine SqT.put ?_ hD3 trivial
        rcases Nat.lt_trichotomy k j with h | h | h
        · rw [List.getElem?_append_left (by omega)] at e1
          exact NF.Same.tup s2 (hts k c v e1 e2)
        · subst h
          rw [List.getElem?_append_right (by omega), hbs, Nat.sub_self] at e1
          rw [List.getElem?_eq_getElem hjw] at e2
          cases e1
          cases e2
          exact t2
        · rw [List.getElem?_eq_none (by simp [hbs]; omega)] at e1
          cases e1
    · rintro D hD G ⟨hG, bs, hbs, hD2, hts⟩
      rw [List.length_map, hl] at hbs
      refine ⟨D, _, rfl, .inl (SqL.of hD2), fun p2 G2 s2 t2 => ?_⟩
      have hx5 := s2 _ _ (hG _ _ hx4)
      refine ⟨_, rfl, x, C, dx, _, rfl, hx5, mc.cl, mc.nw, (show 2 < 1000 by decide), ?_⟩
      have sw5 := NF.Same.put (o := .ins C dx (putF "ways" (.ref p2) (putF "begin" (.ref p1) (putF "inlets" (.int (n : Int)) [])))) (Same.trans sw4 (Same.trans hG s2)) wo_none
      refine q _ sw5 ⟨dx, p1, p2, ?_, SqT.put (NF.Same.tup (Same.trans hG s2) t1) hx5 trivial, bs, SqT.put t2 hx5 trivial, hbs, fun k c v e1 e2 => SqT.put (NF.Same.tup s2 (hts k c v e1 e2)) hx5 trivial⟩
      rw [upd_same, ← mf_eq]
theorem ok_Round_init {f : Addr} {fd : FuncData} (F : FunD K "__init__" "Round.__init__" (defArgs s_Round_init) (defBody s_Round_init) (defScope s_Round_init) [] [] f fd) (T : Txt K mg gs FS) (rc : RouC K C) : FnOk P w K mg base CX0 1 f fd ["self", "deeds", "inlet"] (spRoInit K C) := by
  refine F.ok sc_Round___init__ (fun vs H Q E h => ?_) (fun cdv A outer s H vs Q E hr h => ?_)
  · obtain ⟨x, dx, a, i, ds, rfl, _⟩ := h
    rfl
  · obtain ⟨x, dx, a, i, ds, rfl, hx, ha, hl, q⟩ := h
    refine ⟨_, PSs.nox (pss_cons (ps_set (i := 3) sc_Round___init__.nd rfl (Or.inl rfl) pe_int) (pss_cons (ps_set (i := 4) sc_Round___init__.nd rfl (Or.inl rfl) (pe_lst pa_nil)) (pss_cons (ps_for PassesOwn.never rfl (pi_row (pv 1)) (pg_name (i := 5) sc_Round___init__.nd rfl (Or.inl rfl)) (pss_one (ps_if (pt_cmpR op_eq (pv 5) pe_str (nomark _)) (pss_one (ps_expr (pe_bm PySem.F.plainAttrs_list PySem.F.slot_list_append PySem.F.type_list_append mt_append (pv 4) (pa_cons (pv 3) pa_nil)))) (pss_one (ps_if (pt_cmpR op_eq (pv 5) (pv 2) (nomark _)) (pss_one (ps_set (i := 3) sc_Round___init__.nd rfl (Or.inl rfl) (pe_op op_add (pv 3) pe_int))) pss_nil))))) (pss_cons (ps_fld (pv 0) (pv 3) rfl) (pss_one (ps_fld (pv 0) (pe_callTy cr_tup rfl (T.fr _ (by decide +kernel)) (by decide +kernel) (pa_cons (pv 4) pa_nil)) rfl)))))), ?_⟩
    have ha0 := ha.mono wo_same'
    refine ⟨(by show 0 ≤ sizeLine; decide), fun D hD => ?_⟩
    have s1 := NF.Same.new (o := .lst []) (Same.refl H) hD
    have hD1 := upd_same (H := H) (a := D) (o := .lst [])
    have hx1 := s1 _ _ hx
    have hDx : D ≠ x := fun z => by rw [z, hx] at hD; cases hD
    generalize upd H D (.lst []) = H1 at s1 hD1 hx1
    refine ⟨_, rfl, a, rfl, ?_⟩
    refine for_rowM ha0 (fun j σ G => Same H G ∧ G D = some (.lst (vI (ahead i (ds.take j) 0))) ∧ ∃ v : Option V, σ = [some (.ref x), some (.ref a), some (.int (i : Int)), some (.int (took i (ds.take j) : Int)), some (.ref D), v]) ⟨s1, hD1, none, rfl⟩ (fun j σ G z => z.1) ?_ ?_
    · rintro j v σ G hv ⟨sG, hG, v5, rfl⟩
      have hj := (List.getElem?_eq_some_iff.mp hv).1
      rw [List.length_map] at hj
      obtain rfl : dV (ds[j]) = v := by
        rw [List.getElem?_map, List.getElem?_eq_getElem hj] at hv
        exact Option.some.inj hv
      have et : ds.take (j + 1) = ds.take j ++ [ds[j]] := by rw [List.take_add_one, List.getElem?_eq_getElem hj]; rfl
      have al := ahead_len (i := i) (a := ds.take j) (t := 0)
      rw [List.length_take] at al
      refine ⟨_, rfl, dV_scal, _, rfl, ?_⟩
      rw [dV_give]
      generalize ds[j] = d at et
      cases d with
      | none =>
        refine iteT ?_
        refine ⟨_, rfl, .inl ⟨rfl, _, SqL.of hG⟩, _, rfl, D, _, _, rfl, rfl, hG, by rw [vI_len]; exact Nat.lt_of_le_of_lt (show (ahead i (ds.take j) 0).length ≤ 10000 by omega) (by decide), ?_⟩
        refine ⟨NF.Same.mut sG hD, ?_, some (dV none), ?_⟩
        · rw [upd_same, et, ahead_snoc, ← vI_app]
          rfl
        · rw [et, took_snoc]
          rfl
      | some k =>
        refine iteF ?_
        refine ⟨_, rfl, _, rfl, dV_scalI, _, rfl, ?_⟩
        rw [dV_int]
        refine ite2 (fun h => ?_) (fun h => ?_)
        · have h := of_decide_eq_true h
          refine ⟨_, rfl, _, _, rfl, rfl, sG, ?_, some (dV (some k)), ?_⟩
          · rw [et, ahead_snoc]
            exact hG
          · rw [et, took_snoc]
            show _ = [_, _, _, some (V.int ((if k = i then took i (ds.take j) + 1 else took i (ds.take j) : Nat) : Int)), _, _]
            rw [if_pos h]
            rfl
        · have h : ¬ k = i := fun z => h (decide_eq_true z)
          refine ⟨sG, ?_, some (dV (some k)), ?_⟩
          · rw [et, ahead_snoc]
            exact hG
          · rw [et, took_snoc]
            show _ = [_, _, _, some (V.int ((if k = i then took i (ds.take j) + 1 else took i (ds.take j) : Nat) : Int)), _, _]
            rw [if_neg h]
            rfl
    · rintro σ G ⟨sG, hG, v5, rfl⟩
      rw [List.length_map, List.take_length] at hG
      have hx2 := sG _ _ hx
      rw [List.length_map, List.take_length]
      refine ⟨_, rfl, _, rfl, x, C, dx, _, rfl, hx2, rc.cl, rc.nt, (by decide), ?_⟩
      have sw : Same (wo H x) G := Same.trans wo_same' sG
      have sw2 := NF.Same.put (o := .ins C dx (putF "taken" (.int (took i ds : Int)) [])) sw wo_none
      have hx3 := upd_same (H := G) (a := x) (o := .ins C dx (putF "taken" (.int (took i ds : Int)) []))
      have hG3 := (upd_ne (o := .ins C dx (putF "taken" (.int (took i ds : Int)) [])) hDx).trans hG
      generalize upd G x (.ins C dx (putF "taken" (.int (took i ds : Int)) [])) = H3 at sw2 hx3 hG3
      refine ⟨_, rfl, D, _, rfl, .inl (SqL.of hG3), fun p1 H4 s4 t1 => ?_⟩
      have hx4 := s4 _ _ hx3
      refine ⟨_, rfl, x, C, dx, _, rfl, hx4, rc.cl, rc.nm, (show 1 < 1000 by decide), ?_⟩
      refine q _ (NF.Same.put (Same.trans sw2 s4) wo_none) ⟨dx, p1, ?_, SqT.put t1 hx4 trivial⟩
      rw [upd_same, ← rf_eq]
end
end K28
set_option Elab.async false
set_option linter.all false
set_option maxRecDepth 100000
set_option maxHeartbeats 4000000
/-! x != i: an instance of a class with an own == and no != of its own, and an int. -/
namespace NF
open PySem PySem.Spec PyProof.Rows L2 He RZ
section
variable {prog : Program} {w : World} {A : Around} {E : Value → Shared → Prop} {h : Heap} {g : Array GenState} {d : Drawn} {t : Nat} {os : OsState} {C x f : Addr} {b : Value} {B : String} {bm : List Value}
theorem ne_entry_any (X : h.OwnEqNoNe x C f B bm) (room : A.units < cLine) {Q : Fin → Shared → Prop} (run : wpAny (model prog w) A (call (.ref f) [.ref x, b]) (fun r z => ∃ k, r = .bool k ∧ Q (.done (.ret (.bool (!k)))) z) E ⟨h, g, d, t, os⟩) :
    wpAny (model prog w) A (Builtin.«object.__ne__» ⟨[.ref x, b], []⟩) Q E ⟨h, g, d, t, os⟩ := by
  have after : ∀ (r : Value) (z : Shared), (∃ k, r = .bool k ∧ Q (.done (.ret (.bool (!k)))) z) → ∃ k, r = .bool k ∧ Q (.done (.ret (.bool (!k)))) z := fun _ _ q => q
  unfold Builtin.«object.__ne__»
  repeat (first | with_reducible refine wpAny_cRoomFor room ?_ | (refine wpAny_bind (m := callSpecialIfBound? (.ref x) (Str.ofString "__eq__") [b]) (wpAny_callSpecialIfBound?_own X.ownEq (wpAny_mono run (fun r z hz => by
    obtain ⟨k, rfl, q⟩ := hz
    repeat (first | exact q | exact wpAny_pure q | exact wpAny_truthy_bool q | (refine wpAny_bind (m := truthy (.bool _)) (wpAny_truthy_bool ?_)) | wp_step)) fun _ _ e => e))) | wp_step)
theorem try_ne_any (FB : CmpFacts B bm) (X : h.OwnEqNoNe x C f B bm) (room : A.units + 1 < cLine) {Q : Option Value → Shared → Prop} (run : wpAny (model prog w) A.in1 (call (.ref f) [.ref x, b]) (fun r z => ∃ k, r = .bool k ∧ Q (some (.bool (!k))) z) E ⟨h, g, d, t, os⟩) :
    wpAny (model prog w) A (tryCompare (.ref x) "__ne__" b) Q E ⟨h, g, d, t, os⟩ := by
  obtain ⟨ox, of, nm, qn, N, bs, hd, sn, sub, ab, col, dd, k0, k1, k2, k3, k5, nid, mN, yv, e1, e2, e3, e4, _, _, _, _, _, e5⟩ := id X
  simp only [tryCompare]
  have run' := ne_entry_any (A := A.in1) (Q := fun z s' => ∃ k, z = .done (.ret (.bool (!k))) ∧ Q (some (.bool (!k))) s') X room (wpAny_mono run (fun r z hz => by
    obtain ⟨k, rfl, q⟩ := hz
    exact ⟨k, rfl, k, rfl, q⟩) fun _ _ e => e)
  refine wpAny_bind (wpAny_callSpecialIfBound?_inst e1 e2 e3 e4 e5 FB.mro FB.ne (wpAny_call (codeAny_call_builtin FB.ne.plain F.cmpEntry_ne (wpAny_check_slot_inst F.cmpKind_ne F.cmpSplit_ne (F.cmpArgs_ne _ _) FB.hasObject e1 e2 e3 (wpAny_mono run' (fun z s' hz => ?_) fun _ _ e => e)))))
  obtain ⟨k, rfl, q⟩ := hz
  first | exact wpAny_pure q | exact wpAny_pure (wpAny_pure q) | exact ⟨_, rfl, wpAny_pure q⟩ | exact ⟨_, rfl, wpAny_pure (wpAny_pure q)⟩
theorem rich_ne_any {K : PySem.W.Frag} {tb : Value} (FB : CmpFacts B bm) (X : h.OwnEqNoNe x C f B bm) (kin : K.In h) (tyb : PySem.W.Looks (model prog w) h (typeOf b) tb) (nsub : PySem.W.notFirst K C tb = true) (room : A.units + 1 < cLine) {Q : Value → Shared → Prop}
    (run : wpAny (model prog w) A.in1 (call (.ref f) [.ref x, b]) (fun r z => ∃ k, r = .bool k ∧ Q (.bool (!k)) z) E ⟨h, g, d, t, os⟩) : wpAny (model prog w) A (richCompare .NotEq (.ref x) b) Q E ⟨h, g, d, t, os⟩ := by
  have one : wpAny (model prog w) A (tryCompare (.ref x) "__ne__" b) (fun r z => ∃ v, r = some v ∧ Q v z) E ⟨h, g, d, t, os⟩ := try_ne_any FB X room (wpAny_mono run (fun r z hz => by
    obtain ⟨k, rfl, q⟩ := hz
    exact ⟨k, rfl, _, rfl, q⟩) fun _ _ e => e)
  obtain ⟨ox, _, _, _, _, _, _, _, _, _, _, _, _, _, _, _, _, _, _, _, e1, e2, _⟩ := id X
  unfold richCompare
  simp only [oneThing_ref]
  refine wpAny_holding (wpAny_bind (wpAny_cRoomFor (Nat.lt_of_succ_lt room) ?_))
  rw [cmpInfo_NotEq]
  dsimp only
  refine wpAny_bind (wpAny_typeOf_ref e1 ?_)
  rw [e2]
  refine wpAny_bind (tyb.here ?_)
  have fin : wpAny (model prog w) A (tryCompare (.ref x) "__ne__" b) (fun r z => ∃ v, r = some v ∧ Q v z) E ⟨h, g, d, t, os⟩ := one
  split
  · rename_i q
    have sf : PySem.W.subIn K tb (.ref C) = some false := by
      rcases Bool.or_eq_true_iff.mp nsub with z | z
      · rw [beq_iff_eq.mp z] at q
        simp at q
      · exact beq_iff_eq.mp z
    refine wpAny_bind ((PySem.W.looks_subIn kin sf).here ?_)
    simp only [Bool.false_eq_true, if_false]
    exact wpAny_bind (wpAny_mono fin (fun r z hz => by
      obtain ⟨v, rfl, q⟩ := hz
      exact wpAny_pure q) fun _ _ e => e)
  · refine wpAny_bind (wpAny_pure ?_)
    simp only [Bool.false_eq_true, if_false]
    exact wpAny_bind (wpAny_mono fin (fun r z hz => by
      obtain ⟨v, rfl, q⟩ := hz
      exact wpAny_pure q) fun _ _ e => e)
end
/-- x != i, x an instance of C -/
def rNeI (K : PySem.W.Frag) (C : Addr) (sp : Sp) : R2 := fun x y H Q => ∃ a dx fs i, x = .ref a ∧ H a = some (.ins C dx fs) ∧ y = .int i ∧ PySem.W.notFirst K C (.type "int") = true ∧ sp [.ref a, .int i] H (fun v H' => ∃ t, v = .bl t ∧ Q (.bl (!t)) H') E0
theorem op_neI {X : Cx} {k j : Nat} {C : Addr} {sp : Sp} (c : EqC X.prog X.w X.K X.mg X.base k C sp) (hr : Room j X.A) (hk : k + 1 ≤ j) : OpR X (compareOp .NotEq) (rNeI X.K C sp) := by
  obtain ⟨f, fd, ps, F, hs, hf, hp, hb⟩ := c.ex
  intro pins s σ H x y v u Q I rx ry h
  obtain ⟨a, dx, fs, i, rfl, ha, rfl, nf, q⟩ := h
  cases rx
  obtain ⟨mA, O, _⟩ := ins_get I.hok ha
  obtain ⟨od, J, _⟩ := O.look
  obtain ⟨P, Z, p, _⟩ := kit_of I ry (.base (.int i) : TyX X.K H (.int i) (.type "int"))
  obtain ⟨ti, rfl⟩ := id ry
  obtain ⟨nm, qn, N, bs, sn, sub, ab, col, dd, k0, k1, k2, k3, k5, hl, hok, he, hne⟩ := plObjB_ok hp
  have G : s.heap.Ns N (s.heap.nsMap N) := .of_isNs (PySem.W.isNs_of_in I.kIn hok)
  have hr1 := hr.mono hk
  have r2 : Vals [V.ref a, .int i] [Value.ref a, .int i ti] := .cons rfl (.cons ⟨ti, rfl⟩ .nil)
  have n2 := F.len _ _ _ _ q
  have bd := hb s [.ref a, .int i ti] I.kIn (by simpa using n2)
  have run : wpAny (model X.prog X.w) X.A.in1 (call (.ref f) [.ref a, .int i ti]) (fun v s' => ∃ t, v = .bool t ∧ EP X pins σ Q (.bool (!t)) s') X.xe s := by
    refine wpAny_call (codeAny_mono (F.run X.A.in1 X.stack s H ⟨[.ref a, .int i ti], []⟩ [.ref a, .int i ti] [.ref a, .int i] _ E0 hr1.in1 I.env0.in1 (by simpa using bd) r2 q) fun r s' hq => ?_)
    cases r with
    | error e => exact hq.elim
    | ok fl =>
      cases fl with
      | ret z' =>
        obtain ⟨z, H', I', rz, t, ez, q3⟩ := I.after hq
        subst ez
        cases rz
        exact ⟨t, rfl, .bl (!t), H', I', rfl, q3⟩
      | _ => exact hq.elim
  obtain ⟨j1, j2, _⟩ := J
  obtain ⟨of, hfo, hfc⟩ : ∃ of, s.heap.get? f = some of ∧ of.cls = .type "function" := by
    obtain ⟨o, ho, hc⟩ := Option.map_eq_some_iff.mp (beq_iff_eq.mp hf : (X.K.lookup f).map (·.cls) = some (.type "function"))
    exact ⟨o, I.kIn _ _ ho, hc⟩
  have ty : PySem.W.Looks (model X.prog X.w) s.heap (typeOf (.int i ti)) (.type "int") := Z.ty _ _ I.kIn p
  have kin := I.kIn
  have hu : X.A.units + 1 < cLine := by
    have := hr.un
    omega
  obtain ⟨hp', g, d, tk, os⟩ := s
  show wpAny (model X.prog X.w) X.A (richCompare .NotEq (.ref a) (.int i ti)) (EP X pins σ Q) X.xe _
  exact rich_ne_any (B := "object") (bm := [.type "object"]) PySem.F.cmp_object ⟨_, of, nm, qn, N, bs, true, sn, sub, ab, col, dd, k0, k1, k2, k3, k5, "object.__new__", _, _, j1, j2, kin _ _ hl, G, ns_some_of kin G he, hfo, hfc, PySem.F.cmp_object.mro, PySem.F.cmp_object.eq.lookup, PySem.W.ns_none_of kin G hne⟩ kin ty nf hu run
end NF
set_option Elab.async false
set_option linter.all false
set_option maxRecDepth 100000
set_option maxHeartbeats 4000000
namespace K28
open PySem PySem.Spec PyProof.Rows L2 He NF RZ NT
def vNs (ks : List Nat) : List V := ks.map fun k : Nat => V.int (k : Int)
/-- the deeds of these ways, one behind the other -/
def deedsOf (ws : List (List Deed)) (ks : List Nat) : List Deed := (ks.map fun k => ws.getD k []).flatten
def CrsR (K : PySem.W.Frag) (H : Hp) (a : Addr) (fs ts : List Nat) : Prop := ∃ p1 p2, Row K H a [.ref p1, .ref p2] ∧ Row K H p1 (vNs fs) ∧ Row K H p2 (vNs ts)
theorem CrsR.mono {K : PySem.W.Frag} {H H' : Hp} {a : Addr} {fs ts : List Nat} (h : CrsR K H a fs ts) (s : Same H H') : CrsR K H' a fs ts := by
  obtain ⟨p1, p2, h1, h2, h3⟩ := h
  exact ⟨p1, p2, h1.mono s, h2.mono s, h3.mono s⟩
structure CrsOk (m : Nat) (fs ts : List Nat) : Prop where
  f : ∀ k ∈ fs, k < m
  t : ∀ k ∈ ts, k < m
  fl : fs.length ≤ 200
  t1 : 1 ≤ ts.length
  tl : ts.length ≤ 40
def spPair (K : PySem.W.Frag) : Sp := fun vs H Q _ => ∃ (a : Addr) (xs : List V), vs = [.ref a] ∧ Row K H a xs ∧ xs.length = 2 ∧ ∀ H', Same H H' → Q (.bl true) H'
def spNums (K : PySem.W.Frag) : Sp := fun vs H Q _ => ∃ (a : Addr) (ks : List Nat) (lo hi m : Nat), vs = [.ref a, .int (lo : Int), .int (hi : Int), .int (m : Int)] ∧ Row K H a (vNs ks) ∧ lo ≤ ks.length ∧ ks.length ≤ hi ∧ hi ≤ 10000 ∧ (∀ k ∈ ks, k < m) ∧ ∀ H', Same H H' → Q (.bl true) H'
def spCrs (K : PySem.W.Frag) (C : Addr) : Sp := fun vs H Q _ => ∃ (a x : Addr) (n : Nat) (b : List Deed) (ws : List (List Deed)) (fs ts : List Nat), vs = [.ref a, .ref x] ∧ MakAt K C H x n b ws ∧ CrsR K H a fs ts ∧ CrsOk ws.length fs ts ∧ ∀ H', Same H H' → Q (.bl true) H'
def spChkI (K : PySem.W.Frag) (C : Addr) : Sp := fun vs H Q _ => ∃ (x : Addr) (n i : Nat) (b : List Deed) (ws : List (List Deed)), vs = [.ref x, .int (i : Int)] ∧ MakAt K C H x n b ws ∧ i < n ∧ Q .non H
def spMarks (K : PySem.W.Frag) (C : Addr) : Sp := fun vs H Q _ => ∃ (a : Addr) (t i : Nat) (xs : List Addr) (rs : List (List Deed)), vs = [.ref a, .int (t : Int)] ∧ SqL K H a (xs.map V.ref) ∧ xs.length = rs.length ∧ (∀ (j : Nat) (x : Addr) (r : List Deed), xs[j]? = some x → rs[j]? = some r → RouAt K C H x i r) ∧ rs.flatten.length ≤ 10000 ∧
  ∀ p q H', Same H H' → SqT K H' p [.ref q, .int ((t + took i rs.flatten : Nat) : Int)] → H' q = some (.lst (vI (ahead i rs.flatten (t : Int)))) → Q (.ref p) H'
theorem sc_is_pair : FnScope ["thing"] ["thing"] (defScope s_is_pair) := ⟨rfl, rfl, rfl, by decide +kernel, rfl, by decide +kernel, by decide +kernel⟩
theorem sc_are_numbers : FnScope ["thing", "least", "most", "many", "number"] ["thing", "least", "most", "many"] (defScope s_are_numbers) := ⟨rfl, rfl, rfl, by decide +kernel, rfl, by decide +kernel, by decide +kernel⟩
theorem sc_is_course : FnScope ["thing", "maker", "many"] ["thing", "maker"] (defScope s_is_course) := ⟨rfl, rfl, rfl, by decide +kernel, rfl, by decide +kernel, by decide +kernel⟩
theorem sc_check_inlet : FnScope ["maker", "inlet"] ["maker", "inlet"] (defScope s_check_inlet) := ⟨rfl, rfl, rfl, by decide +kernel, rfl, by decide +kernel, by decide +kernel⟩
theorem sc_marks_along : FnScope ["rounds", "taken", "found", "one", "mark"] ["rounds", "taken"] (defScope s_marks_along) := ⟨rfl, rfl, rfl, by decide +kernel, rfl, by decide +kernel, by decide +kernel⟩
section
variable {P : Program} {w : World} {K : PySem.W.Frag} {mg : Str → Option Value} {base : Heap} {gs fs : List Str} {C : Addr} {tok1 tok2 : Tok}
theorem ok_is_pair {f : Addr} {fd : FuncData} (F : FunD K "is_pair" "is_pair" (defArgs s_is_pair) (defBody s_is_pair) (defScope s_is_pair) [] [] f fd) (T : Txt K mg gs FS) (c_is_row : Cal P w K mg base 1 "is_row" (spIsRow K)) : FnOk P w K mg base CX0 2 f fd ["thing"] (spPair K) := by
  refine F.ok sc_is_pair (fun vs H Q E h => ?_) (fun cdv A outer s H vs Q E hr h => ?_)
  · obtain ⟨a, xs, rfl, _⟩ := h
    rfl
  · obtain ⟨a, xs, rfl, ha, hl, q⟩ := h
    refine ⟨_, PSs.nox (pss_one (ps_ret (pe_and (pe_c c_is_row hr (by decide) rfl (pa_cons (pv 0) pa_nil)) (pe_one (pe_cmpR op_eq (pe_callB call_len_seq rfl (T.fr _ (by decide +kernel)) boot_len (pa_cons (pv 0) pa_nil)) pe_int (nomark _)))))), ?_⟩
    refine ⟨_, rfl, a, _, rfl, ha, fun H1 s1 => ⟨true, rfl, iteT ?_⟩⟩
    refine ⟨_, rfl, a, _, rfl, ha.mono s1, rfl, ?_⟩
    rw [hl]
    exact q H1 s1
theorem ok_are_numbers {f : Addr} {fd : FuncData} (F : FunD K "are_numbers" "are_numbers" (defArgs s_are_numbers) (defBody s_are_numbers) (defScope s_are_numbers) [] [] f fd) (T : Txt K mg gs FS) (c_is_row : Cal P w K mg base 1 "is_row" (spIsRow K)) (c_is_count : Cal P w K mg base 2 "is_count" spIsCount) : FnOk P w K mg base CX0 3 f fd ["thing", "least", "most", "many"] (spNums K) := by
  refine F.ok sc_are_numbers (fun vs H Q E h => ?_) (fun cdv A outer s H vs Q E hr h => ?_)
  · obtain ⟨a, ks, lo, hi, m, rfl, _⟩ := h
    rfl
  · obtain ⟨a, ks, lo, hi, m, rfl, ha, h1, h2, h3, ok, q⟩ := h
    refine ⟨_, PSs.nox (pss_cons (ps_if (PW.pt (pw_or (pt_not (pt_val (pe_c c_is_row hr (by decide) rfl (pa_cons (pv 0) pa_nil)))) (pw_or1 (pt_not (pt_chain op_le op_le (pv 1) (pe_callB call_len_seq rfl (T.fr _ (by decide +kernel)) boot_len (pa_cons (pv 0) pa_nil)) (pv 2)))))) (pss_one (ps_ret pe_bl)) pss_nil) (pss_one (ps_ret (pe_callB (cr_all rfl) rfl (T.fr _ (by decide +kernel)) (by decide +kernel) (pa_cons (pe_lc (own := [("number", 4)]) rfl sc_are_numbers.nd (pi_row (pv 0)) (blkOk_by (N := ["thing", "least", "most", "many", "number"]) (sc := defScope s_are_numbers) (by decide +kernel)) (fun _ _ _ _ _ => by exact (pg_name (i := 4) sc_are_numbers.nd rfl (Or.inl rfl))) (fun _ _ _ _ _ => by exact pts_nil) (fun _ _ _ _ _ => by exact (pe_and (pe_c c_is_count hr (by decide) rfl (pa_cons (pv 4) pa_nil)) (pe_one (pe_cmpR op_lt (pv 4) (pv 3) (nomark _)))))) pa_nil))))), ?_⟩
    refine ⟨_, rfl, a, _, rfl, ha, fun H1 s1 => ⟨true, rfl, iteF ?_⟩⟩
    refine ⟨_, rfl, _, rfl, a, _, rfl, ha.mono s1, ?_⟩
    rw [show (vNs ks).length = ks.length from List.length_map ..]
    refine ⟨_, _, rfl, rfl, _, rfl, iteT' (decide_eq_true (by omega)) ⟨_, rfl, _, _, rfl, rfl, _, rfl, ?_⟩⟩
    rw [show decide ((ks.length : Int) ≤ (hi : Int)) = true from decide_eq_true (by omega)]
    refine iteF ?_
    refine ⟨_, rfl, a, rfl, ?_⟩
    refine lc_row (ha.mono s1) (fun D j G => Same H1 G ∧ G D = some (.lst ((List.replicate j true).map V.bl))) (fun D hD => ⟨NF.Same.new (Same.refl H1) hD, upd_same⟩) (fun D i G _ z => z.1) ?_ ?_
    · rintro D hD j v G hv ⟨hG, hD2⟩
      have hj := (List.getElem?_eq_some_iff.mp hv).1
      rw [show (vNs ks).length = ks.length from List.length_map ..] at hj
      obtain rfl : V.int ((ks[j] : Nat) : Int) = v := by
        unfold vNs at hv
        rw [List.getElem?_map, List.getElem?_eq_getElem hj] at hv
        exact Option.some.inj hv
      have km := ok ks[j] (List.getElem_mem hj)
      refine ⟨rfl, _, rfl, _, rfl, decide (0 ≤ ((ks[j] : Nat) : Int)), rfl, ?_⟩
      rw [decide_eq_true (show 0 ≤ ((ks[j] : Nat) : Int) by omega)]
      refine iteT ⟨_, rfl, _, rfl, _, _, rfl, rfl, ?_⟩
      refine ⟨_, hD2, by rw [List.length_map, List.length_replicate]; exact Nat.lt_of_lt_of_le (show j < 10000 by omega) (by decide), NF.Same.mut hG hD, ?_⟩
      rw [upd_same, List.replicate_succ', List.map_append]
      show some (HO.lst (_ ++ [V.bl (decide (((ks[j] : Nat) : Int) < (m : Int)))])) = _
      rw [decide_eq_true (by omega)]
      rfl
    · rintro D hD G ⟨hG, hD2⟩
      refine ⟨D, _, rfl, SqL.of hD2, ?_⟩
      have : (List.replicate ((vNs ks).length) true).all id = true := by
        rw [List.all_replicate]
        simp
      rw [this]
      exact q G (Same.trans s1 hG)
theorem ok_is_course {f : Addr} {fd : FuncData} (F : FunD K "is_course" "is_course" (defArgs s_is_course) (defBody s_is_course) (defScope s_is_course) [] [] f fd) (T : Txt K mg gs FS) (mc : MakC K C) (h_MOST_FIRST : mg "MOST_FIRST" = some (.int 200 tok1)) (h_MOST_THEN : mg "MOST_THEN" = some (.int 40 tok2)) (c_is_pair : Cal P w K mg base 2 "is_pair" (spPair K)) (c_are_numbers : Cal P w K mg base 3 "are_numbers" (spNums K)) : FnOk P w K mg base CX0 4 f fd ["thing", "maker"] (spCrs K C) := by
  refine F.ok sc_is_course (fun vs H Q E h => ?_) (fun cdv A outer s H vs Q E hr h => ?_)
  · obtain ⟨a, x, n, b, ws, fs, ts, rfl, _⟩ := h
    rfl
  · obtain ⟨a, x, n, b, ws, fs, ts, rfl, ⟨dx, pb, pw, hx, hb, as, hw, hl, _⟩, ⟨p1, p2, ha, hp1, hp2⟩, ok, q⟩ := h
    refine ⟨_, PSs.nox (pss_cons (ps_set (i := 2) sc_is_course.nd rfl (Or.inl rfl) (pe_callB call_len_seq rfl (T.fr _ (by decide +kernel)) boot_len (pa_cons (pe_fld (pv 1) rfl) pa_nil))) (pss_one (ps_ret (pe_and (pe_c c_is_pair hr (by decide) rfl (pa_cons (pv 0) pa_nil)) (pe_and (pe_c c_are_numbers hr (by decide) rfl (pa_cons (pe_ix (ixs (K := K)) (pv 0) pe_int fun _ _ => rfl) (pa_cons pe_int (pa_cons (pe_glob (v := .int 200) rfl h_MOST_FIRST ⟨_, rfl⟩) (pa_cons (pv 2) pa_nil))))) (pe_one (pe_c c_are_numbers hr (by decide) rfl (pa_cons (pe_ix (ixs (K := K)) (pv 0) pe_int fun _ _ => rfl) (pa_cons pe_int (pa_cons (pe_glob (v := .int 40) rfl h_MOST_THEN ⟨_, rfl⟩) (pa_cons (pv 2) pa_nil))))))))))), ?_⟩
    refine ⟨_, rfl, x, C, dx, _, _, rfl, hx, mc.cl, mc.nw, rfl, pw, _, rfl, .inr hw, ?_⟩
    rw [List.length_map, hl]
    refine ⟨_, rfl, a, _, rfl, ha, rfl, fun H1 s1 => ⟨true, rfl, iteT ?_⟩⟩
    refine ⟨_, rfl, ?_⟩
    refine ix_done (K := K) (ha.mono s1) (show atI [V.ref p1, V.ref p2] 0 = some (V.ref p1) from rfl) ?_
    refine ⟨_, rfl, p1, fs, 0, 200, ws.length, rfl, hp1.mono s1, Nat.zero_le _, ok.fl, by decide, ok.f, fun H2 s2 => ⟨true, rfl, iteT ?_⟩⟩
    refine ⟨_, rfl, ?_⟩
    have s12 := Same.trans s1 s2
    refine ix_done (K := K) (ha.mono s12) (show atI [V.ref p1, V.ref p2] 1 = some (V.ref p2) from rfl) ?_
    exact ⟨_, rfl, p2, ts, 1, 40, ws.length, rfl, hp2.mono s12, ok.t1, ok.tl, by decide, ok.t, fun H3 s3 => q H3 (Same.trans s12 s3)⟩
theorem ok_check_inlet {f : Addr} {fd : FuncData} (F : FunD K "check_inlet" "check_inlet" (defArgs s_check_inlet) (defBody s_check_inlet) (defScope s_check_inlet) [] [] f fd) (T : Txt K mg gs FS) (mc : MakC K C) (c_is_count : Cal P w K mg base 2 "is_count" spIsCount) : FnOk P w K mg base CX0 3 f fd ["maker", "inlet"] (spChkI K C) := by
  refine F.ok sc_check_inlet (fun vs H Q E h => ?_) (fun cdv A outer s H vs Q E hr h => ?_)
  · obtain ⟨x, n, i, b, ws, rfl, _⟩ := h
    rfl
  · obtain ⟨x, n, i, b, ws, rfl, ⟨dx, pb, pw, hx, hb, hw⟩, hi, q⟩ := h
    refine ⟨_, PSs.nox (pss_one (ps_if (PW.pt (pw_or (pt_not (pt_val (pe_c c_is_count hr (by decide) rfl (pa_cons (pv 1) pa_nil)))) (pw_or1 (pt_cmpR op_ge (pv 1) (pe_fld (pv 0) rfl) (nomark _))))) (pss_one ps_never) pss_nil)), ?_⟩
    refine ⟨_, rfl, (i : Int), rfl, decide (0 ≤ (i : Int)), rfl, ?_⟩
    rw [decide_eq_true (by omega)]
    refine iteF ⟨_, rfl, _, rfl, x, C, dx, _, _, rfl, hx, mc.cl, mc.ni, rfl, _, _, rfl, rfl, _, rfl, iteF' (decide_eq_false (by omega)) ?_⟩
    exact q
theorem ok_marks_along {f : Addr} {fd : FuncData} (F : FunD K "marks_along" "marks_along" (defArgs s_marks_along) (defBody s_marks_along) (defScope s_marks_along) [] [] f fd) (T : Txt K mg gs FS) (rc : RouC K C) : FnOk P w K mg base CX0 1 f fd ["rounds", "taken"] (spMarks K C) := by
  refine F.ok sc_marks_along (fun vs H Q E h => ?_) (fun cdv A outer s H vs Q E hr h => ?_)
  · obtain ⟨a, t, i, xs, rs, rfl, _⟩ := h
    rfl
  · obtain ⟨a, t, i, xs, rs, rfl, ha, hl, hrs, size, q⟩ := h
    refine ⟨_, PSs.nox (pss_cons (ps_set (i := 2) sc_marks_along.nd rfl (Or.inl rfl) (pe_lst pa_nil)) (pss_cons (ps_for PassesOwn.never rfl (pi_list (pv 0)) (pg_name (i := 3) sc_marks_along.nd rfl (Or.inl rfl)) (pss_cons (ps_expr (pe_bm PySem.F.plainAttrs_list PySem.F.slot_list_extend PySem.F.type_list_extend mt_extend (pv 2) (pa_cons (pe_lc (own := [("mark", 4)]) rfl sc_marks_along.nd (pi_tup (pe_fld (pv 3) rfl)) (blkOk_by (N := ["rounds", "taken", "found", "one", "mark"]) (sc := defScope s_marks_along) (by decide +kernel)) (fun _ _ _ _ _ => by exact (pg_name (i := 4) sc_marks_along.nd rfl (Or.inl rfl))) (fun _ _ _ _ _ => by exact pts_nil) (fun _ _ _ _ _ => by exact (pe_op op_add (pv 1) (pv 4)))) pa_nil))) (pss_one (ps_set (i := 1) sc_marks_along.nd rfl (Or.inr rfl) (pe_op op_add (pv 1) (pe_fld (pv 3) rfl)))))) (pss_one (ps_ret (pe_tup (pa_cons (pv 2) (pa_cons (pv 1) pa_nil))))))), ?_⟩
    refine ⟨(by show 0 ≤ sizeLine; decide), fun D hD => ?_⟩
    have s1 := NF.Same.new (o := .lst []) (Same.refl H) hD
    have hD1 := upd_same (H := H) (a := D) (o := .lst [])
    generalize upd H D (.lst []) = H1 at s1 hD1
    refine ⟨_, rfl, a, rfl, ⟨_, L2.Same.seq s1 ha⟩, ?_⟩
    refine for_list (xs := xs.map V.ref) (fun j σ G => Same H G ∧ G D = some (.lst (vI (ahead i (rs.take j).flatten (t : Int)))) ∧ ∃ v3 v4 : Option V, σ = [some (.ref a), some (.int ((t + took i (rs.take j).flatten : Nat) : Int)), some (.ref D), v3, v4]) ⟨s1, hD1, none, none, rfl⟩ (fun j σ G _ z => L2.Same.seq z.1 ha) ?_ ?_
    · rintro j v σ G hv ⟨sG, hG, v3, v4, rfl⟩
      have hj := (List.getElem?_eq_some_iff.mp hv).1
      rw [List.length_map] at hj
      obtain rfl : V.ref (xs[j]) = v := by
        rw [List.getElem?_map, List.getElem?_eq_getElem hj] at hv
        exact Option.some.inj hv
      have hjr : j < rs.length := by omega
      have ro := (hrs j xs[j] rs[j] (List.getElem?_eq_getElem hj) (List.getElem?_eq_getElem hjr)).mono sG
      generalize hr0 : rs[j] = r at ro
      generalize xs[j] = x at ro
      obtain ⟨dx, m, hx, hm⟩ := ro
      have et : (rs.take (j + 1)).flatten = (rs.take j).flatten ++ r := by
        rw [List.take_add_one, List.getElem?_eq_getElem hjr, List.flatten_append, hr0]
        simp
      have sz : (rs.take j).flatten.length + r.length ≤ 10000 := by
        have e : rs.flatten = (rs.take (j + 1)).flatten ++ (rs.drop (j + 1)).flatten := by rw [← List.flatten_append, List.take_append_drop]
        rw [e, et] at size
        rw [List.length_append, List.length_append] at size
        omega
      have a1 := ahead_len (i := i) (a := (rs.take j).flatten) (t := (t : Int))
      have a2 := ahead_len (i := i) (a := r) (t := 0)
      refine ⟨_, rfl, .inl ⟨rfl, _, SqL.of hG⟩, ?_⟩
      refine ⟨_, rfl, x, C, dx, _, _, rfl, hx, rc.cl, rc.nm, rfl, m, rfl, ⟨_, hm⟩, fun B hB => ?_⟩
      have hDB : D ≠ B := ne_of_none hG hB
      refine lc_tup (xs := vI (ahead i r 0)) (fun l G' => Same G G' ∧ G' B = some (.lst (vI (((ahead i r 0).take l).map (((t + took i (rs.take j).flatten : Nat) : Int) + ·))))) ⟨NF.Same.new (Same.refl G) hB, upd_same⟩ (fun l G' _ z => NF.Same.tup z.1 hm) ?_ ?_
      · rintro l v G' hv ⟨sG', hB'⟩
        have hl' := (List.getElem?_eq_some_iff.mp hv).1
        rw [vI_len] at hl'
        obtain rfl : V.int ((ahead i r 0)[l]) = v := by
          unfold vI at hv
          rw [List.getElem?_map, List.getElem?_eq_getElem hl'] at hv
          exact Option.some.inj hv
        refine ⟨rfl, _, rfl, _, rfl, _, _, rfl, rfl, ?_⟩
        refine ⟨_, hB', by rw [vI_len, List.length_map, List.length_take]; exact Nat.lt_of_le_of_lt (show min l (ahead i r 0).length ≤ 10000 by omega) (by decide), NF.Same.mut sG' hB, ?_⟩
        rw [upd_same, List.take_add_one, List.getElem?_eq_getElem hl', List.map_append, ← vI_app]
        rfl
      · rintro G' ⟨sG', hB'⟩
        rw [vI_len, List.take_length] at hB'
        have hG' := sG' _ _ hG
        refine ⟨D, B, _, _, rfl, rfl, hG', hB', ?_, ?_⟩
        · rw [vI_len, vI_len, List.length_map]
          exact Nat.le_trans (show (ahead i (rs.take j).flatten (t : Int)).length + (ahead i r 0).length ≤ 10000 by omega) (by decide)
        · have hx' := (upd_ne (o := .lst (vI (ahead i (rs.take j).flatten (t : Int)) ++ vI ((ahead i r 0).map (((t + took i (rs.take j).flatten : Nat) : Int) + ·)))) (show x ≠ D from fun z => by rw [z, hG] at hx; cases hx)).trans (sG' _ _ hx)
          refine ⟨_, rfl, _, rfl, x, C, dx, _, _, rfl, hx', rc.cl, rc.nt, rfl, _, _, rfl, rfl, ?_⟩
          refine ⟨NF.Same.mut (Same.trans sG sG') hD, ?_, some (.ref x), v4, ?_⟩
          · rw [upd_same, vI_app, et, ahead_app, ← ahead_off]
            rfl
          · rw [et, took_app, ← Nat.add_assoc]
            rfl
    · rintro σ G ⟨sG, hG, v3, v4, rfl⟩
      rw [List.length_map, hl, List.take_length] at hG ⊢
      refine ⟨_, rfl, _, rfl, (by show 2 ≤ sizeLine; decide), fun p hp => ?_⟩
      have s2 := NF.Same.new (o := .tup [V.ref D, V.int ((t + took i rs.flatten : Nat) : Int)]) (Same.refl G) hp
      exact q p D _ (Same.trans sG s2) (SqT.of upd_same) (s2 _ _ hG)
end
/-- the need at an inlet on a course -/
def spNeed (K : PySem.W.Frag) (CT C : Addr) : Sp := fun vs H Q _ => ∃ (x a : Addr) (n i : Nat) (b : List Deed) (ws : List (List Deed)) (fs ts : List Nat), vs = [.ref x, .int (i : Int), .ref a] ∧ MakAt K C H x n b ws ∧ GoodM n b ws ∧ i < n ∧ CrsR K H a fs ts ∧ CrsOk ws.length fs ts ∧ (deedsOf ws fs).length ≤ 4800 ∧ (deedsOf ws ts).length ≤ 1200 ∧
  ∀ y z H', IsPlain (needT i (b ++ deedsOf ws fs) (deedsOf ws ts)).1 (needT i (b ++ deedsOf ws fs) (deedsOf ws ts)).2.1 (needT i (b ++ deedsOf ws fs) (deedsOf ws ts)).2.2 z → Same H H' → TabAt K CT H' y z → Q (.ref y) H'
/-- ==: with another maker, with what is none -/
def spMEq (K : PySem.W.Frag) (C : Addr) : Sp := fun vs H Q _ => ∃ (x : Addr) (n : Nat) (b : List Deed) (ws : List (List Deed)) (v : V), vs = [.ref x, v] ∧ MakAt K C H x n b ws ∧
  ((∃ x2 n2 b2 ws2, v = .ref x2 ∧ MakAt K C H x2 n2 b2 ws2 ∧ Q (.bl (decide ((n, b, ws) = (n2, b2, ws2)))) H) ∨ (∃ t, TyX K H v t ∧ PySem.W.kitOne K t (.ref C) = some false ∧ Q (.bl false) H))
theorem sc_Maker_need : FnScope ["self", "inlet", "course", "rounds", "start", "head", "taken", "loop", "behind", "way", "number"] ["self", "inlet", "course"] (defScope s_Maker_need) := ⟨rfl, rfl, rfl, by decide +kernel, rfl, by decide +kernel, by decide +kernel⟩
theorem sc_Maker___eq__ : FnScope ["self", "other"] ["self", "other"] (defScope s_Maker_eq) := ⟨rfl, rfl, rfl, by decide +kernel, rfl, by decide +kernel, by decide +kernel⟩
theorem deeds_len {ws : List (List Deed)} {ks : List Nat} {B : Nat} (h : ∀ v ∈ ws, v.length ≤ B) : (deedsOf ws ks).length ≤ ks.length * B := by
  unfold deedsOf
  induction ks with
  | nil => simp
  | cons k ks ih =>
    rw [List.map_cons, List.flatten_cons, List.length_append, List.length_cons, Nat.succ_mul]
    have : (ws.getD k []).length ≤ B := by
      by_cases c : k < ws.length
      · rw [List.getD_eq_getElem?_getD, List.getElem?_eq_getElem c]
        exact h _ (List.getElem_mem c)
      · rw [List.getD_eq_getElem?_getD, List.getElem?_eq_none (by omega)]
        exact Nat.zero_le _
    omega
section
variable {P : Program} {w : World} {K : PySem.W.Frag} {mg : Str → Option Value} {base : Heap} {gs fs : List Str} {C CT CR : Addr}
theorem ok_Maker_eq {f : Addr} {fd : FuncData} (F : FunD K "__eq__" "Maker.__eq__" (defArgs s_Maker_eq) (defBody s_Maker_eq) (defScope s_Maker_eq) [] [] f fd) (T : Txt K mg gs FS) (hM : mg "Maker" = some (.ref C)) (mc : MakC K C) : FnOk P w K mg base CX0 1 f fd ["self", "other"] (spMEq K C) := by
  refine F.ok sc_Maker___eq__ (fun vs H Q E h => ?_) (fun cdv A outer s H vs Q E hr h => ?_)
  · obtain ⟨x, n, b, ws, v, rfl, _⟩ := h
    rfl
  · obtain ⟨x, n, b, ws, v, rfl, ⟨dx, pb, pw, hx, hb, hw⟩, q⟩ := h
    have hu : (A.deeper (envOfC "Maker.__eq__" (defScope s_Maker_eq) s.heap.objs.size f cdv)).units + 64 < cLine := by
      have := hr.un
      omega
    refine ⟨_, PSs.nox (pss_one (ps_ret (pe_and (pe_callB call_isi rfl (T.fr _ (by decide +kernel)) (by decide +kernel) (pa_cons (pv 1) (pa_cons (pe_gl hM) pa_nil))) (pe_and (pe_cmpR op_eq (pe_fld (pv 0) rfl) (pe_fld (pv 1) rfl) (nomark _)) (pe_and (pe_cmpR (op_eqD hu) (pe_fld (pv 0) rfl) (pe_fld (pv 1) rfl) (nomark _)) (pe_one (pe_cmpR (op_eqD hu) (pe_fld (pv 0) rfl) (pe_fld (pv 1) rfl) (nomark _)))))))), ?_⟩
    rcases q with ⟨x2, n2, b2, ws2, rfl, ⟨dx2, pb2, pw2, hx2, hb2, hw2⟩, q⟩ | ⟨t, ty, hk, q⟩
    · have tx := mc.ty hx2
      refine ⟨_, rfl, _, _, _, _, true, rfl, .own C, tx, mc.self, true, rfl, iteT ?_⟩
      refine ⟨_, rfl, x, C, dx, _, _, rfl, hx, mc.cl, mc.ni, rfl, _, rfl, x2, C, dx2, _, _, rfl, hx2, mc.cl, mc.ni, rfl, rfl, ?_⟩
      have e0 : decide (V.int (n : Int) = V.int (n2 : Int)) = decide (n = n2) := by
        by_cases z : n = n2
        · subst z
          rw [decide_eq_true rfl, decide_eq_true rfl]
        · rw [decide_eq_false z, decide_eq_false (fun h => z (by injection h with h; omega))]
      show ∃ c, V.bl (decide (V.int (n : Int) = V.int (n2 : Int))) = V.bl c ∧ _
      rw [e0]
      refine ⟨_, rfl, ite2 (fun h1 => ?_) (fun h1 => ?_)⟩
      · have h1 := of_decide_eq_true h1
        refine ⟨_, rfl, x, C, dx, _, _, rfl, hx, mc.cl, mc.nb, rfl, _, rfl, x2, C, dx2, _, _, rfl, hx2, mc.cl, mc.nb, rfl, ?_⟩
        refine eqD_deeds (K := K) hb hb2 ⟨_, rfl, ite2 (fun h2 => ?_) (fun h2 => ?_)⟩
        · have h2 := of_decide_eq_true h2
          refine ⟨_, rfl, x, C, dx, _, _, rfl, hx, mc.cl, mc.nw, rfl, _, rfl, x2, C, dx2, _, _, rfl, hx2, mc.cl, mc.nw, rfl, ?_⟩
          refine eqD_ways (K := K) hw hw2 ?_
          subst h1 h2
          have e : decide ((n, b, ws) = (n, b, ws2)) = decide (ws = ws2) := by
            by_cases z : ws = ws2
            · subst z
              rw [decide_eq_true rfl, decide_eq_true rfl]
            · rw [decide_eq_false z, decide_eq_false (fun h => z (by injection h with h h'; injection h' with h' h''))]
          rw [← e]
          exact q
        · have h2 : ¬ b = b2 := fun z => h2 (decide_eq_true z)
          rw [decide_eq_false (fun h => h2 (by injection h with h h'; injection h' with h' h''))] at q
          exact q
      · have h1 : ¬ n = n2 := fun z => h1 (decide_eq_true z)
        rw [decide_eq_false (fun h => h1 (by injection h with h h'))] at q
        exact q
    · refine ⟨_, rfl, _, _, _, _, false, rfl, .own C, ty, hk, false, rfl, iteF ?_⟩
      exact q
theorem same_made {H H' : Hp} {x dx : Addr} {o o' : HO} (nx : H x = none) (nd : H dx = none) (s : Same (wo (upd (upd H dx o) x o') x) H') : Same H H' := fun b u e =>
  s b u (by rw [wo_ne (ne_of_none e nx), upd_ne (ne_of_none e nx), upd_ne (ne_of_none e nd)]; exact e)
theorem row_made {K : PySem.W.Frag} {H : Hp} {x dx a : Addr} {o o' : HO} {xs : List V} (nx : H x = none) (nd : H dx = none) (h : Row K H a xs) : Row K (upd (upd H dx o) x o') a xs := h.mono fun b u e => by
  rw [upd_ne (ne_of_none e nx), upd_ne (ne_of_none e nd)]
  exact e
theorem same_woM {H : Hp} {x dx : Addr} {o o' : HO} (nx : H x = none) (nd : H dx = none) : Same H (wo (upd (upd H dx o) x o') x) := fun b u e => by
  rw [wo_ne (ne_of_none e nx), upd_ne (ne_of_none e nx), upd_ne (ne_of_none e nd)]
  exact e
theorem at_nat {ks : List Nat} {j : Nat} (h : j < ks.length) : (vNs ks)[j]? = some (V.int ((ks[j] : Nat) : Int)) := by
  unfold vNs
  rw [List.getElem?_map, List.getElem?_eq_getElem h]
  rfl
/-- what a list of chosen rounds is -/
def Chosen (K : PySem.W.Frag) (C : Addr) (G : Hp) (xs : List Addr) (i : Nat) (rs : List (List Deed)) : Prop := xs.length = rs.length ∧ ∀ (j : Nat) (x : Addr) (r : List Deed), xs[j]? = some x → rs[j]? = some r → RouAt K C G x i r
theorem Chosen.mono {G G' : Hp} {xs : List Addr} {i : Nat} {rs : List (List Deed)} (h : Chosen K C G xs i rs) (s : Same G G') : Chosen K C G' xs i rs := ⟨h.1, fun j x r e1 e2 => (h.2 j x r e1 e2).mono s⟩
theorem RouAt.put {G : Hp} {x D : Addr} {i : Nat} {r : List Deed} {l : List V} {o : HO} (h : RouAt K C G x i r) (hD : G D = some (.lst l)) : RouAt K C (upd G D o) x i r := by
  obtain ⟨dx, m, h1, h2⟩ := h
  refine ⟨dx, m, ?_, SqT.put h2 hD trivial⟩
  rw [upd_ne fun z => by rw [z, hD] at h1; cases h1]
  exact h1
theorem ok_Maker_need {f : Addr} {fd : FuncData} (F : FunD K "need" "Maker.need" (defArgs s_Maker_need) (defBody s_Maker_need) (defScope s_Maker_need) [] [] f fd) (T : Txt K mg gs FS) (mc : MakC K C) (rc : RouC K CR) (c_check_inlet : Cal P w K mg base 3 "check_inlet" (spChkI K C)) (c_is_course : Cal P w K mg base 4 "is_course" (spCrs K C)) (c_marks_along : Cal P w K mg base 1 "marks_along" (spMarks K CR)) (m_Round2 : Mak P w K mg base 1 0 "Round" CR (spRoInit K CR) []) (m_Table : Mak P w K mg base 4 0 "Table" CT (spInit K CT) []) : FnOk P w K mg base CX0 6 f fd ["self", "inlet", "course"] (spNeed K CT C) := by
  refine F.ok sc_Maker_need (fun vs H Q E h => ?_) (fun cdv A outer s H vs Q E hr h => ?_)
  · obtain ⟨x, a, n, i, b, ws, fs, ts, rfl, _⟩ := h
    rfl
  · obtain ⟨x, a, n, i, b, ws, fs, ts, rfl, mk, g, hi, cr, ok, l1, l2, q⟩ := h
    refine ⟨_, PSs.nox (pss_cons (ps_expr (pe_c c_check_inlet hr (by decide) rfl (pa_cons (pv 0) (pa_cons (pv 1) pa_nil)))) (pss_cons (ps_if (pt_not (pt_val (pe_c c_is_course hr (by decide) rfl (pa_cons (pv 2) (pa_cons (pv 0) pa_nil))))) (pss_one ps_never) pss_nil) (pss_cons (ps_set (i := 3) sc_Maker_need.nd rfl (Or.inr rfl) (pe_lc (own := [("way", 9)]) rfl sc_Maker_need.nd (pi_tup (pe_fld (pv 0) rfl)) (blkOk_by (N := ["self", "inlet", "course", "rounds", "start", "head", "taken", "loop", "behind", "way", "number"]) (sc := defScope s_Maker_need) (by decide +kernel)) (fun _ _ _ _ _ => by exact (pg_name (i := 9) sc_Maker_need.nd rfl (Or.inl rfl))) (fun _ _ _ _ _ => by exact pts_nil) (fun _ _ _ _ _ => by exact (pe_mk m_Round2 hr (by decide) rfl (pa_cons (pv 9) (pa_cons (pv 1) pa_nil)))))) (pss_cons (ps_set (i := 4) sc_Maker_need.nd rfl (Or.inl rfl) (pe_op op_cat (pe_lst (pa_cons (pe_mk m_Round2 hr (by decide) rfl (pa_cons (pe_fld (pv 0) rfl) (pa_cons (pv 1) pa_nil))) pa_nil)) (pe_lc (own := [("number", 10)]) rfl sc_Maker_need.nd (pi_row (pe_ix (ixs (K := K)) (pv 2) pe_int fun _ _ => rfl)) (blkOk_by (N := ["self", "inlet", "course", "rounds", "start", "head", "taken", "loop", "behind", "way", "number"]) (sc := defScope s_Maker_need) (by decide +kernel)) (fun _ _ _ _ _ => by exact (pg_name (i := 10) sc_Maker_need.nd rfl (Or.inl rfl))) (fun _ _ _ _ _ => by exact pts_nil) (fun _ _ _ _ _ => by exact (pe_ix (ixl (K := K)) (pv 3) (pv 10) fun _ _ => rfl))))) (pss_cons (ps_asg (pe_c c_marks_along hr (by decide) rfl (pa_cons (pv 4) (pa_cons pe_int pa_nil))) (pgt (K := K) (n := 2) rfl rfl (pgs_cons (pg_name (i := 5) sc_Maker_need.nd rfl (Or.inl rfl)) (pgs_cons (pg_name (i := 6) sc_Maker_need.nd rfl (Or.inl rfl)) pgs_nil)))) (pss_cons (ps_asg (pe_c c_marks_along hr (by decide) rfl (pa_cons (pe_lc (own := [("number", 10)]) rfl sc_Maker_need.nd (pi_row (pe_ix (ixs (K := K)) (pv 2) pe_int fun _ _ => rfl)) (blkOk_by (N := ["self", "inlet", "course", "rounds", "start", "head", "taken", "loop", "behind", "way", "number"]) (sc := defScope s_Maker_need) (by decide +kernel)) (fun _ _ _ _ _ => by exact (pg_name (i := 10) sc_Maker_need.nd rfl (Or.inl rfl))) (fun _ _ _ _ _ => by exact pts_nil) (fun _ _ _ _ _ => by exact (pe_ix (ixl (K := K)) (pv 3) (pv 10) fun _ _ => rfl))) (pa_cons (pv 6) pa_nil))) (pgt (K := K) (n := 2) rfl rfl (pgs_cons (pg_name (i := 7) sc_Maker_need.nd rfl (Or.inl rfl)) (pgs_cons (pg_name (i := 8) sc_Maker_need.nd rfl (Or.inl rfl)) pgs_nil)))) (pss_one (ps_ret (pe_mk m_Table hr (by decide) rfl (pa_cons (pv 5) (pa_cons (pv 7) (pa_cons (pe_ifExp (pt_truth (pv 7) (fun _ => rfl)) (pe_op op_sub (pv 8) (pv 6)) pe_int) pa_nil)))))))))))), ?_⟩
    refine ⟨_, rfl, _, rfl, x, n, i, b, ws, rfl, mk, hi, ?_⟩
    refine ⟨_, rfl, _, rfl, a, x, n, b, ws, fs, ts, rfl, mk, cr, ok, fun H1 s1 => ⟨true, rfl, iteF ?_⟩⟩
    have cr := cr.mono s1
    obtain ⟨dx, pb, pw, hx, hb, as, hw, hl, hws⟩ := mk.mono s1
    have m4 := g.m4
    -- the rounds
    refine ⟨_, rfl, x, C, dx, _, _, rfl, hx, mc.cl, mc.nw, rfl, pw, rfl, ⟨_, hw⟩, fun D hD => ?_⟩
    refine lc_tup (xs := as.map V.ref) (fun j G => Same H1 G ∧ ∃ xs : List Addr, G D = some (.lst (xs.map V.ref)) ∧ Chosen K CR G xs i (ws.take j)) ⟨NF.Same.new (Same.refl H1) hD, [], upd_same, rfl, fun j x r e => by simp at e⟩ (fun j G _ z => NF.Same.tup z.1 hw) ?_ ?_
    · rintro j v G hv ⟨sG, xs, hG, ch⟩
      have hj := (List.getElem?_eq_some_iff.mp hv).1
      rw [List.length_map] at hj
      obtain rfl : V.ref (as[j]) = v := by
        rw [List.getElem?_map, List.getElem?_eq_getElem hj] at hv
        exact Option.some.inj hv
      have hjw : j < ws.length := by omega
      have hr1 := NF.Same.tup sG (hws j as[j] ws[j] (List.getElem?_eq_getElem hj) (List.getElem?_eq_getElem hjw))
      obtain ⟨w1, w2, w3⟩ := g.wy ws[j] (List.getElem_mem hjw)
      have xl : xs.length = j := by
        rw [ch.1, List.length_take]
        omega
      refine ⟨rfl, _, rfl, _, rfl, ?_⟩
      intro y dy ny nd ne
      refine ⟨y, dy, as[j], i, ws[j], rfl, upd_same, .inr (NF.Same.tup (same_woM ny nd) hr1), by omega, fun G2 s2 ro => ⟨rfl, ?_⟩⟩
      have s3 : Same G G2 := Same.trans (same_woM ny nd) s2
      have hG2 := s3 _ _ hG
      refine ⟨_, hG2, by rw [List.length_map, xl]; exact Nat.lt_of_lt_of_le (show j < 10000 by omega) (by decide), NF.Same.mut (Same.trans sG s3) hD, xs ++ [y], ?_, ?_, fun k z r e1 e2 => ?_⟩
      · rw [upd_same, List.map_append]
        rfl
      · rw [List.length_append, xl, List.length_take]
        show j + 1 = _
        omega
      · refine RouAt.put ?_ hG2
        rw [List.getElem?_take] at e2
        rcases Nat.lt_trichotomy k j with h | h | h
        · rw [List.getElem?_append_left (by omega)] at e1
          rw [if_pos (by omega)] at e2
          exact (ch.2 k z r e1 (by rw [List.getElem?_take, if_pos h]; exact e2)).mono s3
        · subst h
          rw [List.getElem?_append_right (by omega), xl, Nat.sub_self] at e1
          rw [if_pos (by omega), List.getElem?_eq_getElem hjw] at e2
          cases e1
          cases e2
          exact ro
        · rw [if_neg (by omega)] at e2
          cases e2
    · rintro G ⟨sG, rs, hG, ch⟩
      rw [List.length_map, hl, List.take_length] at ch
      have hx2 := sG _ _ hx
      have hb2 := NF.Same.tup sG hb
      have gb := g.bl
      have okfl := ok.fl
      have oktl := ok.tl
      -- the beginning
      refine ⟨_, rfl, x, C, dx, _, _, rfl, hx2, mc.cl, mc.nb, rfl, _, rfl, ?_⟩
      intro y dy ny nd ne
      refine ⟨y, dy, pb, i, b, rfl, upd_same, .inr (NF.Same.tup (same_woM ny nd) hb2), by omega, fun G2 s2 ro => ⟨rfl, ?_⟩⟩
      have s3 : Same G G2 := Same.trans (same_woM ny nd) s2
      refine ⟨(by show 1 ≤ sizeLine; decide), fun q1 hq1 => ?_⟩
      have s4 := NF.Same.new (o := .lst [V.ref y]) (Same.refl G2) hq1
      have hq1' := upd_same (H := G2) (a := q1) (o := .lst [V.ref y])
      have ro := ro.mono s4
      have sA := Same.trans s3 s4
      generalize upd G2 q1 (.lst [V.ref y]) = G3 at s4 hq1' ro sA
      have hD3 := sA _ _ hG
      have ch3 := ch.mono sA
      obtain ⟨p1, p2, ha, hp1, hp2⟩ := cr.mono (Same.trans sG sA)
      refine ⟨_, rfl, ?_⟩
      refine ix_done (K := K) ha (show atI [V.ref p1, V.ref p2] 0 = some (V.ref p1) from rfl) ?_
      refine ⟨p1, rfl, ?_⟩
      refine lc_row hp1 (fun B j G' => Same G3 G' ∧ ∃ ys : List Addr, G' B = some (.lst (ys.map V.ref)) ∧ Chosen K CR G' ys i ((fs.map fun k => ws.getD k []).take j)) (fun B hB => ⟨NF.Same.new (Same.refl G3) hB, [], upd_same, rfl, fun j x r e => by simp at e⟩) (fun B j G' _ z => z.1) ?_ ?_
      · rintro B hB j v G' hv ⟨sG', ys, hB', ch'⟩
        have hj := (List.getElem?_eq_some_iff.mp hv).1
        rw [show (vNs fs).length = fs.length from List.length_map ..] at hj
        rw [at_nat hj] at hv
        obtain rfl := Option.some.inj hv
        have km := ok.f fs[j] (List.getElem_mem hj)
        have rl : fs[j] < rs.length := by rw [ch.1]; exact km
        have yl : ys.length = j := by
          rw [ch'.1, List.length_take, List.length_map]
          omega
        have hD' := sG' _ _ hD3
        refine ⟨rfl, _, rfl, _, rfl, D, _, _, _, rfl, rfl, SqL.of hD', atI_nat (by rw [List.getElem?_map, List.getElem?_eq_getElem rl]; rfl), ?_⟩
        have ro := (ch3.2 fs[j] rs[fs[j]] ws[fs[j]] (List.getElem?_eq_getElem rl) (List.getElem?_eq_getElem km)).mono sG'
        refine ⟨_, hB', by rw [List.length_map, yl]; exact Nat.lt_of_lt_of_le (show j < 10000 by have := okfl; omega) (by decide), NF.Same.mut sG' hB, ys ++ [rs[fs[j]]], ?_, ?_, fun k z r e1 e2 => ?_⟩
        · rw [upd_same, List.map_append]
          rfl
        · rw [List.length_append, yl, List.length_take, List.length_map]
          show j + 1 = _
          omega
        · refine RouAt.put ?_ hB'
          rw [List.getElem?_take] at e2
          rcases Nat.lt_trichotomy k j with h | h | h
          · rw [List.getElem?_append_left (by omega)] at e1
            rw [if_pos (by omega)] at e2
            exact ch'.2 k z r e1 (by rw [List.getElem?_take, if_pos h]; exact e2)
          · subst h
            rw [List.getElem?_append_right (by omega), yl, Nat.sub_self] at e1
            rw [if_pos (by omega), List.getElem?_map, List.getElem?_eq_getElem hj] at e2
            cases e1
            cases e2
            show RouAt K CR G' _ i (ws.getD _ [])
            rw [List.getD_eq_getElem?_getD, List.getElem?_eq_getElem km]
            exact ro
          · rw [if_neg (by omega)] at e2
            cases e2
      rintro B hB G4 ⟨sB, ys, hB4, ch4⟩
      rw [show (vNs fs).length = fs.length from List.length_map .., show (fs.map fun k => ws.getD k []).take fs.length = fs.map fun k => ws.getD k [] by rw [List.take_of_length_le (by simp)]] at ch4
      have hq14 := sB _ _ hq1'
      have yl : ys.length = fs.length := by rw [ch4.1, List.length_map]
      refine ⟨q1, B, _, _, rfl, rfl, hq14, hB4, (by rw [List.length_map, yl]; exact Nat.le_trans (show 1 + fs.length ≤ 201 by omega) (by decide)), fun q3 hq3 => ?_⟩
      have s5 := NF.Same.new (o := .lst ([V.ref y] ++ ys.map V.ref)) (Same.refl G4) hq3
      have hq3' := upd_same (H := G4) (a := q3) (o := .lst ([V.ref y] ++ ys.map V.ref))
      generalize upd G4 q3 (.lst ([V.ref y] ++ ys.map V.ref)) = G5 at s5 hq3'
      have sC := Same.trans sB s5
      refine ⟨_, rfl, q3, 0, i, y :: ys, b :: (fs.map fun k => ws.getD k []), rfl, SqL.of hq3', by rw [List.length_cons, List.length_cons, ch4.1], fun j z r e1 e2 => ?_, ?_, fun p h1 G6 s6 tp hh => ?_⟩
      · cases j with
        | zero =>
          cases e1
          cases e2
          exact ro.mono sC
        | succ j => exact (ch4.2 j z r (by simpa using e1) (by simpa using e2)).mono s5
      · show (b ++ deedsOf ws fs).length ≤ 10000
        rw [List.length_append]
        omega
      have tp : SqT K G6 p [V.ref h1, V.int ((0 + took i (b ++ deedsOf ws fs) : Nat) : Int)] := tp
      have hh : G6 h1 = some (.lst (vI (ahead i (b ++ deedsOf ws fs) 0))) := hh
      refine ⟨p, _, rfl, tp, rfl, _, _, rfl, ?_⟩
      refine ⟨_, _, rfl, ?_⟩
      refine ⟨rfl, ?_⟩
      have sD := Same.trans sC s6
      have hD6 := sD _ _ hD3
      have ch6 := ch3.mono sD
      have ha6 := ha.mono sD
      have hp6 := hp2.mono sD
      refine ⟨_, rfl, ?_⟩
      refine ix_done (K := K) ha6 (show atI [V.ref p1, V.ref p2] 1 = some (V.ref p2) from rfl) ?_
      refine ⟨p2, rfl, ?_⟩
      refine lc_row hp6 (fun B j G' => Same G6 G' ∧ ∃ ys : List Addr, G' B = some (.lst (ys.map V.ref)) ∧ Chosen K CR G' ys i ((ts.map fun k => ws.getD k []).take j)) (fun B hB => ⟨NF.Same.new (Same.refl G6) hB, [], upd_same, rfl, fun j x r e => by simp at e⟩) (fun B j G' _ z => z.1) ?_ ?_
      · rintro B hB j v G' hv ⟨sG', ys, hB', ch'⟩
        have hj := (List.getElem?_eq_some_iff.mp hv).1
        rw [show (vNs ts).length = ts.length from List.length_map ..] at hj
        rw [at_nat hj] at hv
        obtain rfl := Option.some.inj hv
        have km := ok.t ts[j] (List.getElem_mem hj)
        have rl : ts[j] < rs.length := by rw [ch.1]; exact km
        have yl : ys.length = j := by
          rw [ch'.1, List.length_take, List.length_map]
          omega
        have hD' := sG' _ _ hD6
        refine ⟨rfl, _, rfl, _, rfl, D, _, _, _, rfl, rfl, SqL.of hD', atI_nat (by rw [List.getElem?_map, List.getElem?_eq_getElem rl]; rfl), ?_⟩
        have ro := (ch6.2 ts[j] rs[ts[j]] ws[ts[j]] (List.getElem?_eq_getElem rl) (List.getElem?_eq_getElem km)).mono sG'
        refine ⟨_, hB', by rw [List.length_map, yl]; exact Nat.lt_of_lt_of_le (show j < 10000 by have := oktl; omega) (by decide), NF.Same.mut sG' hB, ys ++ [rs[ts[j]]], ?_, ?_, fun k z r e1 e2 => ?_⟩
        · rw [upd_same, List.map_append]
          rfl
        · rw [List.length_append, yl, List.length_take, List.length_map]
          show j + 1 = _
          omega
        · refine RouAt.put ?_ hB'
          rw [List.getElem?_take] at e2
          rcases Nat.lt_trichotomy k j with h | h | h
          · rw [List.getElem?_append_left (by omega)] at e1
            rw [if_pos (by omega)] at e2
            exact ch'.2 k z r e1 (by rw [List.getElem?_take, if_pos h]; exact e2)
          · subst h
            rw [List.getElem?_append_right (by omega), yl, Nat.sub_self] at e1
            rw [if_pos (by omega), List.getElem?_map, List.getElem?_eq_getElem hj] at e2
            cases e1
            cases e2
            show RouAt K CR G' _ i (ws.getD _ [])
            rw [List.getD_eq_getElem?_getD, List.getElem?_eq_getElem km]
            exact ro
          · rw [if_neg (by omega)] at e2
            cases e2
      rintro B2 hB2 G7 ⟨sE, zs, hB7, ch7⟩
      rw [show (vNs ts).length = ts.length from List.length_map .., show (ts.map fun k => ws.getD k []).take ts.length = ts.map fun k => ws.getD k [] by rw [List.take_of_length_le (by simp)]] at ch7
      refine ⟨_, rfl, B2, 0 + took i (b ++ deedsOf ws fs), i, zs, ts.map fun k => ws.getD k [], rfl, SqL.of hB7, ch7.1, ch7.2, (by show (deedsOf ws ts).length ≤ 10000; omega), fun p7 h2 G8 s8 tp8 hh8 => ?_⟩
      have tp8 : SqT K G8 p7 [V.ref h2, V.int ((0 + took i (b ++ deedsOf ws fs) + took i (deedsOf ws ts) : Nat) : Int)] := tp8
      have hh8 : G8 h2 = some (.lst (vI (ahead i (deedsOf ws ts) ((0 + took i (b ++ deedsOf ws fs) : Nat) : Int)))) := hh8
      rw [Nat.zero_add] at tp8 hh8
      refine ⟨p7, _, rfl, tp8, rfl, _, _, rfl, ?_⟩
      refine ⟨_, _, rfl, ?_⟩
      refine ⟨rfl, ?_⟩
      have hh1 := s8 _ _ (sE _ _ hh)
      have sF : Same H G8 := Same.trans s1 (Same.trans sG (Same.trans sA (Same.trans sD (Same.trans sE s8))))
      have gd := needT_good i (b ++ deedsOf ws fs) (deedsOf ws ts)
      have n1 := ahead_len (i := i) (a := b ++ deedsOf ws fs) (t := 0)
      have n2 := ahead_len (i := i) (a := deedsOf ws ts) (t := (took i (b ++ deedsOf ws fs) : Int))
      rw [List.length_append] at n1
      have fin : ∀ r : Int, r = (needT i (b ++ deedsOf ws fs) (deedsOf ws ts)).2.2 → tMake CT (spInit K CT) [] E0 (fun _ G' R => R [V.ref h1, V.ref h2, V.int r] G') [] G8 fun v G' => Q v G' := fun r er => by
        intro y dy ny nd ne
        subst er
        exact ⟨y, dy, h1, h2, (needT i (b ++ deedsOf ws fs) (deedsOf ws ts)).1, (needT i (b ++ deedsOf ws fs) (deedsOf ws ts)).2.1, _, rfl, upd_same, row_made ny nd (.inl (SqL.of hh1)), row_made ny nd (.inl (SqL.of hh8)), gd, (by show (ahead i _ 0).length + (ahead i _ _).length ≤ 10000; omega), fun z H' hz s tb => ⟨rfl, q y z H' hz (Same.trans sF (same_made ny nd s)) tb⟩⟩
      refine ⟨_, rfl, _, rfl, _, rfl, _, tru_row (.inl (SqL.of hh8)), ?_⟩
      by_cases e : ahead i (deedsOf ws ts) (took i (b ++ deedsOf ws fs) : Int) = []
      · rw [show (!(ahead i (deedsOf ws ts) (took i (b ++ deedsOf ws fs) : Int)).isEmpty) = false by rw [e]; rfl]
        refine iteF ?_
        exact fin 0 (if_pos e).symm
      · rw [ne_nil e]
        refine iteT ?_
        refine ⟨_, rfl, _, rfl, _, _, rfl, rfl, ?_⟩
        refine fin _ ?_
        show _ = if _ then _ else _
        rw [if_neg e]
        omega
end
end K28
set_option Elab.async false
set_option linter.all false
set_option maxRecDepth 100000
set_option maxHeartbeats 4000000
namespace K28
open PySem PySem.Spec PyProof.Rows L2 He NF
section
variable {P : Program} {w : World} {K : PySem.W.Frag} {mg : Str → Option Value} {base : Heap}
theorem sc__law_pick : FnScope ["_law_source_here", "_law_many", "_law_value", "_law_digit"] ["_law_source_here", "_law_many"] (defScope s__law_pick) := ⟨rfl, rfl, rfl, by decide +kernel, rfl, by decide +kernel, by decide +kernel⟩
theorem ok_pick {f : Addr} {fd : FuncData} {gs fs : List Str} (F : FunD K "_law_pick" "_law_pick" (defArgs s__law_pick) (defBody s__law_pick) (defScope s__law_pick) [] [] f fd) (T : Txt K mg gs fs) (hi : ("int" : Str) ∈ fs) : FnOk P w K mg base CX0 1 f fd ["_law_source_here", "_law_many"] spPick := by
  refine F.ok sc__law_pick (fun vs H Q E h => ?_) (fun cdv A outer s H vs Q E hr h => ?_)
  · obtain ⟨H0, p, m, rfl, _⟩ := h
    rfl
  · obtain ⟨H0, p, m, rfl, hS, h0, ⟨a, sd, c, hp⟩, m0, m1, k⟩ := h
    refine ⟨_, PSs.nox (pss_cons (ps_if (pt_cmpR op_gt (pe_ix ix_list (pv 0) pe_int fun _ _ => rfl) pe_int (nomark _)) (pss_cons (ps_set (i := 3) sc__law_pick.nd rfl (Or.inl rfl) (pe_op op_mod (pe_callTy call_int1 rfl (T.fr _ hi) (by decide +kernel) (pa_cons (pe_ix ix_list (pv 0) pe_int fun _ _ => rfl) pa_nil)) (pv 1))) (pss_cons (ps_asg (pe_op op_fdiv (pe_ix ix_list (pv 0) pe_int fun _ _ => rfl) (pv 1)) (pg_sub (pv 0) pe_int set_list)) (pss_one (ps_ret (pv 3))))) pss_nil) (pss_cons (ps_asg (pe_op op_add (pe_ix ix_list (pv 0) pe_int fun _ _ => rfl) pe_int) (pg_sub (pv 0) pe_int set_list)) (pss_cons (ps_set (i := 2) sc__law_pick.nd rfl (Or.inl rfl) (pe_op op_mod (pe_callTy call_int1 rfl (T.fr _ hi) (by decide +kernel) (pa_cons (pe_op op_mul (pe_op op_add (pe_ix ix_list (pv 0) pe_int fun _ _ => rfl) (pe_op op_mul pe_int (pe_ix ix_list (pv 0) pe_int fun _ _ => rfl))) pe_int) pa_nil)) pe_int)) (pss_cons (ps_set (i := 2) sc__law_pick.nd rfl (Or.inl rfl) (pe_op op_mod (pe_callTy call_int1 rfl (T.fr _ hi) (by decide +kernel) (pa_cons (pe_op op_add (pe_op op_add (pe_op op_mul (pv 2) (pv 2)) (pe_op op_mul pe_int (pe_ix ix_list (pv 0) pe_int fun _ _ => rfl))) (pe_ix ix_list (pv 0) pe_int fun _ _ => rfl)) pa_nil)) pe_int)) (pss_cons (ps_set (i := 2) sc__law_pick.nd rfl (Or.inl rfl) (pe_op op_mod (pe_callTy call_int1 rfl (T.fr _ hi) (by decide +kernel) (pa_cons (pe_op op_add (pe_op op_mul (pv 2) pe_int) pe_int) pa_nil)) pe_int)) (pss_cons (ps_set (i := 2) sc__law_pick.nd rfl (Or.inl rfl) (pe_op op_mod (pe_callTy call_int1 rfl (T.fr _ hi) (by decide +kernel) (pa_cons (pe_op op_add (pe_op op_mul (pv 2) (pv 2)) (pv 2)) pa_nil)) pe_int)) (pss_one (ps_ret (pe_op op_mod (pe_callTy call_int1 rfl (T.fr _ hi) (by decide +kernel) (pa_cons (pe_op op_fdiv (pv 2) pe_int) pa_nil)) (pv 1)))))))))), ?_⟩
    refine ⟨_, rfl, p, _, _, _, rfl, rfl, SqL.of hp, at0, _, _, rfl, rfl, _, rfl, ?_⟩
    refine ite2 (fun _ => ?_) (fun _ => ?_)
    · refine ⟨_, rfl, p, _, _, _, rfl, rfl, SqL.of hp, at0, Or.inl ⟨_, rfl, _, rfl, _, _, rfl, rfl, m0, ?_⟩⟩
      refine ⟨_, rfl, p, _, _, _, rfl, rfl, SqL.of hp, at0, _, rfl, _, _, rfl, rfl, ⟨m0, m1⟩, ?_⟩
      refine ⟨_, rfl, p, _, _, 0, rfl, rfl, hp, rfl, ?_⟩
      refine ⟨_, rfl, k _ _ (Int.emod_nonneg _ (by omega)) (Int.emod_lt_of_pos _ m0) (NF.Same.put hS h0) ⟨_, _, _, upd_same⟩⟩
    · refine ⟨_, rfl, p, _, _, _, rfl, rfl, SqL.of hp, at2, _, _, rfl, rfl, ?_⟩
      refine ⟨_, rfl, p, _, _, 2, rfl, rfl, hp, rfl, ?_⟩
      have hp' : upd H p (.lst [.int a, .int sd, .int (c + 1)]) p = some (.lst [.int a, .int sd, .int (c + 1)]) := upd_same
      refine ⟨_, rfl, p, _, _, _, rfl, rfl, SqL.of hp', at1, ?_⟩
      refine ⟨_, rfl, p, _, _, _, rfl, rfl, SqL.of hp', at2, _, _, rfl, rfl, Or.inl (by decide), _, _, rfl, rfl, ?_⟩
      refine ⟨_, _, rfl, rfl, Or.inr (by decide), Or.inl ⟨_, rfl, _, _, rfl, rfl, (by first | exact (by decide : (0 : Int) < 2147483647) | exact (by decide : (0 : Int) < 2147483629) | exact (by decide : (0 : Int) < 2147483587)), ?_⟩⟩
      generalize hx : (sd + 104729 * (c + 1)) * 48271 % 2147483647 = x
      have x0 : 0 ≤ x ∧ x < 2147483647 := by omega
      refine ⟨_, rfl, _, rfl, _, _, rfl, rfl, Or.inl (by omega), ?_⟩
      refine ⟨_, rfl, p, _, _, _, rfl, rfl, SqL.of hp', at2, _, _, rfl, rfl, Or.inl (by decide), _, _, rfl, rfl, ?_⟩
      refine ⟨_, rfl, p, _, _, _, rfl, rfl, SqL.of hp', at1, _, _, rfl, rfl, Or.inl ⟨_, rfl, _, _, rfl, rfl, (by first | exact (by decide : (0 : Int) < 2147483647) | exact (by decide : (0 : Int) < 2147483629) | exact (by decide : (0 : Int) < 2147483587)), ?_⟩⟩
      generalize hy : (x * x + 7 * (c + 1) + sd) % 2147483629 = y
      have y0 : 0 ≤ y ∧ y < 2147483629 := by omega
      refine ⟨_, rfl, _, _, rfl, rfl, Or.inl (by omega), _, _, rfl, rfl, Or.inl ⟨_, rfl, _, _, rfl, rfl, (by first | exact (by decide : (0 : Int) < 2147483647) | exact (by decide : (0 : Int) < 2147483629) | exact (by decide : (0 : Int) < 2147483587)), ?_⟩⟩
      generalize hz : (y * 69621 + 5) % 2147483647 = z
      have z0 : 0 ≤ z ∧ z < 2147483647 := by omega
      refine ⟨_, rfl, _, rfl, _, _, rfl, rfl, Or.inl (by omega), ?_⟩
      refine ⟨_, rfl, _, _, rfl, rfl, Or.inl ⟨_, rfl, _, _, rfl, rfl, (by first | exact (by decide : (0 : Int) < 2147483647) | exact (by decide : (0 : Int) < 2147483629) | exact (by decide : (0 : Int) < 2147483587)), ?_⟩⟩
      refine ⟨_, rfl, _, _, rfl, rfl, ⟨by decide, by decide⟩, Or.inl ⟨_, rfl, _, rfl, _, _, rfl, rfl, m0, ?_⟩⟩
      exact k _ _ (Int.emod_nonneg _ (by omega)) (Int.emod_lt_of_pos _ m0) (NF.Same.put hS h0) ⟨_, _, _, hp'⟩
end
end K28
set_option Elab.async false
set_option linter.all false
set_option maxRecDepth 100000
set_option maxHeartbeats 4000000
namespace K28
open PySem PySem.Spec PyProof.Rows L2 He NF
theorem sc__law_source : FnScope ["_law_script", "_law_place", "_law_cell", "_law_seed", "_law_one", "_law_number"] ["_law_script", "_law_place"] (defScope s__law_source) := ⟨rfl, rfl, rfl, by decide +kernel, rfl, by decide +kernel, by decide +kernel⟩
theorem natAbs_bits {x : Int} {n : Nat} (h : x.natAbs < 2 ^ n) : Builtin.Int.intBits x ≤ n := by
  unfold Builtin.Int.intBits
  by_cases e : x = 0
  · rw [if_pos (by rw [e]; rfl)]
    exact Nat.zero_le _
  · rw [if_neg (by simpa using e)]
    exact (Nat.log2_lt (by omega)).mpr h
theorem bits_le {x y : Int} (h : x.natAbs ≤ y.natAbs) : Builtin.Int.intBits x ≤ Builtin.Int.intBits y := by
  refine natAbs_bits (Nat.lt_of_le_of_lt h ?_)
  unfold Builtin.Int.intBits
  by_cases e : y = 0
  · rw [if_pos (by rw [e]; rfl), e]
    decide
  · rw [if_neg (by simpa using e)]
    exact Nat.lt_log2_self
theorem bits_small {x : Int} (h0 : 0 ≤ x) (h : x < 1000000) : Builtin.Int.intBits x ≤ 1048576 := Nat.le_trans (natAbs_bits (n := 20) (by omega)) (by decide)
section
variable {P : Program} {w : World} {K : PySem.W.Frag} {mg : Str → Option Value} {base : Heap}
theorem ok_source {f : Addr} {fd : FuncData} {gs fs : List Str} (F : FunD K "_law_source" "_law_source" (defArgs s__law_source) (defBody s__law_source) (defScope s__law_source) [] [] f fd) (T : Txt K mg gs fs) (hl : ("len" : Str) ∈ fs) (hi : ("int" : Str) ∈ fs) (ha : ("abs" : Str) ∈ fs) : FnOk P w K mg base CX0 1 f fd ["_law_script", "_law_place"] (spSource K) := by
  refine F.ok sc__law_source (fun vs H Q E h => ?_) (fun cdv A outer s H vs Q E hr h => ?_)
  · obtain ⟨l, ns, i, rfl, _⟩ := h
    rfl
  · obtain ⟨l, ns, i, rfl, hS, hn, hb, hi', k⟩ := h
    refine ⟨_, PSs.nox (pss_cons (ps_set (i := 2) sc__law_source.nd rfl (Or.inl rfl) (pe_ifExp (pt_cmpR op_lt (pv 1) (pe_callB call_len_seq rfl (T.fr _ hl) boot_len (pa_cons (pv 0) pa_nil)) (nomark _)) (pe_ix ix_list (pv 0) (pv 1) fun _ _ => rfl) (pe_op op_add (pe_op op_mul pe_int (pv 1)) pe_int))) (pss_cons (ps_set (i := 3) sc__law_source.nd rfl (Or.inl rfl) (pe_op op_mod (pe_callTy call_int1 rfl (T.fr _ hi) (by decide +kernel) (pa_cons (pe_op op_add (pe_op op_mod (pe_callTy call_int1 rfl (T.fr _ hi) (by decide +kernel) (pa_cons (pv 2) pa_nil)) pe_int) (pe_op op_mul pe_int (pv 1))) pa_nil)) pe_int)) (pss_cons (ps_for PassesOwn.never rfl (pi_list (pe_slice sl_list (pv 0) po_none (po_some pe_int))) (pg_name (i := 4) sc__law_source.nd rfl (Or.inl rfl)) (pss_one (ps_set (i := 3) sc__law_source.nd rfl (Or.inl rfl) (pe_op op_mod (pe_callTy call_int1 rfl (T.fr _ hi) (by decide +kernel) (pa_cons (pe_op op_add (pe_op op_mul (pv 3) pe_int) (pe_op op_mod (pe_callTy call_int1 rfl (T.fr _ hi) (by decide +kernel) (pa_cons (pv 4) pa_nil)) pe_int)) pa_nil)) pe_int)))) (pss_cons (ps_set (i := 5) sc__law_source.nd rfl (Or.inl rfl) (pe_callB call_abs rfl (T.fr _ ha) (by decide +kernel) (pa_cons (pv 2) pa_nil))) (pss_cons (ps_if (pt_cmpR op_lt (pv 5) (pe_op op_pow pe_int pe_int) (nomark _)) (pss_one (ps_ret (pe_lst (pa_cons pe_int (pa_cons (pv 3) (pa_cons pe_int pa_nil)))))) pss_nil) (pss_cons (ps_if (pt_cmpR op_gt (pe_op op_shr (pv 5) pe_int) pe_int (nomark _)) (pss_one (ps_set (i := 5) sc__law_source.nd rfl (Or.inl rfl) (pe_op op_sub (pv 5) (pe_op op_shlW (pe_op op_shr (pv 5) pe_int) pe_int)))) pss_nil) (pss_one (ps_ret (pe_lst (pa_cons (pv 5) (pa_cons (pv 3) (pa_cons pe_int pa_nil)))))))))))), ?_⟩
    -- the cell: what stands at the place, or a number by the place
    have hcell : ∀ (Q1 : VK), (∀ c : Int, Builtin.Int.intBits c ≤ 1048576 → Q1 (.int c) H) →
        (if decide ((i : Int) < ((ns.map V.int).length : Int)) = true then tOp (rIxL K) (tVar 0) (tVar 1) (start ["_law_script", "_law_place", "_law_cell", "_law_seed", "_law_one", "_law_number"] [.ref l, .int (i : Int)]) H Q1
          else tOp (rI0 fun i j => .int (i + j)) (tOp (rI CMul fun i j => .int (i * j)) (tC (.int 3)) (tVar 1)) (tC (.int 1)) (start ["_law_script", "_law_place", "_law_cell", "_law_seed", "_law_one", "_law_number"] [.ref l, .int (i : Int)]) H Q1) := by
      intro Q1 q
      rw [List.length_map]
      by_cases hlt : i < ns.length
      · rw [decide_eq_true (show (i : Int) < (ns.length : Int) by omega), if_pos rfl]
        have e : (ns.map V.int)[i]? = some (V.int ns[i]) := by rw [List.getElem?_map, List.getElem?_eq_getElem hlt] <;> rfl
        exact ⟨_, rfl, _, rfl, l, _, _, _, rfl, rfl, hS, atI_nat e, q _ (hb _ (List.getElem_mem hlt))⟩
      · rw [decide_eq_false (show ¬ (i : Int) < (ns.length : Int) by omega), if_neg Bool.false_ne_true]
        refine ⟨_, rfl, _, _, rfl, rfl, Or.inl (by decide), _, _, rfl, rfl, q _ ?_⟩
        exact bits_small (by omega) (by omega)
    refine ⟨_, rfl, _, rfl, l, _, rfl, Or.inl hS, _, _, rfl, rfl, _, rfl, hcell _ fun c hc => ?_⟩
    refine ⟨_, rfl, Or.inl ⟨_, rfl, _, _, rfl, rfl, (by exact (by decide : (0 : Int) < 2147483629)), ?_⟩⟩
    refine ⟨_, rfl, _, _, rfl, rfl, Or.inl (by decide), _, _, rfl, rfl, Or.inl ⟨_, rfl, _, _, rfl, rfl, (by exact (by decide : (0 : Int) < 2147483629)), ?_⟩⟩
    refine ⟨_, rfl, _, rfl, l, _, rfl, hS, fun p hp => ⟨p, rfl, ⟨_, SqL.of upd_same⟩, ?_⟩⟩
    have hpl : H p = none := hp
    obtain ⟨cs, hcs⟩ : ∃ cs : List Int, cutV (ns.map V.int) none (some 2) = cs.map V.int := ⟨(ns.drop (HT.sIx (ns.map V.int).length 0 none)).take (HT.sIx (ns.map V.int).length (ns.map V.int).length (some 2) - HT.sIx (ns.map V.int).length 0 none), by unfold cutV; rw [List.map_take, List.map_drop]⟩
    refine for_list (K := K) (a := p) (xs := cs.map V.int) (fun j σ H' => H' = upd H p (.lst (cs.map V.int)) ∧ ∃ (sd : Int) (v : Option V), σ = [some (.ref l), some (.int (i : Int)), some (.int c), some (.int sd), v, none])
      ⟨by rw [hcs], _, _, rfl⟩ (fun j σ H' _ z => by rw [z.1]; exact SqL.of upd_same) ?_ ?_
    · rintro j y σ H' hj ⟨rfl, sd, v, rfl⟩
      obtain ⟨z, rfl⟩ : ∃ z, y = V.int z := by
        rw [List.getElem?_map] at hj
        cases e : cs[j]? with
        | none =>
          rw [e] at hj
          cases hj
        | some z =>
          rw [e] at hj
          exact ⟨z, (Option.some.inj hj).symm⟩
      refine ⟨_, rfl, _, _, rfl, rfl, Or.inr (by decide), _, rfl, Or.inl ⟨_, rfl, _, _, rfl, rfl, (by exact (by decide : (0 : Int) < 1000003)), ?_⟩⟩
      refine ⟨_, _, rfl, rfl, Or.inl ⟨_, rfl, _, _, rfl, rfl, (by exact (by decide : (0 : Int) < 2147483629)), ?_⟩⟩
      exact ⟨rfl, _, _, rfl⟩
    · rintro σ H' ⟨rfl, sd, v, rfl⟩
      have hS1 : Same H (upd H p (.lst (cs.map V.int))) := NF.Same.new (Same.refl H) hp
      have hend : ∀ (a sd : Int) (q : Addr), upd H p (.lst (cs.map V.int)) q = none → Q (.ref q) (upd (upd H p (.lst (cs.map V.int))) q (.lst [.int a, .int sd, .int 0])) := fun a sd q hq =>
        k q _ (NF.Same.new hS1 hq) (L2.Same.free hS1 hq) ⟨_, _, _, upd_same⟩
      refine ⟨_, rfl, _, rfl, ?_⟩
      have hab : Builtin.Int.intBits (if c < 0 then -c else c) ≤ 1048576 := Nat.le_trans (bits_le (by split <;> omega)) hc
      generalize hm : (if c < 0 then -c else c) = m at hab ⊢
      have m0 : 0 ≤ m := by rw [← hm]; split <;> omega
      refine ⟨_, rfl, _, _, rfl, rfl, ⟨by decide, by decide, by decide⟩, _, _, rfl, rfl, _, rfl, ?_⟩
      refine ite2 (fun _ => ?_) (fun _ => ?_)
      · exact ⟨_, rfl, (by show 3 ≤ sizeLine; decide), fun q hq => hend _ _ q hq⟩
      · refine ⟨_, rfl, _, _, rfl, rfl, (by exact (by decide : (0 : Int) ≤ 4000)), _, _, rfl, rfl, _, rfl, ?_⟩
        refine ite2 (fun _ => ?_) (fun _ => ?_)
        · refine ⟨_, rfl, _, rfl, _, _, rfl, rfl, (by exact (by decide : (0 : Int) ≤ 4000)), _, _, rfl, rfl, ⟨(by exact (by decide : (0 : Int) ≤ 4000)), ?_⟩, _, _, rfl, rfl, ?_⟩
          · have hd : Builtin.Int.intBits (m / 2 ^ (4000 : Int).toNat) ≤ Builtin.Int.intBits m := bits_le (by
              have h1 : 0 ≤ m / 2 ^ (4000 : Int).toNat := Int.ediv_nonneg m0 (Int.le_of_lt (Int.pow_pos (by decide)))
              have h2 : m / 2 ^ (4000 : Int).toNat ≤ m := Int.ediv_le_self _ m0
              omega)
            have h27 : (1048576 : Int) + 4000 ≤ 2 ^ 27 := by decide
            omega
          · exact ⟨_, rfl, _, rfl, (by show 3 ≤ sizeLine; decide), fun q hq => hend _ _ q hq⟩
        · exact ⟨_, rfl, _, rfl, (by show 3 ≤ sizeLine; decide), fun q hq => hend _ _ q hq⟩
end
end K28
set_option Elab.async false
set_option linter.all false
set_option maxRecDepth 100000
set_option maxHeartbeats 4000000
namespace K28
open PySem PySem.Spec PyProof.Rows L2 He NF RZ NT
theorem src_ne {H : Hp} {p q : Addr} {o : HO} (hs : Src H p) (hq : H q = none) : q ≠ p := fun z => by
  obtain ⟨_, _, _, h⟩ := hs
  rw [z, h] at hq
  cases hq
theorem src_put {H : Hp} {p q : Addr} {o : HO} (hs : Src H p) (n : q ≠ p) : Src (upd H q o) p := by
  obtain ⟨a, b, c, h⟩ := hs
  exact ⟨a, b, c, by rw [upd_ne (Ne.symm n)]; exact h⟩
theorem same_none {H0 H : Hp} {q : Addr} (s : Same H0 H) (h : H q = none) : H0 q = none := L2.Same.free s h
theorem idx_k {l : List Int} {d lo hi : Int} {n : Nat} (h0 : 0 ≤ d) (h1 : d < (n : Int)) (hl : l.length = n) (hb : ∀ k, k < n → lo ≤ l.getD k 0 ∧ l.getD k 0 ≤ hi) : ∃ v : Int, atI (vI l) d = some (.int v) ∧ lo ≤ v ∧ v ≤ hi :=
  ⟨l.getD d.toNat 0, at_int (by omega) (by omega), hb _ (by omega)⟩
theorem both1H {X : Prop} {R : Hp → Prop} (P : Hp → Prop) (h1 : (∀ G, P G → R G) → X) (h2 : ∀ G, P G → R G) : X := h1 h2
def spLDeeds : Sp := fun vs H Q _ => ∃ (H0 : Hp) (p : Addr) (n m : Nat) (g : Int), vs = [.ref p, .int (n : Int), .int (m : Int), .int g] ∧ Same H0 H ∧ H0 p = none ∧ Src H p ∧ 1 ≤ n ∧ n ≤ 3 ∧ m ≤ 10 ∧
  ∀ (q : Addr) (ds : List Deed) (H' : Hp), Same H0 H' → Src H' p → H' q = some (.lst (ds.map dV)) → H0 q = none → q ≠ p → ds.length = m → (∀ i, some i ∈ ds → i < n) → Q (.ref q) H'
def MkrT (K : PySem.W.Frag) (H : Hp) (q : Addr) (n : Nat) (b : List Deed) (ws : List (List Deed)) : Prop := ∃ pb pw, SqT K H q [.int (n : Int), .ref pb, .ref pw] ∧ SqT K H pb (b.map dV) ∧ WaysT K H pw ws
theorem MkrT.mono {K : PySem.W.Frag} {H H' : Hp} {q : Addr} {n : Nat} {b : List Deed} {ws : List (List Deed)} (h : MkrT K H q n b ws) (s : Same H H') : MkrT K H' q n b ws := by
  obtain ⟨pb, pw, h1, h2, h3⟩ := h
  exact ⟨pb, pw, NF.Same.tup s h1, NF.Same.tup s h2, h3.mono s⟩
theorem WaysT.wo {K : PySem.W.Frag} {H : Hp} {pw p : Addr} {ws : List (List Deed)} {u : HO} (h : WaysT K H pw ws) (hp : H p = some u) (n : match u with | .lst _ => True | .ins _ _ _ => True | _ => False) : WaysT K (NF.wo H p) pw ws := by
  obtain ⟨as, h1, h2, h3⟩ := h
  exact ⟨as, SqT.wo h1 hp n, h2, fun j a w e1 e2 => SqT.wo (h3 j a w e1 e2) hp n⟩
theorem MkrT.wo {K : PySem.W.Frag} {H : Hp} {q p : Addr} {n : Nat} {b : List Deed} {ws : List (List Deed)} (h : MkrT K H q n b ws) (hs : Src H p) : MkrT K (NF.wo H p) q n b ws := by
  obtain ⟨pb, pw, h1, h2, h3⟩ := h
  obtain ⟨_, _, _, e⟩ := hs
  exact ⟨pb, pw, SqT.wo h1 e trivial, SqT.wo h2 e trivial, WaysT.wo h3 e trivial⟩
/-- a maker as it is drawn -/
structure Drawn (n : Nat) (b : List Deed) (ws : List (List Deed)) : Prop where
  n1 : 1 ≤ n
  n3 : n ≤ 3
  bd : ∀ i, some i ∈ b → i < n
  wy : ∀ v ∈ ws, v ≠ [] ∧ v.length ≤ 4 ∧ ∀ i, some i ∈ v → i < n
  m1 : 1 ≤ ws.length
  m4 : ws.length ≤ 4
  bl : b.length ≤ 4
theorem Drawn.good {n : Nat} {b : List Deed} {ws : List (List Deed)} (d : Drawn n b ws) : GoodM n b ws :=
  ⟨d.n1, d.n3, d.bd, fun v hv => ⟨(d.wy v hv).1, .inl (by have := (d.wy v hv).2.1; omega), (d.wy v hv).2.2⟩, d.m1, d.m4, by have := d.bl; omega⟩
def spLMaker (K : PySem.W.Frag) : Sp := fun vs H Q _ => ∃ (H0 : Hp) (p : Addr) (n m : Nat) (st : Bool), vs = [.ref p, .int (n : Int), .int (m : Int), .bl st] ∧ Same H0 H ∧ H0 p = none ∧ Src H p ∧ 1 ≤ n ∧ n ≤ 3 ∧ 1 ≤ m ∧ m ≤ 4 ∧
  ∀ q b ws H', Same H0 H' → Src H' p → Drawn n b ws → MkrT K H' q n b ws → Q (.ref q) H'
def spLMade (K : PySem.W.Frag) (C : Addr) : Sp := fun vs H Q _ => ∃ (q : Addr) (n : Nat) (b : List Deed) (ws : List (List Deed)), vs = [.ref q] ∧ MkrT K H q n b ws ∧ GoodM n b ws ∧ ∀ x H', Same H H' → MakAt K C H' x n b ws → Q (.ref x) H'
section
variable {P : Program} {w : World} {K : PySem.W.Frag} {mg : Str → Option Value} {base : Heap} {gs fs : List Str} {C : Addr}
theorem in_give {ds : List Deed} : (inV (.str "give") (ds.map dV) = true) ↔ none ∈ ds := by
  unfold inV
  rw [List.any_map, List.any_eq_true]
  constructor
  · rintro ⟨d, hd, e⟩
    cases d with
    | none => exact hd
    | some i => cases e
  · exact fun h => ⟨none, h, by decide +kernel⟩
theorem flat_deeds (ds : List Deed) : (ds.map dV).all flatV = true := by
  rw [List.all_map, List.all_eq_true]
  intro d _
  cases d <;> rfl
theorem begins_le : ∀ k, k < 8 → 0 ≤ ([0, 1, 2, 0, 3, 1, 4, 2] : List Int).getD k 0 ∧ ([0, 1, 2, 0, 3, 1, 4, 2] : List Int).getD k 0 ≤ 4 := by decide
theorem gives_le : ∀ k, k < 4 → 1 ≤ ([2, 2, 1, 3] : List Int).getD k 0 ∧ ([2, 2, 1, 3] : List Int).getD k 0 ≤ 3 := by decide
end
end K28
set_option Elab.async false
set_option linter.all false
set_option maxRecDepth 100000
set_option maxHeartbeats 4000000
namespace K28
open PySem PySem.Spec PyProof.Rows L2 He NF RZ NT
theorem sc__law_plain : FnScope ["_law_head", "_law_loop", "_law_rise", "_law_size", "_law_many", "_law_row", "_law_turns", "_law_step", "_law_k"] ["_law_head", "_law_loop", "_law_rise"] (defScope s__law_plain) := ⟨rfl, rfl, rfl, by decide +kernel, rfl, by decide +kernel, by decide +kernel⟩
theorem all_range {n : Nat} {f : Nat → Bool} : ((List.range n).map f).all id = true ↔ ∀ k, k < n → f k = true := by
  rw [List.all_eq_true]
  constructor
  · intro h k hk
    exact h _ (List.mem_map.mpr ⟨k, List.mem_range.mpr hk, rfl⟩)
  · intro h x hx
    obtain ⟨k, hk, rfl⟩ := List.mem_map.mp hx
    exact h k (List.mem_range.mp hk)
theorem at_neg {l : List Int} {i : Int} {n : Nat} (e : i + (l.length : Int) = (n : Int)) (h0 : i < 0) (h : n < l.length) : atI (vI l) i = some (V.int (l.getD n 0)) := by
  unfold atI ixN
  rw [if_neg (by omega), List.length_map, if_pos (by omega)]
  show (vI l)[(i + (l.length : Int)).toNat]? = _
  rw [show (i + (l.length : Int)).toNat = n by omega, List.getElem?_map, List.getElem?_eq_getElem h, List.getD_eq_getElem?_getD, List.getElem?_eq_getElem h] <;> rfl
section
variable {P : Program} {w : World} {K : PySem.W.Frag} {mg : Str → Option Value} {base : Heap} {gs : List Str}
end
end K28
set_option Elab.async false
set_option linter.all false
set_option maxRecDepth 100000
set_option maxHeartbeats 4000000
namespace K28
open PySem PySem.Spec PyProof.Rows L2 He NF RZ NT
def spPlainL (K : PySem.W.Frag) : Sp := fun vs H Q _ => ∃ (a b : Addr) (h l : List Int) (r : Int), vs = [.ref a, .ref b, .int r] ∧ SqL K H a (vI h) ∧ SqL K H b (vI l) ∧ h.length ≤ 10000 ∧ l.length ≤ 10000 ∧ ∀ p x H', IsPlain h l r x → Same H H' → FormAt K H' p x → Q (.ref p) H'
section
variable {P : Program} {w : World} {K : PySem.W.Frag} {mg : Str → Option Value} {base : Heap} {gs : List Str}
theorem ok__law_plainL {f : Addr} {fd : FuncData} (F : FunD K "_law_plain" "_law_plain" (defArgs s__law_plain) (defBody s__law_plain) (defScope s__law_plain) [] [] f fd) (T : Txt K mg gs FS) : FnOk P w K mg base CX0 1 f fd ["_law_head", "_law_loop", "_law_rise"] (spPlainL K) := by
  refine F.ok sc__law_plain (fun vs H Q E h => ?_) (fun cdv A outer s H vs Q E hr h => ?_)
  · obtain ⟨a, b, h, l, r, rfl, _⟩ := h
    rfl
  · obtain ⟨a, b, h, l, r, rfl, ha, hb, hh, hll, q⟩ := h
    refine ⟨_, PSs.nox (pss_cons (ps_if (pt_cmpR op_eq (pe_callB call_len_seq rfl (T.fr _ (by decide +kernel)) boot_len (pa_cons (pv 1) pa_nil)) pe_int (nomark _)) (pss_one (ps_ret (pe_tup (pa_cons (pe_callTy cr_tup rfl (T.fr _ (by decide +kernel)) (by decide +kernel) (pa_cons (pv 0) pa_nil)) (pa_cons (pe_tup pa_nil) (pa_cons pe_int pa_nil)))))) pss_nil) (pss_cons (ps_set (i := 3) sc__law_plain.nd rfl (Or.inl rfl) (pe_callB call_len_seq rfl (T.fr _ (by decide +kernel)) boot_len (pa_cons (pv 1) pa_nil))) (pss_cons (ps_for PassesOwn.never rfl (pi_range3 rfl (T.fr _ (by decide +kernel)) (pa_cons (pe_callB call_len_seq rfl (T.fr _ (by decide +kernel)) boot_len (pa_cons (pv 1) pa_nil)) (pa_cons pe_int (pa_cons (pe_un un_neg pe_int) pa_nil)))) (pg_name (i := 4) sc__law_plain.nd rfl (Or.inr rfl)) (pss_cons (ps_set (i := 6) sc__law_plain.nd rfl (Or.inl rfl) (pe_op op_fdiv (pe_callB call_len_seq rfl (T.fr _ (by decide +kernel)) boot_len (pa_cons (pv 1) pa_nil)) (pv 4))) (pss_cons (ps_if (PW.pt (pw_or (pt_cmpR op_ne (pe_op op_mul (pv 6) (pv 4)) (pe_callB call_len_seq rfl (T.fr _ (by decide +kernel)) boot_len (pa_cons (pv 1) pa_nil)) (nomark _)) (pw_or1 (pt_cmpR op_ne (pe_op op_mod (pe_callTy call_int1 rfl (T.fr _ (by decide +kernel)) (by decide +kernel) (pa_cons (pv 2) pa_nil)) (pv 6)) pe_int (nomark _))))) (pss_one ps_continue) pss_nil) (pss_cons (ps_set (i := 7) sc__law_plain.nd rfl (Or.inr rfl) (pe_op op_fdiv (pv 2) (pv 6))) (pss_one (ps_if (pt_val (pe_callB (cr_all rfl) rfl (T.fr _ (by decide +kernel)) (by decide +kernel) (pa_cons (pe_lc (own := [("_law_k", 8)]) rfl sc__law_plain.nd (pi_range1 rfl (T.fr _ (by decide +kernel)) (pa_cons (pe_op op_sub (pe_callB call_len_seq rfl (T.fr _ (by decide +kernel)) boot_len (pa_cons (pv 1) pa_nil)) (pv 4)) pa_nil)) (blkOk_by (N := ["_law_head", "_law_loop", "_law_rise", "_law_size", "_law_many", "_law_row", "_law_turns", "_law_step", "_law_k"]) (sc := defScope s__law_plain) (by decide +kernel)) (fun _ _ _ _ _ => by exact (pg_name (i := 8) sc__law_plain.nd rfl (Or.inl rfl))) (fun _ _ _ _ _ => by exact pts_nil) (fun _ _ _ _ _ => by exact (pe_cmpR op_eq (pe_ix (ixl (K := K)) (pv 1) (pe_op op_add (pv 8) (pv 4)) fun _ _ => rfl) (pe_op op_add (pe_ix (ixl (K := K)) (pv 1) (pv 8) fun _ _ => rfl) (pv 7)) (nomark _)))) pa_nil))) (pss_one (ps_set (i := 3) sc__law_plain.nd rfl (Or.inl rfl) (pv 4))) pss_nil)))))) (pss_cons (ps_set (i := 2) sc__law_plain.nd rfl (Or.inl rfl) (pe_op op_fdiv (pv 2) (pe_op op_fdiv (pe_callB call_len_seq rfl (T.fr _ (by decide +kernel)) boot_len (pa_cons (pv 1) pa_nil)) (pv 3)))) (pss_cons (ps_set (i := 5) sc__law_plain.nd rfl (Or.inl rfl) (pe_op op_cat (pe_callTy call_list_of rfl (T.fr _ (by decide +kernel)) (by decide +kernel) (pa_cons (pv 0) pa_nil)) (pe_callTy call_list_of rfl (T.fr _ (by decide +kernel)) (by decide +kernel) (pa_cons (pe_slice sl_list (pv 1) po_none (po_some (pv 3))) pa_nil)))) (pss_cons (ps_while PassesOwn.never (PW.pt (pw_and (pt_cmpR op_gt (pe_callB call_len_seq rfl (T.fr _ (by decide +kernel)) boot_len (pa_cons (pv 5) pa_nil)) (pv 3) (nomark _)) (pw_and1 (pt_cmpR op_eq (pe_ix (ixl (K := K)) (pv 5) (pe_op op_sub (pe_un un_neg pe_int) (pv 3)) fun _ _ => rfl) (pe_op op_sub (pe_ix (ixl (K := K)) (pv 5) (pe_un un_neg pe_int) fun _ _ => rfl) (pv 2)) (nomark _))))) (pss_one (ps_set (i := 5) sc__law_plain.nd rfl (Or.inl rfl) (pe_slice sl_list (pv 5) po_none (po_some (pe_un un_neg pe_int)))))) (pss_one (ps_ret (pe_tup (pa_cons (pe_callTy cr_tup rfl (T.fr _ (by decide +kernel)) (by decide +kernel) (pa_cons (pe_slice sl_list (pv 5) po_none (po_some (pe_op op_sub (pe_callB call_len_seq rfl (T.fr _ (by decide +kernel)) boot_len (pa_cons (pv 5) pa_nil)) (pv 3)))) pa_nil)) (pa_cons (pe_callTy cr_tup rfl (T.fr _ (by decide +kernel)) (by decide +kernel) (pa_cons (pe_slice sl_list (pv 5) (po_some (pe_op op_sub (pe_callB call_len_seq rfl (T.fr _ (by decide +kernel)) boot_len (pa_cons (pv 5) pa_nil)) (pv 3))) po_none) pa_nil)) (pa_cons (pv 2) pa_nil)))))))))))), ?_⟩
    refine ⟨_, rfl, b, _, rfl, Or.inl hb, rfl, _, rfl, ?_⟩
    by_cases hl : l = []
    · refine (iteT' (decide_eq_true (by rw [hl]; rfl)) ?_)
      subst hl
      refine ⟨_, rfl, a, _, rfl, Or.inl ha, fun p1 G1 s1 t1 => ?_⟩
      refine ⟨(by show 0 ≤ sizeLine; decide), fun p2 hp2 => ?_⟩
      refine ⟨(by show 3 ≤ sizeLine; decide), fun p3 hp3 => ?_⟩
      have s6 := NF.Same.new (o := .tup []) (Same.refl G1) hp2
      have s7 := NF.Same.new (o := .tup [V.ref p1, V.ref p2, V.int 0]) s6 hp3
      exact q p3 (h, [], 0) _ (.inl ⟨rfl, rfl⟩) (Same.trans s1 s7) ⟨p1, p2, SqT.of upd_same, NF.Same.tup s7 t1, SqT.of (by rw [upd_ne (ne_of_none upd_same hp3)]; exact upd_same)⟩
    refine (iteF' (decide_eq_false (fun z => hl ?_)) ?_)
    · injection z with z
      rw [vI_len] at z
      exact List.eq_nil_of_length_eq_zero (by omega)
    have hp := len_pos hl
    refine ⟨_, rfl, b, _, rfl, Or.inl hb, ?_⟩
    refine ⟨_, rfl, b, _, rfl, Or.inl hb, _, rfl, _, _, _, l.length, rfl, ?_, ?_⟩
    · have := RgC.neg (i := ((vI l).length : Int)) (j := 0) (by rw [vI_len]; omega) (by rw [vI_len]; omega) (by omega) (by omega)
      rw [vI_len, Int.sub_zero, Int.toNat_natCast] at this
      rw [vI_len]
      exact this
    -- the shortest lap
    refine for_rangeC (n := l.length) (fun i σ G => Same H G ∧ ∃ s : Nat, (0 < s ∧ s ∣ l.length ∧ Per (walk l r) s ∧ ∀ m', l.length - i < m' → m' ∣ l.length → Per (walk l r) m' → s ≤ m') ∧ ∃ v1 v2 v3 : Option V, σ = [some (.ref a), some (.ref b), some (.int r), some (.int (s : Int)), v1, none, v2, v3, none])
      ⟨Same.refl _, l.length, ⟨hp, Nat.dvd_refl _, per_self hl, fun m' h1 _ _ => by omega⟩, none, none, none, ?_⟩ ?_ ?_
    · rw [vI_len]
      rfl
    · rintro i σ G hi ⟨s1, sz, ⟨z0, z1, z2, z3⟩, v1, v2, v3, rfl⟩
      have hb1 := L2.Same.seq s1 hb
      obtain ⟨m, hm⟩ : ∃ m : Nat, m = l.length - i := ⟨_, rfl⟩
      have m0 : 0 < m := by omega
      have mle : m ≤ l.length := by omega
      have e1 : ((vI l).length : Int) + (i : Int) * (-1) = (m : Int) := by rw [vI_len]; omega
      rw [e1]
      obtain ⟨t, htt⟩ : ∃ t : Nat, t = l.length / m := ⟨_, rfl⟩
      have t0 : 0 < t := by rw [htt]; exact Nat.div_pos mle m0
      have tle : t ≤ l.length := by rw [htt]; exact Nat.div_le_self _ _
      have e2 : ((vI l).length : Int) / (m : Int) = (t : Int) := by rw [vI_len, htt]; rfl
      refine ⟨_, rfl, b, _, rfl, Or.inl hb1, _, rfl, _, _, rfl, rfl, ⟨by omega, by omega⟩, ?_⟩
      show gName 6 (V.int (((vI l).length : Int) / (m : Int))) _ _ _
      rw [e2]
      have hnext : ∀ {v3' : Option V}, ¬ (m ∣ l.length ∧ Per (walk l r) m) → (fun σ G => Same H G ∧ ∃ s : Nat, (0 < s ∧ s ∣ l.length ∧ Per (walk l r) s ∧ ∀ m', l.length - (i + 1) < m' → m' ∣ l.length → Per (walk l r) m' → s ≤ m') ∧ ∃ v1 v2 v3 : Option V, σ = [some (.ref a), some (.ref b), some (.int r), some (.int (s : Int)), v1, none, v2, v3, none])
          [some (.ref a), some (.ref b), some (.int r), some (.int (sz : Int)), some (.int (m : Int)), none, some (.int (t : Int)), v3', none] G := fun hn => by
        refine ⟨s1, sz, ⟨z0, z1, z2, fun m' h1 h2 h3 => ?_⟩, _, _, _, rfl⟩
        by_cases c : m' = m
        · subst c
          exact absurd ⟨h2, h3⟩ hn
        · exact z3 m' (by omega) h2 h3
      refine ⟨_, rfl, _, rfl, _, _, rfl, rfl, Or.inr ⟨by omega, by omega⟩, _, rfl, b, _, rfl, Or.inl hb1, rfl, _, rfl, ?_⟩
      by_cases hd : ¬ m ∣ l.length
      · refine iteT' ?_ (iteT (hnext fun z => hd z.1))
        rw [decide_eq_false (fun z => hd ?_)]
        · rfl
        injection z with z
        rw [vI_len] at z
        have z' : t * m = l.length := Int.ofNat.inj (by rw [← Int.natCast_mul] at z; exact z)
        exact ⟨t, by rw [Nat.mul_comm]; exact z'.symm⟩
      have hd := Classical.not_not.mp hd
      have hmt : m * t = l.length := by rw [htt]; exact Nat.mul_div_cancel' hd
      refine iteF' ?_ ?_
      · rw [decide_eq_true]
        · rfl
        rw [vI_len, ← hmt, Int.natCast_mul, Int.mul_comm]
      have hiff := law_iff (r := r) hl m0 hmt
      refine ⟨_, rfl, Or.inl ⟨_, rfl, _, rfl, _, _, rfl, rfl, (by show (0 : Int) < (t : Int); omega), rfl, _, rfl, ?_⟩⟩
      by_cases hrt : ¬ r % (t : Int) = 0
      · refine iteT' ?_ (hnext fun z => hrt (hiff.mpr z.2).1)
        rw [decide_eq_false (fun z => hrt (by injection z))]
        rfl
      have hrt := Classical.not_not.mp hrt
      refine iteF' ?_ ?_
      · rw [decide_eq_true (congrArg V.int hrt)]
        rfl
      refine ⟨_, rfl, _, rfl, _, _, rfl, rfl, ⟨by omega, by omega⟩, ?_⟩
      -- all
      refine ⟨_, rfl, b, _, rfl, Or.inl hb1, _, rfl, _, _, rfl, rfl, _, rfl, ?_⟩
      rw [vI_len]
      refine ⟨by omega, by omega, fun D hD => ?_⟩
      have en : ((l.length : Int) - (m : Int)).toNat = l.length - m := by omega
      rw [en]
      refine lc_range (lo := 0) (n := l.length - m) (fun j G' => Same G G' ∧ G' D = some (.lst (((List.range j).map fun k => decide (V.int (l.getD (k + m) 0) = V.int (l.getD k 0 + r / (t : Int)))).map V.bl))) ⟨NF.Same.new (Same.refl G) hD, upd_same⟩ ?_ ?_
      · rintro j G' hj ⟨hG, hD2⟩
        have e1 : (0 : Int) + (j : Int) = (j : Int) := Int.zero_add _
        rw [e1]
        have hb2 := L2.Same.seq hG hb1
        refine ⟨rfl, _, rfl, _, rfl, _, rfl, _, _, rfl, rfl, b, _, _, _, rfl, rfl, hb2, at_int (k := j + m) (by omega) (by omega), ?_⟩
        refine ⟨_, rfl, _, rfl, b, _, _, _, rfl, rfl, hb2, at_int (k := j) rfl (by omega), _, rfl, _, _, rfl, rfl, rfl, ?_⟩
        refine ⟨_, hD2, by rw [List.length_map, List.length_map, List.length_range]; exact Nat.lt_of_lt_of_le (show j < 10000 by omega) (by decide), NF.Same.mut hG hD, ?_⟩
        rw [upd_same, List.range_succ, List.map_append, List.map_append]
        rfl
      · rintro G' ⟨hG, hD2⟩
        refine ⟨D, _, rfl, SqL.of hD2, _, rfl, ?_⟩
        have s2 := Same.trans s1 hG
        have hcond : ((List.range (l.length - m)).map fun k => decide (V.int (l.getD (k + m) 0) = V.int (l.getD k 0 + r / (t : Int)))).all id = true ↔ ∀ k, k + m < l.length → l.getD (k + m) 0 = l.getD k 0 + r / (t : Int) := by
          rw [all_range]
          constructor
          · intro hk k hk2
            have := of_decide_eq_true (hk k (by omega))
            injection this
          · intro hk k hk2
            exact decide_eq_true (congrArg V.int (hk k (by omega)))
        refine ite2 (fun hc => ?_) (fun hc => ?_)
        · have hper := hiff.mp ⟨hrt, hcond.mp hc⟩
          refine ⟨_, rfl, s2, m, ⟨m0, hd, hper, fun m' h1 _ _ => by omega⟩, _, _, _, rfl⟩
        · refine ⟨s2, sz, ⟨z0, z1, z2, fun m' h1 h2 h3 => ?_⟩, _, _, _, rfl⟩
          by_cases c : m' = m
          · subst c
            exact absurd (hcond.mpr (hiff.mpr h3).2) hc
          · exact z3 m' (by omega) h2 h3
    · rintro σ G ⟨s1, m, ⟨z0, z1, z2, z3⟩, v1, v2, v3, rfl⟩
      have hm : LapIs l r m := ⟨z0, z1, z2, fun m' h1 h2 h3 => z3 m' (by omega) h2 h3⟩
      have hle : m ≤ l.length := Nat.le_of_dvd hp z1
      obtain ⟨t, ht⟩ := z1
      have t0 : 0 < t := Nat.pos_of_ne_zero fun z => by rw [z, Nat.mul_zero] at ht; omega
      have hc := per_at hl z0 z2 ht.symm
      have ha1 := L2.Same.seq s1 ha
      have hb1 := L2.Same.seq s1 hb
      have e2 : ((vI l).length : Int) / (m : Int) = (t : Int) := by
        rw [vI_len, ht, Int.natCast_mul, Int.mul_ediv_cancel_left _ (by omega)]
      have tle : t ≤ l.length := by rw [ht]; exact Nat.le_mul_of_pos_left _ z0
      refine ⟨_, rfl, _, rfl, b, _, rfl, Or.inl hb1, _, rfl, _, _, rfl, rfl, ⟨by omega, by omega⟩, ?_⟩
      show rI CDiv _ (V.int r) (V.int (((vI l).length : Int) / (m : Int))) _ _
      rw [e2]
      refine ⟨_, _, rfl, rfl, ⟨by omega, by omega⟩, ?_⟩
      show gName 2 (V.int (r / (t : Int))) _ _ _
      generalize hcc : r / (t : Int) = cc at hc
      refine ⟨_, rfl, a, _, rfl, Or.inl ha1, fun q1 hq1 => ?_⟩
      have s2 := NF.Same.new (o := .lst (vI h)) s1 hq1
      refine ⟨_, rfl, _, rfl, _, rfl, ?_⟩
      have hb2 := L2.Same.seq (NF.Same.new (o := .lst (vI h)) (Same.refl G) hq1) hb1
      refine ⟨b, _, rfl, hb2, fun p2 hp2 => ?_⟩
      rw [cut_to, vI_take]
      have s3 := NF.Same.new (o := .lst (vI (l.take m))) (Same.refl (upd G q1 (.lst (vI h)))) hp2
      refine ⟨p2, _, rfl, Or.inl (SqL.of upd_same), fun q2 hq2 => ?_⟩
      generalize hG2 : upd (upd G q1 (.lst (vI h))) p2 (.lst (vI (l.take m))) = G2 at s3 hq2 ⊢
      have hq1' : upd G2 q2 (.lst (vI (l.take m))) q1 = some (.lst (vI h)) := by
        have := s3 _ _ (upd_same (H := G) (a := q1) (o := .lst (vI h)))
        rw [upd_ne (ne_of_none this hq2)]
        exact this
      have hel : (h ++ l.take m).length = h.length + m := by rw [List.length_append, List.length_take, Nat.min_eq_left hle]
      refine ⟨q1, q2, _, _, rfl, rfl, hq1', upd_same, ?_, fun q3 hq3 => ?_⟩
      · rw [vI_len, vI_len, List.length_take]
        exact Nat.le_trans (show h.length + min m l.length ≤ 20000 by omega) (by decide)
      rw [vI_app]
      have s4 : Same H (upd (upd G2 q2 (.lst (vI (l.take m)))) q3 (.lst (vI (h ++ l.take m)))) := NF.Same.new (NF.Same.new (Same.trans s2 s3) hq2) hq3
      refine ⟨fun k σ G' => Same H G' ∧ k ≤ h.length ∧ cut (h ++ l.take m) m cc h.length = cut (h ++ l.take m) m cc k ∧ ∃ pr, G' pr = some (.lst (vI ((h ++ l.take m).take (k + m)))) ∧ σ = [some (.ref a), some (.ref b), some (.int cc), some (.int (m : Int)), v1, some (.ref pr), v2, v3, none],
        ⟨h.length, s4, Nat.le_refl _, rfl, q3, by rw [upd_same, show (h ++ l.take m).take (h.length + m) = h ++ l.take m from List.take_of_length_le (by omega)], rfl⟩, ?_⟩
      rintro k σ G' ⟨s5, hk, hcut, pr, hpr, rfl⟩
      have hlen : ((h ++ l.take m).take (k + m)).length = k + m := by rw [List.length_take, hel]; omega
      -- what is handed back
      have hdone : cut (h ++ l.take m) m cc k = k → (tRet (tTup (tCons (tCB (rTupOf K) (tCons (tSl (rSlL K) (tVar 5) tNoPart (tPart (tOp (rI0 fun i j => .int (i - j)) (tCB (fun xs H Q => ∃ a ys, xs = [.ref a] ∧ (SqL K H a ys ∨ SqT K H a ys) ∧ Q (.int (ys.length : Int)) H) (tCons (tVar 5) tNil)) (tVar 3)))) tNil))
          (tCons (tCB (rTupOf K) (tCons (tSl (rSlL K) (tVar 5) (tPart (tOp (rI0 fun i j => .int (i - j)) (tCB (fun xs H Q => ∃ a ys, xs = [.ref a] ∧ (SqL K H a ys ∨ SqT K H a ys) ∧ Q (.int (ys.length : Int)) H) (tCons (tVar 5) tNil)) (tVar 3))) tNoPart) tNil)) (tCons (tVar 2) tNil))))) { nx := fun _ H' => Q .non H', rt := Q }
          [some (.ref a), some (.ref b), some (.int cc), some (.int (m : Int)), v1, some (.ref pr), v2, v3, none] G' := fun hk2 => by
        have e5 : ((vI ((h ++ l.take m).take (k + m))).length : Int) - (m : Int) = (k : Int) := by rw [vI_len, hlen]; omega
        refine ⟨_, rfl, _, rfl, pr, _, rfl, Or.inl (SqL.of hpr), _, rfl, _, _, rfl, rfl, _, rfl, ?_⟩
        rw [e5]
        refine ⟨pr, _, rfl, SqL.of hpr, fun q1 hq1 => ?_⟩
        rw [cut_to, vI_take, List.take_take, Nat.min_eq_left (by omega)]
        refine ⟨q1, _, rfl, Or.inl (SqL.of upd_same), fun p1 G1 s6 t1 => ?_⟩
        have s06 : Same G' G1 := Same.trans (NF.Same.new (Same.refl G') hq1) s6
        have hpr1 := s06 _ _ hpr
        refine ⟨_, rfl, _, rfl, pr, _, rfl, Or.inl (SqL.of hpr1), _, rfl, _, _, rfl, rfl, _, rfl, ?_⟩
        rw [e5]
        refine ⟨pr, _, rfl, SqL.of hpr1, fun q2 hq2 => ?_⟩
        rw [cut_from, vI_drop]
        refine ⟨q2, _, rfl, Or.inl (SqL.of upd_same), fun p2 G2 s7 t2 => ?_⟩
        have s17 : Same G1 G2 := Same.trans (NF.Same.new (Same.refl G1) hq2) s7
        refine ⟨_, rfl, (by show 3 ≤ sizeLine; decide), fun p6 hp6 => ?_⟩
        have s8 := NF.Same.new (o := .tup [V.ref p1, V.ref p2, V.int cc]) (Same.refl G2) hp6
        have hx := plain_is (h := h) hl hm hc
        rw [hcut, hk2] at hx
        have ew : ((h ++ l.take m).take (k + m)).drop k = win (h ++ l.take m) k m := by
          unfold win
          rw [List.drop_take, Nat.add_sub_cancel_left]
        rw [ew] at t2
        exact q p6 _ _ hx (Same.trans s5 (Same.trans s06 (Same.trans s17 s8))) ⟨p1, p2, SqT.of upd_same, NF.Same.tup (Same.trans s17 s8) t1, NF.Same.tup s8 t2⟩
      refine ⟨_, rfl, pr, _, rfl, Or.inl (SqL.of hpr), _, rfl, _, _, rfl, rfl, _, rfl, ?_⟩
      refine ite2 (fun h1 => ?_) (fun h1 => ?_)
      · have k0 : 0 < k := by
          have := of_decide_eq_true h1
          rw [vI_len, hlen] at this
          omega
        obtain ⟨j, rfl⟩ : ∃ j, k = j + 1 := ⟨k - 1, by omega⟩
        have g1 : ((h ++ l.take m).take (j + 1 + m)).getD j 0 = (h ++ l.take m).getD j 0 := getD_take (by omega)
        have g2 : ((h ++ l.take m).take (j + 1 + m)).getD (j + m) 0 = (h ++ l.take m).getD (j + m) 0 := getD_take (by omega)
        refine ⟨_, rfl, _, rfl, _, rfl, _, _, rfl, rfl, pr, _, _, _, rfl, rfl, SqL.of hpr, at_neg (n := j) (by rw [hlen]; omega) (by omega) (by rw [hlen]; omega), ?_⟩
        refine ⟨_, rfl, _, rfl, pr, _, _, _, rfl, rfl, SqL.of hpr, at_neg (n := j + m) (by rw [hlen]; omega) (by omega) (by rw [hlen]; omega), _, rfl, _, _, rfl, rfl, rfl, _, rfl, ?_⟩
        rw [g1, g2]
        refine ite2 (fun h2 => ?_) (fun h2 => ?_)
        · have h2' : (h ++ l.take m).getD j 0 + cc = (h ++ l.take m).getD (j + m) 0 := by
            have := of_decide_eq_true h2
            injection this
            omega
          refine ⟨fun σ' G2 => Same H G2 ∧ ∃ pr', G2 pr' = some (.lst (vI ((h ++ l.take m).take (j + m)))) ∧ σ' = [some (.ref a), some (.ref b), some (.int cc), some (.int (m : Int)), v1, some (.ref pr'), v2, v3, none], fun σ' G2 ⟨z1, pr', z2, z3⟩ => ⟨j, Nat.lt_succ_self j, z1, by omega, ?_, pr', z2, z3⟩, ?_⟩
          · rw [hcut]
            show (if (h ++ l.take m).getD j 0 + cc = (h ++ l.take m).getD (j + m) 0 then _ else _) = _
            rw [if_pos h2']
          · refine ⟨_, rfl, _, rfl, _, rfl, pr, _, rfl, SqL.of hpr, fun q4 hq4 => ?_⟩
            refine ⟨NF.Same.new s5 hq4, q4, ?_, rfl⟩
            rw [upd_same]
            show some (HO.lst (cutV _ none (some (-((1 : Nat) : Int))))) = _
            rw [cut_toN (by decide), vI_len, hlen, vI_take, List.take_take, Nat.min_eq_left (by omega)]
            congr 4
            omega
        · refine hdone ?_
          show (if (h ++ l.take m).getD j 0 + cc = (h ++ l.take m).getD (j + m) 0 then _ else _) = _
          rw [if_neg fun z => h2 (decide_eq_true (congrArg V.int (by omega)))]
      · have k0 : k = 0 := by
          have : ¬ (m : Int) < ((vI ((h ++ l.take m).take (k + m))).length : Int) := fun z => h1 (decide_eq_true z)
          rw [vI_len, hlen] at this
          omega
        subst k0
        exact hdone rfl
end
end K28
set_option Elab.async false
set_option linter.all false
set_option maxRecDepth 100000
set_option maxHeartbeats 4000000
namespace NT
theorem deedsOf_app {ws : List (List Deed)} {a b : List Nat} : K28.deedsOf ws (a ++ b) = K28.deedsOf ws a ++ K28.deedsOf ws b := by
  unfold K28.deedsOf
  rw [List.map_append, List.flatten_append]
theorem deedsOf_rep {ws : List (List Deed)} {ts : List Nat} : ∀ {k : Nat}, K28.deedsOf ws (List.replicate k ts).flatten = rep (K28.deedsOf ws ts) k
  | 0 => rfl
  | k + 1 => by
    rw [List.replicate_succ, List.flatten_cons, deedsOf_app, deedsOf_rep]
    rfl
end NT
namespace K28
open PySem PySem.Spec PyProof.Rows L2 He NF RZ NT
def CrsT (K : PySem.W.Frag) (H : Hp) (a : Addr) (fs ts : List Nat) : Prop := ∃ p1 p2, SqT K H a [.ref p1, .ref p2] ∧ SqT K H p1 (vNs fs) ∧ SqT K H p2 (vNs ts)
theorem CrsT.mono {K : PySem.W.Frag} {H H' : Hp} {a : Addr} {fs ts : List Nat} (h : CrsT K H a fs ts) (s : Same H H') : CrsT K H' a fs ts := by
  obtain ⟨p1, p2, h1, h2, h3⟩ := h
  exact ⟨p1, p2, NF.Same.tup s h1, NF.Same.tup s h2, NF.Same.tup s h3⟩
theorem CrsT.r {K : PySem.W.Frag} {H : Hp} {a : Addr} {fs ts : List Nat} (h : CrsT K H a fs ts) : CrsR K H a fs ts := by
  obtain ⟨p1, p2, h1, h2, h3⟩ := h
  exact ⟨p1, p2, .inr h1, .inr h2, .inr h3⟩
theorem CrsT.wo {K : PySem.W.Frag} {H : Hp} {a p : Addr} {fs ts : List Nat} (h : CrsT K H a fs ts) (hs : Src H p) : CrsT K (NF.wo H p) a fs ts := by
  obtain ⟨p1, p2, h1, h2, h3⟩ := h
  obtain ⟨_, _, _, e⟩ := hs
  exact ⟨p1, p2, SqT.wo h1 e trivial, SqT.wo h2 e trivial, SqT.wo h3 e trivial⟩
def spLAhead (K : PySem.W.Frag) : Sp := fun vs H Q _ => ∃ (a : Addr) (i : Nat) (ds : List Deed), vs = [.ref a, .int (i : Int)] ∧ Row K H a (ds.map dV) ∧ ds.length ≤ 20000 ∧
  ∀ (p q : Addr) (H' : Hp), Same H H' → H q = none → SqT K H' p [.ref q, .int (took i ds : Int)] → H' q = some (.lst (vI (ahead i ds 0))) → Q (.ref p) H'
/-- sizes that the law's reading of a need bears -/
structure LonOk (b : List Deed) (ws : List (List Deed)) (fs ts : List Nat) : Prop where
  bl : b.length ≤ 600
  wl : ∀ v ∈ ws, v.length ≤ 600
  fl : fs.length ≤ 10
  tl : ts.length ≤ 10
def spLOn (K : PySem.W.Frag) : Sp := fun vs H Q _ => ∃ (q a : Addr) (n i : Nat) (b : List Deed) (ws : List (List Deed)) (fs ts : List Nat), vs = [.ref q, .int (i : Int), .ref a] ∧ MkrT K H q n b ws ∧ LonOk b ws fs ts ∧ CrsT K H a fs ts ∧ CrsOk ws.length fs ts ∧
  ∀ p z H', IsPlain (needT i (b ++ deedsOf ws fs) (deedsOf ws ts)).1 (needT i (b ++ deedsOf ws fs) (deedsOf ws ts)).2.1 (needT i (b ++ deedsOf ws fs) (deedsOf ws ts)).2.2 z → Same H H' → FormAt K H' p z → Q (.ref p) H'
theorem sc__law_ahead : FnScope ["_law_deeds", "_law_inlet", "_law_told", "_law_taken", "_law_deed"] ["_law_deeds", "_law_inlet"] (defScope s__law_ahead) := ⟨rfl, rfl, rfl, by decide +kernel, rfl, by decide +kernel, by decide +kernel⟩
theorem sc__law_on : FnScope ["_law_maker", "_law_inlet", "_law_course", "_law_deeds", "_law_number", "_law_again", "_law_head", "_law_taken", "_law_loop", "_law_rise", "_law_more"] ["_law_maker", "_law_inlet", "_law_course"] (defScope s__law_on) := ⟨rfl, rfl, rfl, by decide +kernel, rfl, by decide +kernel, by decide +kernel⟩
section
variable {P : Program} {w : World} {K : PySem.W.Frag} {mg : Str → Option Value} {base : Heap} {gs fs : List Str} {C : Addr}
theorem ok__law_ahead {f : Addr} {fd : FuncData} (F : FunD K "_law_ahead" "_law_ahead" (defArgs s__law_ahead) (defBody s__law_ahead) (defScope s__law_ahead) [] [] f fd) (T : Txt K mg gs FS) : FnOk P w K mg base CX0 1 f fd ["_law_deeds", "_law_inlet"] (spLAhead K) := by
  refine F.ok sc__law_ahead (fun vs H Q E h => ?_) (fun cdv A outer s H vs Q E hr h => ?_)
  · obtain ⟨a, i, ds, rfl, _⟩ := h
    rfl
  · obtain ⟨a, i, ds, rfl, ha, hl, q⟩ := h
    refine ⟨_, PSs.nox (pss_cons (ps_set (i := 2) sc__law_ahead.nd rfl (Or.inl rfl) (pe_lst pa_nil)) (pss_cons (ps_set (i := 3) sc__law_ahead.nd rfl (Or.inl rfl) pe_int) (pss_cons (ps_for PassesOwn.never rfl (pi_row (pv 0)) (pg_name (i := 4) sc__law_ahead.nd rfl (Or.inl rfl)) (pss_one (ps_if (pt_cmpR op_eq (pv 4) pe_str (nomark _)) (pss_one (ps_expr (pe_bm PySem.F.plainAttrs_list PySem.F.slot_list_append PySem.F.type_list_append mt_append (pv 2) (pa_cons (pv 3) pa_nil)))) (pss_one (ps_if (pt_cmpR op_eq (pv 4) (pv 1) (nomark _)) (pss_one (ps_set (i := 3) sc__law_ahead.nd rfl (Or.inl rfl) (pe_op op_add (pv 3) pe_int))) pss_nil))))) (pss_one (ps_ret (pe_tup (pa_cons (pv 2) (pa_cons (pv 3) pa_nil)))))))), ?_⟩
    refine ⟨(by show 0 ≤ sizeLine; decide), fun D hD => ?_⟩
    have s1 := NF.Same.new (o := .lst []) (Same.refl H) hD
    have hD1 := upd_same (H := H) (a := D) (o := .lst [])
    generalize upd H D (.lst []) = H1 at s1 hD1
    refine ⟨_, rfl, a, rfl, ?_⟩
    refine for_rowM ha (fun j σ G => Same H G ∧ G D = some (.lst (vI (ahead i (ds.take j) 0))) ∧ ∃ v : Option V, σ = [some (.ref a), some (.int (i : Int)), some (.ref D), some (.int (took i (ds.take j) : Int)), v]) ⟨s1, hD1, none, rfl⟩ (fun j σ G z => z.1) ?_ ?_
    · rintro j v σ G hv ⟨sG, hG, v5, rfl⟩
      have hj := (List.getElem?_eq_some_iff.mp hv).1
      rw [List.length_map] at hj
      obtain rfl : dV (ds[j]) = v := by
        rw [List.getElem?_map, List.getElem?_eq_getElem hj] at hv
        exact Option.some.inj hv
      have et : ds.take (j + 1) = ds.take j ++ [ds[j]] := by rw [List.take_add_one, List.getElem?_eq_getElem hj]; rfl
      have al := ahead_len (i := i) (a := ds.take j) (t := 0)
      rw [List.length_take] at al
      refine ⟨_, rfl, dV_scal, _, rfl, ?_⟩
      rw [dV_give]
      generalize ds[j] = d at et
      cases d with
      | none =>
        refine iteT ?_
        refine ⟨_, rfl, .inl ⟨rfl, _, SqL.of hG⟩, _, rfl, D, _, _, rfl, rfl, hG, by rw [vI_len]; exact Nat.lt_of_le_of_lt (show (ahead i (ds.take j) 0).length ≤ 20000 by omega) (by decide), ?_⟩
        refine ⟨NF.Same.mut sG hD, ?_, some (dV none), ?_⟩
        · rw [upd_same, et, ahead_snoc, ← vI_app]
          rfl
        · rw [et, took_snoc]
          rfl
      | some k =>
        refine iteF ?_
        refine ⟨_, rfl, _, rfl, dV_scalI, _, rfl, ?_⟩
        rw [dV_int]
        refine ite2 (fun h => ?_) (fun h => ?_)
        · have h := of_decide_eq_true h
          refine ⟨_, rfl, _, _, rfl, rfl, sG, ?_, some (dV (some k)), ?_⟩
          · rw [et, ahead_snoc]
            exact hG
          · rw [et, took_snoc]
            show _ = [_, _, _, some (V.int ((if k = i then took i (ds.take j) + 1 else took i (ds.take j) : Nat) : Int)), _]
            rw [if_pos h]
            rfl
        · have h : ¬ k = i := fun z => h (decide_eq_true z)
          refine ⟨sG, ?_, some (dV (some k)), ?_⟩
          · rw [et, ahead_snoc]
            exact hG
          · rw [et, took_snoc]
            show _ = [_, _, _, some (V.int ((if k = i then took i (ds.take j) + 1 else took i (ds.take j) : Nat) : Int)), _]
            rw [if_neg h]
            rfl
    · rintro σ G ⟨sG, hG, v5, rfl⟩
      rw [List.length_map, List.take_length] at hG ⊢
      refine ⟨_, rfl, _, rfl, (by show 2 ≤ sizeLine; decide), fun p hp => ?_⟩
      have s2 := NF.Same.new (o := .tup [V.ref D, V.int (took i ds : Int)]) (Same.refl G) hp
      exact q p D _ (Same.trans sG s2) hD (SqT.of upd_same) (s2 _ _ hG)
theorem ok__law_on {f : Addr} {fd : FuncData} (F : FunD K "_law_on" "_law_on" (defArgs s__law_on) (defBody s__law_on) (defScope s__law_on) [] [] f fd) (T : Txt K mg gs FS) (c__law_ahead : Cal P w K mg base 1 "_law_ahead" (spLAhead K)) (c__law_plain : Cal P w K mg base 1 "_law_plain" (spPlainL K)) : FnOk P w K mg base CX0 2 f fd ["_law_maker", "_law_inlet", "_law_course"] (spLOn K) := by
  refine F.ok sc__law_on (fun vs H Q E h => ?_) (fun cdv A outer s H vs Q E hr h => ?_)
  · obtain ⟨q, a, n, i, b, ws, fs, ts, rfl, _⟩ := h
    rfl
  · obtain ⟨q, a, n, i, b, ws, fs, ts, rfl, ⟨pb, pw, hq, hb, as, hw, hl, hws⟩, dr, ⟨p1, p2, ha, hp1, hp2⟩, ok, k⟩ := h
    have bl := dr.bl
    have okfl := dr.fl
    have oktl := dr.tl
    have w4 : ∀ v ∈ ws, v.length ≤ 600 := dr.wl
    have lk : ∀ ks : List Nat, ks.length ≤ 10 → (deedsOf ws ks).length ≤ 6000 := fun ks h => Nat.le_trans (deeds_len (ks := ks) w4) (Nat.mul_le_mul_right 600 h)
    refine ⟨_, PSs.nox (pss_cons (ps_set (i := 3) sc__law_on.nd rfl (Or.inl rfl) (pe_callTy call_list_of rfl (T.fr _ (by decide +kernel)) (by decide +kernel) (pa_cons (pe_ix (ixt (K := K)) (pv 0) pe_int fun _ _ => rfl) pa_nil))) (pss_cons (ps_for PassesOwn.never rfl (pi_tup (pe_ix (ixt (K := K)) (pv 2) pe_int fun _ _ => rfl)) (pg_name (i := 4) sc__law_on.nd rfl (Or.inl rfl)) (pss_one (ps_set (i := 3) sc__law_on.nd rfl (Or.inl rfl) (pe_op op_cat (pv 3) (pe_callTy call_list_of rfl (T.fr _ (by decide +kernel)) (by decide +kernel) (pa_cons (pe_ix (ixt (K := K)) (pe_ix (ixt (K := K)) (pv 0) pe_int fun _ _ => rfl) (pv 4) fun _ _ => rfl) pa_nil)))))) (pss_cons (ps_asg (pe_c c__law_ahead hr (by decide) rfl (pa_cons (pv 3) (pa_cons (pv 1) pa_nil))) (pgt (K := K) (n := 2) rfl rfl (pgs_cons (pg_name (i := 6) sc__law_on.nd rfl (Or.inl rfl)) (pgs_cons (pg_name (i := 7) sc__law_on.nd rfl (Or.inr rfl)) pgs_nil)))) (pss_cons (ps_set (i := 5) sc__law_on.nd rfl (Or.inl rfl) (pe_lst pa_nil)) (pss_cons (ps_for PassesOwn.never rfl (pi_tup (pe_ix (ixt (K := K)) (pv 2) pe_int fun _ _ => rfl)) (pg_name (i := 4) sc__law_on.nd rfl (Or.inl rfl)) (pss_one (ps_set (i := 5) sc__law_on.nd rfl (Or.inl rfl) (pe_op op_cat (pv 5) (pe_callTy call_list_of rfl (T.fr _ (by decide +kernel)) (by decide +kernel) (pa_cons (pe_ix (ixt (K := K)) (pe_ix (ixt (K := K)) (pv 0) pe_int fun _ _ => rfl) (pv 4) fun _ _ => rfl) pa_nil)))))) (pss_cons (ps_asg (pe_c c__law_ahead hr (by decide) rfl (pa_cons (pv 5) (pa_cons (pv 1) pa_nil))) (pgt (K := K) (n := 2) rfl rfl (pgs_cons (pg_name (i := 8) sc__law_on.nd rfl (Or.inl rfl)) (pgs_cons (pg_name (i := 9) sc__law_on.nd rfl (Or.inl rfl)) pgs_nil)))) (pss_one (ps_ret (pe_c c__law_plain hr (by decide) rfl (pa_cons (pv 6) (pa_cons (pe_lc (own := [("_law_more", 10)]) rfl sc__law_on.nd (pi_list (pv 8)) (blkOk_by (N := ["_law_maker", "_law_inlet", "_law_course", "_law_deeds", "_law_number", "_law_again", "_law_head", "_law_taken", "_law_loop", "_law_rise", "_law_more"]) (sc := defScope s__law_on) (by decide +kernel)) (fun _ _ _ _ _ => by exact (pg_name (i := 10) sc__law_on.nd rfl (Or.inl rfl))) (fun _ _ _ _ _ => by exact pts_nil) (fun _ _ _ _ _ => by exact (pe_op op_add (pv 7) (pv 10)))) (pa_cons (pe_ifExp (pt_cmpR op_gt (pe_callB call_len_seq rfl (T.fr _ (by decide +kernel)) boot_len (pa_cons (pv 8) pa_nil)) pe_int (nomark _)) (pv 9) pe_int) pa_nil)))))))))))), ?_⟩
    refine ⟨_, rfl, q, _, _, _, rfl, rfl, hq, at1, pb, _, rfl, .inr hb, fun D hD => ?_⟩
    have s1 := NF.Same.new (o := .lst (b.map dV)) (Same.refl H) hD
    have hD1 := upd_same (H := H) (a := D) (o := .lst (b.map dV))
    generalize upd H D (.lst (b.map dV)) = H1 at s1 hD1
    -- one more way
    have more : ∀ (G : Hp) (X : Addr) (ks : List Nat) (j : Nat) (hj : j < ks.length) (d0 : List Deed) (R : VK), Same H G → (∀ x ∈ ks, x < ws.length) → ks.length ≤ 10 → d0.length ≤ 600 → G X = some (.lst ((d0 ++ deedsOf ws (ks.take j)).map dV)) → (∀ Y G', Same H G' → G' Y = some (.lst ((d0 ++ deedsOf ws (ks.take (j + 1))).map dV)) → R (.ref Y) G') →
        ∀ a2, as[ks[j]]? = some a2 → ∀ l, G l = none → rCat (.ref X) (.ref l) (upd G l (.lst ((ws.getD ks[j] []).map dV))) R := fun G X ks j hj d0 R sG okk k200 d4 hX done a2 e2 l hl0 => by
      have km := okk ks[j] (List.getElem_mem hj)
      have e : deedsOf ws (ks.take (j + 1)) = deedsOf ws (ks.take j) ++ ws.getD ks[j] [] := by
        rw [List.take_add_one, List.getElem?_eq_getElem hj, deedsOf_app]
        unfold deedsOf
        simp
      have l1 := lk (ks.take j) (by rw [List.length_take]; omega)
      have l2 : (ws.getD ks[j] []).length ≤ 600 := by
        rw [List.getD_eq_getElem?_getD, List.getElem?_eq_getElem km]
        exact w4 _ (List.getElem_mem km)
      have hX' := (upd_ne (o := .lst ((ws.getD ks[j] []).map dV)) (ne_of_none hX hl0)).trans hX
      refine ⟨X, l, _, _, rfl, rfl, hX', upd_same, ?_, fun Y hY => ?_⟩
      · rw [List.length_map, List.length_map, List.length_append]
        exact Nat.le_trans (show d0.length + (deedsOf ws (ks.take j)).length + (ws.getD ks[j] []).length ≤ 10000 by omega) (by decide)
      · refine done Y _ (NF.Same.new (NF.Same.new sG hl0) hY) ?_
        rw [upd_same, e, ← List.map_append, List.append_assoc]
    have wayAt : ∀ (G : Hp) (ks : List Nat) (j : Nat) (hj : j < ks.length), Same H G → (∀ x ∈ ks, x < ws.length) → ∃ a2, as[ks[j]]? = some a2 ∧ atI (as.map V.ref) ((ks[j] : Nat) : Int) = some (.ref a2) ∧ SqT K G a2 ((ws.getD ks[j] []).map dV) := fun G ks j hj sG okk => by
      have km := okk ks[j] (List.getElem_mem hj)
      have ka : ks[j] < as.length := by omega
      refine ⟨as[ks[j]], List.getElem?_eq_getElem ka, atI_nat (by rw [List.getElem?_map, List.getElem?_eq_getElem ka]; rfl), ?_⟩
      rw [List.getD_eq_getElem?_getD, List.getElem?_eq_getElem km]
      exact NF.Same.tup sG (hws _ _ _ (List.getElem?_eq_getElem ka) (List.getElem?_eq_getElem km))
    refine ⟨_, rfl, a, _, _, _, rfl, rfl, NF.Same.tup s1 ha, (show atI [V.ref p1, V.ref p2] 0 = some (V.ref p1) from rfl), p1, rfl, ⟨_, NF.Same.tup s1 hp1⟩, ?_⟩
    refine for_tup (xs := vNs fs) (fun j σ G => Same H G ∧ ∃ (X : Addr) (v4 : Option V), G X = some (.lst ((b ++ deedsOf ws (fs.take j)).map dV)) ∧ σ = [some (.ref q), some (.int (i : Int)), some (.ref a), some (.ref X), v4, none, none, none, none, none, none]) ⟨s1, D, none, by rw [hD1]; simp [deedsOf], rfl⟩ (fun j σ G _ z => NF.Same.tup z.1 hp1) ?_ ?_
    · rintro j v σ G hv ⟨sG, X, v4, hX, rfl⟩
      have hj := (List.getElem?_eq_some_iff.mp hv).1
      rw [show (vNs fs).length = fs.length from List.length_map ..] at hj
      rw [at_nat hj] at hv
      obtain rfl := Option.some.inj hv
      obtain ⟨a2, e2, ea, t2⟩ := wayAt G fs j hj sG ok.f
      refine ⟨_, rfl, _, rfl, q, _, _, _, rfl, rfl, NF.Same.tup sG hq, at2, _, rfl, pw, _, _, _, rfl, rfl, NF.Same.tup sG hw, ea, a2, _, rfl, .inr t2, fun l hl0 => ?_⟩
      exact more G X fs j hj b _ sG ok.f okfl bl hX (fun Y G' s' hY => ⟨s', Y, _, hY, rfl⟩) a2 e2 l hl0
    · rintro σ G ⟨sG, X', v4, hX, rfl⟩
      rw [show (vNs fs).length = fs.length from List.length_map .., List.take_length] at hX
      have lf := lk fs okfl
      have lt := lk ts (by omega)
      refine ⟨_, rfl, _, rfl, X', i, b ++ deedsOf ws fs, rfl, .inl (SqL.of hX), by rw [List.length_append]; omega, fun p3 q3 G3 s3 _ t3 h3 => ?_⟩
      have s03 := Same.trans sG s3
      refine ⟨p3, _, rfl, t3, rfl, _, _, rfl, ?_⟩
      refine ⟨_, _, rfl, ?_⟩
      refine ⟨rfl, ?_⟩
      -- again
      refine ⟨(by show 0 ≤ sizeLine; decide), fun B hB => ?_⟩
      have s4 := NF.Same.new (o := .lst []) (Same.refl G3) hB
      have hB4 := upd_same (H := G3) (a := B) (o := .lst [])
      have h34 := s4 _ _ h3
      have s04 := Same.trans s03 s4
      generalize upd G3 B (.lst []) = G4 at s4 hB4 h34 s04
      refine ⟨_, rfl, a, _, _, _, rfl, rfl, NF.Same.tup s04 ha, (show atI [V.ref p1, V.ref p2] 1 = some (V.ref p2) from rfl), p2, rfl, ⟨_, NF.Same.tup s04 hp2⟩, ?_⟩
      refine for_tup (xs := vNs ts) (fun j σ G => Same G4 G ∧ ∃ (X : Addr) (v4 : Option V), G X = some (.lst (([] ++ deedsOf ws (ts.take j)).map dV)) ∧ σ = [some (.ref q), some (.int (i : Int)), some (.ref a), some (.ref X'), v4, some (.ref X), some (.ref q3), some (.int (took i (b ++ deedsOf ws fs) : Int)), none, none, none]) ⟨Same.refl _, B, v4, by rw [hB4]; simp [deedsOf], rfl⟩ (fun j σ G _ z => NF.Same.tup (Same.trans s04 z.1) hp2) ?_ ?_
      · rintro j v σ G5 hv ⟨s5, Y, v5, hY, rfl⟩
        have hj := (List.getElem?_eq_some_iff.mp hv).1
        rw [show (vNs ts).length = ts.length from List.length_map ..] at hj
        rw [at_nat hj] at hv
        obtain rfl := Option.some.inj hv
        have s05 := Same.trans s04 s5
        obtain ⟨a2, e2, ea, t2⟩ := wayAt G5 ts j hj s05 ok.t
        refine ⟨_, rfl, _, rfl, q, _, _, _, rfl, rfl, NF.Same.tup s05 hq, at2, _, rfl, pw, _, _, _, rfl, rfl, NF.Same.tup s05 hw, ea, a2, _, rfl, .inr t2, fun l hl0 => ?_⟩
        have hY' := (upd_ne (o := .lst ((ws.getD ts[j] []).map dV)) (ne_of_none hY hl0)).trans hY
        have km := ok.t ts[j] (List.getElem_mem hj)
        have e : deedsOf ws (ts.take (j + 1)) = deedsOf ws (ts.take j) ++ ws.getD ts[j] [] := by
          rw [List.take_add_one, List.getElem?_eq_getElem hj, deedsOf_app]
          unfold deedsOf
          simp
        have l1 := lk (ts.take j) (by rw [List.length_take]; omega)
        have l2 : (ws.getD ts[j] []).length ≤ 600 := by
          rw [List.getD_eq_getElem?_getD, List.getElem?_eq_getElem km]
          exact w4 _ (List.getElem_mem km)
        refine ⟨Y, l, _, _, rfl, rfl, hY', upd_same, ?_, fun Z hZ => ?_⟩
        · rw [List.length_map, List.length_map, List.nil_append]
          exact Nat.le_trans (show (deedsOf ws (ts.take j)).length + (ws.getD ts[j] []).length ≤ 10000 by omega) (by decide)
        · refine ⟨NF.Same.new (NF.Same.new s5 hl0) hZ, Z, _, ?_, rfl⟩
          rw [upd_same, e, ← List.map_append, List.append_assoc]
      · rintro σ G5 ⟨s5, Y, v5, hY, rfl⟩
        rw [show (vNs ts).length = ts.length from List.length_map .., List.take_length, List.nil_append] at hY
        have h35 := s5 _ _ h34
        refine ⟨_, rfl, _, rfl, Y, i, deedsOf ws ts, rfl, .inl (SqL.of hY), by omega, fun p6 q6 G6 s6 _ t6 h6 => ?_⟩
        refine ⟨p6, _, rfl, t6, rfl, _, _, rfl, ?_⟩
        refine ⟨_, _, rfl, ?_⟩
        refine ⟨rfl, ?_⟩
        have h36 := s6 _ _ h35
        have s06 := Same.trans s04 (Same.trans s5 s6)
        -- the loop from what is taken on
        refine ⟨_, rfl, _, rfl, q6, rfl, ⟨_, SqL.of h6⟩, fun Z hZ => ?_⟩
        obtain ⟨t, ht⟩ : ∃ t : Int, t = (took i (b ++ deedsOf ws fs) : Int) := ⟨_, rfl⟩
        rw [← ht]
        refine lc_list (xs := vI (ahead i (deedsOf ws ts) 0)) (fun j G => Same G6 G ∧ G Z = some (.lst (vI (((ahead i (deedsOf ws ts) 0).take j).map (t + ·))))) ⟨NF.Same.new (Same.refl G6) hZ, upd_same⟩ (fun j G _ z => SqL.of (z.1 _ _ h6)) ?_ ?_
        · rintro j v G hv ⟨sG, hG⟩
          have hj := (List.getElem?_eq_some_iff.mp hv).1
          rw [vI_len] at hj
          obtain rfl : V.int ((ahead i (deedsOf ws ts) 0)[j]) = v := by
            unfold vI at hv
            rw [List.getElem?_map, List.getElem?_eq_getElem hj] at hv
            exact Option.some.inj hv
          have al := ahead_len (i := i) (a := deedsOf ws ts) (t := 0)
          refine ⟨rfl, _, rfl, _, rfl, _, _, rfl, rfl, ?_⟩
          refine ⟨_, hG, by rw [vI_len, List.length_map, List.length_take]; exact Nat.lt_of_le_of_lt (show min j (ahead i (deedsOf ws ts) 0).length ≤ 10000 by omega) (by decide), NF.Same.mut sG hZ, ?_⟩
          rw [upd_same, List.take_add_one, List.getElem?_eq_getElem hj, List.map_append, ← vI_app]
          rfl
        · rintro G7 ⟨s7, hZ7⟩
          rw [vI_len, List.take_length, ← ahead_off] at hZ7
          have h37 := s7 _ _ h36
          have h67 := s7 _ _ h6
          have n1 := ahead_len (i := i) (a := b ++ deedsOf ws fs) (t := 0)
          have n2 := ahead_len (i := i) (a := deedsOf ws ts) (t := t)
          rw [List.length_append] at n1
          have fin : ∀ r : Int, r = (needT i (b ++ deedsOf ws fs) (deedsOf ws ts)).2.2 → spPlainL K [.ref q3, .ref Z, .int r] G7 (fun v G' => Q v G') E0 := fun r er => by
            subst er
            refine ⟨q3, Z, _, ahead i (deedsOf ws ts) (took i (b ++ deedsOf ws fs) : Int), _, rfl, SqL.of h37, ?_, by omega, by rw [← ht]; omega, fun p z H' hz s fo => k p z H' hz (Same.trans s06 (Same.trans s7 s)) fo⟩
            rw [← ht]
            exact SqL.of hZ7
          refine ⟨_, rfl, q6, _, rfl, .inl (SqL.of h67), _, _, rfl, rfl, _, rfl, ?_⟩
          have el : (ahead i (deedsOf ws ts) (took i (b ++ deedsOf ws fs) : Int)).length = (ahead i (deedsOf ws ts) 0).length := by rw [ahead_off, List.length_map]
          rw [vI_len]
          refine ite2 (fun c => ?_) (fun c => ?_)
          · have c := of_decide_eq_true c
            refine ⟨_, rfl, fin _ ?_⟩
            show _ = if _ then _ else _
            rw [if_neg fun z => by rw [z] at el; simp at el; omega]
          · have c : ¬ (0 : Int) < ((ahead i (deedsOf ws ts) 0).length : Int) := fun z => c (decide_eq_true z)
            refine fin 0 ?_
            show _ = if _ then _ else _
            rw [if_pos (List.eq_nil_of_length_eq_zero (by omega))]
end
end K28
set_option Elab.async false
set_option linter.all false
set_option maxRecDepth 100000
set_option maxHeartbeats 4000000
namespace K28
open PySem PySem.Spec PyProof.Rows L2 He NF RZ NT
theorem vNs_snoc {ks : List Nat} {e : Nat} : vNs (ks ++ [e]) = vNs ks ++ [V.int (e : Int)] := by
  unfold vNs
  rw [List.map_append]
  rfl
theorem rep_len {ts : List Nat} : ∀ {j : Nat}, (List.replicate j ts).flatten.length = j * ts.length
  | 0 => by simp
  | j + 1 => by
    rw [List.replicate_succ, List.flatten_cons, List.length_append, rep_len, Nat.succ_mul]
    omega
theorem rep_mem {ts : List Nat} {j x : Nat} (h : x ∈ (List.replicate j ts).flatten) : x ∈ ts := by
  obtain ⟨l, hl, hx⟩ := List.mem_flatten.mp h
  rw [List.eq_of_mem_replicate hl] at hx
  exact hx
theorem vNs_len {ks : List Nat} : (vNs ks).length = ks.length := List.length_map ..
section
variable {P : Program} {w : World} {K : PySem.W.Frag} {mg : Str → Option Value} {base : Heap} {gs fs : List Str} {C : Addr}
end
end K28
set_option Elab.async false
set_option linter.all false
set_option maxRecDepth 100000
set_option maxHeartbeats 4000000
namespace K28
open PySem PySem.Spec PyProof.Rows L2 He NF RZ NT
def Counts (y : List Int × List Int × Int) : Prop := (∀ i, i ∈ y.1 ++ y.2.1 → 0 ≤ i) ∧ 0 ≤ y.2.2
def spSame (K : PySem.W.Frag) (C : Addr) : Sp := fun vs H Q _ => ∃ x p y, vs = [.ref x, .ref p] ∧ TabAt K C H x y ∧ FormAt K H p y ∧ Small y ∧ Counts y ∧ ∀ H', Same H H' → Q (.bl true) H'
theorem sc__law_same : FnScope ["_law_table_here", "_law_raw_here", "_law_one"] ["_law_table_here", "_law_raw_here"] (defScope s__law_same) := ⟨rfl, rfl, rfl, by decide +kernel, rfl, by decide +kernel, by decide +kernel⟩
theorem sc__law_is_integer : FnScope ["_law_thing"] ["_law_thing"] (defScope s__law_is_integer) := ⟨rfl, rfl, rfl, by decide +kernel, rfl, by decide +kernel, by decide +kernel⟩
theorem sc__law_is_count : FnScope ["_law_thing"] ["_law_thing"] (defScope s__law_is_count) := ⟨rfl, rfl, rfl, by decide +kernel, rfl, by decide +kernel, by decide +kernel⟩
section
variable {P : Program} {w : World} {K : PySem.W.Frag} {mg : Str → Option Value} {base : Heap} {gs : List Str} {C : Addr}
theorem ok__law_is_integer {f : Addr} {fd : FuncData} (F : FunD K "_law_is_integer" "_law_is_integer" (defArgs s__law_is_integer) (defBody s__law_is_integer) (defScope s__law_is_integer) [] [] f fd) (T : Txt K mg gs FS) : FnOk P w K mg base CX0 1 f fd ["_law_thing"] spIsInt := by
  refine F.ok sc__law_is_integer (fun vs H Q E h => ?_) (fun cdv A outer s H vs Q E hr h => ?_)
  · obtain ⟨i, rfl, _⟩ := h
    rfl
  · obtain ⟨i, rfl, q⟩ := h
    refine ⟨_, PSs.nox (pss_one (ps_ret (pe_and (pe_callB call_isi rfl (T.fr _ (by decide +kernel)) (by decide +kernel) (pa_cons (pv 0) (pa_cons (pe_bltn (v := .ty "int") rfl (T.fr _ (by decide +kernel)) (by decide +kernel) rfl) pa_nil))) (pe_one (pe_not (pe_callB call_isi rfl (T.fr _ (by decide +kernel)) (by decide +kernel) (pa_cons (pv 0) (pa_cons (pe_bltn (v := .ty "bool") rfl (T.fr _ (by decide +kernel)) (by decide +kernel) rfl) pa_nil)))))))), ?_⟩
    exact ⟨_, rfl, _, _, _, _, true, rfl, .ty "int", .base (.int i), kit_i_i K, true, rfl, _, rfl, _, _, _, _, false, rfl, .ty "bool", .base (.int i), kit_i_b K, false, rfl, q⟩
theorem ok__law_is_count {f : Addr} {fd : FuncData} (F : FunD K "_law_is_count" "_law_is_count" (defArgs s__law_is_count) (defBody s__law_is_count) (defScope s__law_is_count) [] [] f fd) (T : Txt K mg gs FS) (c__law_is_integer : Cal P w K mg base 1 "_law_is_integer" spIsInt) : FnOk P w K mg base CX0 2 f fd ["_law_thing"] spIsCount := by
  refine F.ok sc__law_is_count (fun vs H Q E h => ?_) (fun cdv A outer s H vs Q E hr h => ?_)
  · obtain ⟨i, rfl, _⟩ := h
    rfl
  · obtain ⟨i, rfl, q⟩ := h
    refine ⟨_, PSs.nox (pss_one (ps_ret (pe_and (pe_c c__law_is_integer hr (by decide) rfl (pa_cons (pv 0) pa_nil)) (pe_one (pe_cmpR op_ge (pv 0) pe_int (nomark _)))))), ?_⟩
    exact ⟨_, rfl, i, rfl, true, rfl, _, rfl, _, _, rfl, rfl, q⟩
theorem ok__law_same {f : Addr} {fd : FuncData} (F : FunD K "_law_same" "_law_same" (defArgs s__law_same) (defBody s__law_same) (defScope s__law_same) [] [] f fd) (T : Txt K mg gs FS) (hT : mg "Table" = some (.ref C)) (tc : TabC K C) (c__law_is_count : Cal P w K mg base 2 "_law_is_count" spIsCount) : FnOk P w K mg base CX0 3 f fd ["_law_table_here", "_law_raw_here"] (spSame K C) := by
  refine F.ok sc__law_same (fun vs H Q E h => ?_) (fun cdv A outer s H vs Q E hr h => ?_)
  · obtain ⟨x, p, y, rfl, _⟩ := h
    rfl
  · obtain ⟨x, p, ⟨h, l, r⟩, rfl, ⟨dx, a, b, hx, ha, hb⟩, ⟨a2, b2, hp, ha2, hb2⟩, sm, ⟨ct, c0⟩, q⟩ := h
    have hu : (A.deeper (envOfC "_law_same" (defScope s__law_same) s.heap.objs.size f cdv)).units + 64 < cLine := by
      have := hr.un
      omega
    have sm1 := sm.h
    have sm2 := sm.l
    dsimp only at hx ha hb hp ha2 hb2 sm1 sm2 ct c0
    refine ⟨_, PSs.nox (pss_cons (ps_if (PW.pt (pw_or (pt_not (pt_val (pe_callB call_isi rfl (T.fr _ (by decide +kernel)) (by decide +kernel) (pa_cons (pv 0) (pa_cons (pe_gl hT) pa_nil))))) (pw_or (pt_cmpR (op_neD hu) (pe_fld (pv 0) rfl) (pe_ix (ixt (K := K)) (pv 1) pe_int fun _ _ => rfl) (nomark _)) (pw_or1 (pt_cmpR (op_neD hu) (pe_fld (pv 0) rfl) (pe_ix (ixt (K := K)) (pv 1) pe_int fun _ _ => rfl) (nomark _)))))) (pss_one (ps_ret pe_bl)) pss_nil) (pss_cons (ps_if (PW.pt (pw_or (pt_not (pt_val (pe_callB call_isi rfl (T.fr _ (by decide +kernel)) (by decide +kernel) (pa_cons (pe_fld (pv 0) rfl) (pa_cons (pe_bltn (v := .ty "tuple") rfl (T.fr _ (by decide +kernel)) (by decide +kernel) rfl) pa_nil))))) (pw_or1 (pt_not (pt_val (pe_callB call_isi rfl (T.fr _ (by decide +kernel)) (by decide +kernel) (pa_cons (pe_fld (pv 0) rfl) (pa_cons (pe_bltn (v := .ty "tuple") rfl (T.fr _ (by decide +kernel)) (by decide +kernel) rfl) pa_nil)))))))) (pss_one (ps_ret pe_bl)) pss_nil) (pss_cons (ps_if (pt_not (pt_val (pe_callB (cr_all rfl) rfl (T.fr _ (by decide +kernel)) (by decide +kernel) (pa_cons (pe_lc (own := [("_law_one", 2)]) rfl sc__law_same.nd (pi_tup (pe_op op_catA (pe_fld (pv 0) rfl) (pe_fld (pv 0) rfl))) (blkOk_by (N := ["_law_table_here", "_law_raw_here", "_law_one"]) (sc := defScope s__law_same) (by decide +kernel)) (fun _ _ _ _ _ => by exact (pg_name (i := 2) sc__law_same.nd rfl (Or.inl rfl))) (fun _ _ _ _ _ => by exact pts_nil) (fun _ _ _ _ _ => by exact (pe_c c__law_is_count hr (by decide) rfl (pa_cons (pv 2) pa_nil)))) pa_nil)))) (pss_one (ps_ret pe_bl)) pss_nil) (pss_one (ps_ret (pe_and (pe_c c__law_is_count hr (by decide) rfl (pa_cons (pe_fld (pv 0) rfl) pa_nil)) (pe_one (pe_cmpR op_eq (pe_fld (pv 0) rfl) (pe_ix (ixt (K := K)) (pv 1) pe_int fun _ _ => rfl) (nomark _))))))))), ?_⟩
    refine ⟨_, rfl, _, _, _, _, true, rfl, .own C, tc.ty hx, tc.self, true, rfl, iteF ?_⟩
    refine ⟨_, rfl, x, C, dx, _, _, rfl, hx, tc.cl, tc.hd, rfl, _, rfl, p, _, _, _, rfl, rfl, hp, at0, ?_⟩
    refine neT_done (K := K) ha ha2 ⟨_, rfl, iteF' (by simp) ?_⟩
    refine ⟨_, rfl, x, C, dx, _, _, rfl, hx, tc.cl, tc.lp, rfl, _, rfl, p, _, _, _, rfl, rfl, hp, at1, ?_⟩
    refine neT_done (K := K) hb hb2 ⟨_, rfl, iteF' (by simp) ?_⟩
    refine ⟨_, rfl, x, C, dx, _, _, rfl, hx, tc.cl, tc.hd, rfl, _, _, _, _, true, rfl, .ty "tuple", tyx_tup ha, kit_t_t K, true, rfl, iteF ?_⟩
    refine ⟨_, rfl, x, C, dx, _, _, rfl, hx, tc.cl, tc.lp, rfl, _, _, _, _, true, rfl, .ty "tuple", tyx_tup hb, kit_t_t K, true, rfl, iteF ?_⟩
    refine ⟨_, rfl, x, C, dx, _, _, rfl, hx, tc.cl, tc.hd, rfl, _, rfl, x, C, dx, _, _, rfl, hx, tc.cl, tc.lp, rfl, ?_⟩
    refine catA_done (K := K) ha hb (by rw [vI_len, vI_len]; exact Nat.le_trans (show h.length + l.length ≤ 20000 by omega) (by decide)) fun p3 G1 s1 t1 => ?_
    rw [vI_app] at t1
    refine ⟨p3, rfl, ⟨_, t1⟩, fun D hD => ?_⟩
    refine lc_tup (xs := vI (h ++ l)) (fun j G => Same G1 G ∧ G D = some (.lst ((List.replicate j true).map V.bl))) ⟨NF.Same.new (Same.refl G1) hD, upd_same⟩ (fun i G _ z => NF.Same.tup z.1 t1) ?_ ?_
    · rintro j v G hv ⟨hG, hD2⟩
      have hj := (List.getElem?_eq_some_iff.mp hv).1
      rw [vI_len] at hj
      obtain rfl : V.int ((h ++ l)[j]) = v := by
        rw [List.getElem?_map, List.getElem?_eq_getElem hj] at hv
        exact Option.some.inj hv
      refine ⟨rfl, _, rfl, _, rfl, ?_⟩
      have hc := ct _ (List.getElem_mem hj)
      have hjl : j < 20000 := by
        rw [List.length_append] at hj
        omega
      rw [decide_eq_true hc]
      refine ⟨_, hD2, by rw [List.length_map, List.length_replicate]; exact Nat.lt_of_lt_of_le hjl (by decide), NF.Same.mut hG hD, ?_⟩
      rw [upd_same, List.replicate_succ', List.map_append] <;> rfl
    · rintro G ⟨hG, hD2⟩
      refine ⟨D, _, rfl, SqL.of hD2, true, ?_, iteF ?_⟩
      · rw [List.all_replicate]
        simp
      have s2 := Same.trans s1 hG
      have hx2 := s2 _ _ hx
      have hp2 := NF.Same.tup s2 hp
      refine ⟨_, rfl, x, C, dx, _, _, rfl, hx2, tc.cl, tc.ri, rfl, r, rfl, ?_⟩
      rw [decide_eq_true c0]
      refine ⟨true, rfl, iteT ⟨_, rfl, x, C, dx, _, _, rfl, hx2, tc.cl, tc.ri, rfl, _, rfl, p, _, _, _, rfl, rfl, hp2, at2, rfl, ?_⟩⟩
      show Q (V.bl (decide (V.int r = V.int r))) G
      rw [decide_eq_true rfl]
      exact q _ s2
end
end K28
set_option Elab.async false
set_option linter.all false
set_option maxRecDepth 100000
set_option maxHeartbeats 4000000
namespace K28
open PySem PySem.Spec PyProof.Rows L2 He NF RZ NT
def spLEnd (K : PySem.W.Frag) : Sp := fun vs H Q _ => ∃ p y, vs = [.ref p] ∧ FormAt K H p y ∧ Q (vO (fin_ y.2.1 y.2.2)) H
def spLAt (K : PySem.W.Frag) : Sp := fun vs H Q _ => ∃ p y n, vs = [.ref p, vN n] ∧ FormAt K H p y ∧ Small y ∧ Q (vO (val_ y.1 y.2.1 y.2.2 n)) H
def spGcd : Sp := fun vs H Q _ => ∃ a b : Nat, vs = [.int (a : Int), .int (b : Int)] ∧ ∀ H', Same H H' → Q (.int ((Nat.gcd a b : Nat) : Int)) H'
theorem sc__law_end : FnScope ["_law_raw_here"] ["_law_raw_here"] (defScope s__law_end) := ⟨rfl, rfl, rfl, by decide +kernel, rfl, by decide +kernel, by decide +kernel⟩
theorem sc__law_at : FnScope ["_law_raw_here", "_law_place", "_law_rest"] ["_law_raw_here", "_law_place"] (defScope s__law_at) := ⟨rfl, rfl, rfl, by decide +kernel, rfl, by decide +kernel, by decide +kernel⟩
section
variable {P : Program} {w : World} {K : PySem.W.Frag} {mg : Str → Option Value} {base : Heap} {gs : List Str}
theorem ok__law_end {f : Addr} {fd : FuncData} (F : FunD K "_law_end" "_law_end" (defArgs s__law_end) (defBody s__law_end) (defScope s__law_end) [] [] f fd) (T : Txt K mg gs FS) : FnOk P w K mg base CX0 1 f fd ["_law_raw_here"] (spLEnd K) := by
  refine F.ok sc__law_end (fun vs H Q E h => ?_) (fun cdv A outer s H vs Q E hr h => ?_)
  · obtain ⟨p, y, rfl, _⟩ := h
    rfl
  · obtain ⟨p, ⟨h, l, r⟩, rfl, ⟨a, b, hp, ha, hb⟩, q⟩ := h
    dsimp only at hp ha hb q
    refine ⟨_, PSs.nox (pss_cons (ps_if (PW.pt (pw_or (pt_cmpR op_eq (pe_callB call_len_seq rfl (T.fr _ (by decide +kernel)) boot_len (pa_cons (pe_ix (ixt (K := K)) (pv 0) pe_int fun _ _ => rfl) pa_nil)) pe_int (nomark _)) (pw_or1 (pt_cmpR op_gt (pe_ix (ixt (K := K)) (pv 0) pe_int fun _ _ => rfl) pe_int (nomark _))))) (pss_one (ps_ret pe_non)) pss_nil) (pss_one (ps_ret (pe_ix (ixt (K := K)) (pe_ix (ixt (K := K)) (pv 0) pe_int fun _ _ => rfl) (pe_un un_neg pe_int) fun _ _ => rfl)))), ?_⟩
    refine ⟨_, rfl, p, _, _, _, rfl, rfl, hp, at1, b, _, rfl, Or.inr hb, rfl, _, rfl, ?_⟩
    by_cases hl : l = []
    · refine (iteT' (decide_eq_true (by rw [hl]; rfl)) ?_)
      refine iteT ?_
      unfold fin_ at q
      rw [if_pos (.inl hl)] at q
      exact q
    · refine (iteF' (decide_eq_false (fun z => hl ?_)) ?_)
      · injection z with z
        rw [vI_len] at z
        exact List.eq_nil_of_length_eq_zero (by omega)
      refine ⟨_, rfl, p, _, _, _, rfl, rfl, hp, at2, _, _, rfl, rfl, _, rfl, ?_⟩
      refine ite2 (fun h1 => ?_) (fun h1 => ?_)
      · have h2 : (0 : Int) < r := of_decide_eq_true h1
        unfold fin_ at q
        rw [if_pos (.inr h2)] at q
        exact q
      · have h2 : ¬ (0 : Int) < r := fun z => h1 (decide_eq_true z)
        unfold fin_ at q
        rw [if_neg (fun z => z.elim hl h2)] at q
        exact ⟨_, rfl, p, _, _, _, rfl, rfl, hp, at1, _, rfl, b, _, _, _, rfl, rfl, hb, at_last (len_pos hl), q⟩
theorem ok__law_at {f : Addr} {fd : FuncData} (F : FunD K "_law_at" "_law_at" (defArgs s__law_at) (defBody s__law_at) (defScope s__law_at) [] [] f fd) (T : Txt K mg gs FS) (c__law_end : Cal P w K mg base 1 "_law_end" (spLEnd K)) : FnOk P w K mg base CX0 2 f fd ["_law_raw_here", "_law_place"] (spLAt K) := by
  refine F.ok sc__law_at (fun vs H Q E h => ?_) (fun cdv A outer s H vs Q E hr h => ?_)
  · obtain ⟨x, y, n, rfl, _⟩ := h
    rfl
  · obtain ⟨p, ⟨h, l, r⟩, n, rfl, fo, sm, q⟩ := h
    have fo0 := fo
    obtain ⟨a, b, hp, ha, hb⟩ := fo0
    dsimp only at hp ha hb q
    refine ⟨_, PSs.nox (pss_cons (ps_if (pt_cmpR op_isN (pv 1) pe_non (nomark _)) (pss_one (ps_ret (pe_c c__law_end hr (by decide) rfl (pa_cons (pv 0) pa_nil)))) pss_nil) (pss_cons (ps_if (pt_cmpR op_eq (pv 1) pe_int (nomark _)) (pss_one (ps_ret pe_int)) pss_nil) (pss_cons (ps_if (pt_cmpR op_le (pv 1) (pe_callB call_len_seq rfl (T.fr _ (by decide +kernel)) boot_len (pa_cons (pe_ix (ixt (K := K)) (pv 0) pe_int fun _ _ => rfl) pa_nil)) (nomark _)) (pss_one (ps_ret (pe_ix (ixt (K := K)) (pe_ix (ixt (K := K)) (pv 0) pe_int fun _ _ => rfl) (pe_op op_sub (pv 1) pe_int) fun _ _ => rfl))) pss_nil) (pss_cons (ps_if (pt_cmpR op_eq (pe_callB call_len_seq rfl (T.fr _ (by decide +kernel)) boot_len (pa_cons (pe_ix (ixt (K := K)) (pv 0) pe_int fun _ _ => rfl) pa_nil)) pe_int (nomark _)) (pss_one (ps_ret pe_non)) pss_nil) (pss_cons (ps_set (i := 2) sc__law_at.nd rfl (Or.inl rfl) (pe_op op_sub (pe_op op_sub (pv 1) (pe_callB call_len_seq rfl (T.fr _ (by decide +kernel)) boot_len (pa_cons (pe_ix (ixt (K := K)) (pv 0) pe_int fun _ _ => rfl) pa_nil))) pe_int)) (pss_one (ps_ret (pe_op op_add (pe_ix (ixt (K := K)) (pe_ix (ixt (K := K)) (pv 0) pe_int fun _ _ => rfl) (pe_op op_mod (pv 2) (pe_callB call_len_seq rfl (T.fr _ (by decide +kernel)) boot_len (pa_cons (pe_ix (ixt (K := K)) (pv 0) pe_int fun _ _ => rfl) pa_nil))) fun _ _ => rfl) (pe_op op_mul (pe_ix (ixt (K := K)) (pv 0) pe_int fun _ _ => rfl) (pe_op op_fdiv (pv 2) (pe_callB call_len_seq rfl (T.fr _ (by decide +kernel)) boot_len (pa_cons (pe_ix (ixt (K := K)) (pv 0) pe_int fun _ _ => rfl) pa_nil)))))))))))), ?_⟩
    cases n with
    | none => exact ⟨_, rfl, rfl, _, rfl, iteT ⟨_, rfl, p, _, rfl, fo, q⟩⟩
    | some n =>
      refine ⟨_, rfl, rfl, _, rfl, iteF ?_⟩
      refine ⟨_, rfl, rfl, _, rfl, ite2 (fun h1 => ?_) (fun h1 => ?_)⟩
      · have h2 : n = 0 := by
          have := of_decide_eq_true h1
          injection this with this
          omega
        subst h2
        exact q
      have n0 : n ≠ 0 := fun z => h1 (by rw [z]; exact decide_eq_true rfl)
      unfold val_ at q
      dsimp only at q
      rw [if_neg n0] at q
      refine ⟨_, rfl, _, rfl, p, _, _, _, rfl, rfl, hp, at0, a, _, rfl, Or.inr ha, ?_⟩
      rw [vI_len]
      refine ⟨_, _, rfl, rfl, _, rfl, ite2 (fun h1 => ?_) (fun h1 => ?_)⟩
      · have h2 : n ≤ h.length := by
          have := of_decide_eq_true h1
          omega
        unfold at_ at q
        rw [if_pos h2] at q
        exact ⟨_, rfl, p, _, _, _, rfl, rfl, hp, at0, _, rfl, _, _, rfl, rfl, a, _, _, _, rfl, rfl, ha, at_int (k := n - 1) (by omega) (by omega), q⟩
      have h2 : ¬ n ≤ h.length := fun z => h1 (decide_eq_true (by omega))
      refine ⟨_, rfl, p, _, _, _, rfl, rfl, hp, at1, b, _, rfl, Or.inr hb, rfl, _, rfl, ?_⟩
      by_cases hl : l = []
      · refine (iteT' (decide_eq_true (by rw [hl]; rfl)) ?_)
        unfold at_ at q
        rw [if_neg h2, if_pos hl] at q
        exact q
      have hp0 := len_pos hl
      have hsl := sm.l
      dsimp only at hsl
      rw [at_loop hl (by omega)] at q
      refine (iteF' (decide_eq_false (fun z => hl ?_)) ?_)
      · injection z with z
        rw [vI_len] at z
        exact List.eq_nil_of_length_eq_zero (by omega)
      refine ⟨_, rfl, _, rfl, p, _, _, _, rfl, rfl, hp, at0, a, _, rfl, Or.inr ha, _, _, rfl, rfl, _, _, rfl, rfl, ?_⟩
      rw [vI_len]
      refine ⟨_, rfl, p, _, _, _, rfl, rfl, hp, at1, _, rfl, _, rfl, p, _, _, _, rfl, rfl, hp, at1, b, _, rfl, Or.inr hb, _, _, rfl, rfl, (by rw [vI_len]; show (0 : Int) < (l.length : Int); omega), ?_⟩
      rw [vI_len]
      have e1 : (n : Int) - (h.length : Int) - 1 = ((n - h.length - 1 : Nat) : Int) := by omega
      have e2 : ((n : Int) - (h.length : Int) - 1) % (l.length : Int) = (((n - h.length - 1) % l.length : Nat) : Int) := by rw [e1]; rfl
      refine ⟨b, _, _, _, rfl, rfl, hb, at_int (k := (n - h.length - 1) % l.length) e2 (Nat.mod_lt _ hp0), ?_⟩
      have r0 := sm.r0
      have r1 := sm.r1
      dsimp only at r0 r1
      refine ⟨_, rfl, p, _, _, _, rfl, rfl, hp, at2, _, rfl, _, rfl, p, _, _, _, rfl, rfl, hp, at1, b, _, rfl, Or.inr hb, ?_⟩
      rw [vI_len]
      refine ⟨_, _, rfl, rfl, ⟨by omega, by omega⟩, _, _, rfl, rfl, Or.inl ⟨by omega, by omega⟩, _, _, rfl, rfl, ?_⟩
      have e3 : l.getD ((n - h.length - 1) % l.length) 0 + r * (((n : Int) - (h.length : Int) - 1) / (l.length : Int)) = walk l r (n - h.length - 1) := by
        unfold walk
        rw [e1]
        rfl
      show Q (V.int _) _
      rw [e3]
      exact q
end
end K28
set_option Elab.async false
set_option linter.all false
set_option maxRecDepth 100000
set_option maxHeartbeats 4000000
namespace NT
theorem climbs_snoc : ∀ {l : List Int} {lo v : Int}, climbs lo l → (if l.length = 0 then lo else l.getD (l.length - 1) 0) ≤ v → climbs lo (l ++ [v])
  | [], lo, v, _, h => ⟨by simpa using h, trivial⟩
  | x :: l, lo, v, c, h => by
    refine ⟨c.1, climbs_snoc c.2 ?_⟩
    rw [if_neg (by simp)] at h
    by_cases z : l.length = 0
    · rw [if_pos z]
      have : l = [] := List.eq_nil_of_length_eq_zero z
      subst this
      simpa using h
    · rw [if_neg z]
      obtain ⟨j, hj⟩ : ∃ j, l.length = j + 1 := ⟨l.length - 1, by omega⟩
      rw [List.length_cons, hj] at h
      rw [hj]
      simpa using h
theorem climbs_low : ∀ {l : List Int} {lo : Int} {i : Nat}, climbs lo l → i < l.length → lo ≤ l.getD i 0
  | [], _, _, _, h => by simp at h
  | x :: l, lo, 0, c, _ => c.1
  | x :: l, lo, i + 1, c, h => by
    have := climbs_low (i := i) c.2 (by simpa using h)
    have := c.1
    show lo ≤ l.getD i 0
    omega
theorem climbs_le {l : List Int} {lo lo' : Int} (h : climbs lo l) (e : lo' ≤ lo) : climbs lo' l := by
  cases l with
  | nil => trivial
  | cons x l => exact ⟨Int.le_trans e h.1, h.2⟩
structure RawOk (x : List Int × List Int × Int) : Prop where
  g : Good x.1 x.2.1 x.2.2
  h : x.1.length ≤ 400
  l : x.2.1.length ≤ 400
  r : x.2.2 ≤ 100000
/-- as it is drawn -/
structure Raw0 (x : List Int × List Int × Int) : Prop where
  g : Good x.1 x.2.1 x.2.2
  h : x.1.length ≤ 4
  l : x.2.1.length ≤ 4
  r : x.2.2 ≤ 10
  f : (x.1 ++ x.2.1 ++ [5]).getD 0 0 ≤ 10000
  bh : ∀ i, i < x.1.length → x.1.getD i 0 ≤ 8
  bl : ∀ i, i < x.2.1.length → x.2.1.getD i 0 ≤ 16
theorem Raw0.ok {x : List Int × List Int × Int} (a : Raw0 x) : RawOk x := ⟨a.g, Nat.le_trans a.h (by decide), Nat.le_trans a.l (by decide), Int.le_trans a.r (by decide)⟩
theorem first_le {h l : List Int} (h1 : h ≠ [] → h.getD 0 0 ≤ 10000) (h2 : h = [] → l ≠ [] → l.getD 0 0 ≤ 10000) : (h ++ l ++ [5]).getD 0 0 ≤ 10000 := by
  cases h with
  | cons x h => exact h1 (by simp)
  | nil => cases l with
    | cons y l => exact h2 rfl (by simp)
    | nil => decide
end NT
namespace K28
open PySem PySem.Spec PyProof.Rows L2 He NF RZ NT
/-- as it is drawn: with a loop, not too steep -/
structure Raw1 (x : List Int × List Int × Int) : Prop where
  o : Raw0 x
  ne : x.2.1 ≠ []
  st : x.2.2 ≤ 3 * (x.2.1.length : Int)
def spRising : Sp := fun vs H Q _ => ∃ (H0 : Hp) (p : Addr) (m : Nat) (lo st : Int), vs = [.ref p, .int (m : Int), .int lo, .int st] ∧ Same H0 H ∧ H0 p = none ∧ Src H p ∧ m ≤ 200 ∧ 0 ≤ lo ∧ 0 < st ∧ st < 1073741824 ∧
  ∀ q l H', Same H0 H' → Src H' p → H' q = some (.lst (vI l)) → H0 q = none → q ≠ p → l.length = m → climbs lo l → (∀ i, i < m → l.getD i 0 ≤ lo + (st - 1) * ((i : Int) + 1) ∧ l.getD i 0 ≤ l.getD 0 0 + (st - 1) * (i : Int)) → Q (.ref q) H'
def spRaw (K : PySem.W.Frag) : Sp := fun vs H Q _ => ∃ (H0 : Hp) (p : Addr), vs = [.ref p, .bl true] ∧ Same H0 H ∧ H0 p = none ∧ Src H p ∧
  ∀ q x H', Same H0 H' → Src H' p → Raw1 x → FormAt K H' q x → Q (.ref q) H'
theorem sc__law_rising : FnScope ["_law_source_here", "_law_many", "_law_low", "_law_steps", "_law_told", "_law_value", "_law_k"] ["_law_source_here", "_law_many", "_law_low", "_law_steps"] (defScope s__law_rising) := ⟨rfl, rfl, rfl, by decide +kernel, rfl, by decide +kernel, by decide +kernel⟩
theorem sc__law_raw : FnScope ["_law_source_here", "_law_steady", "_law_head", "_law_low", "_law_many", "_law_loop", "_law_more", "_law_rise"] ["_law_source_here", "_law_steady"] (defScope s__law_raw) := ⟨rfl, rfl, rfl, by decide +kernel, rfl, by decide +kernel, by decide +kernel⟩
theorem getD_snoc {l : List Int} {v : Int} {i : Nat} : (l ++ [v]).getD i 0 = if i < l.length then l.getD i 0 else if i = l.length then v else 0 := by
  by_cases h : i < l.length
  · rw [if_pos h, getD_app1 h]
  · rw [if_neg h, getD_app2 (by omega)]
    by_cases z : i = l.length
    · rw [if_pos z, z, Nat.sub_self]; rfl
    · rw [if_neg z]
      obtain ⟨j, hj⟩ : ∃ j, i - l.length = j + 1 := ⟨i - l.length - 1, by omega⟩
      rw [hj]; rfl
theorem last_snoc {l : List Int} {lo v : Int} : (if (l ++ [v]).length = 0 then lo else (l ++ [v]).getD ((l ++ [v]).length - 1) 0) = v := by
  have e : (l ++ [v]).length = l.length + 1 := by simp
  rw [e, if_neg (Nat.succ_ne_zero _), Nat.add_sub_cancel, getD_snoc, if_neg (Nat.lt_irrefl _), if_pos rfl]
section
variable {P : Program} {w : World} {K : PySem.W.Frag} {mg : Str → Option Value} {base : Heap} {gs : List Str}
theorem ok__law_rising {f : Addr} {fd : FuncData} (F : FunD K "_law_rising" "_law_rising" (defArgs s__law_rising) (defBody s__law_rising) (defScope s__law_rising) [] [] f fd) (T : Txt K mg gs FS) (c__law_pick : Cal P w K mg base 1 "_law_pick" spPick) : FnOk P w K mg base CX0 2 f fd ["_law_source_here", "_law_many", "_law_low", "_law_steps"] spRising := by
  refine F.ok sc__law_rising (fun vs H Q E h => ?_) (fun cdv A outer s H vs Q E hr h => ?_)
  · obtain ⟨H0, p, m, lo, st, rfl, _⟩ := h
    rfl
  · obtain ⟨H0, p, m, lo, st, rfl, s0, n0, hs, hm, hlo, hst, hst2, q⟩ := h
    refine ⟨_, PSs.nox (pss_cons (ps_set (i := 4) sc__law_rising.nd rfl (Or.inl rfl) (pe_lst pa_nil)) (pss_cons (ps_set (i := 5) sc__law_rising.nd rfl (Or.inl rfl) (pv 2)) (pss_cons (ps_for PassesOwn.never rfl (pi_range1 rfl (T.fr _ (by decide +kernel)) (pa_cons (pv 1) pa_nil)) (pg_name (i := 6) sc__law_rising.nd rfl (Or.inl rfl)) (pss_cons (ps_set (i := 5) sc__law_rising.nd rfl (Or.inl rfl) (pe_op op_add (pv 5) (pe_c c__law_pick hr (by decide) rfl (pa_cons (pv 0) (pa_cons (pv 3) pa_nil))))) (pss_one (ps_expr (pe_bm PySem.F.plainAttrs_list PySem.F.slot_list_append PySem.F.type_list_append mt_append (pv 4) (pa_cons (pv 5) pa_nil)))))) (pss_one (ps_ret (pv 4)))))), ?_⟩
    refine ⟨(by show 0 ≤ sizeLine; decide), fun t ht => ?_⟩
    have htp : t ≠ p := src_ne (o := .lst []) hs ht
    have h0t := same_none s0 ht
    refine ⟨_, rfl, ?_⟩
    refine ⟨_, rfl, (m : Int), rfl, by omega, by omega, ?_⟩
    refine for_range (lo := 0) (n := m) (fun i σ G => Same H0 G ∧ Src G p ∧ ∃ l : List Int, G t = some (.lst (vI l)) ∧ l.length = i ∧ climbs lo l ∧ (∀ j, j < i → l.getD j 0 ≤ lo + (st - 1) * ((j : Int) + 1) ∧ l.getD j 0 ≤ l.getD 0 0 + (st - 1) * (j : Int)) ∧
      ∃ k : Option V, σ = [some (.ref p), some (.int (m : Int)), some (.int lo), some (.int st), some (.ref t), some (.int (if l.length = 0 then lo else l.getD (l.length - 1) 0)), k])
      ⟨NF.Same.put s0 h0t, src_put hs htp, [], upd_same, rfl, trivial, fun j hj => by omega, none, rfl⟩ ?_ ?_
    · rintro i σ G hi ⟨s1, hs1, l, hl, hlen, hc, hb, k, rfl⟩
      refine ⟨_, rfl, _, rfl, _, rfl, wo G p, p, st, rfl, wo_same', wo_none, hs1, hst, hst2, fun d G' d0 d1 s2 hs2 => ?_⟩
      refine ⟨_, _, rfl, rfl, ?_⟩
      have hl2 : G' t = some (.lst (vI l)) := s2 _ _ ((wo_ne htp).trans hl)
      refine ⟨_, rfl, Or.inl ⟨rfl, _, SqL.of hl2⟩, _, rfl, t, _, _, rfl, rfl, hl2, ?_, ?_⟩
      · rw [vI_len, hlen]
        exact Nat.lt_of_le_of_lt (show i ≤ 200 by omega) (by decide)
      have hlast : (if l.length = 0 then lo else l.getD (l.length - 1) 0) ≤ lo + (st - 1) * (i : Int) := by
        by_cases z : l.length = 0
        · rw [if_pos z, ← hlen, z]
          simp
        · rw [if_neg z]
          have := (hb (l.length - 1) (by omega)).1
          have e : ((l.length - 1 : Nat) : Int) + 1 = (i : Int) := by omega
          rw [e] at this
          exact this
      have hlast2 : l.length ≠ 0 → (if l.length = 0 then lo else l.getD (l.length - 1) 0) ≤ l.getD 0 0 + (st - 1) * ((i : Int) - 1) := fun z => by
        rw [if_neg z]
        have := (hb (l.length - 1) (by omega)).2
        have e : ((l.length - 1 : Nat) : Int) = (i : Int) - 1 := by omega
        rw [e] at this
        exact this
      refine ⟨NF.Same.put (wo_same s1 n0 s2) h0t, src_put hs2 htp, l ++ [(if l.length = 0 then lo else l.getD (l.length - 1) 0) + d], ?_, ?_, climbs_snoc hc (by omega), fun j hj => ?_, some (.int ((0 : Int) + (i : Int))), ?_⟩
      · rw [upd_same, ← vI_app]
        rfl
      · rw [List.length_append, hlen]; rfl
      · have dc : d ≤ st - 1 := by omega
        generalize st - 1 = c at *
        by_cases z : j < l.length
        · rw [getD_snoc, if_pos z, getD_snoc, if_pos (by omega)]
          exact hb j (by omega)
        · have ej : j = i := by omega
          subst ej
          generalize hv : (if l.length = 0 then lo else l.getD (l.length - 1) 0) = v at hlast hlast2 ⊢
          rw [getD_snoc, if_neg z, if_pos (by omega)]
          refine ⟨?_, ?_⟩
          · rw [Int.mul_add, Int.mul_one]
            omega
          · by_cases z0 : l.length = 0
            · rw [getD_snoc, if_neg (by omega), if_pos z0.symm, show ((j : Nat) : Int) = 0 by omega, Int.mul_zero]
              omega
            · have := hlast2 z0
              rw [Int.mul_sub, Int.mul_one] at this
              rw [getD_snoc, if_pos (by omega)]
              omega
      · rw [last_snoc]
        rfl
    · rintro σ G ⟨s1, hs1, l, hl, hlen, hc, hb, k, rfl⟩
      exact ⟨_, rfl, q t l G s1 hs1 hl h0t htp hlen hc hb⟩
theorem more_le {m : Int} (h0 : 1 ≤ m) (h1 : m ≤ 4) : ∀ k, k < 8 → 0 ≤ ([1, 2, 1, 0, 3, m, 2, 1] : List Int).getD k 0 ∧ ([1, 2, 1, 0, 3, m, 2, 1] : List Int).getD k 0 ≤ 4
  | 0, _ => by simp
  | 1, _ => by simp
  | 2, _ => by simp
  | 3, _ => by simp
  | 4, _ => by simp
  | 5, _ => ⟨by show 0 ≤ m; omega, by show m ≤ 4; omega⟩
  | 6, _ => by simp
  | 7, _ => by simp
  | n + 8, h => by omega
theorem more_le2 {m : Int} (h0 : 1 ≤ m) (h1 : m ≤ 4) : ∀ k, k < 8 → 0 ≤ ([1, 2, 1, 0, 3, m, 2, 1] : List Int).getD k 0 ∧ ([1, 2, 1, 0, 3, m, 2, 1] : List Int).getD k 0 ≤ min 4 (m + 2)
  | 0, _ => ⟨by show (0 : Int) ≤ 1; decide, by show (1 : Int) ≤ _; omega⟩
  | 1, _ => ⟨by show (0 : Int) ≤ 2; decide, by show (2 : Int) ≤ _; omega⟩
  | 2, _ => ⟨by show (0 : Int) ≤ 1; decide, by show (1 : Int) ≤ _; omega⟩
  | 3, _ => ⟨by show (0 : Int) ≤ 0; decide, by show (0 : Int) ≤ _; omega⟩
  | 4, _ => ⟨by show (0 : Int) ≤ 3; decide, by show (3 : Int) ≤ _; omega⟩
  | 5, _ => ⟨by show 0 ≤ m; omega, by show m ≤ _; omega⟩
  | 6, _ => ⟨by show (0 : Int) ≤ 2; decide, by show (2 : Int) ≤ _; omega⟩
  | 7, _ => ⟨by show (0 : Int) ≤ 1; decide, by show (1 : Int) ≤ _; omega⟩
  | n + 8, h => by omega
theorem bothI {X : Prop} {R : Int → Prop} (P : Int → Prop) (h1 : (∀ r, P r → R r) → X) (h2 : ∀ r, P r → R r) : X := h1 h2
theorem climbs_last : ∀ {l : List Int} {lo : Int}, climbs lo l → l ≠ [] → l.getD 0 0 ≤ l.getD (l.length - 1) 0
  | [], _, _, h => absurd rfl h
  | [x], _, _, _ => Int.le_refl _
  | x :: y :: l, lo, c, _ => climbs_low (l := y :: l) (i := l.length) c.2 (by simp)
theorem ok__law_raw {f : Addr} {fd : FuncData} (F : FunD K "_law_raw" "_law_raw" (defArgs s__law_raw) (defBody s__law_raw) (defScope s__law_raw) [] [] f fd) (T : Txt K mg gs FS) (c__law_pick : Cal P w K mg base 1 "_law_pick" spPick) (c__law_rising : Cal P w K mg base 2 "_law_rising" spRising) : FnOk P w K mg base CX0 3 f fd ["_law_source_here", "_law_steady"] (spRaw K) := by
  refine F.ok sc__law_raw (fun vs H Q E h => ?_) (fun cdv A outer s H vs Q E hr h => ?_)
  · obtain ⟨H0, p, rfl, _⟩ := h
    rfl
  · obtain ⟨H0, p, rfl, s0, n0, hs, q⟩ := h
    refine ⟨_, PSs.nox (pss_cons (ps_set (i := 2) sc__law_raw.nd rfl (Or.inl rfl) (pe_c c__law_rising hr (by decide) rfl (pa_cons (pv 0) (pa_cons (pe_ix (ixl (K := K)) (pe_lst (pa_cons pe_int (pa_cons pe_int (pa_cons pe_int (pa_cons pe_int (pa_cons pe_int (pa_cons pe_int (pa_cons pe_int (pa_cons pe_int pa_nil))))))))) (pe_c c__law_pick hr (by decide) rfl (pa_cons (pv 0) (pa_cons pe_int pa_nil))) fun _ _ => rfl) (pa_cons pe_int (pa_cons pe_int pa_nil)))))) (pss_cons (ps_set (i := 3) sc__law_raw.nd rfl (Or.inl rfl) (pe_ifExp (pt_cmpR op_gt (pe_callB call_len_seq rfl (T.fr _ (by decide +kernel)) boot_len (pa_cons (pv 2) pa_nil)) pe_int (nomark _)) (pe_ix (ixl (K := K)) (pv 2) (pe_un un_neg pe_int) fun _ _ => rfl) pe_int)) (pss_cons (ps_if (PW.pt (pw_and (pt_not (pt_val (pv 1))) (pw_and1 (pt_cmpR op_eq (pe_c c__law_pick hr (by decide) rfl (pa_cons (pv 0) (pa_cons pe_int pa_nil))) pe_int (nomark _))))) (pss_one (ps_ret (pe_tup (pa_cons (pe_callTy cr_tup rfl (T.fr _ (by decide +kernel)) (by decide +kernel) (pa_cons (pv 2) pa_nil)) (pa_cons (pe_tup pa_nil) (pa_cons pe_int pa_nil)))))) pss_nil) (pss_cons (ps_set (i := 4) sc__law_raw.nd rfl (Or.inl rfl) (pe_ix (ixl (K := K)) (pe_lst (pa_cons pe_int (pa_cons pe_int (pa_cons pe_int (pa_cons pe_int (pa_cons pe_int (pa_cons pe_int (pa_cons pe_int (pa_cons pe_int pa_nil))))))))) (pe_c c__law_pick hr (by decide) rfl (pa_cons (pv 0) (pa_cons pe_int pa_nil))) fun _ _ => rfl)) (pss_cons (ps_set (i := 5) sc__law_raw.nd rfl (Or.inl rfl) (pe_c c__law_rising hr (by decide) rfl (pa_cons (pv 0) (pa_cons (pv 4) (pa_cons (pv 3) (pa_cons pe_int pa_nil)))))) (pss_cons (ps_set (i := 6) sc__law_raw.nd rfl (Or.inl rfl) (pe_ix (ixl (K := K)) (pe_lst (pa_cons pe_int (pa_cons pe_int (pa_cons pe_int (pa_cons pe_int (pa_cons pe_int (pa_cons (pv 4) (pa_cons pe_int (pa_cons pe_int pa_nil))))))))) (pe_c c__law_pick hr (by decide) rfl (pa_cons (pv 0) (pa_cons pe_int pa_nil))) fun _ _ => rfl)) (pss_cons (ps_set (i := 7) sc__law_raw.nd rfl (Or.inl rfl) (pe_op op_add (pe_op op_sub (pe_ix (ixl (K := K)) (pv 5) (pe_un un_neg pe_int) fun _ _ => rfl) (pe_ix (ixl (K := K)) (pv 5) pe_int fun _ _ => rfl)) (pv 6))) (pss_cons (ps_if (PW.pt (pw_and (pt_val (pv 1)) (pw_and1 (pt_cmpR op_eq (pv 7) pe_int (nomark _))))) (pss_one (ps_set (i := 7) sc__law_raw.nd rfl (Or.inl rfl) pe_int)) pss_nil) (pss_one (ps_ret (pe_tup (pa_cons (pe_callTy cr_tup rfl (T.fr _ (by decide +kernel)) (by decide +kernel) (pa_cons (pv 2) pa_nil)) (pa_cons (pe_callTy cr_tup rfl (T.fr _ (by decide +kernel)) (by decide +kernel) (pa_cons (pv 5) pa_nil)) (pa_cons (pv 7) pa_nil)))))))))))))), ?_⟩
    -- the head
    refine ⟨_, rfl, (by show 8 ≤ sizeLine; decide), fun t ht => ?_⟩
    have htp : t ≠ p := src_ne (o := .lst []) hs ht
    have hs1 : Src (upd H t (.lst (vI [0, 1, 2, 0, 3, 1, 4, 2]))) p := src_put hs htp
    have s1 : Same H0 (upd H t (.lst (vI [0, 1, 2, 0, 3, 1, 4, 2]))) := NF.Same.put s0 (same_none s0 ht)
    have ht1 : upd H t (.lst (vI [0, 1, 2, 0, 3, 1, 4, 2])) t = some (.lst (vI [0, 1, 2, 0, 3, 1, 4, 2])) := upd_same
    refine ⟨_, rfl, wo _ p, p, 8, rfl, wo_same', wo_none, hs1, by decide, by decide, fun d G2 d0 d1 s2 hs2 => ?_⟩
    obtain ⟨v, hv, v0, v1⟩ := idx_k (l := [0, 1, 2, 0, 3, 1, 4, 2]) (n := 8) (lo := 0) (hi := 4) d0 d1 rfl (by decide)
    have s02 := wo_same s1 n0 s2
    refine ⟨t, _, _, _, rfl, rfl, SqL.of (s2 _ _ ((wo_ne htp).trans ht1)), hv, ?_⟩
    refine ⟨wo G2 p, p, v.toNat, 0, 3, by rw [Int.toNat_of_nonneg v0]; rfl, wo_same', wo_none, hs2, by omega, by decide, by decide, by decide, fun th h G3 s3 hs3 hh hh0 hhp hlen hc hb => ?_⟩
    have s03 := wo_same s02 n0 s3
    -- the low
    have hlow : ∀ {W : VK}, (∀ lo : Int, 0 ≤ lo → (h ≠ [] → lo = h.getD (h.length - 1) 0) → (h = [] → lo = 0) → W (.int lo) G3) →
        (tIf (tTest (tOp (rI0 fun i j => .bl (decide (j < i))) (tCB (fun xs H Q => ∃ a ys, xs = [.ref a] ∧ (SqL K H a ys ∨ SqT K H a ys) ∧ Q (.int (ys.length : Int)) H) (tCons (tVar 2) tNil)) (tC (.int 0)))) (tOp (rIxL K) (tVar 2) (tUn (rU fun i => .int (-i)) (tC (.int 1)))) (tC (.int 0))) [some (V.ref p), some (V.bl false), some (V.ref th), none, none, none, none, none] G3 W := by
      intro W hW
      refine ⟨_, rfl, th, _, rfl, Or.inl (SqL.of hh), _, _, rfl, rfl, _, rfl, ite2 (fun h1 => ?_) (fun h1 => ?_)⟩
      · have h2 : 0 < h.length := by
          have := of_decide_eq_true h1
          rw [vI_len] at this
          omega
        have hne : h ≠ [] := fun z => by rw [z] at h2; simp at h2
        exact ⟨_, rfl, _, rfl, th, _, _, _, rfl, rfl, SqL.of hh, at_last h2, hW _ (climbs_low hc (by omega)) (fun _ => rfl) fun z => absurd z hne⟩
      · have h2 : h = [] := by
          have : ¬ (0 : Int) < ((vI h).length : Int) := fun z => h1 (decide_eq_true z)
          rw [vI_len] at this
          exact List.eq_nil_of_length_eq_zero (by omega)
        exact hW 0 (Int.le_refl _) (fun z => absurd h2 z) fun _ => rfl
    refine hlow fun lo lo0 hlo hlo2 => ?_
    have lo12 : lo ≤ 8 := by
      by_cases z : h = []
      · rw [hlo2 z]; decide
      · rw [hlo z]
        have := hb (h.length - 1) (by have := len_pos z; omega)
        omega
    have hf1 : h ≠ [] → h.getD 0 0 ≤ 10000 := fun z => by
      have := hb 0 (by have := len_pos z; omega)
      omega
    refine ⟨_, rfl, true, rfl, iteF (iteF ?_)⟩
    have hh4 := hh
    have hs4 := hs3
    have s04 := s03
    have hh100 : h.length ≤ 4 := by omega
    have hbh : ∀ i, i < h.length → h.getD i 0 ≤ 8 := fun i hi => by
      have := hb i (by omega)
      omega
    -- the loop
    refine ⟨(by show 8 ≤ sizeLine; decide), fun u hu => ?_⟩
    have hup : u ≠ p := src_ne (o := .lst []) hs4 hu
    have hs5 : Src (upd G3 u (.lst (vI [1, 2, 1, 3, 2, 1, 4, 3]))) p := src_put hs4 hup
    have s34 : Same G3 (upd G3 u (.lst (vI [1, 2, 1, 3, 2, 1, 4, 3]))) := NF.Same.new (Same.refl _) hu
    have ht5 : upd G3 u (.lst (vI [1, 2, 1, 3, 2, 1, 4, 3])) u = some (.lst (vI [1, 2, 1, 3, 2, 1, 4, 3])) := upd_same
    refine ⟨_, rfl, wo _ p, p, 8, rfl, wo_same', wo_none, hs5, by decide, by decide, fun d G6 d0 d1 s6 hs6 => ?_⟩
    obtain ⟨m, hm, m0, m1⟩ := idx_k (l := [1, 2, 1, 3, 2, 1, 4, 3]) (n := 8) (lo := 1) (hi := 4) d0 d1 rfl (by decide)
    have s06 := wo_same (Same.trans s04 s34) n0 s6
    have hh6 : G6 th = some (.lst (vI h)) := s6 _ _ ((wo_ne hhp).trans (s34 _ _ hh4))
    refine ⟨u, _, _, _, rfl, rfl, SqL.of (s6 _ _ ((wo_ne hup).trans ht5)), hm, ?_⟩
    refine ⟨_, rfl, _, rfl, _, rfl, wo G6 p, p, m.toNat, lo, 3, by rw [Int.toNat_of_nonneg (by omega)]; rfl, wo_same', wo_none, hs6, by omega, lo0, by decide, by decide, fun tl l G7 s7 hs7 hl7 hl0 hlp hllen hlc hlb => ?_⟩
    have s07 := wo_same s06 n0 s7
    have hh7 : G7 th = some (.lst (vI h)) := s7 _ _ ((wo_ne hhp).trans hh6)
    have hl0' : 0 < l.length := by omega
    have hlne : l ≠ [] := fun z => by rw [z] at hl0'; simp at hl0'
    -- more
    refine ⟨_, rfl, (by show 8 ≤ sizeLine; decide), fun u2 hu2 => ?_⟩
    have hup2 : u2 ≠ p := src_ne (o := .lst []) hs7 hu2
    have hs8 : Src (upd G7 u2 (.lst (vI [1, 2, 1, 0, 3, m, 2, 1]))) p := src_put hs7 hup2
    have s78 : Same G7 (upd G7 u2 (.lst (vI [1, 2, 1, 0, 3, m, 2, 1]))) := NF.Same.new (Same.refl _) hu2
    have ht8 : upd G7 u2 (.lst (vI [1, 2, 1, 0, 3, m, 2, 1])) u2 = some (.lst (vI [1, 2, 1, 0, 3, m, 2, 1])) := upd_same
    refine ⟨_, rfl, wo _ p, p, 8, rfl, wo_same', wo_none, hs8, by decide, by decide, fun d G9 d0 d1 s9 hs9 => ?_⟩
    obtain ⟨e, he, e0, e1⟩ := idx_k (l := [1, 2, 1, 0, 3, m, 2, 1]) (n := 8) (lo := 0) (hi := min 4 (m + 2)) d0 d1 rfl (more_le2 m0 m1)
    have s09 := wo_same (Same.trans s07 s78) n0 s9
    have hh9 : G9 th = some (.lst (vI h)) := s9 _ _ ((wo_ne hhp).trans (s78 _ _ hh7))
    have hl9 : G9 tl = some (.lst (vI l)) := s9 _ _ ((wo_ne hlp).trans (s78 _ _ hl7))
    refine ⟨u2, _, _, _, rfl, rfl, SqL.of (s9 _ _ ((wo_ne hup2).trans ht8)), he, ?_⟩
    -- the rise
    refine ⟨_, rfl, _, rfl, tl, _, _, _, rfl, rfl, SqL.of hl9, at_last hl0', ?_⟩
    refine ⟨_, rfl, tl, _, _, _, rfl, rfl, SqL.of hl9, at_int (k := 0) rfl hl0', _, _, rfl, rfl, _, rfl, _, _, rfl, rfl, ?_⟩
    have f1 := climbs_last hlc hlne
    have f2 := hlb (l.length - 1) (by omega)
    have f3 := climbs_low hlc hl0'
    have r1 : l.getD (l.length - 1) 0 - l.getD 0 0 ≤ l.getD (l.length - 1) 0 - l.getD 0 0 + e ∧ 0 ≤ l.getD (l.length - 1) 0 - l.getD 0 0 + e ∧ l.getD (l.length - 1) 0 - l.getD 0 0 + e ≤ 10 ∧ l.getD (l.length - 1) 0 - l.getD 0 0 + e ≤ 3 * (l.length : Int) := ⟨by omega, by omega, by omega, by omega⟩
    show gName 7 (V.int (l.getD (l.length - 1) 0 - l.getD 0 0 + e)) _ _ _
    generalize l.getD (l.length - 1) 0 - l.getD 0 0 + e = r0 at r1
    refine' @bothI _ _ (fun r => l.getD (l.length - 1) 0 - l.getD 0 0 ≤ r ∧ 0 ≤ r ∧ r ≤ 10 ∧ r ≤ 3 * (l.length : Int)) (fun kk => ?A) ?B
    case A =>
      refine ⟨_, rfl, true, rfl, iteT ⟨_, rfl, rfl, _, rfl, ?_⟩⟩
      by_cases c : ¬ (V.int r0 : V) = V.int 0
      · refine iteF' (decide_eq_false c) ?_
        have h0 := kk r0 r1
        revert h0
        generalize r0 = rz
        intro h0
        exact h0
      · have c := Classical.not_not.mp c
        refine iteT' (decide_eq_true c) ?_
        have z : r0 = 0 := by injection c
        have h0 := kk 1 ⟨by omega, by decide, by decide, by omega⟩
        exact h0
    case B =>
      rintro r ⟨ra, rb, rc, rd⟩
      refine ⟨_, rfl, th, _, rfl, Or.inl (SqL.of hh9), fun p1 G10 s10 t10 => ?_⟩
      refine ⟨_, rfl, tl, _, rfl, Or.inl (SqL.of (s10 _ _ hl9)), fun p2 G11 s11 t11 => ?_⟩
      refine ⟨_, rfl, (by show 3 ≤ sizeLine; decide), fun p3 hp3 => ?_⟩
      have s12 := NF.Same.new (o := .tup [V.ref p1, V.ref p2, V.int r]) (Same.refl G11) hp3
      refine q p3 (h, l, r) _ (Same.trans s09 (Same.trans s10 (Same.trans s11 s12))) (Src.mono hs9 (Same.trans s10 (Same.trans s11 s12))) ⟨⟨⟨hc, climbs_le hlc lo0, fun z _ => ?_, by dsimp only; omega, fun z => absurd z hlne, fun _ => by dsimp only; omega⟩, hh100, by show l.length ≤ 4; omega, by dsimp only; omega, first_le hf1 fun z _ => by have := hlo2 z; have := hlb 0 (by omega); dsimp only; omega, hbh, fun i hi => by have := hlb i (by dsimp only at hi; omega); dsimp only at hi ⊢; omega⟩, hlne, rd⟩ ⟨p1, p2, SqT.of upd_same, NF.Same.tup (Same.trans s11 s12) t10, NF.Same.tup s12 t11⟩
      rw [← hlo z]
      exact f3
end
end K28
set_option linter.all false
/-! Where one walk leads another one: ladders of least values, lanes, leads. Plain Lean. -/
namespace NT
/-- Python's min of two -/
def mn (a b : Int) : Int := if b < a then b else a
/-- v is the least of f on the w places from i on -/
structure IsLo (f : Nat → Int) (i w : Nat) (v : Int) : Prop where
  le : ∀ j, i ≤ j → j < i + w → v ≤ f j
  at_ : ∃ j, i ≤ j ∧ j < i + w ∧ f j = v
theorem IsLo.one (f : Nat → Int) (i : Nat) : IsLo f i 1 (f i) := ⟨fun j h1 h2 => by rw [show j = i by omega]; exact Int.le_refl _, i, Nat.le_refl _, by omega, rfl⟩
theorem IsLo.join {f : Nat → Int} {i w d : Nat} {a b : Int} (h1 : IsLo f i w a) (h2 : IsLo f (i + d) w b) (hd : d ≤ w) : IsLo f i (w + d) (mn a b) := by
  have ha : mn a b ≤ a := by unfold mn; split <;> omega
  have hb : mn a b ≤ b := by unfold mn; split <;> omega
  refine ⟨fun j j1 j2 => ?_, ?_⟩
  · by_cases c : j < i + w
    · exact Int.le_trans ha (h1.le j j1 c)
    · exact Int.le_trans hb (h2.le j (by omega) (by omega))
  · unfold mn
    by_cases c : b < a
    · rw [if_pos c]
      obtain ⟨j, j1, j2, j3⟩ := h2.at_
      exact ⟨j, by omega, by omega, j3⟩
    · rw [if_neg c]
      obtain ⟨j, j1, j2, j3⟩ := h1.at_
      exact ⟨j, by omega, by omega, j3⟩
/-- a rung: the least values of f, window w, over the first n places -/
structure Rung (f : Nat → Int) (n w : Nat) (m : List Int) : Prop where
  w0 : 0 < w
  wn : w ≤ n
  len : m.length = n + 1 - w
  lo : ∀ i, i + w ≤ n → IsLo f i w (m.getD i 0)
theorem Rung.base {f : Nat → Int} {m : List Int} (h0 : 0 < m.length) (h : ∀ i, i < m.length → m.getD i 0 = f i) : Rung f m.length 1 m :=
  ⟨by decide, h0, by omega, fun i hi => by rw [h i (by omega)]; exact IsLo.one f i⟩
/-- the next rung -/
def nextRow (m : List Int) (w : Nat) : List Int := List.zipWith mn m (m.drop w)
theorem Rung.next {f : Nat → Int} {n w : Nat} {m : List Int} (h : Rung f n w m) (h2 : 2 * w ≤ n) : Rung f n (2 * w) (nextRow m w) := by
  have hl := h.len
  have w0 := h.w0
  have hz : (nextRow m w).length = n + 1 - 2 * w := by
    unfold nextRow
    rw [List.length_zipWith, List.length_drop]
    omega
  refine ⟨by omega, h2, hz, fun i hi => ?_⟩
  have e : (nextRow m w).getD i 0 = mn (m.getD i 0) (m.getD (i + w) 0) := by
    have h1 : i < m.length := by omega
    have h2 : w + i < m.length := by omega
    unfold nextRow
    rw [List.getD_eq_getElem?_getD, List.getD_eq_getElem?_getD, List.getD_eq_getElem?_getD, List.getElem?_zipWith, List.getElem?_drop, show i + w = w + i by omega, List.getElem?_eq_getElem h1, List.getElem?_eq_getElem h2]
    rfl
  rw [e, show 2 * w = w + w by omega]
  exact (h.lo i (by omega)).join (h.lo (i + w) (by omega)) (Nat.le_refl _)
/-- a ladder, the widest rung first -/
inductive Lad (f : Nat → Int) (n : Nat) : Nat → List (Nat × List Int) → Prop where
  | one {m : List Int} (h : Rung f n 1 m) : Lad f n 1 [(1, m)]
  | two {w : Nat} {m : List Int} {L : List (Nat × List Int)} (h : Rung f n (2 * w) m) (r : Lad f n w L) : Lad f n (2 * w) ((2 * w, m) :: L)
theorem Lad.head {f : Nat → Int} {n w : Nat} {L : List (Nat × List Int)} (h : Lad f n w L) : ∃ m L', L = (w, m) :: L' ∧ Rung f n w m := by
  cases h with
  | one h => exact ⟨_, _, rfl, h⟩
  | two h r => exact ⟨_, _, rfl, h⟩
theorem Lad.step {f : Nat → Int} {n w : Nat} {L : List (Nat × List Int)} (h : Lad f n w L) (h2 : 2 * w ≤ n) : ∃ m, L.head? = some (w, m) ∧ Lad f n (2 * w) ((2 * w, nextRow m w) :: L) := by
  obtain ⟨m, L', rfl, hm⟩ := h.head
  exact ⟨m, rfl, .two (hm.next h2) h⟩
theorem Lad.least {f : Nat → Int} {n w W i : Nat} {L : List (Nat × List Int)} (h : Lad f n w L) (h1 : w ≤ W) (h2 : W < 2 * w) (hi : i + W ≤ n) : ∃ m L', L = (w, m) :: L' ∧ i < m.length ∧ i + (W - w) < m.length ∧ IsLo f i W (mn (m.getD i 0) (m.getD (i + (W - w)) 0)) := by
  obtain ⟨m, L', rfl, hm⟩ := h.head
  have hl := hm.len
  refine ⟨m, L', rfl, by omega, by omega, ?_⟩
  have := (hm.lo i (by omega)).join (hm.lo (i + (W - w)) (by omega)) (by omega)
  rw [show w + (W - w) = W by omega] at this
  exact this
/-- the descent to the first place under a limit -/
def under (lim : Int) : Nat → List (Nat × List Int) → Nat
  | a, [] => a
  | a, (w, m) :: L => under lim (if a < m.length ∧ lim ≤ m.getD a 0 then a + w else a) L
/-- the first place from i on with f under the limit -/
structure First (f : Nat → Int) (lim : Int) (i t : Nat) : Prop where
  le : i ≤ t
  at_ : f t < lim
  no : ∀ j, i ≤ j → j < t → lim ≤ f j
theorem under_ok {f : Nat → Int} {n : Nat} {lim : Int} : ∀ {w : Nat} {L : List (Nat × List Int)}, Lad f n w L → ∀ {a t : Nat}, First f lim a t → t < a + 2 * w → t < n → under lim a L = t := by
  intro w L h
  induction h with
  | @one m h =>
    intro a t F h1 h2
    have hl := h.len
    show (if a < m.length ∧ lim ≤ m.getD a 0 then a + 1 else a) = t
    have han : a < n := Nat.lt_of_le_of_lt F.le h2
    have e : m.getD a 0 = f a := by
      obtain ⟨j, j1, j2, j3⟩ := (h.lo a (by omega)).at_
      rw [← j3, show j = a by omega]
    by_cases c : a < m.length ∧ lim ≤ m.getD a 0
    · rw [if_pos c]
      have hne : a ≠ t := fun z => by
        have := F.at_
        rw [← z, ← e] at this
        omega
      have := F.le
      omega
    · rw [if_neg c]
      have hlt : f a < lim := by
        rw [← e]
        refine Int.lt_of_not_ge fun z => c ⟨by omega, z⟩
      refine Classical.byContradiction fun z => ?_
      have := F.no a (Nat.le_refl _) (by have := F.le; omega)
      omega
  | @two w m L h r ih =>
    intro a t F h1 h2
    have hl := h.len
    show under lim (if a < m.length ∧ lim ≤ m.getD a 0 then a + 2 * w else a) L = t
    have w0 := h.w0
    by_cases c : a < m.length ∧ lim ≤ m.getD a 0
    · rw [if_pos c]
      have lo := h.lo a (by omega)
      have ht : a + 2 * w ≤ t := Nat.le_of_not_lt fun z => by
        have := lo.le t F.le z
        have := F.at_
        omega
      exact ih ⟨ht, F.at_, fun j j1 j2 => F.no j (by omega) j2⟩ (by omega) h2
    · rw [if_neg c]
      refine ih F ?_ h2
      by_cases hm : a < m.length
      · have hlt : m.getD a 0 < lim := Int.lt_of_not_ge fun z => c ⟨hm, z⟩
        have lo := h.lo a (by omega)
        obtain ⟨j, j1, j2, j3⟩ := lo.at_
        refine Classical.byContradiction fun z => ?_
        have := F.no j j1 (by omega)
        omega
      · omega
/-- the descent from behind to the last place under a limit; e: the place behind the last one looked at -/
def underB (lim : Int) (s : Nat) : Nat → List (Nat × List Int) → Nat
  | e, [] => e
  | e, (w, m) :: L => underB lim s (if s + w ≤ e ∧ lim ≤ m.getD (e - w) 0 then e - w else e) L
/-- the last place ahead of e, not ahead of s, with f under the limit -/
structure Last (f : Nat → Int) (lim : Int) (s e t : Nat) : Prop where
  ge : s ≤ t
  lt : t < e
  at_ : f t < lim
  no : ∀ j, t < j → j < e → lim ≤ f j
theorem underB_ok {f : Nat → Int} {n : Nat} {lim : Int} {s : Nat} : ∀ {w : Nat} {L : List (Nat × List Int)}, Lad f n w L → ∀ {e t : Nat}, Last f lim s e t → e ≤ t + 2 * w → e ≤ n → underB lim s e L = t + 1 := by
  intro w L h
  induction h with
  | @one m h =>
    intro e t F h1 h2
    have hl := h.len
    have f1 := F.ge
    have f2 := F.lt
    show (if s + 1 ≤ e ∧ lim ≤ m.getD (e - 1) 0 then e - 1 else e) = t + 1
    have e1 : m.getD (e - 1) 0 = f (e - 1) := by
      obtain ⟨j, j1, j2, j3⟩ := (h.lo (e - 1) (by omega)).at_
      rw [← j3, show j = e - 1 by omega]
    by_cases c : s + 1 ≤ e ∧ lim ≤ m.getD (e - 1) 0
    · rw [if_pos c]
      have hne : e - 1 ≠ t := fun z => by
        have := F.at_
        rw [← z, ← e1] at this
        omega
      omega
    · rw [if_neg c]
      have hlt : f (e - 1) < lim := by
        rw [← e1]
        refine Int.lt_of_not_ge fun z => c ⟨by omega, z⟩
      refine Classical.byContradiction fun z => ?_
      have := F.no (e - 1) (by omega) (by omega)
      omega
  | @two w m L h r ih =>
    intro e t F h1 h2
    have hl := h.len
    have w0 := h.w0
    have f1 := F.ge
    have f2 := F.lt
    show underB lim s (if s + 2 * w ≤ e ∧ lim ≤ m.getD (e - 2 * w) 0 then e - 2 * w else e) L = t + 1
    by_cases c : s + 2 * w ≤ e ∧ lim ≤ m.getD (e - 2 * w) 0
    · rw [if_pos c]
      have lo := h.lo (e - 2 * w) (by omega)
      have ht : t < e - 2 * w := Nat.lt_of_not_le fun z => by
        have := lo.le t z (by omega)
        have := F.at_
        omega
      exact ih ⟨f1, ht, F.at_, fun j j1 j2 => F.no j j1 (by omega)⟩ (by omega) (by omega)
    · rw [if_neg c]
      refine ih F ?_ h2
      by_cases hm : s + 2 * w ≤ e
      · have hlt : m.getD (e - 2 * w) 0 < lim := Int.lt_of_not_ge fun z => c ⟨hm, z⟩
        have lo := h.lo (e - 2 * w) (by omega)
        obtain ⟨j, j1, j2, j3⟩ := lo.at_
        refine Classical.byContradiction fun z => ?_
        have := F.no j (by omega) (by omega)
        omega
      · omega
end NT
set_option linter.all false
/-! Leads of one walk over another one: lanes, runners, the first and the last lead. Plain Lean. -/
namespace NT
/-- the numbers of two laps -/
structure Ln (L M g W V : Nat) : Prop where
  l0 : 0 < L
  m0 : 0 < M
  g0 : 0 < g
  w0 : 0 < W
  eL : L = g * V
  eM : M = g * W
  co : ∃ x y : Int, (L : Int) * x + (M : Int) * y = (g : Int)
theorem bez : ∀ m n : Nat, ∃ x y : Int, (m : Int) * x + (n : Int) * y = ((Nat.gcd m n : Nat) : Int) := by
  intro m
  induction m using Nat.strongRecOn with
  | _ m ih =>
    intro n
    cases m with
    | zero => exact ⟨0, 1, by rw [Nat.gcd_zero_left]; simp⟩
    | succ m =>
      obtain ⟨x, y, e⟩ := ih (n % (m + 1)) (Nat.mod_lt _ (Nat.succ_pos m)) (m + 1)
      refine ⟨y - ((n / (m + 1) : Nat) : Int) * x, x, ?_⟩
      rw [Nat.gcd_rec, ← e]
      have h : (n : Int) = ((n % (m + 1) : Nat) : Int) + ((m + 1 : Nat) : Int) * ((n / (m + 1) : Nat) : Int) := by
        rw [← Int.natCast_mul, ← Int.natCast_add, Nat.mod_add_div]
      generalize ((n % (m + 1) : Nat) : Int) = r at *
      generalize ((n / (m + 1) : Nat) : Int) = q at *
      generalize ((m + 1 : Nat) : Int) = k at *
      rw [h, Int.mul_sub, Int.add_mul]
      have : k * (q * x) = k * q * x := (Int.mul_assoc _ _ _).symm
      omega
theorem ln_of {L M : Nat} (hl : 0 < L) (hm : 0 < M) : Ln L M (Nat.gcd L M) (M / Nat.gcd L M) (L / Nat.gcd L M) := by
  have g0 : 0 < Nat.gcd L M := Nat.gcd_pos_of_pos_left _ hl
  have eL : L = Nat.gcd L M * (L / Nat.gcd L M) := (Nat.mul_div_cancel' (Nat.gcd_dvd_left L M)).symm
  have eM : M = Nat.gcd L M * (M / Nat.gcd L M) := (Nat.mul_div_cancel' (Nat.gcd_dvd_right L M)).symm
  exact ⟨hl, hm, g0, Nat.pos_of_ne_zero fun z => by rw [z, Nat.mul_zero] at eM; omega, eL, eM, bez L M⟩
section
variable {L M g W V : Nat}
theorem Ln.lap (h : Ln L M g W V) : L * W = M * V := by
  rw [h.eL, h.eM, Nat.mul_assoc, Nat.mul_assoc, Nat.mul_comm V W]
/-- each residue is that of a step in its lane -/
theorem Ln.reach (h : Ln L M g W V) (r : Nat) (hr : r < M) : ∃ s, s < W ∧ (r % g + L * s) % M = r := by
  obtain ⟨x, y, e⟩ := h.co
  have g0 := h.g0
  have W0 : (0 : Int) < (W : Int) := by have := h.w0; omega
  obtain ⟨c, hc⟩ : ∃ c : Nat, c = r / g := ⟨_, rfl⟩
  have er : r = r % g + g * c := by rw [hc]; exact (Nat.mod_add_div r g).symm
  obtain ⟨z, hz⟩ : ∃ z : Int, z = (x * (c : Int)) % (W : Int) := ⟨_, rfl⟩
  have z0 : 0 ≤ z := by rw [hz]; exact Int.emod_nonneg _ (by omega)
  have z1 : z < (W : Int) := by rw [hz]; exact Int.emod_lt_of_pos _ W0
  have ez : x * (c : Int) = z + (W : Int) * (x * (c : Int) / (W : Int)) := by rw [hz]; exact (Int.emod_add_mul_ediv _ _).symm
  generalize x * (c : Int) / (W : Int) = q at ez
  refine ⟨z.toNat, by omega, ?_⟩
  have hlap : (L : Int) * (W : Int) = (M : Int) * (V : Int) := by
    have := h.lap
    rw [← Int.natCast_mul, ← Int.natCast_mul, this]
  have key : ((r % g + L * z.toNat : Nat) : Int) = (r : Int) + (M : Int) * (- (y * (c : Int)) - (V : Int) * q) := by
    have h1 : (L : Int) * (x * (c : Int)) = (g : Int) * (c : Int) - (M : Int) * (y * (c : Int)) := by
      have : ((L : Int) * x + (M : Int) * y) * (c : Int) = (g : Int) * (c : Int) := by rw [e]
      rw [Int.add_mul, Int.mul_assoc, Int.mul_assoc] at this
      omega
    have h2 : (L : Int) * z = (L : Int) * (x * (c : Int)) - (M : Int) * ((V : Int) * q) := by
      rw [ez, Int.mul_add, ← Int.mul_assoc (L : Int) (W : Int) q, hlap, Int.mul_assoc]
      omega
    have h3 : (z.toNat : Int) = z := Int.toNat_of_nonneg z0
    have h4 : (r : Int) = ((r % g : Nat) : Int) + (g : Int) * (c : Int) := by
      rw [← Int.natCast_mul, ← Int.natCast_add, ← er]
    rw [Int.natCast_add, Int.natCast_mul, h3, h2, h1, Int.mul_sub, Int.mul_neg]
    omega
  have := congrArg (fun k : Int => k % (M : Int)) key
  simp only [Int.add_mul_emod_self_left] at this
  rw [← Int.natCast_emod, ← Int.natCast_emod, Nat.mod_eq_of_lt hr] at this
  exact Int.ofNat.inj this
/-- a step whose residue is that of a place lies in the place's lane -/
theorem Ln.lane (h : Ln L M g W V) {l s at_ : Nat} (hl : l < g) (e : (l + L * s) % M = at_ % M) : l = at_ % g := by
  have h1 := congrArg (fun k => k % g) e
  have d1 : g ∣ M := ⟨W, h.eM⟩
  have d2 : g ∣ L * s := ⟨V * s, by rw [h.eL, Nat.mul_assoc]⟩
  simp only [Nat.mod_mod_of_dvd _ d1] at h1
  obtain ⟨k, hk⟩ := d2
  rw [hk, Nat.add_mul_mod_self_left, Nat.mod_eq_of_lt hl] at h1
  exact h1
/-- how many whole laps lie between -/
theorem turns_of {x y M : Nat} (hM : 0 < M) (e : x % M = y % M) : (x : Int) - (y : Int) = (M : Int) * (((x : Int) - (y : Int)) / (M : Int)) := by
  have h1 : ((x : Int) - (y : Int)) % (M : Int) = 0 := by
    rw [Int.emod_eq_emod_iff_emod_sub_eq_zero.symm]
    rw [← Int.natCast_emod, ← Int.natCast_emod, e]
  have := Int.emod_add_mul_ediv ((x : Int) - (y : Int)) (M : Int)
  omega
end
/-- a row of a lane: the other walk at each step, less what the first one climbs -/
def rowR (B : List Int) (b : Int) (L : Nat) (a : Int) (lane s : Nat) : Int := walk B b (lane + L * s) - (s : Int) * a
/-- how far the first walk leads -/
def leadD (A : List Int) (a : Int) (B : List Int) (b : Int) (k : Nat) : Int := walk A a k - walk B b k
section
variable {A B : List Int} {a b : Int} {g W V : Nat}
theorem walk_int {l : List Int} {r : Int} (hl : 0 < l.length) {x y : Nat} {t : Int} (e : (x : Int) - (y : Int) = (l.length : Int) * t) : walk l r x = walk l r y + r * t := by
  by_cases h : 0 ≤ t
  · obtain ⟨n, rfl⟩ := Int.eq_ofNat_of_zero_le h
    rw [← walk_add_mul hl]
    congr 1
    have : ((y + l.length * n : Nat) : Int) = (x : Int) := by rw [Int.natCast_add, Int.natCast_mul]; omega
    omega
  · obtain ⟨n, hn⟩ := Int.eq_ofNat_of_zero_le (show 0 ≤ -t by omega)
    have et : t = -(n : Int) := by omega
    have := walk_add_mul (r := r) hl x n
    have e2 : x + l.length * n = y := by
      have : ((x + l.length * n : Nat) : Int) = (y : Int) := by
        rw [Int.natCast_add, Int.natCast_mul]
        rw [et, Int.mul_neg] at e
        omega
      omega
    rw [e2] at this
    rw [this, et, Int.mul_neg]
    omega
theorem rowR_per (h : Ln A.length B.length g W V) (lane s : Nat) : rowR B b A.length a lane (s + W) = rowR B b A.length a lane s - (a * (W : Int) - b * (V : Int)) := by
  unfold rowR
  have e : lane + A.length * (s + W) = lane + A.length * s + B.length * V := by rw [Nat.mul_add, h.lap]; omega
  rw [e, walk_add_mul h.m0, Int.natCast_add, Int.add_mul, Int.mul_comm (W : Int) a]
  omega
theorem drift_is (h : Ln A.length B.length g W V) : (a * (B.length : Int) - b * (A.length : Int)) / (g : Int) = a * (W : Int) - b * (V : Int) := by
  have e : a * (B.length : Int) - b * (A.length : Int) = (g : Int) * (a * (W : Int) - b * (V : Int)) := by
    rw [h.eM, h.eL, Int.natCast_mul, Int.natCast_mul, Int.mul_sub, Int.mul_left_comm, Int.mul_left_comm b]
  rw [e]
  exact Int.mul_ediv_cancel_left _ (by have := h.g0; omega)
/-- the lead at a step of a runner -/
theorem lead_at (h : Ln A.length B.length g W V) {at_ lane step s : Nat} {t : Int} (ha : at_ < A.length) (ht : ((lane + A.length * step : Nat) : Int) - (at_ : Int) = (B.length : Int) * t) :
    leadD A a B b (at_ + A.length * s) = (A.getD at_ 0 - (step : Int) * a + t * b) - rowR B b A.length a lane (step + s) := by
  unfold leadD rowR
  rw [walk_add_mul h.l0, walk_lt ha]
  have e : ((lane + A.length * (step + s) : Nat) : Int) - ((at_ + A.length * s : Nat) : Int) = (B.length : Int) * t := by
    rw [← ht, Nat.mul_add]
    omega
  have e2 := walk_int (r := b) h.m0 e
  rw [e2, Int.natCast_add, Int.add_mul, Int.mul_comm (s : Int) a, Int.mul_comm t b]
  omega
end
/-! ### the first step under a limit of a row that repeats with a drift -/
section
variable {f : Nat → Int} {W : Nat} {dr lim v : Int} {i : Nat}
theorem per_drift (hp : ∀ s, f (s + W) = f s - dr) (s : Nat) : ∀ u, f (s + W * u) = f s - dr * (u : Int)
  | 0 => by simp
  | u + 1 => by
    rw [Nat.mul_succ, ← Nat.add_assoc, hp, per_drift hp s u, Int.natCast_add, Int.mul_add]
    omega
theorem first_ex (lo : IsLo f i W v) (h : v < lim) : ∃ t, First f lim i t ∧ t < i + W := by
  obtain ⟨j, j1, j2, j3⟩ := lo.at_
  obtain ⟨t, ⟨t1, t2⟩, t3, t4⟩ := least_of (p := fun t => i ≤ t ∧ f t < lim) j ⟨j1, by rw [j3]; exact h⟩
  refine ⟨t, ⟨t1, t2, fun k k1 k2 => ?_⟩, by omega⟩
  refine Int.le_of_not_gt fun z => ?_
  have := t4 k ⟨k1, z⟩
  omega
theorem lapOf (hw : 0 < W) (k : Nat) : ∃ o u, k = o + W * u ∧ o < W := ⟨k % W, k / W, (Nat.mod_add_div k W).symm, Nat.mod_lt _ hw⟩
theorem lead_now (F : First f lim i (i + s)) : f (i + s) < lim ∧ ∀ s', s' < s → lim ≤ f (i + s') := ⟨F.at_, fun s' h => F.no _ (by omega) (by omega)⟩
theorem lead_later (hw : 0 < W) (hp : ∀ s, f (s + W) = f s - dr) (lo : IsLo f i W v) (hv : lim ≤ v) (hd : 0 < dr) {t : Nat} {n : Nat} (hn : (n : Int) = (v - lim) / dr + 1) (F : First f (lim + (n : Int) * dr) i (i + t)) (ht : t < W) :
    f (i + (t + W * n)) < lim ∧ ∀ s', s' < t + W * n → lim ≤ f (i + s') := by
  refine ⟨?_, fun s' hs => ?_⟩
  · rw [← Nat.add_assoc, per_drift hp]
    have := F.at_
    rw [Int.mul_comm (n : Int) dr] at this
    omega
  · obtain ⟨o, u, rfl, ho⟩ := lapOf hw s'
    rw [← Nat.add_assoc, per_drift hp]
    by_cases hu : u < n
    · have h1 := lo.le (i + o) (by omega) (by omega)
      have h2 : dr * (u : Int) ≤ dr * ((n : Int) - 1) := Int.mul_le_mul_of_nonneg_left (by omega) (by omega)
      have h3 : dr * ((v - lim) / dr) ≤ v - lim := Int.mul_ediv_self_le (by omega)
      have h4 : (n : Int) - 1 = (v - lim) / dr := by omega
      rw [h4] at h2
      omega
    · have hu2 : u = n := by
        refine Nat.le_antisymm (Nat.le_of_not_lt fun z => ?_) (by omega)
        have : W * (n + 1) ≤ W * u := Nat.mul_le_mul_left _ z
        rw [Nat.mul_succ] at this
        omega
      subst hu2
      have := F.no (i + o) (by omega) (by omega)
      rw [Int.mul_comm (u : Int) dr] at this
      omega
theorem lead_never (hw : 0 < W) (hp : ∀ s, f (s + W) = f s - dr) (lo : IsLo f i W v) (hv : lim ≤ v) (hd : dr ≤ 0) (s' : Nat) : lim ≤ f (i + s') := by
  obtain ⟨o, u, rfl, ho⟩ := lapOf hw s'
  rw [← Nat.add_assoc, per_drift hp]
  have h1 := lo.le (i + o) (by omega) (by omega)
  have h2 : dr * (u : Int) ≤ 0 * (u : Int) := Int.mul_le_mul_of_nonneg_right hd (by omega)
  omega
end
/-! ### all runners together -/
/-- the least number with P, or none -/
def LeastP (P : Nat → Prop) : Option Nat → Prop
  | some s => P s ∧ ∀ s', s' < s → ¬ P s'
  | none => ∀ s, ¬ P s
theorem least_runner {P : Nat → Prop} {L : Nat} (hL : 0 < L) {st : Nat → Option Nat} (h : ∀ at_, at_ < L → LeastP (fun s => P (at_ + L * s)) (st at_)) :
    (∀ r, (∃ at_ s, at_ < L ∧ st at_ = some s ∧ r = at_ + L * s) → (∀ at_ s, at_ < L → st at_ = some s → r ≤ at_ + L * s) → LeastP P (some r)) ∧ ((∀ at_, at_ < L → st at_ = none) → LeastP P none) := by
  refine ⟨fun r ⟨at_, s, h1, h2, h3⟩ hmin => ⟨?_, fun k hk hP => ?_⟩, fun hn k hP => ?_⟩
  · have := h at_ h1
    rw [h2] at this
    rw [h3]
    exact this.1
  · obtain ⟨o, u, rfl, ho⟩ := lapOf hL k
    have := h o ho
    cases e : st o with
    | none =>
      rw [e] at this
      exact this u hP
    | some s2 =>
      rw [e] at this
      have h4 := hmin o s2 ho e
      have h5 : u < s2 := Nat.lt_of_mul_lt_mul_left (a := L) (by omega)
      exact this.2 u h5 hP
  · obtain ⟨o, u, rfl, ho⟩ := lapOf hL k
    have := h o ho
    rw [hn o ho] at this
    exact this u hP
end NT
set_option linter.all false
set_option maxHeartbeats 4000000
/-! The last lead: of a row that repeats with a drift upwards, the last step under a limit. -/
namespace NT
section
variable {f : Nat → Int} {W : Nat} {dr lim v : Int} {i : Nat}
theorem last_ex (lo : IsLo f i W v) (h : v < lim) : ∃ t, Last f lim i (i + W) (i + t) ∧ t < W := by
  obtain ⟨j, j1, j2, j3⟩ := lo.at_
  obtain ⟨m, ⟨m1, m2⟩, _, m4⟩ := least_of (p := fun m => m < W ∧ f (i + (W - 1 - m)) < lim) (W - 1 - (j - i)) ⟨by omega, by
    rw [show i + (W - 1 - (W - 1 - (j - i))) = j by omega, j3]
    exact h⟩
  refine ⟨W - 1 - m, ⟨by omega, by omega, m2, fun k k1 k2 => ?_⟩, by omega⟩
  refine Int.le_of_not_gt fun z => ?_
  have := m4 (W - 1 - (k - i)) ⟨by omega, by
    rw [show i + (W - 1 - (W - 1 - (k - i))) = k by omega]
    exact z⟩
  omega
theorem last_later (hw : 0 < W) (hp : ∀ s, f (s + W) = f s - dr) (lo : IsLo f i W v) (hv : v < lim) (hd : dr < 0) {t n : Nat} (hn : (n : Int) = (lim - v - 1) / -dr) (F : Last f (lim + (n : Int) * dr) i (i + W) (i + t)) :
    f (i + (t + W * n)) < lim ∧ ∀ s', t + W * n < s' → lim ≤ f (i + s') := by
  refine ⟨?_, fun s' hs => ?_⟩
  · rw [← Nat.add_assoc, per_drift hp]
    have := F.at_
    rw [Int.mul_comm (n : Int) dr] at this
    omega
  · obtain ⟨o, u, rfl, ho⟩ := lapOf hw s'
    rw [← Nat.add_assoc, per_drift hp]
    have h1 := lo.le (i + o) (by omega) (by omega)
    by_cases hu : n < u
    · have h2 : -dr * ((n : Int) + 1) ≤ -dr * (u : Int) := Int.mul_le_mul_of_nonneg_left (by omega) (by omega)
      have h3 : lim - v - 1 < -dr * ((lim - v - 1) / -dr) + -dr := Int.lt_mul_ediv_self_add (by omega)
      rw [← hn] at h3
      rw [Int.mul_add, Int.mul_one] at h2
      rw [Int.neg_mul, Int.neg_mul] at h2
      rw [Int.neg_mul] at h3
      omega
    · have hu2 : u = n := by
        refine Nat.le_antisymm (by omega) (Nat.le_of_not_lt fun z => ?_)
        have : W * (u + 1) ≤ W * n := Nat.mul_le_mul_left _ z
        rw [Nat.mul_succ] at this
        have := F.ge
        omega
      subst hu2
      have := F.no (i + o) (by omega) (by omega)
      rw [Int.mul_comm (u : Int) dr] at this
      omega
/-- no step is under the limit -/
theorem last_never (hw : 0 < W) (hp : ∀ s, f (s + W) = f s - dr) (lo : IsLo f i W v) (hv : lim ≤ v) (hd : dr ≤ 0) (s' : Nat) : lim ≤ f (i + s') := lead_never hw hp lo hv hd s'
end
/-- the greatest number with P, or none -/
def GreatP (P : Nat → Prop) : Option Nat → Prop
  | some s => P s ∧ ∀ s', s < s' → ¬ P s'
  | none => ∀ s, ¬ P s
theorem great_runner {P : Nat → Prop} {L : Nat} (hL : 0 < L) {st : Nat → Option Nat} (h : ∀ at_, at_ < L → GreatP (fun s => P (at_ + L * s)) (st at_)) :
    (∀ r, (∃ at_ s, at_ < L ∧ st at_ = some s ∧ r = at_ + L * s) → (∀ at_ s, at_ < L → st at_ = some s → at_ + L * s ≤ r) → GreatP P (some r)) ∧ ((∀ at_, at_ < L → st at_ = none) → GreatP P none) := by
  refine ⟨fun r ⟨at_, s, h1, h2, h3⟩ hmax => ⟨?_, fun k hk hP => ?_⟩, fun hn k hP => ?_⟩
  · have := h at_ h1
    rw [h2] at this
    rw [h3]
    exact this.1
  · obtain ⟨o, u, rfl, ho⟩ := lapOf hL k
    have := h o ho
    cases e : st o with
    | none =>
      rw [e] at this
      exact this u hP
    | some s2 =>
      rw [e] at this
      have h4 := hmax o s2 ho e
      have h5 : s2 < u := Nat.lt_of_mul_lt_mul_left (a := L) (by omega)
      exact this.2 u h5 hP
  · obtain ⟨o, u, rfl, ho⟩ := lapOf hL k
    have := h o ho
    rw [hn o ho] at this
    exact this u hP
end NT
set_option linter.all false
set_option maxHeartbeats 4000000
/-! The least and the greatest place with a lead, gathered from the runners' own. Plain Lean. -/
namespace NT
theorem first_all {P : Nat → Prop} {L st : Nat} (hL : 0 < L) {ps : List Int} (h1 : ∀ y ∈ ps, ∃ o s, o < L ∧ P (o + L * s) ∧ y = ((st + 1 + (o + L * s) : Nat) : Int)) (h2 : ∀ o, o < L → (∀ s, ¬ P (o + L * s)) ∨ ∃ s, (∀ s', s' < s → ¬ P (o + L * s')) ∧ ((st + 1 + (o + L * s) : Nat) : Int) ∈ ps) :
    (ps = [] → LeastP P none) ∧ ∀ m ∈ ps, (∀ y ∈ ps, m ≤ y) → ∃ s, LeastP P (some s) ∧ m = ((st + 1 + s : Nat) : Int) := by
  refine ⟨fun e k hP => ?_, fun m hm hmin => ?_⟩
  · obtain ⟨o, u, rfl, ho⟩ := lapOf hL k
    rcases h2 o ho with h | ⟨s, _, h⟩
    · exact h u hP
    · rw [e] at h
      cases h
  · obtain ⟨o, s, ho, hP, rfl⟩ := h1 m hm
    refine ⟨_, ⟨hP, fun k hk hk2 => ?_⟩, rfl⟩
    obtain ⟨o2, u, rfl, ho2⟩ := lapOf hL k
    rcases h2 o2 ho2 with h | ⟨s2, h3, h4⟩
    · exact h u hk2
    · have h5 := hmin _ h4
      refine h3 u (Nat.lt_of_mul_lt_mul_left (a := L) ?_) hk2
      omega
theorem last_all {P : Nat → Prop} {L st : Nat} (hL : 0 < L) {ps : List Int} (h1 : ∀ y ∈ ps, ∃ o s, o < L ∧ P (o + L * s) ∧ y = ((st + 1 + (o + L * s) : Nat) : Int)) (h2 : ∀ o, o < L → (∀ s, ¬ P (o + L * s)) ∨ ∃ s, (∀ s', s < s' → ¬ P (o + L * s')) ∧ ((st + 1 + (o + L * s) : Nat) : Int) ∈ ps) :
    (ps = [] → GreatP P none) ∧ ∀ m ∈ ps, (∀ y ∈ ps, y ≤ m) → ∃ s, GreatP P (some s) ∧ m = ((st + 1 + s : Nat) : Int) := by
  refine ⟨fun e k hP => ?_, fun m hm hmin => ?_⟩
  · obtain ⟨o, u, rfl, ho⟩ := lapOf hL k
    rcases h2 o ho with h | ⟨s, _, h⟩
    · exact h u hP
    · rw [e] at h
      cases h
  · obtain ⟨o, s, ho, hP, rfl⟩ := h1 m hm
    refine ⟨_, ⟨hP, fun k hk hk2 => ?_⟩, rfl⟩
    obtain ⟨o2, u, rfl, ho2⟩ := lapOf hL k
    rcases h2 o2 ho2 with h | ⟨s2, h3, h4⟩
    · exact h u hk2
    · have h5 := hmin _ h4
      refine h3 u (Nat.lt_of_mul_lt_mul_left (a := L) ?_) hk2
      omega
/-- what the runners so far have: their own best steps -/
structure Got (R : Nat → Nat → Prop) (P : Nat → Prop) (L st j : Nat) (ps : List Int) : Prop where
  len : ps.length ≤ j
  some : ∀ y ∈ ps, ∃ o s, o < j ∧ P (o + L * s) ∧ y = ((st + 1 + (o + L * s) : Nat) : Int)
  all : ∀ o, o < j → (∀ s, ¬ P (o + L * s)) ∨ ∃ s, (∀ s', R s' s → ¬ P (o + L * s')) ∧ ((st + 1 + (o + L * s) : Nat) : Int) ∈ ps
section
variable {R : Nat → Nat → Prop} {P : Nat → Prop} {L st j : Nat} {ps : List Int}
theorem Got.nil : Got R P L st 0 [] := ⟨Nat.le_refl _, (fun y hy => nomatch hy), fun o ho => absurd ho (Nat.not_lt_zero _)⟩
theorem Got.skip (h : Got R P L st j ps) (n : ∀ s, ¬ P (j + L * s)) : Got R P L st (j + 1) ps := by
  refine ⟨by have := h.len; omega, fun y hy => ?_, fun o ho => ?_⟩
  · obtain ⟨o, s, h1, h2⟩ := h.some y hy
    exact ⟨o, s, by omega, h2⟩
  · by_cases c : o < j
    · exact h.all o c
    · rw [show o = j by omega]
      exact .inl n
theorem Got.add (h : Got R P L st j ps) {s : Nat} {y : Int} (hP : P (j + L * s)) (n : ∀ s', R s' s → ¬ P (j + L * s')) (e : y = ((st + 1 + (j + L * s) : Nat) : Int)) : Got R P L st (j + 1) (ps ++ [y]) := by
  subst e
  refine ⟨by rw [List.length_append]; exact Nat.succ_le_succ h.len, fun y hy => ?_, fun o ho => ?_⟩
  · rcases List.mem_append.mp hy with hy | hy
    · obtain ⟨o, s, h1, h2⟩ := h.some y hy
      exact ⟨o, s, by omega, h2⟩
    · rw [List.mem_singleton.mp hy]
      exact ⟨j, s, by omega, hP, rfl⟩
  · by_cases c : o < j
    · rcases h.all o c with h | ⟨s2, h1, h2⟩
      · exact .inl h
      · exact .inr ⟨s2, h1, List.mem_append.mpr (.inl h2)⟩
    · rw [show o = j by omega]
      exact .inr ⟨s, n, List.mem_append.mpr (.inr (List.mem_singleton.mpr rfl))⟩
end
end NT
set_option linter.all false
set_option maxHeartbeats 4000000
/-! The greater and the lesser one of two rows of values, never on top. Plain Lean. -/
namespace NT
/-- the greater, or the lesser, of two -/
def cho (g : Bool) (x y : Int) : Int := if g then (if x < y then y else x) else (if x < y then x else y)
def chO : Bool → Option Int → Option Int → Option Int
  | true, some x, some y => some (cho true x y)
  | true, _, _ => none
  | false, some x, some y => some (cho false x y)
  | false, some x, none => some x
  | false, none, o => o
def leO (a b : Option Int) : Prop := b = none ∨ ∃ x y, a = some x ∧ b = some y ∧ x ≤ y
theorem leO.refl (a : Option Int) : leO a a := by
  cases a with
  | none => exact .inl rfl
  | some x => exact .inr ⟨x, x, rfl, rfl, Int.le_refl _⟩
theorem leO.trans {a b c : Option Int} (h : leO a b) (k : leO b c) : leO a c := by
  rcases k with rfl | ⟨x, y, rfl, rfl, k⟩
  · exact .inl rfl
  · rcases h with h | ⟨u, v, rfl, e, h⟩
    · cases h
    · injection e with e
      exact .inr ⟨u, y, rfl, rfl, by omega⟩
theorem leO.total (a b : Option Int) : leO a b ∨ leO b a := by
  cases b with
  | none => exact .inl (.inl rfl)
  | some y =>
    cases a with
    | none => exact .inr (.inl rfl)
    | some x =>
      rcases Int.le_total x y with h | h
      · exact .inl (.inr ⟨x, y, rfl, rfl, h⟩)
      · exact .inr (.inr ⟨y, x, rfl, rfl, h⟩)
theorem cho_le {x y : Int} (h : x ≤ y) : cho true x y = y ∧ cho false x y = x := by
  show (if x < y then y else x) = y ∧ (if x < y then x else y) = x
  split <;> exact ⟨by omega, by omega⟩
theorem cho_comm (g : Bool) (x y : Int) : cho g x y = cho g y x := by
  cases g
  · show (if x < y then x else y) = (if y < x then y else x)
    split <;> split <;> omega
  · show (if x < y then y else x) = (if y < x then x else y)
    split <;> split <;> omega
theorem chO_le {a b : Option Int} (h : leO a b) : chO true a b = b ∧ chO false a b = a := by
  rcases h with rfl | ⟨x, y, rfl, rfl, h⟩
  · cases a <;> exact ⟨rfl, rfl⟩
  · exact ⟨congrArg some (cho_le h).1, congrArg some (cho_le h).2⟩
theorem chO_comm (g : Bool) (a b : Option Int) : chO g a b = chO g b a := by
  cases g <;> cases a <;> cases b <;> first | rfl | exact congrArg some (cho_comm ..)
theorem chO_ge {a b : Option Int} (h : leO b a) : chO true a b = a ∧ chO false a b = b := by
  rw [chO_comm, chO_comm false]
  exact chO_le h
theorem chO_some {g : Bool} {x y : Int} : chO g (some x) (some y) = some (cho g x y) := by cases g <;> rfl
theorem cho_add {g : Bool} {x y c : Int} : cho g (x + c) (y + c) = cho g x y + c := by
  cases g
  · show (if x + c < y + c then x + c else y + c) = (if x < y then x else y) + c
    split <;> split <;> omega
  · show (if x + c < y + c then y + c else x + c) = (if x < y then y else x) + c
    split <;> split <;> omega
theorem asc_cho {F G : Nat → Option Int} (A : Asc F) (B : Asc G) (g : Bool) : Asc fun n => chO g (F n) (G n) := by
  have lw : ∀ {x y : Int}, cho true x y = x ∧ y ≤ x ∧ cho false x y = y ∨ cho true x y = y ∧ x ≤ y ∧ cho false x y = x := fun {x y} => by
    rcases Int.le_total x y with h | h
    · exact .inr ⟨(cho_le h).1, h, (cho_le h).2⟩
    · have := cho_le h
      rw [cho_comm true, cho_comm false]
      exact .inl ⟨this.1, h, this.2⟩
  refine ⟨fun n v hn e => ?_, fun n v hn e => ?_⟩
  · cases ef : F n with
    | none =>
      rw [ef] at e
      cases eg : G n with
      | none => rw [eg] at e; cases g <;> cases e
      | some y =>
        rw [eg] at e
        cases g
        · injection e with e
          exact e ▸ B.ge n y hn eg
        · cases e
    | some x =>
      rw [ef] at e
      have x0 := A.ge n x hn ef
      cases eg : G n with
      | none =>
        rw [eg] at e
        cases g
        · injection e with e
          omega
        · cases e
      | some y =>
        rw [eg, chO_some] at e
        injection e with e
        have y0 := B.ge n y hn eg
        cases g <;> rcases @lw x y with ⟨h1, _, h2⟩ | ⟨h1, _, h2⟩ <;> omega
  · have up := fun (u : Int) (h : F (n + 1) = some u) => A.up n u hn h
    have vp := fun (u : Int) (h : G (n + 1) = some u) => B.up n u hn h
    show ∃ u, chO g (F n) (G n) = some u ∧ u ≤ v
    have e : chO g (F (n + 1)) (G (n + 1)) = some v := e
    cases ef : F (n + 1) with
    | none =>
      rw [ef] at e
      cases eg : G (n + 1) with
      | none => rw [eg] at e; cases g <;> cases e
      | some y =>
        rw [eg] at e
        obtain ⟨w, hw, le⟩ := vp y eg
        rw [hw]
        cases g
        · injection e with e
          subst e
          cases F n with
          | none => exact ⟨w, rfl, le⟩
          | some z =>
            refine ⟨_, rfl, ?_⟩
            rcases @lw z w with ⟨h1, _, h2⟩ | ⟨h1, _, h2⟩ <;> omega
        · cases e
    | some x =>
      rw [ef] at e
      obtain ⟨u, hu, lx⟩ := up x ef
      rw [hu]
      cases eg : G (n + 1) with
      | none =>
        rw [eg] at e
        cases g
        · injection e with e
          subst e
          cases G n with
          | none => exact ⟨u, rfl, lx⟩
          | some z =>
            refine ⟨_, rfl, ?_⟩
            rcases @lw u z with ⟨h1, _, h2⟩ | ⟨h1, _, h2⟩ <;> omega
        · cases e
      | some y =>
        rw [eg, chO_some] at e
        obtain ⟨w, hw, ly⟩ := vp y eg
        rw [hw, chO_some]
        injection e with e
        subst e
        refine ⟨_, rfl, ?_⟩
        cases g <;> rcases @lw x y with ⟨h1, _, h2⟩ | ⟨h1, _, h2⟩ <;> rcases @lw u w with ⟨k1, _, k2⟩ | ⟨k1, _, k2⟩ <;> omega
/-- behind N one of two rows is nowhere above the other one, or they go side by side -/
def Dom (F G : Nat → Option Int) (N : Nat) : Prop := (∀ n, N < n → leO (F n) (G n)) ∨ (∀ n, N < n → leO (G n) (F n)) ∨
  ∃ (m : Nat) (c : Int), 0 < m ∧ ∀ n, N < n → ∃ u v, F n = some u ∧ G n = some v ∧ F (n + m) = some (u + c) ∧ G (n + m) = some (v + c)
theorem Dom.symm {F G : Nat → Option Int} {N : Nat} (h : Dom F G N) : Dom G F N := by
  rcases h with h | h | ⟨m, c, hm, h⟩
  · exact .inr (.inl h)
  · exact .inl h
  · exact .inr (.inr ⟨m, c, hm, fun n hn => by obtain ⟨u, v, a, b, d, e⟩ := h n hn; exact ⟨v, u, b, a, e, d⟩⟩)
theorem Dom.self (F : Nat → Option Int) (N : Nat) : Dom F F N := .inl fun n _ => leO.refl _
theorem Dom.congr {F G F' : Nat → Option Int} {N : Nat} (h : Dom F G N) (e : ∀ n, N < n → F' n = F n) : Dom F' G N := by
  rcases h with h | h | ⟨m, c, hm, h⟩
  · exact .inl fun n hn => by rw [e n hn]; exact h n hn
  · exact .inr (.inl fun n hn => by rw [e n hn]; exact h n hn)
  · exact .inr (.inr ⟨m, c, hm, fun n hn => by rw [e n hn, e (n + m) (by omega)]; exact h n hn⟩)
theorem par_mul {F : Nat → Option Int} {N m : Nat} {c : Int} (h : ∀ n, N < n → ∃ u, F n = some u ∧ F (n + m) = some (u + c)) (j : Nat) : ∀ n, N < n → ∃ u, F n = some u ∧ F (n + m * j) = some (u + c * (j : Int)) := by
  induction j with
  | zero =>
    intro n hn
    obtain ⟨u, a, _⟩ := h n hn
    exact ⟨u, a, by simpa using a⟩
  | succ j ih =>
    intro n hn
    obtain ⟨u, a, b⟩ := ih n hn
    obtain ⟨v, a2, b2⟩ := h (n + m * j) (by omega)
    rw [b] at a2
    injection a2 with a2
    refine ⟨u, a, ?_⟩
    rw [Nat.mul_succ, ← Nat.add_assoc, b2, ← a2, Int.natCast_succ, Int.mul_add]
    congr 1
    omega
/-- side by side with one that goes side by side with a third one -/
theorem par_three {F G H : Nat → Option Int} {N m m' : Nat} {c c' : Int} (hm : 0 < m) (hm' : 0 < m') (h : ∀ n, N < n → ∃ u v, F n = some u ∧ G n = some v ∧ F (n + m) = some (u + c) ∧ G (n + m) = some (v + c)) (h' : ∀ n, N < n → ∃ u v, G n = some u ∧ H n = some v ∧ G (n + m') = some (u + c') ∧ H (n + m') = some (v + c')) :
    ∃ (k : Nat) (d : Int), 0 < k ∧ ∀ n, N < n → ∃ u v w, F n = some u ∧ G n = some v ∧ H n = some w ∧ F (n + k) = some (u + d) ∧ G (n + k) = some (v + d) ∧ H (n + k) = some (w + d) := by
  have pF := par_mul (F := F) (N := N) (m := m) (c := c) (fun n hn => by obtain ⟨u, v, a, b, x, y⟩ := h n hn; exact ⟨u, a, x⟩) m'
  have pG := par_mul (F := G) (N := N) (m := m) (c := c) (fun n hn => by obtain ⟨u, v, a, b, x, y⟩ := h n hn; exact ⟨v, b, y⟩) m'
  have pG' := par_mul (F := G) (N := N) (m := m') (c := c') (fun n hn => by obtain ⟨u, v, a, b, x, y⟩ := h' n hn; exact ⟨u, a, x⟩) m
  have pH := par_mul (F := H) (N := N) (m := m') (c := c') (fun n hn => by obtain ⟨u, v, a, b, x, y⟩ := h' n hn; exact ⟨v, b, y⟩) m
  refine ⟨m * m', c * (m' : Int), Nat.mul_pos hm hm', fun n hn => ?_⟩
  obtain ⟨u, a1, a2⟩ := pF n hn
  obtain ⟨v, b1, b2⟩ := pG n hn
  obtain ⟨v', b1', b2'⟩ := pG' n hn
  obtain ⟨w, d1, d2⟩ := pH n hn
  rw [b1] at b1'
  injection b1' with b1'
  subst b1'
  rw [Nat.mul_comm m' m] at b2' d2
  rw [b2] at b2'
  injection b2' with b2'
  have e : c' * (m : Int) = c * (m' : Int) := by omega
  rw [e] at d2
  exact ⟨u, v, w, a1, b1, d1, a2, b2, d2⟩
theorem dom_cho {F G H : Nat → Option Int} {N : Nat} (g : Bool) (fg : Dom F G N) (fh : Dom F H N) (gh : Dom G H N) : Dom (fun n => chO g (F n) (G n)) H N := by
  rcases fg with h | h | ⟨m, c, hm, h⟩
  · cases g
    · exact fh.congr fun n hn => (chO_le (h n hn)).2
    · exact gh.congr fun n hn => (chO_le (h n hn)).1
  · cases g
    · exact gh.congr fun n hn => (chO_ge (h n hn)).2
    · exact fh.congr fun n hn => (chO_ge (h n hn)).1
  · -- side by side
    have side : ∀ {m' : Nat} {c' : Int}, 0 < m' → (∀ n, N < n → ∃ u v, G n = some u ∧ H n = some v ∧ G (n + m') = some (u + c') ∧ H (n + m') = some (v + c')) → Dom (fun n => chO g (F n) (G n)) H N := fun {m' c'} hm' h' => by
      obtain ⟨k, d, hk, p⟩ := par_three hm hm' h h'
      refine .inr (.inr ⟨k, d, hk, fun n hn => ?_⟩)
      obtain ⟨u, v, w, a1, a2, a3, b1, b2, b3⟩ := p n hn
      refine ⟨cho g u v, w, ?_, a3, ?_, b3⟩
      · show chO g (F n) (G n) = _
        rw [a1, a2, chO_some]
      · show chO g (F (n + k)) (G (n + k)) = _
        rw [b1, b2, chO_some, cho_add]
    have side2 : ∀ {m' : Nat} {c' : Int}, 0 < m' → (∀ n, N < n → ∃ u v, F n = some u ∧ H n = some v ∧ F (n + m') = some (u + c') ∧ H (n + m') = some (v + c')) → Dom (fun n => chO g (F n) (G n)) H N := fun {m' c'} hm' h' => by
      obtain ⟨k, d, hk, p⟩ := par_three (F := G) (G := F) hm hm' (fun n hn => by obtain ⟨u, v, a, b, x, y⟩ := h n hn; exact ⟨v, u, b, a, y, x⟩) h'
      refine .inr (.inr ⟨k, d, hk, fun n hn => ?_⟩)
      obtain ⟨u, v, w, a1, a2, a3, b1, b2, b3⟩ := p n hn
      refine ⟨cho g v u, w, ?_, a3, ?_, b3⟩
      · show chO g (F n) (G n) = _
        rw [a1, a2, chO_some]
      · show chO g (F (n + k)) (G (n + k)) = _
        rw [b1, b2, chO_some, cho_add]
    rcases gh with gh | gh | ⟨m', c', hm', gh⟩
    · rcases fh with fh | fh | ⟨m', c', hm', fh⟩
      · -- both below H
        refine .inl fun n hn => ?_
        show leO (chO _ (F n) (G n)) (H n)
        rcases leO.total (F n) (G n) with q | q
        · cases g
          · rw [(chO_le q).2]; exact fh n hn
          · rw [(chO_le q).1]; exact gh n hn
        · cases g
          · rw [(chO_ge q).2]; exact gh n hn
          · rw [(chO_ge q).1]; exact fh n hn
      · cases g
        · -- the lesser one is below H
          refine .inl fun n hn => ?_
          show leO (chO _ (F n) (G n)) (H n)
          rcases leO.total (F n) (G n) with q | q
          · rw [(chO_le q).2]; exact q.trans (gh n hn)
          · rw [(chO_ge q).2]; exact gh n hn
        · refine .inr (.inl fun n hn => ?_)
          show leO (H n) (chO _ (F n) (G n))
          rcases leO.total (F n) (G n) with q | q
          · rw [(chO_le q).1]; exact (fh n hn).trans q
          · rw [(chO_ge q).1]; exact fh n hn
      · exact side2 hm' fh
    · rcases fh with fh | fh | ⟨m', c', hm', fh⟩
      · cases g
        · refine .inl fun n hn => ?_
          show leO (chO _ (F n) (G n)) (H n)
          rcases leO.total (F n) (G n) with q | q
          · rw [(chO_le q).2]; exact fh n hn
          · rw [(chO_ge q).2]; exact q.trans (fh n hn)
        · refine .inr (.inl fun n hn => ?_)
          show leO (H n) (chO _ (F n) (G n))
          rcases leO.total (F n) (G n) with q | q
          · rw [(chO_le q).1]; exact gh n hn
          · rw [(chO_ge q).1]; exact (gh n hn).trans q
      · refine .inr (.inl fun n hn => ?_)
        show leO (H n) (chO _ (F n) (G n))
        rcases leO.total (F n) (G n) with q | q
        · cases g
          · rw [(chO_le q).2]; exact fh n hn
          · rw [(chO_le q).1]; exact gh n hn
        · cases g
          · rw [(chO_ge q).2]; exact gh n hn
          · rw [(chO_ge q).1]; exact fh n hn
      · exact side2 hm' fh
    · exact side hm' gh
end NT
set_option linter.all false
set_option maxHeartbeats 4000000
/-! Which of two loops climbs faster; the tellings of the greater and of the lesser one. Plain Lean. -/
namespace NT
/-- the shared rest of two ways -/
theorem shr {X R : Prop} (h1 : R → X) (h2 : R) : X := h1 h2
section
variable {h l h1 l1 h2 l2 : List Int} {r r1 r2 : Int}
theorem num_walk (hl : l ≠ []) {n : Nat} (hn : h.length < n) : num h l r n = walk l r (n - h.length - 1) := by
  unfold num
  rw [at_loop hl hn]
  rfl
theorem num_per (hl : l ≠ []) {n : Nat} (hn : h.length < n) (j : Nat) : num h l r (n + l.length * j) = num h l r n + r * (j : Int) := by
  rw [num_walk hl hn, num_walk hl (by omega), show n + l.length * j - h.length - 1 = (n - h.length - 1) + l.length * j by omega, walk_add_mul (len_pos hl)]
theorem walk_seg (hl : l ≠ []) {st : Nat} (hs : h.length ≤ st) (s : Nat) : walk (segN (at_ h l r) st l.length) r s = num h l r (st + 1 + s) := by
  have l0 := len_pos hl
  have e : st + 1 + s = (st + s % l.length + 1) + l.length * (s / l.length) := by
    have := Nat.mod_add_div s l.length
    omega
  rw [e, num_per hl (by omega)]
  unfold walk
  rw [segN_len, segN_get (Nat.mod_lt _ l0)]
  rfl
theorem leO_num (n1 : l1 ≠ []) (n2 : l2 ≠ []) (n : Nat) : leO (at_ h1 l1 r1 n) (at_ h2 l2 r2 n) ↔ num h1 l1 r1 n ≤ num h2 l2 r2 n := by
  rw [at_some n (.inr n1), at_some n (.inr n2)]
  constructor
  · intro h
    rcases h with h | ⟨x, y, e1, e2, h⟩
    · cases h
    · injection e1 with e1
      injection e2 with e2
      omega
  · intro h
    exact .inr ⟨_, _, rfl, rfl, h⟩
theorem two_laps (n1 : l1 ≠ []) (n2 : l2 ≠ []) {n : Nat} (b1 : h1.length < n) (b2 : h2.length < n) (t : Nat) :
    num h1 l1 r1 (n + l1.length * l2.length * t) - num h2 l2 r2 (n + l1.length * l2.length * t) = num h1 l1 r1 n - num h2 l2 r2 n + (r1 * (l2.length : Int) - r2 * (l1.length : Int)) * (t : Int) := by
  have e1 := num_per (h := h1) (r := r1) n1 b1 (l2.length * t)
  have e2 := num_per (h := h2) (r := r2) n2 b2 (l1.length * t)
  rw [← Nat.mul_assoc] at e1 e2
  rw [Nat.mul_comm l2.length l1.length] at e2
  rw [e1, e2, Int.natCast_mul, Int.natCast_mul, ← Int.mul_assoc, ← Int.mul_assoc, Int.sub_mul]
  omega
theorem dom_drift (n1 : l1 ≠ []) (n2 : l2 ≠ []) {N : Nat} (b1 : h1.length ≤ N) (b2 : h2.length ≤ N) (d : Dom (at_ h1 l1 r1) (at_ h2 l2 r2) N) (hd : 0 < r1 * (l2.length : Int) - r2 * (l1.length : Int)) {n : Nat} (hn : N < n) : num h2 l2 r2 n ≤ num h1 l1 r1 n := by
  rcases d with d | d | ⟨m, c, hm, d⟩
  · exfalso
    have e := two_laps (h1 := h1) (h2 := h2) (r1 := r1) (r2 := r2) (n := n) n1 n2 (by omega) (by omega) ((num h2 l2 r2 n - num h1 l1 r1 n).toNat + 1)
    have k := (leO_num n1 n2 _).mp (d (n + l1.length * l2.length * ((num h2 l2 r2 n - num h1 l1 r1 n).toNat + 1)) (by omega))
    have k0 := (leO_num n1 n2 _).mp (d n hn)
    generalize r1 * (l2.length : Int) - r2 * (l1.length : Int) = D at e hd
    generalize ht : (num h2 l2 r2 n - num h1 l1 r1 n).toNat + 1 = t at e k
    have h3 : 1 * (t : Int) ≤ D * (t : Int) := Int.mul_le_mul_of_nonneg_right (by omega) (by omega)
    omega
  · exact (leO_num n2 n1 _).mp (d n hn)
  · exfalso
    have p1 := par_mul (F := at_ h1 l1 r1) (N := N) (m := m) (c := c) (fun n hn => by obtain ⟨u, v, a, b, x, y⟩ := d n hn; exact ⟨u, a, x⟩) (l1.length * l2.length) n hn
    have p2 := par_mul (F := at_ h2 l2 r2) (N := N) (m := m) (c := c) (fun n hn => by obtain ⟨u, v, a, b, x, y⟩ := d n hn; exact ⟨v, b, y⟩) (l1.length * l2.length) n hn
    obtain ⟨u, a1, a2⟩ := p1
    obtain ⟨v, c1, c2⟩ := p2
    rw [at_some _ (.inr n1)] at a1 a2
    rw [at_some _ (.inr n2)] at c1 c2
    injection a1 with a1
    injection a2 with a2
    injection c1 with c1
    injection c2 with c2
    have e := two_laps (h1 := h1) (h2 := h2) (r1 := r1) (r2 := r2) (n := n) n1 n2 (by omega) (by omega) m
    rw [show l1.length * l2.length * m = m * (l1.length * l2.length) by rw [Nat.mul_comm]] at e
    generalize r1 * (l2.length : Int) - r2 * (l1.length : Int) = D at e hd
    have h3 : 0 < D * (m : Int) := Int.mul_pos hd (by omega)
    omega
/-! ### tellings of both, of either -/
theorem zip_seg {F G : Nat → Option Int} {g : Bool} {a m : Nat} (hF : ∀ n, a < n → n ≤ a + m → F n ≠ none) (hG : ∀ n, a < n → n ≤ a + m → G n ≠ none) : List.zipWith (cho g) (segN F a m) (segN G a m) = segN (fun n => chO g (F n) (G n)) a m := by
  induction m with
  | zero => rfl
  | succ m ih =>
    rw [segN_succ, segN_succ, segN_succ, List.zipWith_append (by rw [segN_len, segN_len]), ih (fun n h k => hF n h (by omega)) fun n h k => hG n h (by omega)]
    congr 1
    show [cho g (numF F (a + m + 1)) (numF G (a + m + 1))] = [numF (fun n => chO g (F n) (G n)) (a + m + 1)]
    have e : chO g (F (a + m + 1)) (G (a + m + 1)) = some (cho g (numF F (a + m + 1)) (numF G (a + m + 1))) := by
      rw [numF_some (hF (a + m + 1) (by omega) (by omega)), numF_some (hG (a + m + 1) (by omega) (by omega)), chO_some]
    congr 1
    show _ = (chO g (F (a + m + 1)) (G (a + m + 1))).getD 0
    rw [e]
    rfl
/-- a row that goes on as a loop goes on -/
theorem tail_form {F : Nat → Option Int} (A : Asc F) (hl : l ≠ []) {N : Nat} (hN : h.length ≤ N) (s : ∀ n, 1 ≤ n → F n ≠ none) (e : ∀ n, N < n → F n = at_ h l r n) :
    Good (segN F 0 N) (segN (at_ h l r) N l.length) r ∧ ∀ n, 1 ≤ n → at_ (segN F 0 N) (segN (at_ h l r) N l.length) r n = F n := by
  have es : segN (at_ h l r) N l.length = segN F N l.length := by
    unfold segN
    refine List.map_congr_left fun k hk => ?_
    unfold numF
    rw [e (N + k + 1) (by omega)]
  rw [es]
  refine looped A (len_pos hl) s fun n hn => ?_
  unfold numF
  rw [e n hn, e (n + l.length) (by omega)]
  have := num_per (h := h) (r := r) hl (show h.length < n by omega) 1
  rw [Nat.mul_one] at this
  unfold num at this
  rw [this]
  omega
theorem lcm_laps (n1 : l1 ≠ []) (n2 : l2 ≠ []) (e : r1 * (l2.length : Int) = r2 * (l1.length : Int)) {n : Nat} (b1 : h1.length < n) (b2 : h2.length < n) :
    num h1 l1 r1 (n + Nat.lcm l1.length l2.length) = num h1 l1 r1 n + r1 * ((Nat.lcm l1.length l2.length : Nat) : Int) / (l1.length : Int) ∧ num h2 l2 r2 (n + Nat.lcm l1.length l2.length) = num h2 l2 r2 n + r1 * ((Nat.lcm l1.length l2.length : Nat) : Int) / (l1.length : Int) := by
  obtain ⟨p, hp⟩ := Nat.dvd_lcm_left l1.length l2.length
  obtain ⟨q, hq⟩ := Nat.dvd_lcm_right l1.length l2.length
  have l10 := len_pos n1
  have l20 := len_pos n2
  have c1 : r1 * ((Nat.lcm l1.length l2.length : Nat) : Int) / (l1.length : Int) = r1 * (p : Int) := by
    rw [hp, Int.natCast_mul, Int.mul_left_comm]
    exact Int.mul_ediv_cancel_left _ (by omega)
  have c2 : r1 * (p : Int) = r2 * (q : Int) := by
    have h3 : (l1.length : Int) * (p : Int) = (l2.length : Int) * (q : Int) := by rw [← Int.natCast_mul, ← Int.natCast_mul, ← hp, ← hq]
    refine Int.eq_of_mul_eq_mul_left (a := (l1.length : Int)) (by omega) ?_
    calc (l1.length : Int) * (r1 * (p : Int)) = r1 * ((l1.length : Int) * (p : Int)) := Int.mul_left_comm ..
      _ = r1 * ((l2.length : Int) * (q : Int)) := by rw [h3]
      _ = r1 * (l2.length : Int) * (q : Int) := (Int.mul_assoc ..).symm
      _ = r2 * (l1.length : Int) * (q : Int) := by rw [e]
      _ = (l1.length : Int) * (r2 * (q : Int)) := by rw [Int.mul_comm r2, Int.mul_assoc]
  refine ⟨?_, ?_⟩
  · rw [c1, hp, num_per n1 b1]
  · rw [c1, c2]
    conv => lhs; rw [hq]
    rw [num_per n2 b2]
/-- two rows side by side: the lap is the least common one -/
theorem side_form {g : Bool} (g1 : Good h1 l1 r1) (g2 : Good h2 l2 r2) (n1 : l1 ≠ []) (n2 : l2 ≠ []) (e : r1 * (l2.length : Int) = r2 * (l1.length : Int)) {N : Nat} (b1 : h1.length ≤ N) (b2 : h2.length ≤ N) :
    Good (segN (fun n => chO g (at_ h1 l1 r1 n) (at_ h2 l2 r2 n)) 0 N) (segN (fun n => chO g (at_ h1 l1 r1 n) (at_ h2 l2 r2 n)) N (Nat.lcm l1.length l2.length)) (r1 * ((Nat.lcm l1.length l2.length : Nat) : Int) / (l1.length : Int)) ∧
    ∀ n, 1 ≤ n → at_ (segN (fun n => chO g (at_ h1 l1 r1 n) (at_ h2 l2 r2 n)) 0 N) (segN (fun n => chO g (at_ h1 l1 r1 n) (at_ h2 l2 r2 n)) N (Nat.lcm l1.length l2.length)) (r1 * ((Nat.lcm l1.length l2.length : Nat) : Int) / (l1.length : Int)) n = chO g (at_ h1 l1 r1 n) (at_ h2 l2 r2 n) := by
  have A := asc_cho (asc_at g1) (asc_at g2) g
  have eq : ∀ n, chO g (at_ h1 l1 r1 n) (at_ h2 l2 r2 n) = some (cho g (num h1 l1 r1 n) (num h2 l2 r2 n)) := fun n => by rw [at_some n (.inr n1), at_some n (.inr n2), chO_some]
  refine looped A (Nat.lcm_pos (len_pos n1) (len_pos n2)) (fun n _ => by show chO g _ _ ≠ none; rw [eq]; exact fun z => by cases z) fun n hn => ?_
  unfold numF
  dsimp only
  rw [eq, eq]
  obtain ⟨x1, x2⟩ := lcm_laps (h1 := h1) (h2 := h2) n1 n2 e (n := n) (by omega) (by omega)
  show cho g _ _ = cho g _ _ + _
  rw [x1, x2, cho_add]
end
end NT
set_option linter.all false
set_option maxHeartbeats 4000000
/-! The greater and the lesser one: what both do together. Plain Lean. -/
namespace NT
theorem chO_idem (g : Bool) (a : Option Int) : chO g a a = a := by
  cases g
  · exact (chO_le (leO.refl a)).2
  · exact (chO_le (leO.refl a)).1
theorem leO_max {a b c : Option Int} : leO (chO true a b) c ↔ leO a c ∧ leO b c := by
  rcases leO.total a b with h | h
  · rw [(chO_le h).1]
    exact ⟨fun k => ⟨h.trans k, k⟩, fun k => k.2⟩
  · rw [(chO_ge h).1]
    exact ⟨fun k => ⟨k, h.trans k⟩, fun k => k.1⟩
theorem leO_min {a b c : Option Int} : leO c (chO false a b) ↔ leO c a ∧ leO c b := by
  rcases leO.total a b with h | h
  · rw [(chO_le h).2]
    exact ⟨fun k => ⟨k, k.trans h⟩, fun k => k.1⟩
  · rw [(chO_ge h).2]
    exact ⟨fun k => ⟨k.trans h, k⟩, fun k => k.2⟩
theorem leO.anti {a b : Option Int} (h : leO a b) (k : leO b a) : a = b := by
  rcases h with rfl | ⟨x, y, rfl, rfl, h⟩
  · rcases k with k | ⟨_, _, k, _⟩
    · exact k
    · cases k
  · rcases k with k | ⟨u, v, e1, e2, k⟩
    · cases k
    · injection e1 with e1
      injection e2 with e2
      congr 1
      omega
theorem up_eq {a b : Option Int} (h : ∀ c, leO a c ↔ leO b c) : a = b := ((h b).mpr (leO.refl b)).anti ((h a).mp (leO.refl a))
theorem dn_eq {a b : Option Int} (h : ∀ c, leO c a ↔ leO c b) : a = b := ((h a).mp (leO.refl a)).anti ((h b).mpr (leO.refl b))
theorem chO_assoc (g : Bool) (a b c : Option Int) : chO g (chO g a b) c = chO g a (chO g b c) := by
  cases g
  · exact dn_eq fun d => by rw [leO_min, leO_min, leO_min, leO_min, and_assoc]
  · exact up_eq fun d => by rw [leO_max, leO_max, leO_max, leO_max, and_assoc]
theorem chO_absorb (g : Bool) (a b : Option Int) : chO g a (chO (!g) a b) = a := by
  rcases leO.total a b with h | h <;> cases g
  · show chO false a (chO true a b) = a
    rw [(chO_le h).1, (chO_le h).2]
  · show chO true a (chO false a b) = a
    rw [(chO_le h).2, chO_idem]
  · show chO false a (chO true a b) = a
    rw [(chO_ge h).1, chO_idem]
  · show chO true a (chO false a b) = a
    rw [(chO_ge h).2, (chO_ge h).1]
theorem chO_distr (g : Bool) (a b c : Option Int) : chO g a (chO (!g) b c) = chO (!g) (chO g a b) (chO g a c) := by
  have mono : ∀ {g : Bool} {x y : Option Int}, leO x y → leO (chO g a x) (chO g a y) := fun {g x y} h => by
    cases g
    · exact leO_min.mpr ⟨(leO_min.mp (leO.refl _)).1, (leO_min.mp (leO.refl _)).2.trans h⟩
    · exact leO_max.mpr ⟨(leO_max.mp (leO.refl _)).1, h.trans (leO_max.mp (leO.refl _)).2⟩
  rcases leO.total b c with h | h <;> cases g
  · show chO false a (chO true b c) = chO true (chO false a b) (chO false a c)
    rw [(chO_le h).1, (chO_le (mono h)).1]
  · show chO true a (chO false b c) = chO false (chO true a b) (chO true a c)
    rw [(chO_le h).2, (chO_le (mono h)).2]
  · show chO false a (chO true b c) = chO true (chO false a b) (chO false a c)
    rw [(chO_ge h).1, (chO_ge (mono h)).1]
  · show chO true a (chO false b c) = chO false (chO true a b) (chO true a c)
    rw [(chO_ge h).2, (chO_ge (mono h)).2]
theorem low_arith {Ls Lf rs rf As Af vs vf n : Int} (h1 : Ls = 1 ∨ Ls = 2 ∨ Ls = 3 ∨ Ls = 4) (h2 : Lf = 1 ∨ Lf = 2 ∨ Lf = 3 ∨ Lf = 4) (a1 : Ls * As ≤ rs * n) (a2 : rf * n - 88 ≤ Lf * Af) (v1 : vs ≤ 41) (v2 : 0 ≤ vf) (n0 : 0 ≤ n) (hD : rs * Lf < rf * Ls) :
    Lf * (vs + As - (vf + Af) - 41) ≤ 88 ∧ (844 < n → vs + As ≤ vf + Af) := by
  have hm : n ≤ Ls * (rf * n) - Lf * (rs * n) := by
    have : 1 * n ≤ (rf * Ls - rs * Lf) * n := Int.mul_le_mul_of_nonneg_right (by omega) n0
    rw [Int.sub_mul, Int.mul_comm rf Ls, Int.mul_comm rs Lf, Int.mul_assoc, Int.mul_assoc] at this
    omega
  have he : Ls = Lf → n ≤ rf * n - rs * n := fun e => by
    have k : rs < rf := by
      rw [e] at hD
      rcases h2 with rfl | rfl | rfl | rfl <;> omega
    have : 1 * n ≤ (rf - rs) * n := Int.mul_le_mul_of_nonneg_right (by omega) n0
    rw [Int.sub_mul] at this
    omega
  generalize rs * n = P at *
  generalize rf * n = Q at *
  rcases h1 with rfl | rfl | rfl | rfl <;> rcases h2 with rfl | rfl | rfl | rfl <;> (try have he := he rfl) <;> exact ⟨by omega, fun _ => by omega⟩
theorem lcm12 {a b : Nat} (ha : a ≤ 4) (hb : b ≤ 4) : Nat.lcm a b ≤ 12 := by
  have : ∀ a b : Fin 5, Nat.lcm a.val b.val ≤ 12 := by decide
  exact this ⟨a, by omega⟩ ⟨b, by omega⟩
theorem lcm_le (a b : Nat) : Nat.lcm a b ≤ a * b := Nat.div_le_self _ _
end NT
set_option linter.all false
set_option maxHeartbeats 4000000
/-! One table behind another one: monotonic, grouped, through the greater and the lesser one. Plain Lean. -/
namespace NT
/-- told by its upper bounds that are counts -/
theorem up_some {a b : Option Int} (h : ∀ c : Int, leO a (some c) ↔ leO b (some c)) : a = b := by
  refine up_eq fun c => ?_
  cases c with
  | none => exact ⟨fun _ => .inl rfl, fun _ => .inl rfl⟩
  | some c => exact h c
theorem leO_some {a : Option Int} {c : Int} : leO a (some c) ↔ ∃ v, a = some v ∧ v ≤ c := by
  constructor
  · rintro (z | ⟨x, y, e1, e2, h⟩)
    · cases z
    · injection e2 with e2
      exact ⟨x, e1, by omega⟩
  · rintro ⟨v, e, h⟩
    exact .inr ⟨v, c, e, rfl, h⟩
section
variable {h l : List Int} {r : Int}
theorem asc_le {F : Nat → Option Int} (A : Asc F) {m n : Nat} (hm : 1 ≤ m) (le : m ≤ n) : leO (F m) (F n) := by
  cases e : F n with
  | none => exact .inl rfl
  | some v =>
    obtain ⟨d, rfl⟩ : ∃ d, n = m + d := ⟨n - m, by omega⟩
    obtain ⟨u, hu, le2⟩ := A.below hm e
    exact .inr ⟨u, v, hu, rfl, le2⟩
/-- the end is at most c if all values are -/
theorem fin_le (g : Good h l r) (c : Int) : leO (fin_ l r) (some c) ↔ ∀ n, 1 ≤ n → leO (at_ h l r n) (some c) := by
  constructor
  · intro z n hn
    obtain ⟨v, e, le⟩ := leO_some.mp z
    obtain ⟨u, hu, le2, _⟩ := val_fin g e n
    unfold val_ at hu
    dsimp only at hu
    rw [if_neg (by omega)] at hu
    exact leO_some.mpr ⟨u, hu, by omega⟩
  · intro z
    by_cases q : l = [] ∨ r = 0
    · have := z (h.length + 1) (by omega)
      rw [at_fin g q (by omega)] at this
      exact this
    · exfalso
      have hl : l ≠ [] := fun e => q (.inl e)
      have r0 : r ≠ 0 := fun e => q (.inr e)
      have rp := g.r0
      have l0 := len_pos hl
      obtain ⟨v, e, le⟩ := leO_some.mp (z (h.length + 1 + l.length * (c.toNat + 1)) (by omega))
      rw [at_loop hl (by omega), show h.length + 1 + l.length * (c.toNat + 1) - h.length - 1 = 0 + l.length * (c.toNat + 1) by omega, walk_add_mul l0, walk_lt l0] at e
      injection e with e
      have c0 : 0 ≤ l.getD 0 0 := climbs_lo g.lp l0
      have c1 : 1 * ((c.toNat + 1 : Nat) : Int) ≤ r * ((c.toNat + 1 : Nat) : Int) := Int.mul_le_mul_of_nonneg_right (by omega) (by omega)
      omega
end
/-- less or alike, never the greatest -/
def leE : Option Nat → Option Nat → Prop
  | _, none => True
  | none, some _ => False
  | some a, some b => a ≤ b
theorem toE {a b : Option Int} (h : leO a b) : leE (a.map Int.toNat) (b.map Int.toNat) := by
  rcases h with rfl | ⟨x, y, rfl, rfl, h⟩
  · cases a <;> trivial
  · exact Int.toNat_le_toNat h
theorem val_leE {h l : List Int} {r : Int} (g : Good h l r) {o o' : Option Nat} (e : leE o o') : leO (val_ h l r o) (val_ h l r o') := by
  cases q : val_ h l r o' with
  | none => exact .inl rfl
  | some v =>
    cases o' with
    | none =>
      cases o with
      | none => rw [q]; exact leO.refl _
      | some a =>
        obtain ⟨u, hu, le, _⟩ := val_fin g q a
        exact .inr ⟨u, v, hu, rfl, le⟩
    | some b =>
      cases o with
      | none => exact e.elim
      | some a =>
        obtain ⟨u, hu, le, _⟩ := val_mono g e q
        exact .inr ⟨u, v, hu, rfl, le⟩
theorem mono_chO {f : Option Int → Option Int} (m : ∀ a b, leO a b → leO (f a) (f b)) (g : Bool) (a b : Option Int) : f (chO g a b) = chO g (f a) (f b) := by
  rcases leO.total a b with h | h
  · have k := m _ _ h
    cases g
    · rw [(chO_le h).2, (chO_le k).2]
    · rw [(chO_le h).1, (chO_le k).1]
  · have k := m _ _ h
    cases g
    · rw [(chO_ge h).2, (chO_ge k).2]
    · rw [(chO_ge h).1, (chO_ge k).1]
/-- tables as triples -/
abbrev T3 := List Int × List Int × Int
abbrev vl (y : T3) : Option Nat → Option Int := val_ y.1 y.2.1 y.2.2
abbrev av (y : T3) : Nat → Option Int := at_ y.1 y.2.1 y.2.2
theorem vl_pos {y : T3} {n : Nat} (h : 1 ≤ n) : vl y (some n) = av y n := by
  show (if n = 0 then some 0 else _) = _
  rw [if_neg (by omega)]
theorem vl_zero {y : T3} : vl y (some 0) = some 0 := rfl
theorem chO_zero (g : Bool) : chO g (some 0) (some 0) = some 0 := chO_idem g _
/-- what is told by the greater or the lesser one, everywhere -/
theorem val_chO {g : Bool} {a b u : T3} (ga : Good a.1 a.2.1 a.2.2) (gb : Good b.1 b.2.1 b.2.2) (gu : Good u.1 u.2.1 u.2.2) (e : ∀ n, 1 ≤ n → av u n = chO g (av a n) (av b n)) (o : Option Nat) : vl u o = chO g (vl a o) (vl b o) := by
  cases o with
  | some n =>
    by_cases h : n = 0
    · subst h
      exact (chO_zero g).symm
    · rw [vl_pos (by omega), vl_pos (by omega), vl_pos (by omega), e n (by omega)]
  | none =>
    refine up_some fun c => ?_
    show leO (fin_ u.2.1 u.2.2) (some c) ↔ leO (chO g (fin_ a.2.1 a.2.2) (fin_ b.2.1 b.2.2)) (some c)
    rw [fin_le gu]
    cases g with
    | true =>
      rw [leO_max, fin_le ga, fin_le gb]
      constructor
      · intro z
        exact ⟨fun n hn => (leO_max.mp (by have := z n hn; rw [show at_ u.1 u.2.1 u.2.2 n = _ from e n hn] at this; exact this)).1, fun n hn => (leO_max.mp (by have := z n hn; rw [show at_ u.1 u.2.1 u.2.2 n = _ from e n hn] at this; exact this)).2⟩
      · rintro ⟨z1, z2⟩ n hn
        rw [show at_ u.1 u.2.1 u.2.2 n = _ from e n hn]
        exact leO_max.mpr ⟨z1 n hn, z2 n hn⟩
    | false =>
      constructor
      · intro z
        -- one of the two stays below
        by_cases q : ∀ n, 1 ≤ n → leO (at_ a.1 a.2.1 a.2.2 n) (some c)
        · have k := (fin_le ga c).mpr q
          rcases leO.total (fin_ a.2.1 a.2.2) (fin_ b.2.1 b.2.2) with t | t
          · rw [(chO_le t).2]; exact k
          · rw [(chO_ge t).2]; exact t.trans k
        · have q2 : ∀ n, 1 ≤ n → leO (at_ b.1 b.2.1 b.2.2 n) (some c) := fun n hn => Classical.byContradiction fun y => q fun m hm => Classical.byContradiction fun x => by
            have zz := z (max n m) (by omega)
            rw [show at_ u.1 u.2.1 u.2.2 (max n m) = _ from e _ (by omega)] at zz
            have u1 := asc_le (asc_at ga) hm (show m ≤ max n m by omega)
            have u2 := asc_le (asc_at gb) hn (show n ≤ max n m by omega)
            rcases leO.total (av a (max n m)) (av b (max n m)) with t | t
            · rw [(chO_le t).2] at zz; exact x (u1.trans zz)
            · rw [(chO_ge t).2] at zz; exact y (u2.trans zz)
          have k := (fin_le gb c).mpr q2
          rcases leO.total (fin_ a.2.1 a.2.2) (fin_ b.2.1 b.2.2) with t | t
          · rw [(chO_le t).2]; exact t.trans k
          · rw [(chO_ge t).2]; exact k
      · intro z n hn
        rw [show at_ u.1 u.2.1 u.2.2 n = _ from e n hn]
        rcases leO.total (fin_ a.2.1 a.2.2) (fin_ b.2.1 b.2.2) with t | t
        · rw [(chO_le t).2] at z
          have k := (fin_le ga c).mp z n hn
          rcases leO.total (av a n) (av b n) with s | s
          · rw [(chO_le s).2]; exact k
          · rw [(chO_ge s).2]; exact s.trans k
        · rw [(chO_ge t).2] at z
          have k := (fin_le gb c).mp z n hn
          rcases leO.total (av a n) (av b n) with s | s
          · rw [(chO_le s).2]; exact s.trans k
          · rw [(chO_ge s).2]; exact k
/-- the values of a at those of b -/
def cmp (a b : T3) (o : Option Nat) : Option Int := vl a ((vl b o).map Int.toNat)
theorem beh_cmp {a b : T3} {n : Nat} (h : 1 ≤ n) : beh a.1 a.2.1 a.2.2 b.1 b.2.1 b.2.2 n = cmp a b (some n) := by
  unfold cmp beh
  rw [vl_pos h]
/-- what is told by one table behind another one, everywhere -/
theorem val_cmp {a b u : T3} (ga : Good a.1 a.2.1 a.2.2) (gb : Good b.1 b.2.1 b.2.2) (gu : Good u.1 u.2.1 u.2.2) (e : ∀ n, 1 ≤ n → av u n = cmp a b (some n)) (o : Option Nat) : vl u o = cmp a b o := by
  cases o with
  | some n =>
    by_cases h : n = 0
    · subst h
      rfl
    · rw [vl_pos (by omega), e n (by omega)]
  | none =>
    refine up_some fun c => ?_
    show leO (fin_ u.2.1 u.2.2) (some c) ↔ leO (vl a ((fin_ b.2.1 b.2.2).map Int.toNat)) (some c)
    rw [fin_le gu]
    cases q : fin_ b.2.1 b.2.2 with
    | some v =>
      have qc : b.2.1 = [] ∨ b.2.2 = 0 := by
        by_cases z : b.2.1 = []
        · exact .inl z
        · right
          have := gb.r0
          unfold fin_ at q
          by_cases w : b.2.1 = [] ∨ 0 < b.2.2
          · rw [if_pos w] at q; cases q
          · have : ¬ 0 < b.2.2 := fun y => w (.inr y)
            omega
      constructor
      · intro z
        have := z (b.1.length + 1) (by omega)
        rw [show at_ u.1 u.2.1 u.2.2 _ = _ from e _ (by omega)] at this
        unfold cmp at this
        rw [vl_pos (by omega), show av b (b.1.length + 1) = fin_ b.2.1 b.2.2 from at_fin gb qc (by omega), q] at this
        exact this
      · intro z n hn
        rw [show at_ u.1 u.2.1 u.2.2 n = _ from e n hn]
        refine leO.trans (val_leE ga (toE ?_)) z
        rw [vl_pos hn]
        exact (fin_le gb v).mp (by rw [q]; exact leO.refl _) n hn
    | none =>
      show _ ↔ leO (fin_ a.2.1 a.2.2) (some c)
      rw [fin_le ga]
      constructor
      · intro z m hm
        -- b goes beyond m somewhere
        have : ¬ ∀ n, 1 ≤ n → leO (at_ b.1 b.2.1 b.2.2 n) (some (m : Int)) := fun y => by
          have := (fin_le gb (m : Int)).mpr y
          rw [q] at this
          obtain ⟨v, w, _⟩ := leO_some.mp this
          cases w
        obtain ⟨n, y⟩ := Classical.not_forall.mp this
        obtain ⟨hn, y⟩ := Classical.not_imp.mp y
        have zz := z n hn
        rw [show at_ u.1 u.2.1 u.2.2 n = _ from e n hn] at zz
        unfold cmp at zz
        rw [vl_pos hn] at zz
        have : leO (vl a (some m)) (vl a ((av b n).map Int.toNat)) := val_leE ga (by
          cases w : av b n with
          | none => trivial
          | some v =>
            show m ≤ v.toNat
            have : ¬ v ≤ (m : Int) := fun x => y (leO_some.mpr ⟨v, w, x⟩)
            omega)
        rw [vl_pos hm] at this
        exact this.trans zz
      · intro z n hn
        rw [show at_ u.1 u.2.1 u.2.2 n = _ from e n hn]
        unfold cmp
        cases w : (vl b (some n)).map Int.toNat with
        | none => exact (fin_le ga c).mpr z
        | some k =>
          by_cases k0 : k = 0
          · subst k0
            have := z 1 (Nat.le_refl _)
            refine leO.trans ?_ this
            have := val_leE ga (show leE (some 0) (some 1) from Nat.zero_le _)
            rw [show val_ a.1 a.2.1 a.2.2 (some 1) = at_ a.1 a.2.1 a.2.2 1 from vl_pos (y := a) (Nat.le_refl _)] at this
            exact this
          · rw [vl_pos (by omega)]
            exact z k (by omega)
end NT
namespace NT
theorem cmp_group {a b c ab bc : T3} (h1 : ∀ o, vl ab o = cmp a b o) (h2 : ∀ o, vl bc o = cmp b c o) (o : Option Nat) : cmp ab c o = cmp a bc o := by
  unfold cmp
  rw [h1, h2]
  rfl
theorem cmp_left {g : Bool} {a b c u : T3} (h : ∀ o, vl u o = chO g (vl a o) (vl b o)) (o : Option Nat) : cmp u c o = chO g (cmp a c o) (cmp b c o) := h _
theorem cmp_right {g : Bool} {a b c u : T3} (gc : Good c.1 c.2.1 c.2.2) (h : ∀ o, vl u o = chO g (vl a o) (vl b o)) (o : Option Nat) : cmp c u o = chO g (cmp c a o) (cmp c b o) := by
  unfold cmp
  rw [h]
  exact mono_chO (f := fun x => vl c (x.map Int.toNat)) (fun x y k => val_leE gc (toE k)) g _ _
theorem cmp_mono_left {a b c : T3} (h : ∀ o, leO (vl a o) (vl b o)) (o : Option Nat) : leO (cmp a c o) (cmp b c o) := h _
theorem cmp_mono_right {a b c : T3} (gc : Good c.1 c.2.1 c.2.2) (h : ∀ o, leO (vl a o) (vl b o)) (o : Option Nat) : leO (cmp c a o) (cmp c b o) := val_leE gc (toE (h o))
end NT
set_option linter.all false
set_option maxHeartbeats 4000000
/-! The turn of a row: the greatest count with a value less than n. Plain Lean. -/
namespace NT
/-- so many of each, from a first number on -/
def spr (M : Nat → Int) (lo : Int) (k : Nat) : List Int := (List.range k).flatMap fun j => List.replicate (M (j + 1) - M j).toNat (lo + (j : Int))
theorem spr_succ {M : Nat → Int} {lo : Int} {k : Nat} : spr M lo (k + 1) = spr M lo k ++ List.replicate (M (k + 1) - M k).toNat (lo + (k : Int)) := by
  unfold spr
  rw [List.range_succ, List.flatMap_append]
  simp
theorem up_all {M : Nat → Int} {k : Nat} (u : ∀ j, j < k → M j ≤ M (j + 1)) : ∀ {j : Nat}, j ≤ k → M 0 ≤ M j := by
  intro j
  induction j with
  | zero => exact fun _ => Int.le_refl _
  | succ j ih =>
    intro h
    have := ih (by omega)
    have := u j (by omega)
    omega
theorem spr_len {M : Nat → Int} {lo : Int} : ∀ {k : Nat}, (∀ j, j < k → M j ≤ M (j + 1)) → (spr M lo k).length = (M k - M 0).toNat
  | 0, _ => by show 0 = _; omega
  | k + 1, u => by
    rw [spr_succ, List.length_append, List.length_replicate, spr_len fun j h => u j (by omega)]
    have := u k (by omega)
    have := up_all (k := k) (fun j h => u j (by omega)) (Nat.le_refl k)
    omega
theorem spr_get {M : Nat → Int} {lo : Int} : ∀ {k : Nat}, (∀ j, j < k → M j ≤ M (j + 1)) → ∀ {p : Nat}, (p : Int) < M k - M 0 → ∃ j, j < k ∧ (spr M lo k).getD p 0 = lo + (j : Int) ∧ M j ≤ M 0 + (p : Int) ∧ M 0 + (p : Int) < M (j + 1)
  | 0, _, p, hp => by omega
  | k + 1, u, p, hp => by
    have u' : ∀ j, j < k → M j ≤ M (j + 1) := fun j h => u j (by omega)
    have uk := u k (by omega)
    have u0 := up_all (k := k) u' (Nat.le_refl k)
    have ln := spr_len (lo := lo) u'
    rw [spr_succ]
    by_cases c : (p : Int) < M k - M 0
    · obtain ⟨j, h1, h2, h3⟩ := spr_get (lo := lo) u' c
      exact ⟨j, by omega, by rw [getD_app1 (by omega)]; exact h2, h3⟩
    · refine ⟨k, by omega, ?_, by omega, by omega⟩
      rw [List.getD_eq_getElem?_getD, List.getElem?_append_right (by omega), List.getElem?_replicate, if_pos (by omega)]
      rfl
/-- t is the greatest count with a value less than n, or never -/
def TurnAt (G : Nat → Option Int) (n : Nat) : Option Int → Prop
  | none => ∀ c, ¬ leO (some (n : Int)) (G c)
  | some v => ∃ j : Nat, v = (j : Int) ∧ ¬ leO (some (n : Int)) (G j) ∧ leO (some (n : Int)) (G (j + 1))
/-- each one tells the other one -/
def Conj (F T : Nat → Option Int) : Prop := ∀ c n : Nat, 1 ≤ c → 1 ≤ n → (leO (some (n : Int)) (F c) ↔ ¬ leO (some (c : Int)) (T n))
theorem leO_nat {a b : Int} : leO (some a) (some b) ↔ a ≤ b := by
  constructor
  · rintro (z | ⟨x, y, e1, e2, z⟩)
    · cases z
    · injection e1 with e1
      injection e2 with e2
      omega
  · exact fun z => .inr ⟨a, b, rfl, rfl, z⟩
theorem leO_none {a : Option Int} : leO a none := .inl rfl
theorem Conj.symm {F T : Nat → Option Int} (h : Conj F T) : Conj T F := fun c n hc hn => by
  rw [h n c hn hc]
  exact Classical.not_not.symm
/-- what is at least each count that another one is at least -/
theorem eq_of_low {a b : Option Int} (ha : ∀ v, a = some v → 0 ≤ v) (hb : ∀ v, b = some v → 0 ≤ v) (e : ∀ c : Nat, 1 ≤ c → (leO (some (c : Int)) a ↔ leO (some (c : Int)) b)) : a = b := by
  cases a with
  | none =>
    cases b with
    | none => rfl
    | some v =>
      have := leO_nat.mp ((e (v.toNat + 1) (by omega)).mp leO_none)
      have := hb v rfl
      omega
  | some u =>
    have u0 := ha u rfl
    cases b with
    | none =>
      have := leO_nat.mp ((e (u.toNat + 1) (by omega)).mpr leO_none)
      omega
    | some v =>
      have v0 := hb v rfl
      congr 1
      by_cases c1 : u = 0
      · by_cases c2 : v = 0
        · omega
        · have := leO_nat.mp ((e v.toNat (by omega)).mpr (leO_nat.mpr (by omega)))
          omega
      · have h1 := leO_nat.mp ((e u.toNat (by omega)).mp (leO_nat.mpr (by omega)))
        by_cases c2 : v = 0
        · omega
        · have h2 := leO_nat.mp ((e v.toNat (by omega)).mpr (leO_nat.mpr (by omega)))
          omega
theorem Conj.one {F T T' : Nat → Option Int} (h : Conj F T) (h' : Conj F T') {n : Nat} (hn : 1 ≤ n) (g : ∀ v, T n = some v → 0 ≤ v) (g' : ∀ v, T' n = some v → 0 ≤ v) : T n = T' n :=
  eq_of_low g g' fun c hc => by
    have a := h c n hc hn
    have b := h' c n hc hn
    rw [a] at b
    exact ⟨fun z => Classical.byContradiction fun y => (b.mpr y) z, fun z => Classical.byContradiction fun y => (b.mp y) z⟩
theorem Conj.max {F G T S : Nat → Option Int} (h : Conj F T) (k : Conj G S) : Conj (fun n => chO true (F n) (G n)) fun n => chO false (T n) (S n) := fun c n hc hn => by
  show leO _ (chO true (F c) (G c)) ↔ ¬ leO _ (chO false (T n) (S n))
  have a := h c n hc hn
  have b := k c n hc hn
  have l : leO (some (c : Int)) (chO false (T n) (S n)) ↔ leO (some (c : Int)) (T n) ∧ leO (some (c : Int)) (S n) := by
    rcases leO.total (T n) (S n) with q | q
    · rw [(chO_le q).2]
      exact ⟨fun z => ⟨z, z.trans q⟩, fun z => z.1⟩
    · rw [(chO_ge q).2]
      exact ⟨fun z => ⟨z.trans q, z⟩, fun z => z.2⟩
  have g : leO (some (n : Int)) (chO true (F c) (G c)) ↔ leO (some (n : Int)) (F c) ∨ leO (some (n : Int)) (G c) := by
    rcases leO.total (F c) (G c) with q | q
    · rw [(chO_le q).1]
      exact ⟨fun z => .inr z, fun z => z.elim (fun z => z.trans q) id⟩
    · rw [(chO_ge q).1]
      exact ⟨fun z => .inl z, fun z => z.elim id (fun z => z.trans q)⟩
  rw [l, g, a, b]
  constructor
  · rintro (z | z) ⟨x, y⟩
    · exact z x
    · exact z y
  · intro z
    by_cases x : leO (some (c : Int)) (T n)
    · exact .inr fun y => z ⟨x, y⟩
    · exact .inl x
theorem Conj.asc {F T : Nat → Option Int} (h : Conj F T) (g : ∀ n v, 1 ≤ n → T n = some v → 0 ≤ v) : Asc T := by
  refine ⟨g, fun n v hn e => ?_⟩
  have up : ∀ c : Nat, 1 ≤ c → leO (some (c : Int)) (T n) → leO (some (c : Int)) (T (n + 1)) := fun c hc z => Classical.byContradiction fun y => by
    have := (h c (n + 1) hc (by omega)).mpr y
    have t : leO (some (n : Int)) (some ((n + 1 : Nat) : Int)) := leO_nat.mpr (by omega)
    exact (h c n hc hn).mp (t.trans this) z
  have v0 := g (n + 1) v (by omega) e
  cases q : T n with
  | none =>
    have := up (v.toNat + 1) (by omega) (by rw [q]; exact leO_none)
    rw [e] at this
    have := leO_nat.mp this
    omega
  | some u =>
    have u0 := g n u hn q
    refine ⟨u, rfl, ?_⟩
    by_cases z : u = 0
    · omega
    · have := up u.toNat (by omega) (by rw [q]; exact leO_nat.mpr (by omega))
      rw [e] at this
      have := leO_nat.mp this
      omega
/-- a row that climbs from 0 on, with what is found of each place -/
theorem conj_of {G T : Nat → Option Int} (up : ∀ a b, a ≤ b → leO (G a) (G b)) (t : ∀ n, 1 ≤ n → TurnAt G n (T n)) : Conj G T := fun c n hc hn => by
  have := t n hn
  cases e : T n with
  | none =>
    rw [e] at this
    exact ⟨fun z => absurd z (this c), fun z => absurd leO_none z⟩
  | some v =>
    rw [e] at this
    obtain ⟨j, rfl, h1, h2⟩ := this
    rw [leO_nat]
    constructor
    · intro z y
      exact h1 (z.trans (up c j (by omega)))
    · intro z
      exact h2.trans (up (j + 1) c (by omega))
end NT
set_option linter.all false
set_option maxHeartbeats 4000000
/-! The form of the turn. Plain Lean. -/
namespace NT
def vN0 (y : T3) (j : Nat) : Int := (vl y (some j)).getD 0
def tform (y : T3) : T3 :=
  if y.2.1 = [] then (spr (vN0 y) 0 y.1.length, [(y.1.length : Int)], 0)
  else if y.2.2 = 0 then (spr (vN0 y) 0 (y.1.length + 1), [], 0)
  else (spr (vN0 y) 0 (y.1.length + 1), spr (fun j => vN0 y (y.1.length + 1 + j)) ((y.1.length + 1 : Nat) : Int) y.2.1.length, (y.2.1.length : Int))
section
variable {y : T3}
theorem vl_num (j : Nat) (h : j ≤ y.1.length ∨ y.2.1 ≠ []) : vl y (some j) = some (vN0 y j) := by
  unfold vN0
  by_cases z : j = 0
  · subst z
    rfl
  · rw [vl_pos (by omega)]
    obtain ⟨v, e⟩ : ∃ v, av y j = some v := ⟨_, at_some j h⟩
    rw [e]
    rfl
theorem vl_up (g : Good y.1 y.2.1 y.2.2) {a b : Nat} (h : a ≤ b) : leO (vl y (some a)) (vl y (some b)) := val_leE g (show leE (some a) (some b) from h)
theorem vN0_up (g : Good y.1 y.2.1 y.2.2) {a b : Nat} (h : a ≤ b) (k : b ≤ y.1.length ∨ y.2.1 ≠ []) : vN0 y a ≤ vN0 y b := by
  have := vl_up g h
  rw [vl_num a (k.imp (fun z => by omega) id), vl_num b k] at this
  exact leO_nat.mp this
theorem vN0_loop (nl : y.2.1 ≠ []) (x k : Nat) (h : y.1.length < x) : vN0 y (x + y.2.1.length * k) = vN0 y x + y.2.2 * (k : Int) := by
  unfold vN0
  rw [vl_pos (by omega), vl_pos (by omega), show av y x = some (num y.1 y.2.1 y.2.2 x) from at_some x (.inr nl), show av y _ = some (num y.1 y.2.1 y.2.2 (x + y.2.1.length * k)) from at_some _ (.inr nl)]
  exact num_per nl h k
theorem tform_at (g : Good y.1 y.2.1 y.2.2) {n : Nat} (hn : 1 ≤ n) : TurnAt (fun j => vl y (some j)) n (av (tform y) n) := by
  have z0 : vN0 y 0 = 0 := rfl
  -- within the marks
  have within : ∀ (k : Nat) (lo l : List Int) (r : Int), (k ≤ y.1.length ∨ y.2.1 ≠ []) → lo = spr (vN0 y) 0 k → (n : Int) ≤ vN0 y k → TurnAt (fun j => vl y (some j)) n (at_ lo l r n) := fun k lo l r hk e hB => by
    have mo : ∀ j, j < k → vN0 y j ≤ vN0 y (j + 1) := fun j hj => vN0_up g (by omega) (hk.imp (fun z => by omega) id)
    have ln := spr_len (lo := 0) mo
    obtain ⟨j, hj, ev, a, b⟩ := spr_get (lo := 0) (p := n - 1) mo (by rw [z0]; omega)
    rw [z0] at a b
    have : at_ lo l r n = some ((j : Nat) : Int) := by
      unfold at_
      rw [if_pos (by rw [e, ln]; omega), e, ev, Int.zero_add]
    rw [this]
    refine ⟨j, rfl, ?_, ?_⟩
    · show ¬ leO _ (vl y (some j))
      rw [vl_num j (hk.imp (fun z => by omega) id), leO_nat]
      omega
    · show leO _ (vl y (some (j + 1)))
      rw [vl_num (j + 1) (hk.imp (fun z => by omega) id), leO_nat]
      omega
  by_cases e1 : y.2.1 = []
  · have et : tform y = (spr (vN0 y) 0 y.1.length, [(y.1.length : Int)], 0) := if_pos e1
    rw [et]
    by_cases c : (n : Int) ≤ vN0 y y.1.length
    · exact within y.1.length _ _ _ (.inl (Nat.le_refl _)) rfl c
    · have mo : ∀ j, j < y.1.length → vN0 y j ≤ vN0 y (j + 1) := fun j hj => vN0_up g (by omega) (.inl (by omega))
      have ln := spr_len (lo := 0) mo
      have : av (spr (vN0 y) 0 y.1.length, [(y.1.length : Int)], 0) n = some ((y.1.length : Nat) : Int) := by
        show at_ _ _ _ n = _
        rw [at_loop (by simp) (by rw [ln, z0]; omega)]
        unfold walk
        show some ([(y.1.length : Int)].getD (_ % 1) 0 + 0 * _) = _
        rw [Nat.mod_one, Int.zero_mul, Int.add_zero]
        rfl
      rw [this]
      refine ⟨y.1.length, rfl, ?_, ?_⟩
      · show ¬ leO _ (vl y (some y.1.length))
        rw [vl_num _ (.inl (Nat.le_refl _)), leO_nat]
        exact c
      · show leO _ (vl y (some (y.1.length + 1)))
        rw [vl_pos (by omega)]
        refine .inl ?_
        unfold av at_
        rw [if_neg (by omega), if_pos e1]
  · have mo : ∀ j, j < y.1.length + 1 → vN0 y j ≤ vN0 y (j + 1) := fun j hj => vN0_up g (by omega) (.inr e1)
    have ln := spr_len (lo := 0) mo
    by_cases e2 : y.2.2 = 0
    · have et : tform y = (spr (vN0 y) 0 (y.1.length + 1), [], 0) := (if_neg e1).trans (if_pos e2)
      rw [et]
      by_cases c : (n : Int) ≤ vN0 y (y.1.length + 1)
      · exact within _ _ _ _ (.inr e1) rfl c
      · have : av (spr (vN0 y) 0 (y.1.length + 1), [], 0) n = none := by
          show at_ _ _ _ n = _
          unfold at_
          rw [if_neg (by rw [ln, z0]; omega), if_pos rfl]
        rw [this]
        intro q z
        have up := vl_up g (show q ≤ q + (y.1.length + 1) by omega)
        have t1 : leO (some (n : Int)) (vl y (some (q + (y.1.length + 1)))) := z.trans up
        rw [vl_pos (by omega), show av y (q + (y.1.length + 1)) = fin_ y.2.1 y.2.2 from at_fin g (.inr e2) (by omega), ← show av y (y.1.length + 1) = fin_ y.2.1 y.2.2 from at_fin g (.inr e2) (by omega), ← vl_pos (y := y) (show 1 ≤ y.1.length + 1 by omega), vl_num _ (.inr e1), leO_nat] at t1
        omega
    · have r0 : 0 < y.2.2 := by
        have := g.r0
        omega
      have et : tform y = (spr (vN0 y) 0 (y.1.length + 1), spr (fun j => vN0 y (y.1.length + 1 + j)) ((y.1.length + 1 : Nat) : Int) y.2.1.length, (y.2.1.length : Int)) := (if_neg e1).trans (if_neg e2)
      rw [et]
      by_cases c : (n : Int) ≤ vN0 y (y.1.length + 1)
      · exact within _ _ _ _ (.inr e1) rfl c
      · have l0 := len_pos e1
        have mo2 : ∀ j, j < y.2.1.length → vN0 y (y.1.length + 1 + j) ≤ vN0 y (y.1.length + 1 + (j + 1)) := fun j hj => vN0_up g (by omega) (.inr e1)
        have ln2 := spr_len (M := fun j => vN0 y (y.1.length + 1 + j)) (lo := ((y.1.length + 1 : Nat) : Int)) mo2
        have one := vN0_loop (y := y) e1 (y.1.length + 1) 1 (by omega)
        rw [Nat.mul_one] at one
        have rr : vN0 y (y.1.length + 1 + y.2.1.length) = vN0 y (y.1.length + 1) + y.2.2 := by rw [one]; simp
        rw [rr, Nat.add_zero] at ln2
        obtain ⟨B, hB⟩ : ∃ B, B = vN0 y (y.1.length + 1) := ⟨_, rfl⟩
        have B0 : 0 ≤ B := by
          rw [hB]
          exact vN0_up (a := 0) g (by omega) (.inr e1)
        rw [← hB] at rr c ln ln2
        rw [z0] at ln
        obtain ⟨R, hR⟩ : ∃ R : Nat, (R : Int) = y.2.2 := ⟨y.2.2.toNat, by omega⟩
        have L : (spr (fun j => vN0 y (y.1.length + 1 + j)) ((y.1.length + 1 : Nat) : Int) y.2.1.length).length = R := by omega
        have hne : spr (fun j => vN0 y (y.1.length + 1 + j)) ((y.1.length + 1 : Nat) : Int) y.2.1.length ≠ [] := fun z => by
          rw [z] at L
          have : (0 : Nat) = R := L
          omega
        obtain ⟨i, k, hi, en⟩ : ∃ i k : Nat, i < R ∧ n - B.toNat - 1 = i + R * k := ⟨(n - B.toNat - 1) % R, (n - B.toNat - 1) / R, Nat.mod_lt _ (by omega), (Nat.mod_add_div _ _).symm⟩
        obtain ⟨j, hj, ev, a, b⟩ := spr_get (M := fun j => vN0 y (y.1.length + 1 + j)) (lo := ((y.1.length + 1 : Nat) : Int)) (p := i) mo2 (by show (i : Int) < vN0 y (y.1.length + 1 + y.2.1.length) - vN0 y (y.1.length + 1 + 0); rw [rr, Nat.add_zero, ← hB]; omega)
        rw [Nat.add_zero, ← hB] at a b
        have at1 : av (spr (vN0 y) 0 (y.1.length + 1), spr (fun j => vN0 y (y.1.length + 1 + j)) ((y.1.length + 1 : Nat) : Int) y.2.1.length, (y.2.1.length : Int)) n = some ((y.1.length + 1 + j + y.2.1.length * k : Nat) : Int) := by
          show at_ _ _ _ n = _
          rw [at_loop hne (by rw [ln]; omega), ln, show n - (B - 0).toNat - 1 = n - B.toNat - 1 by omega, en]
          unfold walk
          rw [L, Nat.add_mul_mod_self_left, Nat.mod_eq_of_lt hi, Nat.add_mul_div_left _ _ (show 0 < R by omega), Nat.div_eq_of_lt hi, Nat.zero_add, ev]
          congr 1
        rw [at1]
        have f1 := vN0_loop (y := y) e1 (y.1.length + 1 + j) k (by omega)
        have f2 := vN0_loop (y := y) e1 (y.1.length + 1 + (j + 1)) k (by omega)
        have eR : y.2.2 * (k : Int) = ((R * k : Nat) : Int) := by rw [Int.natCast_mul, hR]
        rw [eR] at f1 f2
        have hn2 : (n : Int) = B + 1 + (i : Int) + ((R * k : Nat) : Int) := by omega
        refine ⟨_, rfl, ?_, ?_⟩
        · show ¬ leO _ (vl y (some (y.1.length + 1 + j + y.2.1.length * k)))
          rw [vl_num _ (.inr e1), leO_nat, f1]
          omega
        · show leO _ (vl y (some (y.1.length + 1 + j + y.2.1.length * k + 1)))
          rw [vl_num _ (.inr e1), leO_nat, show y.1.length + 1 + j + y.2.1.length * k + 1 = y.1.length + 1 + (j + 1) + y.2.1.length * k by omega, f2]
          omega
theorem conj_vl {T : Nat → Option Int} (g : Good y.1 y.2.1 y.2.2) (t : ∀ n, 1 ≤ n → TurnAt (fun j => vl y (some j)) n (T n)) : Conj (av y) T := fun c n hc hn => by
  have := conj_of (G := fun j => vl y (some j)) (fun a b h => vl_up g h) t c n hc hn
  rw [show (fun j => vl y (some j)) c = av y c from vl_pos hc] at this
  exact this
theorem turn_ge {G : Nat → Option Int} {n : Nat} {t : Option Int} (h : TurnAt G n t) : ∀ v, t = some v → 0 ≤ v := by
  rintro v rfl
  obtain ⟨j, rfl, _⟩ := h
  exact Int.natCast_nonneg j
theorem tform_conj (g : Good y.1 y.2.1 y.2.2) : Conj (av y) (av (tform y)) := conj_vl g fun n hn => tform_at g hn
theorem tform_good (g : Good y.1 y.2.1 y.2.2) : Good (tform y).1 (tform y).2.1 (tform y).2.2 := by
  refine good_of ((tform_conj g).asc fun n v hn e => turn_ge (tform_at g hn) v e) ?_ ?_
  · unfold tform
    split
    · exact Int.le_refl _
    · split
      · exact Int.le_refl _
      · exact Int.natCast_nonneg _
  · unfold tform
    split
    · intro z; cases z
    · rename_i e1
      split
      · exact fun _ => rfl
      · rename_i e2
        intro z
        exfalso
        have l0 := len_pos e1
        have mo2 : ∀ j, j < y.2.1.length → vN0 y (y.1.length + 1 + j) ≤ vN0 y (y.1.length + 1 + (j + 1)) := fun j hj => vN0_up g (by omega) (.inr e1)
        have ln2 := spr_len (M := fun j => vN0 y (y.1.length + 1 + j)) (lo := ((y.1.length + 1 : Nat) : Int)) mo2
        have one := vN0_loop (y := y) e1 (y.1.length + 1) 1 (by omega)
        rw [Nat.mul_one] at one
        dsimp only at z
        rw [z, one, Nat.add_zero] at ln2
        have := g.r0
        have t : (0 : Nat) = (vN0 y (y.1.length + 1) + y.2.2 * ((1 : Nat) : Int) - vN0 y (y.1.length + 1)).toNat := ln2
        omega
/-- how long the turn is -/
theorem tform_size (g : Good y.1 y.2.1 y.2.2) : (tform y).1.length = (vN0 y (if y.2.1 = [] then y.1.length else y.1.length + 1)).toNat ∧ (tform y).2.1.length ≤ max 1 y.2.2.toNat ∧ (tform y).2.2 ≤ (y.2.1.length : Int) := by
  have z0 : vN0 y 0 = 0 := rfl
  unfold tform
  by_cases e1 : y.2.1 = []
  · rw [if_pos e1, if_pos e1]
    have mo : ∀ j, j < y.1.length → vN0 y j ≤ vN0 y (j + 1) := fun j hj => vN0_up g (by omega) (.inl (by omega))
    have ln := spr_len (lo := 0) mo
    refine ⟨by dsimp only; rw [ln, z0]; omega, by show 1 ≤ _; omega, Int.natCast_nonneg _⟩
  · rw [if_neg e1, if_neg e1]
    have mo : ∀ j, j < y.1.length + 1 → vN0 y j ≤ vN0 y (j + 1) := fun j hj => vN0_up g (by omega) (.inr e1)
    have ln := spr_len (lo := 0) mo
    by_cases e2 : y.2.2 = 0
    · rw [if_pos e2]
      exact ⟨by dsimp only; rw [ln, z0]; omega, Nat.zero_le _, Int.natCast_nonneg _⟩
    · rw [if_neg e2]
      have mo2 : ∀ j, j < y.2.1.length → vN0 y (y.1.length + 1 + j) ≤ vN0 y (y.1.length + 1 + (j + 1)) := fun j hj => vN0_up g (by omega) (.inr e1)
      have ln2 := spr_len (M := fun j => vN0 y (y.1.length + 1 + j)) (lo := ((y.1.length + 1 : Nat) : Int)) mo2
      have one := vN0_loop (y := y) e1 (y.1.length + 1) 1 (by omega)
      rw [Nat.mul_one] at one
      rw [one, Nat.add_zero] at ln2
      exact ⟨by dsimp only; rw [ln, z0]; omega, by dsimp only; rw [ln2]; have := g.r0; omega, Int.le_refl _⟩
end
end NT
set_option Elab.async false
set_option linter.all false
set_option maxRecDepth 100000
set_option maxHeartbeats 4000000
namespace NT
theorem seg_allK {F : Nat → Option Int} {a m : Nat} (h : ∀ k, k < m → F (a + k + 1) ≠ none) : (seg F a m).map NF.vO = NF.vI (segN F a m) := by
  unfold seg segN NF.vI
  rw [List.map_map, List.map_map]
  refine List.map_congr_left fun k hk => ?_
  show NF.vO (F (a + k + 1)) = .int (numF F (a + k + 1))
  rw [numF_some (h k (List.mem_range.mp hk))]
  rfl
theorem seg_get {F : Nat → Option Int} {a m k : Nat} (hk : k < m) : (seg F a m)[k]? = some (F (a + k + 1)) := by
  unfold seg
  rw [List.getElem?_map, List.getElem?_range hk]
  rfl
end NT
namespace K28
open PySem PySem.Spec PyProof.Rows L2 He NF RZ NT
abbrev Y := List Int × List Int × Int
abbrev atY (y : Y) (n : Nat) : Option Int := at_ y.1 y.2.1 y.2.2 n
theorem val_at {y : Y} {n : Nat} (h : 1 ≤ n) : val_ y.1 y.2.1 y.2.2 (some n) = atY y n := by
  show (if n = 0 then _ else _) = _
  rw [if_neg (by omega)]
theorem raw1_at {x : Y} (h : Raw1 x) {n : Nat} {v : Int} (e : atY x n = some v) : v ≤ 16 + 3 * (n : Int) := by
  unfold atY at_ at e
  by_cases c : n ≤ x.1.length
  · rw [if_pos c] at e
    injection e with e
    by_cases z : n - 1 < x.1.length
    · have := h.o.bh (n - 1) z
      omega
    · rw [List.getD_eq_getElem?_getD, List.getElem?_eq_none (by omega)] at e
      have : v = 0 := e.symm
      omega
  · rw [if_neg c, if_neg h.ne] at e
    injection e with e
    have lp := List.length_pos_iff.mpr h.ne
    unfold walk at e
    have b := h.o.bl ((n - x.1.length - 1) % x.2.1.length) (Nat.mod_lt _ lp)
    have d := Nat.div_add_mod (n - x.1.length - 1) x.2.1.length
    generalize (n - x.1.length - 1) / x.2.1.length = q at e d
    have st := Int.mul_le_mul_of_nonneg_right h.st (show (0 : Int) ≤ (q : Int) by omega)
    have e2 : 3 * (x.2.1.length : Int) * (q : Int) = 3 * ((x.2.1.length * q : Nat) : Int) := by rw [Int.natCast_mul, Int.mul_assoc]
    rw [e2] at st
    generalize x.2.1.length * q = mq at st d
    omega
/-- tables as this law draws them: all come for ever, or all end at one place -/
structure DrawT (xs : List Y) : Prop where
  n1 : 1 ≤ xs.length
  n3 : xs.length ≤ 3
  k : (∀ x ∈ xs, Raw1 x) ∨ ∃ L, L ≤ 5 ∧ ∀ x ∈ xs, Good x.1 x.2.1 x.2.2 ∧ x.2.1 = [] ∧ x.1.length = L ∧ x.2.2 = 0 ∧ ∀ i, i < L → x.1.getD i 0 ≤ 31
def spLTable (K : PySem.W.Frag) (C : Addr) : Sp := fun vs H Q _ => ∃ p y, vs = [.ref p] ∧ FormAt K H p y ∧ RawOk y ∧ ∀ x z H', IsPlain y.1 y.2.1 y.2.2 z → Same H H' → TabAt K C H' x z → Q (.ref x) H'
def spCounts (K : PySem.W.Frag) : Sp := fun vs H Q _ => ∃ (a : Addr) (F : Nat → Option Int) (N : Nat), vs = [.ref a] ∧ SqL K H a ((seg F 0 N).map vO) ∧ Asc F ∧ N ≤ 20000 ∧ ∀ q H', Same H H' → H' q = some (.lst (vI ((seg F 0 N).filterMap id))) → Q (.ref q) H'
def spEnded (K : PySem.W.Frag) : Sp := fun vs H Q _ => ∃ (p q : Addr) (x : Y) (N : Nat), vs = [.ref p, .ref q, .int (N : Int)] ∧ FormAt K H q x ∧ Good x.1 x.2.1 x.2.2 ∧ Small x ∧ x.2.1 ≠ [] ∧ N ≤ 5 ∧ ∀ p' H', Same H H' → FormAt K H' p' (segN (atY x) 0 N, [], 0) → Q (.ref p') H'
/-- the tables of a list -/
def TabsF (K : PySem.W.Frag) (H : Hp) (qs : List Addr) (xs : List Y) : Prop := qs.length = xs.length ∧ ∀ (i : Nat) (q : Addr) (x : Y), qs[i]? = some q → xs[i]? = some x → FormAt K H q x
theorem TabsF.mono {K : PySem.W.Frag} {H H' : Hp} {qs : List Addr} {xs : List Y} (h : TabsF K H qs xs) (s : Same H H') : TabsF K H' qs xs := ⟨h.1, fun i q x e1 e2 => (h.2 i q x e1 e2).mono s⟩
def spTables (K : PySem.W.Frag) : Sp := fun vs H Q _ => ∃ (H0 : Hp) (p : Addr), vs = [.ref p] ∧ Same H0 H ∧ H0 p = none ∧ Src H p ∧ ∀ D qs xs H', Same H0 H' → Src H' p → H' D = some (.lst (qs.map V.ref)) → TabsF K H' qs xs → DrawT xs → Q (.ref D) H'
theorem sc__law_counts : FnScope ["_law_values", "_law_told", "_law_value"] ["_law_values"] (defScope s__law_counts) := ⟨rfl, rfl, rfl, by decide +kernel, rfl, by decide +kernel, by decide +kernel⟩
theorem sc__law_table : FnScope ["_law_raw_here"] ["_law_raw_here"] (defScope s__law_table) := ⟨rfl, rfl, rfl, by decide +kernel, rfl, by decide +kernel, by decide +kernel⟩
theorem sc__law_ended : FnScope ["_law_source_here", "_law_raw_here", "_law_upto", "_law_values", "_law_n"] ["_law_source_here", "_law_raw_here", "_law_upto"] (defScope s__law_ended) := ⟨rfl, rfl, rfl, by decide +kernel, rfl, by decide +kernel, by decide +kernel⟩
theorem sc__law_tables : FnScope ["_law_source_here", "_law_many", "_law_told", "_law_k", "_law_raw_here", "_law_upto"] ["_law_source_here"] (defScope s__law_tables) := ⟨rfl, rfl, rfl, by decide +kernel, rfl, by decide +kernel, by decide +kernel⟩
theorem FormAt.put {K : PySem.W.Frag} {H : Hp} {q D : Addr} {x : Y} {l : List V} {o : HO} (h : FormAt K H q x) (hD : H D = some (.lst l)) : FormAt K (upd H D o) q x := by
  obtain ⟨a, b, h1, h2, h3⟩ := h
  exact ⟨a, b, SqT.put h1 hD trivial, SqT.put h2 hD trivial, SqT.put h3 hD trivial⟩
theorem FormAt.woS {K : PySem.W.Frag} {H : Hp} {q p : Addr} {x : Y} (h : FormAt K H q x) (hs : Src H p) : FormAt K (NF.wo H p) q x := by
  obtain ⟨a, b, h1, h2, h3⟩ := h
  obtain ⟨_, _, _, e⟩ := hs
  exact ⟨a, b, SqT.wo h1 e trivial, SqT.wo h2 e trivial, SqT.wo h3 e trivial⟩
theorem TabsF.put {K : PySem.W.Frag} {H : Hp} {D : Addr} {qs : List Addr} {xs : List Y} {l : List V} {o : HO} (h : TabsF K H qs xs) (hD : H D = some (.lst l)) : TabsF K (upd H D o) qs xs := ⟨h.1, fun i q x e1 e2 => FormAt.put (h.2 i q x e1 e2) hD⟩
theorem TabsF.woS {K : PySem.W.Frag} {H : Hp} {p : Addr} {qs : List Addr} {xs : List Y} (h : TabsF K H qs xs) (hs : Src H p) : TabsF K (NF.wo H p) qs xs := ⟨h.1, fun i q x e1 e2 => FormAt.woS (h.2 i q x e1 e2) hs⟩
theorem TabsF.snoc {K : PySem.W.Frag} {H : Hp} {qs : List Addr} {xs : List Y} {q : Addr} {x : Y} (h : TabsF K H qs xs) (fo : FormAt K H q x) : TabsF K H (qs ++ [q]) (xs ++ [x]) := by
  refine ⟨by rw [List.length_append, List.length_append, h.1]; rfl, fun i q' x' e1 e2 => ?_⟩
  have hl := h.1
  rcases Nat.lt_trichotomy i qs.length with c | c | c
  · rw [List.getElem?_append_left c] at e1
    rw [List.getElem?_append_left (by omega)] at e2
    exact h.2 i q' x' e1 e2
  · rw [List.getElem?_append_right (by omega), c, Nat.sub_self] at e1
    rw [List.getElem?_append_right (by omega), c, hl, Nat.sub_self] at e2
    cases e1
    cases e2
    exact fo
  · rw [List.getElem?_eq_none (by rw [List.length_append]; show qs.length + 1 ≤ i; omega)] at e1
    cases e1
theorem both1H2 {X : Prop} {R : Addr → Hp → Prop} (P : Addr → Hp → Prop) (h1 : (∀ q G, P q G → R q G) → X) (h2 : ∀ q G, P q G → R q G) : X := h1 h2
theorem raw1_some {x : Y} (h : Raw1 x) {n : Nat} (hn : 1 ≤ n) : atY x n ≠ none := fun z => by
  have := at_some (h := x.1) (l := x.2.1) (r := x.2.2) n (.inr h.ne)
  have z : at_ x.1 x.2.1 x.2.2 n = none := z
  rw [this] at z
  cases z
theorem raw1_settled {h l : List Int} {r : Int} (o : Raw1 (h, l, r)) : Raw1 (h, [l.getD 0 0], 0) := by
  have ne := o.ne
  dsimp only at ne
  have hl : 0 < l.length := List.length_pos_iff.mpr ne
  refine ⟨⟨⟨o.o.g.hd, ⟨climbs_low o.o.g.lp hl, trivial⟩, fun a b => o.o.g.join a ne, Int.le_refl _, fun z => absurd z (by simp), fun _ => by simp⟩, o.o.h, by simp, by simp, ?_, o.o.bh, fun i hi => ?_⟩, by simp, by simp⟩
  · have hb : l.getD 0 0 ≤ 10000 := by
      have := o.o.bl 0 hl
      dsimp only at this
      omega
    refine first_le (fun z => ?_) fun _ _ => hb
    have := o.o.bh 0 (List.length_pos_iff.mpr z)
    dsimp only at this ⊢
    omega
  · have : i = 0 := by simpa using hi
    subst this
    exact o.o.bl 0 hl
theorem ended_draw {x : Y} (h : Raw1 x) {N : Nat} (hN : N ≤ 5) : Good (segN (atY x) 0 N) [] 0 ∧ (segN (atY x) 0 N).length = N ∧ ∀ i, i < N → (segN (atY x) 0 N).getD i 0 ≤ 31 := by
  refine ⟨ended (asc_at h.o.g) fun n hn _ => raw1_some h hn, segN_len, fun i hi => ?_⟩
  unfold segN
  rw [List.getD_eq_getElem?_getD, List.getElem?_map, List.getElem?_range hi]
  show numF (atY x) (0 + i + 1) ≤ 31
  cases e : atY x (0 + i + 1) with
  | none => exact absurd e (raw1_some h (by omega))
  | some v =>
    have z := numF_some (raw1_some h (show 1 ≤ 0 + i + 1 by omega))
    rw [e] at z
    injection z with z
    have := raw1_at h e
    omega
section
variable {P : Program} {w : World} {K : PySem.W.Frag} {mg : Str → Option Value} {base : Heap} {gs fs : List Str} {C : Addr}
theorem ok__law_counts {f : Addr} {fd : FuncData} (F : FunD K "_law_counts" "_law_counts" (defArgs s__law_counts) (defBody s__law_counts) (defScope s__law_counts) [] [] f fd) (T : Txt K mg gs FS) : FnOk P w K mg base CX0 1 f fd ["_law_values"] (spCounts K) := by
  refine F.ok sc__law_counts (fun vs H Q E h => ?_) (fun cdv A outer s H vs Q E hr h => ?_)
  · obtain ⟨a, f, N, rfl, _⟩ := h
    rfl
  · obtain ⟨a, f, N, rfl, ha, As, hN, q⟩ := h
    obtain ⟨M, hM, eM, sM, zM⟩ := cnt_ex As N
    refine ⟨_, PSs.nox (pss_cons (ps_set (i := 1) sc__law_counts.nd rfl (Or.inl rfl) (pe_lst pa_nil)) (pss_cons (ps_for PassesOwn.never rfl (pi_list (pv 0)) (pg_name (i := 2) sc__law_counts.nd rfl (Or.inl rfl)) (pss_cons (ps_if (pt_cmpR op_isN (pv 2) pe_non (nomark _)) (pss_one (ps_ret (pv 1))) pss_nil) (pss_one (ps_expr (pe_bm PySem.F.plainAttrs_list PySem.F.slot_list_append PySem.F.type_list_append mt_append (pv 1) (pa_cons (pv 2) pa_nil)))))) (pss_one (ps_ret (pv 1))))), ?_⟩
    refine ⟨(by show 0 ≤ sizeLine; decide), fun D hD => ?_⟩
    have s1 := NF.Same.new (o := .lst []) (Same.refl H) hD
    refine ⟨_, rfl, a, rfl, ⟨_, L2.Same.seq s1 ha⟩, ?_⟩
    refine for_it (walk_list (xs := (seg f 0 N).map vO)) (fun i σ G => Same H G ∧ i ≤ M ∧ G D = some (.lst (vI (segN f 0 i))) ∧ ∃ v, σ = [some (.ref a), some (.ref D), v]) ⟨s1, Nat.zero_le _, upd_same, none, rfl⟩ (fun i σ G _ z => L2.Same.seq z.1 ha) ?_ ?_
    · rintro i x σ G G' hi ⟨sG, iM, hG, v, rfl⟩ ⟨rfl, hx⟩
      rw [List.length_map, seg_len] at hi
      rw [List.getElem?_map, seg_get hi, show 0 + i + 1 = i + 1 by omega] at hx
      obtain rfl : vO (f (i + 1)) = x := Option.some.inj hx
      cases e : f (i + 1) with
      | none =>
        have : M = i := by
          rcases Nat.lt_or_ge i M with c | c
          · exact absurd e (sM (i + 1) (by omega) (by omega))
          · omega
        refine ⟨_, rfl, rfl, _, rfl, iteT ?_⟩
        refine ⟨_, rfl, q D G' sG ?_⟩
        rw [eM, this]
        exact hG
      | some u =>
        have iM' : i + 1 ≤ M := by
          rcases Nat.lt_or_ge i M with c | c
          · omega
          · have := zM (i + 1) (by omega) (by omega)
            rw [e] at this
            cases this
        refine ⟨_, rfl, rfl, _, rfl, iteF ?_⟩
        refine ⟨_, rfl, .inl ⟨rfl, _, SqL.of hG⟩, _, rfl, D, _, _, rfl, rfl, hG, ?_, ?_⟩
        · rw [vI_len, segN_len]
          exact Nat.lt_of_le_of_lt (show i ≤ 20000 by omega) (by decide)
        · refine ⟨NF.Same.mut sG hD, iM', ?_, _, rfl⟩
          rw [upd_same, segN_succ, ← vI_app, show 0 + i + 1 = i + 1 by omega]
          unfold numF
          rw [e]
          rfl
    · rintro σ G ⟨sG, iM, hG, v, rfl⟩
      rw [List.length_map, seg_len] at iM hG
      refine ⟨_, rfl, q D G sG ?_⟩
      rw [eM, show M = N by omega]
      exact hG
theorem ok__law_table {f : Addr} {fd : FuncData} (F : FunD K "_law_table" "_law_table" (defArgs s__law_table) (defBody s__law_table) (defScope s__law_table) [] [] f fd) (T : Txt K mg gs FS) (m_Table : Mak P w K mg base 4 0 "Table" C (spInit K C) []) : FnOk P w K mg base CX0 6 f fd ["_law_raw_here"] (spLTable K C) := by
  refine F.ok sc__law_table (fun vs H Q E h => ?_) (fun cdv A outer s H vs Q E hr h => ?_)
  · obtain ⟨p, y, rfl, _⟩ := h
    rfl
  · obtain ⟨p, ⟨h, l, r⟩, rfl, ⟨a, b, hp, ha, hb⟩, ok, q⟩ := h
    refine ⟨_, PSs.nox (pss_one (ps_ret (pe_mk m_Table hr (by decide) rfl (pa_cons (pe_ix (ixt (K := K)) (pv 0) pe_int fun _ _ => rfl) (pa_cons (pe_ix (ixt (K := K)) (pv 0) pe_int fun _ _ => rfl) (pa_cons (pe_ix (ixt (K := K)) (pv 0) pe_int fun _ _ => rfl) pa_nil)))))), ?_⟩
    refine ⟨_, rfl, p, _, _, _, rfl, rfl, hp, at0, _, rfl, p, _, _, _, rfl, rfl, hp, at1, _, rfl, p, _, _, _, rfl, rfl, hp, at2, ?_⟩
    intro x dx nx nd ne
    have o1 := ok.h
    have o2 := ok.l
    dsimp only at o1 o2 ha hb q
    exact ⟨x, dx, a, b, h, l, r, rfl, upd_same, row_made nx nd (.inr ha), row_made nx nd (.inr hb), ok.g, by omega, fun z H' hz s tb => ⟨rfl, q x z H' hz (same_made nx nd s) tb⟩⟩
theorem ok__law_ended {f : Addr} {fd : FuncData} (F : FunD K "_law_ended" "_law_ended" (defArgs s__law_ended) (defBody s__law_ended) (defScope s__law_ended) [] [] f fd) (T : Txt K mg gs FS) (c__law_at : Cal P w K mg base 2 "_law_at" (spLAt K)) (c__law_counts : Cal P w K mg base 1 "_law_counts" (spCounts K)) : FnOk P w K mg base CX0 3 f fd ["_law_source_here", "_law_raw_here", "_law_upto"] (spEnded K) := by
  refine F.ok sc__law_ended (fun vs H Q E h => ?_) (fun cdv A outer s H vs Q E hr h => ?_)
  · obtain ⟨p, q, x, N, rfl, _⟩ := h
    rfl
  · obtain ⟨p, q, x, N, rfl, fo, gd, sm, ne, hN, k⟩ := h
    refine ⟨_, PSs.nox (pss_cons (ps_setLc (i := 3) (own := [("_law_n", 4)]) rfl sc__law_ended.nd rfl rfl (sw_true rfl rfl rfl (by decide +kernel)) (pi_range1 rfl (T.fr _ (by decide +kernel)) (pa_cons (pv 2) pa_nil)) (blkOk_by (N := ["_law_source_here", "_law_raw_here", "_law_upto", "_law_values", "_law_n"]) (sc := defScope s__law_ended) (by decide +kernel)) (fun _ _ _ _ _ => by exact (pg_name (i := 4) sc__law_ended.nd rfl (Or.inl rfl))) (fun _ _ _ _ _ => by exact pts_nil) (fun _ _ _ _ _ => by exact (pe_c c__law_at hr (by decide) rfl (pa_cons (pv 1) (pa_cons (pe_op op_add (pv 4) pe_int) pa_nil))))) (pss_one (ps_ret (pe_tup (pa_cons (pe_callTy cr_tup rfl (T.fr _ (by decide +kernel)) (by decide +kernel) (pa_cons (pe_c c__law_counts hr (by decide) rfl (pa_cons (pv 3) pa_nil)) pa_nil)) (pa_cons (pe_tup pa_nil) (pa_cons pe_int pa_nil))))))), ?_⟩
    refine ⟨_, rfl, (N : Int), rfl, by omega, by omega, fun D hD => ?_⟩
    refine lc_range (lo := 0) (n := N) (fun j G => Same H G ∧ G D = some (.lst ((seg (atY x) 0 j).map vO))) ⟨NF.Same.new (Same.refl H) hD, upd_same⟩ ?_ ?_
    · rintro j G hj ⟨sG, hG⟩
      refine ⟨rfl, _, rfl, _, rfl, _, _, rfl, rfl, q, x, some (j + 1), by show [V.ref q, V.int ((0 : Int) + (j : Int) + 1)] = [V.ref q, V.int ((j + 1 : Nat) : Int)]; rw [show (0 : Int) + (j : Int) + 1 = ((j + 1 : Nat) : Int) by omega], fo.mono sG, sm, ?_⟩
      have e : val_ x.1 x.2.1 x.2.2 (some (j + 1)) = atY x (j + 1) := val_at (by omega)
      rw [e]
      refine ⟨_, hG, by rw [List.length_map, seg_len]; exact Nat.lt_of_le_of_lt (show j ≤ 10 by omega) (by decide), NF.Same.mut sG hD, ?_⟩
      rw [upd_same]
      unfold seg
      rw [List.range_succ, List.map_append, List.map_append]
      show some (HO.lst (List.map vO (List.map (fun k => atY x (0 + k + 1)) (List.range j)) ++ [vO (atY x (j + 1))])) = some (HO.lst (List.map vO (List.map (fun k => atY x (0 + k + 1)) (List.range j)) ++ [vO (atY x (0 + j + 1))]))
      rw [show 0 + j + 1 = j + 1 by omega]
    · rintro G ⟨sG, hG⟩
      have As := asc_at gd
      refine ⟨_, rfl, D, atY x, N, rfl, SqL.of hG, As, by omega, fun q2 G2 s2 h2 => ?_⟩
      have hs : ∀ n, 1 ≤ n → atY x n ≠ none := fun n hn z => by
        have := at_some (h := x.1) (l := x.2.1) (r := x.2.2) n (.inr ne)
        have z : at_ x.1 x.2.1 x.2.2 n = none := z
        rw [this] at z
        cases z
      obtain ⟨M, hM, eM, _, zM⟩ := cnt_ex As N
      have : M = N := by
        rcases Nat.lt_or_ge M N with c | c
        · exact absurd (zM (M + 1) (by omega) (by omega)) (hs _ (by omega))
        · omega
      rw [eM, this] at h2
      refine ⟨q2, _, rfl, .inl (SqL.of h2), fun p1 G3 s3 t3 => ?_⟩
      refine ⟨(by show 0 ≤ sizeLine; decide), fun p2 hp2 => ?_⟩
      refine ⟨(by show 3 ≤ sizeLine; decide), fun p3 hp3 => ?_⟩
      have s4 := NF.Same.new (o := .tup []) (Same.refl G3) hp2
      have s5 := NF.Same.new (o := .tup [V.ref p1, V.ref p2, V.int 0]) (Same.refl (upd G3 p2 (.tup []))) hp3
      have s45 := Same.trans s4 s5
      exact k p3 _ (Same.trans sG (Same.trans s2 (Same.trans s3 s45))) ⟨p1, p2, SqT.of upd_same, NF.Same.tup s45 t3, NF.Same.tup s5 (SqT.of upd_same)⟩
theorem ok__law_tables {f : Addr} {fd : FuncData} (F : FunD K "_law_tables" "_law_tables" (defArgs s__law_tables) (defBody s__law_tables) (defScope s__law_tables) [] [] f fd) (T : Txt K mg gs FS) (c__law_pick : Cal P w K mg base 1 "_law_pick" spPick) (c__law_raw : Cal P w K mg base 3 "_law_raw" (spRaw K)) (c__law_ended : Cal P w K mg base 3 "_law_ended" (spEnded K)) : FnOk P w K mg base CX0 4 f fd ["_law_source_here"] (spTables K) := by
  refine F.ok sc__law_tables (fun vs H Q E h => ?_) (fun cdv A outer s H vs Q E hr h => ?_)
  · obtain ⟨H0, p, rfl, _⟩ := h
    rfl
  · obtain ⟨H0, p, rfl, s0, n0, hs, k⟩ := h
    refine ⟨_, PSs.nox (pss_cons (ps_set (i := 1) sc__law_tables.nd rfl (Or.inl rfl) (pe_op op_add pe_int (pe_c c__law_pick hr (by decide) rfl (pa_cons (pv 0) (pa_cons pe_int pa_nil))))) (pss_cons (ps_set (i := 2) sc__law_tables.nd rfl (Or.inl rfl) (pe_lst pa_nil)) (pss_cons (ps_for PassesOwn.never rfl (pi_range1 rfl (T.fr _ (by decide +kernel)) (pa_cons (pv 1) pa_nil)) (pg_name (i := 3) sc__law_tables.nd rfl (Or.inl rfl)) (pss_cons (ps_set (i := 4) sc__law_tables.nd rfl (Or.inl rfl) (pe_c c__law_raw hr (by decide) rfl (pa_cons (pv 0) (pa_cons pe_bl pa_nil)))) (pss_cons (ps_if (pt_cmpR op_eq (pe_c c__law_pick hr (by decide) rfl (pa_cons (pv 0) (pa_cons pe_int pa_nil))) pe_int (nomark _)) (pss_one (ps_set (i := 4) sc__law_tables.nd rfl (Or.inl rfl) (pe_tup (pa_cons (pe_ix (ixt (K := K)) (pv 4) pe_int fun _ _ => rfl) (pa_cons (pe_tup (pa_cons (pe_ix (ixt (K := K)) (pe_ix (ixt (K := K)) (pv 4) pe_int fun _ _ => rfl) pe_int fun _ _ => rfl) pa_nil)) (pa_cons pe_int pa_nil)))))) pss_nil) (pss_one (ps_expr (pe_bm PySem.F.plainAttrs_list PySem.F.slot_list_append PySem.F.type_list_append mt_append (pv 2) (pa_cons (pv 4) pa_nil))))))) (pss_cons (ps_if (pt_cmpR op_eq (pe_c c__law_pick hr (by decide) rfl (pa_cons (pv 0) (pa_cons pe_int pa_nil))) pe_int (nomark _)) (pss_cons (ps_set (i := 5) sc__law_tables.nd rfl (Or.inr rfl) (pe_c c__law_pick hr (by decide) rfl (pa_cons (pv 0) (pa_cons pe_int pa_nil)))) (pss_one (ps_setLc (i := 2) (own := [("_law_raw_here", 4)]) rfl sc__law_tables.nd rfl rfl (sw_true rfl rfl rfl (by decide +kernel)) (pi_list (pv 2)) (blkOk_by (N := ["_law_source_here", "_law_many", "_law_told", "_law_k", "_law_raw_here", "_law_upto"]) (sc := defScope s__law_tables) (by decide +kernel)) (fun _ _ _ _ _ => by exact (pg_name (i := 4) sc__law_tables.nd rfl (Or.inl rfl))) (fun _ _ _ _ _ => by exact pts_nil) (fun _ _ _ _ _ => by exact (pe_c c__law_ended hr (by decide) rfl (pa_cons (pv 0) (pa_cons (pv 4) (pa_cons (pv 5) pa_nil)))))))) pss_nil) (pss_one (ps_ret (pv 2))))))), ?_⟩
    refine ⟨_, rfl, wo H p, p, 3, rfl, wo_same', wo_none, hs, by decide, by decide, fun d G1 d0 d1 s1 S1 => ?_⟩
    refine ⟨_, _, rfl, rfl, ?_⟩
    refine ⟨(by show 0 ≤ sizeLine; decide), fun D hD => ?_⟩
    have s01 := wo_same s0 n0 s1
    have h0D := same_none s01 hD
    have hDp : D ≠ p := src_ne (o := .lst []) S1 hD
    obtain ⟨m, hm⟩ : ∃ m : Nat, (1 : Int) + d = (m : Int) := ⟨(1 + d).toNat, by rw [Int.toNat_of_nonneg (by omega)]⟩
    refine ⟨_, rfl, 1 + d, rfl, by omega, by omega, ?_⟩
    rw [show (1 + d).toNat = m by omega]
    refine for_range (lo := 0) (n := m) (fun j σ G => Same H0 G ∧ Src G p ∧ ∃ (qs : List Addr) (xs : List Y) (v3 v4 v5 : Option V), G D = some (.lst (qs.map V.ref)) ∧ TabsF K G qs xs ∧ qs.length = j ∧ (∀ x ∈ xs, Raw1 x) ∧ σ = [some (.ref p), some (.int (1 + d)), some (.ref D), v3, v4, v5]) ⟨NF.Same.put s01 h0D, src_put S1 hDp, [], [], none, none, none, upd_same, ⟨rfl, fun i q x e => by simp at e⟩, rfl, (fun x hx => by cases hx), rfl⟩ ?_ ?_
    · rintro j σ G hj ⟨sG, SG, qs, xs, v3, v4, v5, hG, tf, ql, hr1, rfl⟩
      refine ⟨_, rfl, wo G p, p, rfl, wo_same', wo_none, SG, fun q x G2 s2 S2 r1 fo => ?_⟩
      have hG2 := s2 _ _ ((wo_ne hDp).trans hG)
      have tf := (tf.woS SG).mono s2
      have sG2 := wo_same sG n0 s2
      refine ⟨_, rfl, wo G2 p, p, 6, rfl, wo_same', wo_none, S2, by decide, by decide, fun e G3 e0 e1 s3 S3 => ⟨rfl, _, rfl, ?_⟩⟩
      have hG3 := s3 _ _ ((wo_ne hDp).trans hG2)
      have tf := (tf.woS S2).mono s3
      have sG3 := wo_same sG2 n0 s3
      have fo := (fo.woS S2).mono s3
      refine' @both1H2 _ _ (fun q G => Same H0 G ∧ Src G p ∧ G D = some (.lst (qs.map V.ref)) ∧ TabsF K G qs xs ∧ ∃ x, Raw1 x ∧ FormAt K G q x) (fun kk => ?A) ?B
      case A =>
        by_cases c : ¬ (V.int e : V) = V.int 0
        · refine iteF' (decide_eq_false c) ?_
          have h0 := kk q G3 ⟨sG3, S3, hG3, tf, x, r1, fo⟩
          revert h0
          generalize q = qz
          generalize G3 = Gz
          intro h0
          exact h0
        · have c := Classical.not_not.mp c
          refine iteT' (decide_eq_true c) ?_
          obtain ⟨a, b, hq, ha, hb⟩ := id fo
          obtain ⟨h, l, r⟩ := x
          have ne := r1.ne
          dsimp only at hq ha hb ne
          have hl : 0 < l.length := List.length_pos_iff.mpr ne
          refine ⟨_, rfl, q, _, _, _, rfl, rfl, hq, at0, ?_⟩
          refine ⟨_, rfl, q, _, _, _, rfl, rfl, hq, at1, b, _, _, _, rfl, rfl, hb, at_int (k := 0) rfl hl, ?_⟩
          refine ⟨(by show 1 ≤ sizeLine; decide), fun u1 hu1 => ?_⟩
          refine ⟨(by show 3 ≤ sizeLine; decide), fun u2 hu2 => ?_⟩
          have t1 := NF.Same.new (o := .tup [V.int (l.getD 0 0)]) (Same.refl G3) hu1
          have t2 := NF.Same.new (o := .tup [V.ref a, V.ref u1, V.int 0]) (Same.refl (upd G3 u1 (.tup [V.int (l.getD 0 0)]))) hu2
          have t12 := Same.trans t1 t2
          have h0 := kk u2 _ ⟨Same.trans sG3 t12, Src.mono S3 t12, t12 _ _ hG3, tf.mono t12, (h, [l.getD 0 0], 0), raw1_settled r1, a, u1, SqT.of upd_same, NF.Same.tup t12 ha, NF.Same.tup t2 (SqT.of upd_same)⟩
          exact h0
      case B =>
        rintro q G ⟨sG, SG, hG, tf, x, r1, fo⟩
        refine ⟨_, rfl, Or.inl ⟨rfl, _, SqL.of hG⟩, _, rfl, D, _, _, rfl, rfl, hG, ?_, ?_⟩
        · rw [List.length_map, ql]
          exact Nat.lt_of_le_of_lt (show j ≤ 10 by omega) (by decide)
        · refine ⟨NF.Same.put sG h0D, src_put SG hDp, qs ++ [q], xs ++ [x], _, _, _, ?_, (tf.snoc fo).put hG, by rw [List.length_append, ql]; rfl, fun y hy => ?_, rfl⟩
          · rw [upd_same, List.map_append]
            rfl
          · rcases List.mem_append.mp hy with hy | hy
            · exact hr1 y hy
            · rw [List.mem_singleton.mp hy]
              exact r1
    · rintro σ G ⟨sG, SG, qs, xs, v3, v4, v5, hG, tf, ql, hr1, rfl⟩
      have xl := tf.1
      refine ⟨_, rfl, wo G p, p, 5, rfl, wo_same', wo_none, SG, by decide, by decide, fun e G2 e0 e1 s2 S2 => ⟨rfl, _, rfl, ?_⟩⟩
      have hG2 := s2 _ _ ((wo_ne hDp).trans hG)
      have tf := (tf.woS SG).mono s2
      have sG2 := wo_same sG n0 s2
      by_cases c : (V.int e : V) = V.int 0
      · refine iteT' (decide_eq_true c) ?_
        refine ⟨_, rfl, wo G2 p, p, 6, rfl, wo_same', wo_none, S2, by decide, by decide, fun u G3 u0 u1 s3 S3 => ?_⟩
        have hG3 := s3 _ _ ((wo_ne hDp).trans hG2)
        have tf := (tf.woS S2).mono s3
        have sG3 := wo_same sG2 n0 s3
        obtain ⟨N, rfl⟩ : ∃ N : Nat, u = (N : Int) := ⟨u.toNat, by rw [Int.toNat_of_nonneg u0]⟩
        refine ⟨_, rfl, D, rfl, ⟨_, SqL.of hG3⟩, fun D2 hD2 => ?_⟩
        refine lc_list (xs := qs.map V.ref) (fun j G => Same G3 G ∧ ∃ rs : List Addr, G D2 = some (.lst (rs.map V.ref)) ∧ TabsF K G rs ((xs.take j).map fun x => (segN (atY x) 0 N, [], 0))) ⟨NF.Same.new (Same.refl G3) hD2, [], upd_same, rfl, fun i q x e => by simp at e⟩ (fun j G _ z => SqL.of (z.1 _ _ hG3)) ?_ ?_
        · rintro j v G hv ⟨sG', rs, hR, tr⟩
          have hj := (List.getElem?_eq_some_iff.mp hv).1
          rw [List.length_map] at hj
          obtain rfl : V.ref (qs[j]) = v := by
            rw [List.getElem?_map, List.getElem?_eq_getElem hj] at hv
            exact Option.some.inj hv
          have hjx : j < xs.length := by omega
          have r1 := hr1 xs[j] (List.getElem_mem hjx)
          have fo := (tf.2 j qs[j] xs[j] (List.getElem?_eq_getElem hj) (List.getElem?_eq_getElem hjx)).mono sG'
          have o := r1.o
          have o1 := o.h
          have o2 := o.l
          have o3 := o.r
          refine ⟨rfl, _, rfl, _, rfl, _, rfl, p, qs[j], xs[j], N, rfl, fo, o.g, ⟨by omega, by omega, o.g.r0, by omega⟩, r1.ne, by omega, fun q' G4 s4 fo4 => ?_⟩
          have hR4 := s4 _ _ hR
          have rl := tr.1
          rw [List.length_map, List.length_take] at rl
          refine ⟨_, hR4, by rw [List.length_map]; exact Nat.lt_of_le_of_lt (show rs.length ≤ 10 by omega) (by decide), NF.Same.mut (Same.trans sG' s4) hD2, rs ++ [q'], ?_, ?_⟩
          · rw [upd_same, List.map_append]
            rfl
          · have tn := (TabsF.snoc (tr.mono s4) fo4).put (o := .lst (rs.map V.ref ++ [V.ref q'])) hR4
            rw [List.take_succ_eq_append_getElem hjx, List.map_append]
            exact tn
        · rintro G4 ⟨s4, rs, hR, tr⟩
          rw [List.length_map, xl, List.take_length] at tr
          refine ⟨_, rfl, k D2 rs _ G4 (Same.trans sG3 s4) (Src.mono S3 s4) hR tr ⟨by rw [List.length_map]; omega, by rw [List.length_map]; omega, .inr ⟨N, by omega, fun y hy => ?_⟩⟩⟩
          obtain ⟨x, hx, rfl⟩ := List.mem_map.mp hy
          obtain ⟨e1, e2, e3⟩ := ended_draw (hr1 x hx) (N := N) (by omega)
          exact ⟨e1, rfl, e2, rfl, e3⟩
      · refine iteF' (decide_eq_false c) ?_
        exact ⟨_, rfl, k D qs xs G2 sG2 S2 hG2 tf ⟨by omega, by omega, .inl hr1⟩⟩
end
end K28
set_option linter.all false
set_option maxHeartbeats 4000000
/-! Cheapest totals of rounds: ways G, each gives m pieces and costs d. Plain Lean. -/
namespace NT
/-- the least of a set of numbers, none if there is none -/
def MinOf (S : Int → Prop) : Option Int → Prop
  | none => ∀ c, ¬ S c
  | some u => S u ∧ ∀ c, S c → u ≤ c
theorem MinOf.one {S : Int → Prop} {a b : Option Int} (h : MinOf S a) (k : MinOf S b) : a = b := by
  cases a with
  | none => cases b with
    | none => rfl
    | some v => exact absurd k.1 (h v)
  | some u => cases b with
    | none => exact absurd h.1 (k u)
    | some v =>
      have h1 := h.2 v k.1
      have h2 := k.2 u h.1
      rw [show u = v by omega]
theorem MinOf.congr {S T : Int → Prop} {o : Option Int} (h : MinOf S o) (e : ∀ c, S c ↔ T c) : MinOf T o := by
  cases o with
  | none => exact fun c t => h c ((e c).mpr t)
  | some u => exact ⟨(e u).mp h.1, fun c t => h.2 c ((e c).mpr t)⟩
/-- the lesser of what was found and one more -/
def rlx (o : Option Int) (v : Int) : Option Int := match o with
  | none => some v
  | some u => if v < u then some v else some u
/-- whether one more is less than what was found -/
def less (v : Int) : Option Int → Bool
  | none => true
  | some u => decide (v < u)
theorem rlx_less (o : Option Int) (v : Int) : rlx o v = if less v o = true then some v else o := by
  cases o with
  | none => rfl
  | some u =>
    show (if v < u then some v else some u) = if decide (v < u) = true then some v else some u
    by_cases h : v < u
    · rw [if_pos h, if_pos (decide_eq_true h)]
    · rw [if_neg h, if_neg (by simp [h])]
theorem MinOf.push {S T : Int → Prop} {o : Option Int} {v : Int} (h : MinOf S o) (t : T v ∧ ∀ c, T c → v ≤ c) : MinOf (fun c => S c ∨ T c) (rlx o v) := by
  cases o with
  | none => exact ⟨.inr t.1, fun c hc => hc.elim (fun z => absurd z (h c)) (t.2 c)⟩
  | some u =>
    show MinOf _ (if v < u then some v else some u)
    by_cases e : v < u
    · rw [if_pos e]
      exact ⟨.inr t.1, fun c hc => hc.elim (fun z => by have := h.2 c z; omega) (t.2 c)⟩
    · rw [if_neg e]
      exact ⟨.inl h.1, fun c hc => hc.elim (h.2 c) fun z => by have := t.2 c z; omega⟩
theorem MinOf.skip {S T : Int → Prop} {o : Option Int} (h : MinOf S o) (t : ∀ c, ¬ T c) : MinOf (fun c => S c ∨ T c) o :=
  h.congr fun c => ⟨.inl, fun z => z.elim id fun y => absurd y (t c)⟩
theorem MinOf.shift {S : Int → Prop} {u : Int} (h : MinOf S (some u)) (d : Int) : (∃ c, S c ∧ u + d = c + d) ∧ ∀ c, (∃ c', S c' ∧ c = c' + d) → u + d ≤ c :=
  ⟨⟨u, h.1, rfl⟩, fun c ⟨c', hc, e⟩ => by have := h.2 c' hc; omega⟩
/-- finitely many sets with a least number have one together -/
theorem min_any {α : Type} (S : α → Int → Prop) : ∀ l : List α, (∀ a ∈ l, ∃ o, MinOf (S a) o) → ∃ o, MinOf (fun c => ∃ a ∈ l, S a c) o
  | [], _ => ⟨none, fun c ⟨a, h, _⟩ => nomatch h⟩
  | a :: l, h => by
    obtain ⟨o1, h1⟩ := h a List.mem_cons_self
    obtain ⟨o2, h2⟩ := min_any S l fun b hb => h b (List.mem_cons_of_mem _ hb)
    have e : ∀ c, ((∃ b ∈ l, S b c) ∨ S a c) ↔ ∃ b ∈ a :: l, S b c := fun c => by simp [or_comm]
    cases o1 with
    | none => exact ⟨o2, (h2.skip h1).congr e⟩
    | some v => exact ⟨rlx o2 v, (h2.push h1).congr e⟩
/-! ### rounds -/
/-- rounds of these ways that give g pieces in all and cost c -/
def Rch (G : List Nat) (m : Nat → Nat) (d : Nat → Int) (g : Nat) (c : Int) : Prop := ∃ ks : List Nat, (∀ k ∈ ks, k ∈ G) ∧ (ks.map m).sum = g ∧ (ks.map d).sum = c
section
variable {G : List Nat} {m : Nat → Nat} {d : Nat → Int}
theorem rch_nil : Rch G m d 0 0 := ⟨[], by simp, rfl, rfl⟩
theorem rch_step {g k : Nat} {c : Int} (h : Rch G m d g c) (hk : k ∈ G) : Rch G m d (g + m k) (c + d k) := by
  obtain ⟨ks, h1, h2, h3⟩ := h
  exact ⟨k :: ks, fun j hj => (List.mem_cons.mp hj).elim (fun z => z ▸ hk) (h1 j), by rw [List.map_cons, List.sum_cons, h2]; omega, by rw [List.map_cons, List.sum_cons, h3]; omega⟩
theorem rch_inv {g : Nat} {c : Int} (h : Rch G m d g c) : (g = 0 ∧ c = 0) ∨ ∃ k ∈ G, ∃ g' c', Rch G m d g' c' ∧ g = g' + m k ∧ c = c' + d k := by
  obtain ⟨ks, h1, h2, h3⟩ := h
  cases ks with
  | nil => exact .inl ⟨h2.symm, h3.symm⟩
  | cons k ks => exact .inr ⟨k, h1 k List.mem_cons_self, _, _, ⟨ks, fun j hj => h1 j (List.mem_cons_of_mem _ hj), rfl, rfl⟩, by rw [← h2, List.map_cons, List.sum_cons]; omega, by rw [← h3, List.map_cons, List.sum_cons]; omega⟩
theorem rch_min (hm : ∀ k ∈ G, 1 ≤ m k) : ∀ g, ∃ o, MinOf (Rch G m d g) o := by
  intro g
  induction g using Nat.strongRecOn with
  | ind g ih =>
    have h : ∀ k ∈ G, ∃ o, MinOf (fun c => ∃ g' c', Rch G m d g' c' ∧ g = g' + m k ∧ c = c' + d k) o := fun k hk => by
      have k1 := hm k hk
      by_cases e : m k ≤ g
      · obtain ⟨o, ho⟩ := ih (g - m k) (by omega)
        cases o with
        | none => exact ⟨none, fun c ⟨g', c', r, e1, e2⟩ => ho c' (by rw [show g - m k = g' by omega]; exact r)⟩
        | some u => exact ⟨some (u + d k), ⟨_, u, ho.1, by omega, rfl⟩, fun c ⟨g', c', r, e1, e2⟩ => by
            have := ho.2 c' (by rw [show g - m k = g' by omega]; exact r)
            omega⟩
      · exact ⟨none, fun c ⟨g', c', r, e1, e2⟩ => by omega⟩
    obtain ⟨o, ho⟩ := min_any (fun k c => ∃ g' c', Rch G m d g' c' ∧ g = g' + m k ∧ c = c' + d k) G h
    by_cases z : g = 0
    · subst z
      refine ⟨some 0, rch_nil, fun c hc => ?_⟩
      rcases rch_inv hc with ⟨_, rfl⟩ | ⟨k, hk, g', c', _, e, _⟩
      · exact Int.le_refl _
      · have := hm k hk
        omega
    · exact ⟨o, ho.congr fun c => ⟨fun ⟨k, hk, g', c', r, e1, e2⟩ => by rw [e1, e2]; exact rch_step r hk, fun r => (rch_inv r).elim (fun y => absurd y.1 z) id⟩⟩
/-! ### found out step by step -/
/-- rounds whose last one was looked at: ways behind fewer than B pieces, and the first j of those behind B -/
def Psh (G : List Nat) (m : Nat → Nat) (d : Nat → Int) (B j h : Nat) (c : Int) : Prop := (h = 0 ∧ c = 0) ∨ ∃ idx k g' c', G[idx]? = some k ∧ (g' < B ∨ (g' = B ∧ idx < j)) ∧ Rch G m d g' c' ∧ h = g' + m k ∧ c = c' + d k
theorem psh_zero (h : Nat) : MinOf (Psh G m d 0 0 h) (if h = 0 then some 0 else none) := by
  by_cases z : h = 0
  · rw [if_pos z]
    exact ⟨.inl ⟨z, rfl⟩, fun c hc => by
      rcases hc with ⟨_, rfl⟩ | ⟨_, _, g', _, _, h1, _⟩
      · exact Int.le_refl _
      · omega⟩
  · rw [if_neg z]
    exact fun c hc => by
      rcases hc with ⟨h0, _⟩ | ⟨_, _, g', _, _, h1, _⟩
      · exact z h0
      · omega
theorem psh_done (hm : ∀ k ∈ G, 1 ≤ m k) {B j h : Nat} (hb : h ≤ B) (c : Int) : Psh G m d B j h c ↔ Rch G m d h c := by
  constructor
  · rintro (⟨rfl, rfl⟩ | ⟨idx, k, g', c', e, _, r, rfl, rfl⟩)
    · exact rch_nil
    · exact rch_step r (List.mem_of_getElem? e)
  · intro r
    rcases rch_inv r with ⟨h0, c0⟩ | ⟨k, hk, g', c', r', e1, e2⟩
    · exact .inl ⟨h0, c0⟩
    · obtain ⟨idx, hi, e⟩ := List.mem_iff_getElem.mp hk
      have := hm k hk
      exact .inr ⟨idx, k, g', c', by rw [List.getElem?_eq_getElem hi, e], .inl (by omega), r', e1, e2⟩
theorem psh_next {B h : Nat} (c : Int) : Psh G m d B G.length h c ↔ Psh G m d (B + 1) 0 h c := by
  constructor
  · rintro (z | ⟨idx, k, g', c', e, lt, r⟩)
    · exact .inl z
    · exact .inr ⟨idx, k, g', c', e, .inl (by omega), r⟩
  · rintro (z | ⟨idx, k, g', c', e, lt, r⟩)
    · exact .inl z
    · have hi := (List.getElem?_eq_some_iff.mp e).1
      exact .inr ⟨idx, k, g', c', e, by omega, r⟩
theorem psh_none {B j h : Nat} (n : MinOf (Rch G m d B) none) (c : Int) : Psh G m d B j h c ↔ Psh G m d (B + 1) 0 h c := by
  constructor
  · rintro (z | ⟨idx, k, g', c', e, lt, r⟩)
    · exact .inl z
    · exact .inr ⟨idx, k, g', c', e, .inl (by omega), r⟩
  · rintro (z | ⟨idx, k, g', c', e, lt, r, r2⟩)
    · exact .inl z
    · refine .inr ⟨idx, k, g', c', e, .inl ?_, r, r2⟩
      by_cases h : g' = B
      · rw [h] at r
        exact absurd r (n c')
      · omega
theorem psh_step {B j k h : Nat} (e : G[j]? = some k) (c : Int) : Psh G m d B (j + 1) h c ↔ (Psh G m d B j h c ∨ (h = B + m k ∧ ∃ c', Rch G m d B c' ∧ c = c' + d k)) := by
  constructor
  · rintro (z | ⟨idx, k', g', c', e', lt, r, e1, e2⟩)
    · exact .inl (.inl z)
    · by_cases y : g' = B ∧ idx = j
      · obtain ⟨rfl, rfl⟩ := y
        rw [e] at e'
        cases e'
        exact .inr ⟨e1, c', r, e2⟩
      · exact .inl (.inr ⟨idx, k', g', c', e', by omega, r, e1, e2⟩)
  · rintro ((z | ⟨idx, k', g', c', e', lt, r⟩) | ⟨e1, c', r, e2⟩)
    · exact .inl z
    · exact .inr ⟨idx, k', g', c', e', by omega, r⟩
    · exact .inr ⟨j, k, B, c', e, by omega, r, e1, e2⟩
/-- a way behind B pieces, which is told -/
theorem psh_put {B j k : Nat} {u : Int} {o : Option Int} (e : G[j]? = some k) (hu : MinOf (Rch G m d B) (some u)) (ho : MinOf (Psh G m d B j (B + m k)) o) : MinOf (Psh G m d B (j + 1) (B + m k)) (rlx o (u + d k)) :=
  (ho.push (T := fun c => ∃ c', Rch G m d B c' ∧ c = c' + d k) ⟨⟨u, hu.1, rfl⟩, fun c ⟨c', r, e'⟩ => by have := hu.2 c' r; omega⟩).congr fun c => by
    rw [psh_step e]
    exact ⟨fun z => z.elim .inl fun y => .inr ⟨rfl, y⟩, fun z => z.elim .inl fun y => .inr y.2⟩
theorem psh_off {B j k h : Nat} {o : Option Int} (e : G[j]? = some k) (hh : h ≠ B + m k) (ho : MinOf (Psh G m d B j h) o) : MinOf (Psh G m d B (j + 1) h) o :=
  ho.congr fun c => by
    rw [psh_step e]
    exact ⟨.inl, fun z => z.elim id fun y => absurd y.1 hh⟩
/-- what rounds cost at least -/
theorem rch_low (dm : ∀ k ∈ G, 0 ≤ d k) {g : Nat} {c : Int} (h : Rch G m d g c) : 0 ≤ c := by
  obtain ⟨ks, h1, -, rfl⟩ := h
  induction ks with
  | nil => exact Int.le_refl _
  | cons k ks ih =>
    rw [List.map_cons, List.sum_cons]
    have := ih fun j hj => h1 j (List.mem_cons_of_mem _ hj)
    have := dm k (h1 k List.mem_cons_self)
    omega
end
/-! ### one round of the best way more -/
theorem pigeon : ∀ (p : Nat) (f : Nat → Nat), (∀ i, i ≤ p → f i < p) → ∃ i j, i < j ∧ j ≤ p ∧ f i = f j
  | 0, f, h => absurd (h 0 (Nat.le_refl _)) (Nat.not_lt_zero _)
  | p + 1, f, h => by
    by_cases c : ∃ i, i ≤ p ∧ f i = f (p + 1)
    · obtain ⟨i, hi, e⟩ := c
      exact ⟨i, p + 1, by omega, Nat.le_refl _, e⟩
    · have c : ∀ i, i ≤ p → f i ≠ f (p + 1) := fun i hi e => c ⟨i, hi, e⟩
      obtain ⟨i, j, h1, h2, h3⟩ := pigeon p (fun i => if f i = p then f (p + 1) else f i) fun i hi => by
        have h1 := h i (by omega)
        have h2 := h (p + 1) (Nat.le_refl _)
        have h3 := c i hi
        show (if f i = p then f (p + 1) else f i) < p
        split <;> omega
      refine ⟨i, j, h1, by omega, ?_⟩
      have c1 := c i (by omega)
      have c2 := c j h2
      split at h3 <;> split at h3 <;> omega
theorem sum_le {l : List Nat} {M : Nat} (h : ∀ x ∈ l, x ≤ M) : l.sum ≤ l.length * M := by
  induction l with
  | nil => simp
  | cons x l ih =>
    rw [List.sum_cons, List.length_cons, Nat.succ_mul]
    have := h x List.mem_cons_self
    have := ih fun y hy => h y (List.mem_cons_of_mem _ hy)
    omega
theorem len_le_sum {l : List Nat} (h : ∀ x ∈ l, 1 ≤ x) : l.length ≤ l.sum := by
  induction l with
  | nil => simp
  | cons x l ih =>
    rw [List.sum_cons, List.length_cons]
    have := h x List.mem_cons_self
    have := ih fun y hy => h y (List.mem_cons_of_mem _ hy)
    omega
theorem sum_rate {l : List Nat} {m : Nat → Nat} {d : Nat → Int} {D : Int} {p : Nat} (h : ∀ k ∈ l, D * (m k : Int) ≤ d k * (p : Int)) : D * (((l.map m).sum : Nat) : Int) ≤ (l.map d).sum * (p : Int) := by
  induction l with
  | nil => simp
  | cons x l ih =>
    rw [List.map_cons, List.sum_cons, List.map_cons, List.sum_cons, Int.add_mul]
    have h1 := h x List.mem_cons_self
    have h2 := ih fun y hy => h y (List.mem_cons_of_mem _ hy)
    rw [Int.natCast_add, Int.mul_add]
    omega
theorem sum_rep {α : Type} {f : α → Nat} {b : α} {q : Nat} : ((List.replicate q b).map f).sum = q * f b := by
  induction q with
  | zero => simp
  | succ q ih => rw [List.replicate_succ, List.map_cons, List.sum_cons, ih, Nat.succ_mul]; omega
theorem sum_repI {α : Type} {f : α → Int} {b : α} {q : Nat} : ((List.replicate q b).map f).sum = (q : Int) * f b := by
  induction q with
  | zero => simp
  | succ q ih => rw [List.replicate_succ, List.map_cons, List.sum_cons, ih, Int.natCast_add, Int.add_mul]; omega
section
variable {G : List Nat} {m : Nat → Nat} {d : Nat → Int}
/-- with so many pieces a round of b may be among them -/
def Exch (G : List Nat) (m : Nat → Nat) (d : Nat → Int) (b L0 : Nat) : Prop := ∀ g c, L0 ≤ g → Rch G m d g c → ∃ c', Rch G m d (g - m b) c' ∧ c' + d b ≤ c ∧ m b ≤ g
theorem exch_mem {b : Nat} {ks : List Nat} {g : Nat} {c : Int} (hb : b ∈ ks) (h1 : ∀ k ∈ ks, k ∈ G) (h2 : (ks.map m).sum = g) (h3 : (ks.map d).sum = c) : ∃ c', Rch G m d (g - m b) c' ∧ c' + d b ≤ c ∧ m b ≤ g := by
  obtain ⟨s, t, rfl⟩ := List.append_of_mem hb
  have e2 : ((s ++ t).map m).sum + m b = g := by
    rw [← h2]
    simp only [List.map_append, List.map_cons, List.sum_append, List.sum_cons]
    omega
  have e3 : ((s ++ t).map d).sum + d b = c := by
    rw [← h3]
    simp only [List.map_append, List.map_cons, List.sum_append, List.sum_cons]
    omega
  exact ⟨_, ⟨s ++ t, fun k hk => h1 k (by simp at hk ⊢; exact hk.elim .inl fun z => .inr (.inr z)), by omega, rfl⟩, by omega, by omega⟩
theorem exch_one {b : Nat} (ha : ∀ k ∈ G, k = b) : Exch G m d b 1 := fun g c hg ⟨ks, h1, h2, h3⟩ => by
  cases ks with
  | nil => simp at h2; omega
  | cons k ks =>
    have := ha k (h1 k List.mem_cons_self)
    subst this
    exact exch_mem List.mem_cons_self h1 h2 h3
theorem exch_all {b M : Nat} (hb : b ∈ G) (hm : ∀ k ∈ G, 1 ≤ m k) (hM : ∀ k ∈ G, m k ≤ M) (hr : ∀ k ∈ G, d b * (m k : Int) ≤ d k * (m b : Int)) : Exch G m d b ((m b - 1) * M + 1) := fun g c hg ⟨ks, h1, h2, h3⟩ => by
  have p1 := hm b hb
  have hlen : m b ≤ ks.length := by
    rcases Nat.lt_or_ge ks.length (m b) with h | h
    · have q1 := sum_le (l := ks.map m) (M := M) fun x hx => by
        obtain ⟨k, hk, rfl⟩ := List.mem_map.mp hx
        exact hM k (h1 k hk)
      rw [List.length_map] at q1
      have q2 := Nat.mul_le_mul_right M (show ks.length ≤ m b - 1 by omega)
      omega
    · exact h
  -- two beginnings that leave the same rest
  obtain ⟨i, j, lt, hj, e⟩ := pigeon (m b) (fun i => ((ks.take i).map m).sum % m b) fun i _ => Nat.mod_lt _ p1
  have ek : ks = ks.take i ++ ((ks.drop i).take (j - i) ++ ks.drop j) := by
    rw [← List.append_assoc]
    have e1 : ks.take i ++ (ks.drop i).take (j - i) = ks.take j := by
      have := List.take_add (l := ks) (i := i) (j := j - i)
      rw [show i + (j - i) = j by omega] at this
      exact this.symm
    rw [e1, List.take_append_drop]
  generalize hA : ks.take i = A at ek e
  generalize hB : (ks.drop i).take (j - i) = B at ek
  generalize hC : ks.drop j = C at ek
  have eJ : ks.take j = A ++ B := by
    have := List.take_add (l := ks) (i := i) (j := j - i)
    rw [show i + (j - i) = j by omega, hA, hB] at this
    exact this
  have lB : B.length = j - i := by rw [← hB, List.length_take, List.length_drop]; omega
  rw [eJ, List.map_append, List.sum_append] at e
  have sub : ∀ k, (k ∈ A ∨ k ∈ B ∨ k ∈ C) → k ∈ G := fun k hk => h1 k (by rw [ek]; simp; exact hk)
  have b1 := len_le_sum (l := B.map m) fun x hx => by
    obtain ⟨k, hk, rfl⟩ := List.mem_map.mp hx
    exact hm k (sub k (.inr (.inl hk)))
  rw [List.length_map, lB] at b1
  -- the middle gives a multiple
  obtain ⟨q, hq⟩ : ∃ q, (B.map m).sum = m b * q := by
    have d1 := Nat.div_add_mod (A.map m).sum (m b)
    have d2 := Nat.div_add_mod ((A.map m).sum + (B.map m).sum) (m b)
    rw [← e] at d2
    refine ⟨((A.map m).sum + (B.map m).sum) / m b - (A.map m).sum / m b, ?_⟩
    rw [Nat.mul_sub]
    omega
  have q1 : 1 ≤ q := by
    rcases Nat.eq_zero_or_pos q with z | z
    · rw [z] at hq
      omega
    · exact z
  have cost := sum_rate (l := B) (m := m) (d := d) (D := d b) (p := m b) fun k hk => hr k (sub k (.inr (.inl hk)))
  rw [hq, Int.natCast_mul, show d b * ((m b : Int) * (q : Int)) = (d b * (q : Int)) * (m b : Int) by rw [Int.mul_assoc, Int.mul_comm (m b : Int)]] at cost
  have cost : d b * (q : Int) ≤ (B.map d).sum := Int.le_of_mul_le_mul_right cost (by omega)
  have eq : (q : Int) = ((q - 1 : Nat) : Int) + 1 := by omega
  refine ⟨(A.map d).sum + ((q - 1 : Nat) : Int) * d b + (C.map d).sum, ⟨A ++ (List.replicate (q - 1) b ++ C), fun k hk => ?_, ?_, ?_⟩, ?_, ?_⟩
  · simp only [List.mem_append] at hk
    rcases hk with hk | hk | hk
    · exact sub k (.inl hk)
    · rw [(List.mem_replicate.mp hk).2]; exact hb
    · exact sub k (.inr (.inr hk))
  · rw [ek] at h2
    simp only [List.map_append, List.sum_append] at h2 ⊢
    rw [sum_rep, ← h2, hq, show m b * q = (q - 1) * m b + m b by rw [Nat.mul_comm, ← Nat.succ_mul]; congr 1; omega]
    omega
  · simp only [List.map_append, List.sum_append]
    rw [sum_repI]
    omega
  · rw [ek] at h3
    simp only [List.map_append, List.sum_append] at h3
    rw [← h3]
    rw [eq, Int.mul_add, Int.mul_one, Int.mul_comm] at cost
    omega
  · rw [ek] at h2
    simp only [List.map_append, List.sum_append] at h2
    have := Nat.le_mul_of_pos_right (m b) q1
    omega
end
end NT
set_option linter.all false
set_option maxHeartbeats 4000000
/-! What the n-th piece costs at least, over all rounds. Plain Lean. -/
namespace NT
/-- the least of a set, if it has one -/
noncomputable def minV (S : Int → Prop) : Int := open Classical in if h : ∃ u, MinOf S (some u) then h.choose else 0
theorem minV_of {S : Int → Prop} {u : Int} (h : MinOf S (some u)) : minV S = u := by
  unfold minV
  have h' : ∃ u, MinOf S (some u) := ⟨u, h⟩
  rw [dif_pos h']
  have := h'.choose_spec.one h
  injection this
theorem minV_is {S : Int → Prop} (h : ∃ u, MinOf S (some u)) : MinOf S (some (minV S)) := by
  obtain ⟨u, hu⟩ := h
  rw [minV_of hu]
  exact hu
/-- the n-th piece comes from a round of k -/
def Wn (G : List Nat) (m : Nat → Nat) (d : Nat → Int) (mk : Nat → Nat → Int) (k n : Nat) (c : Int) : Prop := ∃ a g c', a < m k ∧ g + a + 1 = n ∧ Rch G m d g c' ∧ c = c' + mk k a
/-- what the n-th piece may cost -/
def Wv (G : List Nat) (m : Nat → Nat) (d : Nat → Int) (mk : Nat → Nat → Int) (n : Nat) (c : Int) : Prop := ∃ k ∈ G, Wn G m d mk k n c
section
variable {G : List Nat} {m : Nat → Nat} {d : Nat → Int} {mk : Nat → Nat → Int}
theorem wn_min (hm : ∀ k ∈ G, 1 ≤ m k) (k n : Nat) : ∃ o, MinOf (Wn G m d mk k n) o := by
  obtain ⟨o, ho⟩ := min_any (fun a c => ∃ g c', g + a + 1 = n ∧ Rch G m d g c' ∧ c = c' + mk k a) (List.range (m k)) fun a _ => by
    by_cases h : a + 1 ≤ n
    · obtain ⟨o, ho⟩ := rch_min (d := d) hm (n - (a + 1))
      cases o with
      | none => exact ⟨none, fun c ⟨g, c', e, r, _⟩ => ho c' (by rw [show n - (a + 1) = g by omega]; exact r)⟩
      | some u => exact ⟨some (u + mk k a), ⟨_, u, by omega, ho.1, rfl⟩, fun c ⟨g, c', e, r, e2⟩ => by
          have := ho.2 c' (by rw [show n - (a + 1) = g by omega]; exact r)
          omega⟩
    · exact ⟨none, fun c ⟨g, c', e, _⟩ => by omega⟩
  exact ⟨o, ho.congr fun c => ⟨fun ⟨a, ha, g, c', e⟩ => ⟨a, g, c', List.mem_range.mp ha, e⟩, fun ⟨a, g, c', ha, e⟩ => ⟨a, List.mem_range.mpr ha, g, c', e⟩⟩⟩
theorem wv_min (hm : ∀ k ∈ G, 1 ≤ m k) (n : Nat) : ∃ o, MinOf (Wv G m d mk n) o := min_any (fun k c => Wn G m d mk k n c) G fun k _ => wn_min hm k n
theorem wv_some {b : Nat} (hb : b ∈ G) (hm : ∀ k ∈ G, 1 ≤ m k) {n : Nat} (hn : 1 ≤ n) : ∃ c, Wv G m d mk n c := by
  have p := hm b hb
  have h1 := Nat.div_add_mod (n - 1) (m b)
  have h2 := Nat.mod_lt (n - 1) p
  refine ⟨_, b, hb, (n - 1) % m b, m b * ((n - 1) / m b), _, h2, by omega, ⟨List.replicate ((n - 1) / m b) b, fun k hk => by rw [(List.mem_replicate.mp hk).2]; exact hb, by rw [sum_rep, Nat.mul_comm], rfl⟩, rfl⟩
theorem wv_val {b : Nat} (hb : b ∈ G) (hm : ∀ k ∈ G, 1 ≤ m k) {n : Nat} (hn : 1 ≤ n) : MinOf (Wv G m d mk n) (some (minV (Wv G m d mk n))) := by
  obtain ⟨o, ho⟩ := wv_min (d := d) (mk := mk) hm n
  obtain ⟨c, hc⟩ := wv_some (d := d) (mk := mk) hb hm hn
  cases o with
  | none => exact absurd hc (ho c)
  | some u => exact minV_is ⟨u, ho⟩
/-- a round of b more -/
theorem wv_per {b L0 M n : Nat} (ex : Exch G m d b L0) (hb : b ∈ G) (hm : ∀ k ∈ G, 1 ≤ m k) (hM : ∀ k ∈ G, m k ≤ M) (hn : 1 ≤ n) (h : L0 + M ≤ n + m b) : minV (Wv G m d mk (n + m b)) = minV (Wv G m d mk n) + d b := by
  refine minV_of ?_
  obtain ⟨⟨k, hk, a, g, c', ha, e, r, e2⟩, h2⟩ := wv_val (d := d) (mk := mk) hb hm hn
  refine ⟨⟨k, hk, a, g + m b, c' + d b, ha, by omega, rch_step r hb, by omega⟩, ?_⟩
  rintro c ⟨k', hk', a', g', c2, ha', e', r', e2'⟩
  have q := hM k' hk'
  obtain ⟨c3, r3, l3, l4⟩ := ex g' c2 (by omega) r'
  have := h2 (c3 + mk k' a') ⟨k', hk', a', g' - m b, c3, ha', by omega, r3, rfl⟩
  omega
/-- the piece ahead costs no more -/
theorem wv_down (h1 : ∀ k ∈ G, ∀ a, a + 1 < m k → mk k a ≤ mk k (a + 1)) (h2 : ∀ k ∈ G, ∀ a, a < m k → mk k a ≤ d k) (h0 : ∀ k ∈ G, ∀ a, a < m k → 0 ≤ mk k a) (hm : ∀ k ∈ G, 1 ≤ m k) {n : Nat} (hn : 1 ≤ n) {c : Int} (h : Wv G m d mk (n + 1) c) : ∃ c', Wv G m d mk n c' ∧ c' ≤ c := by
  obtain ⟨k, hk, a, g, c', ha, e, r, rfl⟩ := h
  cases a with
  | succ a =>
    have := h1 k hk a ha
    exact ⟨_, ⟨k, hk, a, g, c', by omega, by omega, r, rfl⟩, by omega⟩
  | zero =>
    rcases rch_inv r with ⟨g0, _⟩ | ⟨j, hj, g', c2, r2, e1, e2⟩
    · omega
    · have m1 := hm j hj
      have q1 := h2 j hj (m j - 1) (by omega)
      have q2 := h0 k hk 0 ha
      exact ⟨_, ⟨j, hj, m j - 1, g', c2, by omega, by omega, r2, rfl⟩, by omega⟩
theorem wv_up (h1 : ∀ k ∈ G, ∀ a, a + 1 < m k → mk k (a + 1) ≤ mk k a) (h2 : ∀ k ∈ G, ∀ a, a < m k → d k ≤ mk k a) (h0 : ∀ k ∈ G, ∀ a, a < m k → mk k a ≤ 0) (hm : ∀ k ∈ G, 1 ≤ m k) {n : Nat} {c : Int} (h : Wv G m d mk n c) : ∃ c', Wv G m d mk (n + 1) c' ∧ c' ≤ c := by
  obtain ⟨k, hk, a, g, c', ha, e, r, rfl⟩ := h
  by_cases l : a + 1 < m k
  · have := h1 k hk a l
    exact ⟨_, ⟨k, hk, a + 1, g, c', l, by omega, r, rfl⟩, by omega⟩
  · have m1 := hm k hk
    have q1 := h2 k hk a ha
    have q2 := h0 k hk 0 (by omega)
    exact ⟨_, ⟨k, hk, 0, g + m k, c' + d k, by omega, by omega, rch_step r hk, rfl⟩, by omega⟩
/-! ### in shares, with tolls -/
theorem sum_sc {sh : Int} {tl : Nat → Nat} (t1 : ∀ k, tl k ≤ 1) : ∀ ks : List Nat, ∃ r : Nat, r ≤ ks.length ∧ (ks.map fun k => d k * sh + (tl k : Int)).sum = (ks.map d).sum * sh + (r : Int)
  | [] => ⟨0, Nat.le_refl _, by simp⟩
  | k :: ks => by
    obtain ⟨r, h1, h2⟩ := sum_sc t1 ks
    have := t1 k
    refine ⟨r + tl k, by rw [List.length_cons]; omega, ?_⟩
    rw [List.map_cons, List.sum_cons, List.map_cons, List.sum_cons, h2, Int.add_mul]
    omega
theorem rch_sc {sh : Int} {tl : Nat → Nat} (t1 : ∀ k, tl k ≤ 1) (hm : ∀ k ∈ G, 1 ≤ m k) {g : Nat} {c : Int} (h : Rch G m (fun k => d k * sh + (tl k : Int)) g c) : ∃ c0 r : Int, Rch G m d g c0 ∧ c = c0 * sh + r ∧ 0 ≤ r ∧ r ≤ g := by
  obtain ⟨ks, h1, h2, h3⟩ := h
  obtain ⟨r, r1, r2⟩ := sum_sc (d := d) (sh := sh) t1 ks
  have := len_le_sum (l := ks.map m) fun x hx => by
    obtain ⟨k, hk, rfl⟩ := List.mem_map.mp hx
    exact hm k (h1 k hk)
  rw [List.length_map] at this
  exact ⟨_, r, ⟨ks, h1, h2, rfl⟩, by rw [← h3, r2], by omega, by omega⟩
theorem rch_unsc {sh : Int} {tl : Nat → Nat} (t1 : ∀ k, tl k ≤ 1) (hm : ∀ k ∈ G, 1 ≤ m k) {g : Nat} {c0 : Int} (h : Rch G m d g c0) : ∃ r : Int, 0 ≤ r ∧ r ≤ g ∧ Rch G m (fun k => d k * sh + (tl k : Int)) g (c0 * sh + r) := by
  obtain ⟨ks, h1, h2, h3⟩ := h
  obtain ⟨r, r1, r2⟩ := sum_sc (d := d) (sh := sh) t1 ks
  have := len_le_sum (l := ks.map m) fun x hx => by
    obtain ⟨k, hk, rfl⟩ := List.mem_map.mp hx
    exact hm k (h1 k hk)
  rw [List.length_map] at this
  exact ⟨r, by omega, by omega, ks, h1, h2, by rw [r2, h3]⟩
theorem share_le {u v sh r r' : Int} (s0 : 0 ≤ sh) (h : u * sh + r ≤ v * sh + r') (r0 : 0 ≤ r) (h' : r' < sh) : u ≤ v := by
  rcases Int.lt_or_le v u with z | z
  · have := Int.mul_le_mul_of_nonneg_right (show v + 1 ≤ u by omega) s0
    rw [Int.add_mul] at this
    omega
  · exact z
theorem share_div {u sh r : Int} (r0 : 0 ≤ r) (h : r < sh) : (u * sh + r) / sh = u := by
  rw [Int.add_comm, Int.add_mul_ediv_right _ _ (by omega), Int.ediv_eq_zero_of_lt r0 h, Int.zero_add]
/-- the least one in shares, over rounds that end with some k, tells the least one -/
theorem wn_best {sh : Int} {n : Nat} (hn : (n : Int) ≤ sh) (tl : Nat → Nat → Nat) (t1 : ∀ j k, tl j k ≤ 1) (hm : ∀ k ∈ G, 1 ≤ m k) {kb : Nat} {U : Int} (hk : kb ∈ G)
    (h : MinOf (Wn G m (fun k => d k * sh + (tl kb k : Int)) (fun k a => mk k a * sh) kb n) (some U))
    (hall : ∀ k ∈ G, ∀ u, MinOf (Wn G m (fun j => d j * sh + (tl k j : Int)) (fun j a => mk j a * sh) k n) (some u) → U ≤ u) : MinOf (Wv G m d mk n) (some (U / sh)) := by
  obtain ⟨⟨a, g, c', ha, e, r, e2⟩, h2⟩ := h
  obtain ⟨c0, r0, rr, e3, p1, p2⟩ := rch_sc (t1 kb) hm r
  have e2 : U = c' + mk kb a * sh := e2
  have eU : U = (c0 + mk kb a) * sh + r0 := by rw [e2, e3, Int.add_mul]; omega
  rw [eU, share_div p1 (by omega)]
  refine ⟨⟨kb, hk, a, g, c0, ha, e, rr, rfl⟩, ?_⟩
  rintro c ⟨k, hk', a', g', c1, ha', e', r', rfl⟩
  obtain ⟨q, q0, q1, rq⟩ := rch_unsc (sh := sh) (t1 k) hm r'
  have w : Wn G m (fun j => d j * sh + (tl k j : Int)) (fun j a => mk j a * sh) k n (c1 * sh + q + mk k a' * sh) := ⟨a', g', _, ha', e', rq, rfl⟩
  obtain ⟨o, ho⟩ := wn_min (G := G) (m := m) (d := fun j => d j * sh + (tl k j : Int)) (mk := fun j a => mk j a * sh) hm k n
  cases o with
  | none => exact absurd w (ho _)
  | some u =>
    have l1 := hall k hk' u ho
    have l2 := ho.2 _ w
    rw [eU] at l1
    refine share_le (sh := sh) (by omega) (r := r0) (r' := q) ?_ p1 (by omega)
    rw [Int.add_mul c1]
    omega
theorem wv_sc {sh : Int} {n : Nat} (hn : (n : Int) ≤ sh) (tl : Nat → Nat) (t1 : ∀ k, tl k ≤ 1) (hm : ∀ k ∈ G, 1 ≤ m k) {U : Int} (h : MinOf (Wv G m (fun k => d k * sh + (tl k : Int)) (fun k a => mk k a * sh) n) (some U)) : MinOf (Wv G m d mk n) (some (U / sh)) := by
  obtain ⟨⟨k, hk, w⟩, h2⟩ := h
  exact wn_best hn (fun _ => tl) (fun _ => t1) hm hk ⟨w, fun c hc => h2 c ⟨k, hk, hc⟩⟩ fun j hj u hu => h2 u ⟨j, hj, hu.1⟩
/-- with one way all is told -/
theorem wv_one {b : Nat} (ha : ∀ k ∈ G, k = b) (hb : 1 ≤ m b) {n : Nat} {c : Int} (h : Wv G m d mk n c) : c = (((n - 1) / m b : Nat) : Int) * d b + mk b ((n - 1) % m b) := by
  obtain ⟨k, hk, a, g, c', ha', e, ⟨ks, h1, h2, h3⟩, rfl⟩ := h
  have e0 := ha k hk
  subst e0
  have er : ks = List.replicate ks.length k := List.eq_replicate_iff.mpr ⟨rfl, fun j hj => ha j (h1 j hj)⟩
  rw [er, sum_rep] at h2
  rw [er, sum_repI] at h3
  have en : n - 1 = a + m k * ks.length := by rw [Nat.mul_comm]; omega
  rw [en, Nat.add_mul_div_left _ _ hb, Nat.div_eq_of_lt ha', Nat.add_mul_mod_self_left, Nat.mod_eq_of_lt ha', Nat.zero_add]
  omega
end
end NT
set_option linter.all false
set_option maxHeartbeats 4000000
/-! The least and the greatest needs over all courses of a maker. Plain Lean. -/
namespace NT
/-- 1 for the least, -1 for the greatest -/
def sg (most : Bool) : Int := if most then -1 else 1
theorem sg_sq (most : Bool) : sg most * sg most = 1 := by cases most <;> rfl
theorem sg_inv {most : Bool} {x y : Int} (h : y = sg most * x) : x = sg most * y := by rw [h, ← Int.mul_assoc, sg_sq, Int.one_mul]
/-- the deeds of these ways, one behind the other -/
def dso (ws : List (List Deed)) (ks : List Nat) : List Deed := (ks.map fun k => ws.getD k []).flatten
def mA (i : Nat) (ws : List (List Deed)) (k : Nat) : Nat := (ahead i (ws.getD k []) 0).length
def tA (i : Nat) (ws : List (List Deed)) (k : Nat) : Nat := took i (ws.getD k [])
def aA (i : Nat) (ws : List (List Deed)) (k a : Nat) : Int := (ahead i (ws.getD k []) 0).getD a 0
def dA (most : Bool) (i : Nat) (ws : List (List Deed)) (k : Nat) : Int := sg most * (tA i ws k : Int)
def mkA (most : Bool) (i : Nat) (ws : List (List Deed)) (k a : Nat) : Int := sg most * aA i ws k a
/-- the ways that give -/
def giv (i : Nat) (ws : List (List Deed)) : List Nat := (List.range ws.length).filter fun k => decide (mA i ws k ≠ 0)
theorem giv_mem {i : Nat} {ws : List (List Deed)} {k : Nat} : k ∈ giv i ws ↔ k < ws.length ∧ 1 ≤ mA i ws k := by
  unfold giv
  rw [List.mem_filter, List.mem_range, decide_eq_true_iff]
  omega
theorem giv_pos {i : Nat} {ws : List (List Deed)} : ∀ k ∈ giv i ws, 1 ≤ mA i ws k := fun k h => (giv_mem.mp h).2
/-- what the n-th piece of the rounds costs -/
noncomputable def best (most : Bool) (i : Nat) (ws : List (List Deed)) (n : Nat) : Int := minV (Wv (giv i ws) (mA i ws) (dA most i ws) (mkA most i ws) n)
/-- no course gives for ever, or one that does not is taken for the greatest -/
def stopT (most : Bool) (i : Nat) (ws : List (List Deed)) : Bool := if most then (giv i ws).length < ws.length else (giv i ws).isEmpty
/-- the least, or the greatest, need over all courses, place by place -/
noncomputable def ext (most : Bool) (i : Nat) (b : List Deed) (ws : List (List Deed)) (n : Nat) : Option Int :=
  if n ≤ (ahead i b 0).length then some ((ahead i b 0).getD (n - 1) 0) else if stopT most i ws = true then none else some ((took i b : Int) + sg most * best most i ws (n - (ahead i b 0).length))
section
variable {i : Nat} {b : List Deed} {ws : List (List Deed)} {most : Bool}
theorem aA_le {k a : Nat} (h : a < mA i ws k) : 0 ≤ aA i ws k a ∧ aA i ws k a ≤ (tA i ws k : Int) := by
  have := ahead_le _ (getD_mem (l := ahead i (ws.getD k []) 0) h)
  unfold aA tA
  omega
theorem aA_up {k a : Nat} (h : a + 1 < mA i ws k) : aA i ws k a ≤ aA i ws k (a + 1) := climbs_up (ahead_climbs (i := i) (a := ws.getD k []) (Int.le_refl 0)) h
theorem filter_len {l : List Nat} {p : Nat → Bool} (h : ¬ (l.filter p).length < l.length) : ∀ k ∈ l, p k = true := by
  induction l with
  | nil => simp
  | cons x l ih =>
    have := List.length_filter_le p l
    rw [List.filter_cons] at h
    intro k hk
    by_cases c : p x = true
    · rw [if_pos c] at h
      simp only [List.length_cons] at h
      rcases List.mem_cons.mp hk with rfl | hk
      · exact c
      · exact ih (by omega) k hk
    · rw [if_neg c] at h
      simp only [List.length_cons] at h
      omega
/-- if the greatest goes on, all ways give -/
theorem all_give (h : stopT true i ws = false) : ∀ k, k < ws.length → k ∈ giv i ws := fun k hk => by
  have h : ¬ (giv i ws).length < ws.length := by
    unfold stopT at h
    simpa using h
  have := filter_len (l := List.range ws.length) (p := fun k => decide (mA i ws k ≠ 0)) (by rw [List.length_range]; exact h) k (List.mem_range.mpr hk)
  exact List.mem_filter.mpr ⟨List.mem_range.mpr hk, this⟩
theorem some_gives (h0 : ws ≠ []) (h : stopT most i ws = false) : ∃ k, k ∈ giv i ws := by
  cases most with
  | true => exact ⟨0, all_give h 0 (List.length_pos_iff.mpr h0)⟩
  | false =>
    unfold stopT at h
    simp at h
    exact List.exists_mem_of_ne_nil _ h
theorem best_is {kb : Nat} (hb : kb ∈ giv i ws) {n : Nat} (hn : 1 ≤ n) : MinOf (Wv (giv i ws) (mA i ws) (dA most i ws) (mkA most i ws) n) (some (best most i ws n)) := wv_val hb giv_pos hn
/-- what is told does not fall -/
theorem best_up {kb : Nat} (hb : kb ∈ giv i ws) {n : Nat} (hn : 1 ≤ n) : 0 ≤ sg most * best most i ws n ∧ sg most * best most i ws n ≤ sg most * best most i ws (n + 1) := by
  have b1 := best_is (most := most) hb hn
  have b2 := best_is (most := most) hb (show 1 ≤ n + 1 by omega)
  have nn : ∀ g c, Rch (giv i ws) (mA i ws) (dA most i ws) g c → 0 ≤ sg most * c := fun g c h => by
    obtain ⟨ks, -, -, h3⟩ := h
    rw [← h3]
    clear h3
    induction ks with
    | nil => simp
    | cons k ks ih =>
      rw [List.map_cons, List.sum_cons, Int.mul_add]
      have : sg most * dA most i ws k = (tA i ws k : Int) := by unfold dA; rw [← Int.mul_assoc, sg_sq, Int.one_mul]
      omega
  refine ⟨?_, ?_⟩
  · obtain ⟨k, hk, a, g, c', ha, e, r, e2⟩ := b1.1
    rw [e2, Int.mul_add]
    have := nn g c' r
    have q : sg most * mkA most i ws k a = aA i ws k a := by unfold mkA; rw [← Int.mul_assoc, sg_sq, Int.one_mul]
    have := aA_le ha
    omega
  · cases most with
    | false =>
      obtain ⟨c', w, le⟩ := wv_down (fun k hk a ha => by have := aA_up ha; unfold mkA sg; simp; exact this) (fun k hk a ha => by have := aA_le ha; unfold mkA dA sg; simp; omega) (fun k hk a ha => by have := aA_le ha; unfold mkA sg; simp; omega) giv_pos hn b2.1
      have := b1.2 c' w
      show 1 * _ ≤ 1 * _
      omega
    | true =>
      obtain ⟨c', w, le⟩ := wv_up (fun k hk a ha => by have := aA_up ha; unfold mkA sg; simp; exact this) (fun k hk a ha => by have := aA_le ha; unfold mkA dA sg; simp; omega) (fun k hk a ha => by have := aA_le ha; unfold mkA sg; simp; omega) giv_pos b1.1
      have := b2.2 c' w
      show -1 * _ ≤ -1 * _
      omega
theorem ext_asc (h0 : ws ≠ []) : Asc (ext most i b ws) := by
  have hc := ahead_climbs (i := i) (a := b) (Int.le_refl 0)
  have hle : ∀ a, a < (ahead i b 0).length → 0 ≤ (ahead i b 0).getD a 0 ∧ (ahead i b 0).getD a 0 ≤ (took i b : Int) := fun a ha => by
    have := ahead_le _ (getD_mem (l := ahead i b 0) ha)
    omega
  refine ⟨fun n v hn e => ?_, fun n v hn e => ?_⟩
  · unfold ext at e
    by_cases c : n ≤ (ahead i b 0).length
    · rw [if_pos c] at e
      have := hle (n - 1) (by omega)
      injection e with e
      omega
    · rw [if_neg c] at e
      cases hs : stopT most i ws with
      | true => rw [hs] at e; cases e
      | false =>
        rw [hs, if_neg (by simp)] at e
        obtain ⟨k, hk⟩ := some_gives h0 hs
        have := (best_up (most := most) hk (show 1 ≤ n - (ahead i b 0).length by omega)).1
        injection e with e
        omega
  · unfold ext at e ⊢
    by_cases c : n + 1 ≤ (ahead i b 0).length
    · rw [if_pos c] at e
      rw [if_pos (by omega)]
      have := climbs_up (i := n - 1) hc (by omega)
      rw [show n - 1 + 1 = n + 1 - 1 by omega] at this
      injection e with e
      exact ⟨_, rfl, by omega⟩
    · rw [if_neg c] at e
      cases hs : stopT most i ws with
      | true => rw [hs] at e; cases e
      | false =>
        rw [hs, if_neg (by simp)] at e
        obtain ⟨k, hk⟩ := some_gives h0 hs
        injection e with e
        by_cases c2 : n ≤ (ahead i b 0).length
        · rw [if_pos c2]
          have := hle (n - 1) (by omega)
          have := (best_up (most := most) hk (show 1 ≤ n + 1 - (ahead i b 0).length by omega)).1
          exact ⟨_, rfl, by omega⟩
        · rw [if_neg c2, if_neg (by simp)]
          have := (best_up (most := most) hk (show 1 ≤ n - (ahead i b 0).length by omega)).2
          rw [show n - (ahead i b 0).length + 1 = n + 1 - (ahead i b 0).length by omega] at this
          exact ⟨_, rfl, by omega⟩
/-- the best way: no other one takes more (less) for each piece -/
def IsBest (most : Bool) (i : Nat) (ws : List (List Deed)) (kb : Nat) : Prop := kb ∈ giv i ws ∧ ∀ k ∈ giv i ws, dA most i ws kb * (mA i ws k : Int) ≤ dA most i ws k * (mA i ws kb : Int)
/-- the table that is told -/
theorem ext_form (h0 : ws ≠ []) (hs : stopT most i ws = false) {kb M lead : Nat} (hb : IsBest most i ws kb) (hM : ∀ k ∈ giv i ws, mA i ws k ≤ M) (hl : mA i ws kb * M ≤ lead ∨ ((∀ k ∈ giv i ws, k = kb) ∧ mA i ws kb ≤ lead)) :
    Good (segN (ext most i b ws) 0 ((ahead i b 0).length + lead)) (segN (ext most i b ws) ((ahead i b 0).length + lead) (mA i ws kb)) (tA i ws kb : Int) ∧
    ∀ n, 1 ≤ n → at_ (segN (ext most i b ws) 0 ((ahead i b 0).length + lead)) (segN (ext most i b ws) ((ahead i b 0).length + lead) (mA i ws kb)) (tA i ws kb : Int) n = ext most i b ws n := by
  have p := giv_pos kb hb.1
  refine looped (ext_asc h0) p (fun n hn => ?_) fun n hn => ?_
  · unfold ext
    by_cases c : n ≤ (ahead i b 0).length
    · rw [if_pos c]; simp
    · rw [if_neg c, hs]; simp
  · have per : best most i ws (n - (ahead i b 0).length + mA i ws kb) = best most i ws (n - (ahead i b 0).length) + dA most i ws kb := by
      rcases hl with hl | ⟨h1, h2⟩
      · refine wv_per (exch_all hb.1 giv_pos hM hb.2) hb.1 giv_pos hM (by omega) ?_
        obtain ⟨q, hq⟩ : ∃ q, mA i ws kb = q + 1 := ⟨mA i ws kb - 1, by omega⟩
        rw [hq] at hl ⊢
        rw [Nat.add_sub_cancel]
        rw [Nat.succ_mul] at hl
        omega
      · refine wv_per (exch_one h1) hb.1 giv_pos (M := mA i ws kb) (fun k hk => by rw [h1 k hk]; exact Nat.le_refl _) (by omega) (by omega)
    unfold numF ext
    rw [if_neg (show ¬ n + mA i ws kb ≤ (ahead i b 0).length by omega), if_neg (show ¬ n ≤ (ahead i b 0).length by omega), hs, if_neg (by simp)]
    rw [show n + mA i ws kb - (ahead i b 0).length = n - (ahead i b 0).length + mA i ws kb by omega, per, Int.mul_add]
    show _ + (_ + sg most * dA most i ws kb) = _ + _ + _
    have : sg most * dA most i ws kb = (tA i ws kb : Int) := by unfold dA; rw [← Int.mul_assoc, sg_sq, Int.one_mul]
    rw [this]
    show _ = (took i b : Int) + sg most * _ + (tA i ws kb : Int)
    omega
/-- the values as they are told: those of the beginning, then these -/
noncomputable def vls (most : Bool) (i : Nat) (b : List Deed) (ws : List (List Deed)) (n : Nat) : List Int := (List.range n).map fun j => (took i b : Int) + sg most * best most i ws (j + 1)
theorem vls_len {n : Nat} : (vls most i b ws n).length = n := by unfold vls; rw [List.length_map, List.length_range]
theorem ext_vls (hs : stopT most i ws = false) {n : Nat} : segN (ext most i b ws) 0 ((ahead i b 0).length + n) = ahead i b 0 ++ vls most i b ws n := by
  apply List.ext_getElem?
  intro k
  unfold segN vls
  by_cases c : k < (ahead i b 0).length + n
  · rw [List.getElem?_map, List.getElem?_range c]
    show some (numF (ext most i b ws) (0 + k + 1)) = _
    unfold numF ext
    by_cases c2 : k < (ahead i b 0).length
    · rw [if_pos (by omega), List.getElem?_append_left c2, List.getElem?_eq_getElem c2]
      show some ((ahead i b 0).getD (0 + k + 1 - 1) 0) = _
      rw [show 0 + k + 1 - 1 = k by omega, List.getD_eq_getElem?_getD, List.getElem?_eq_getElem c2]
      rfl
    · rw [if_neg (by omega), hs, if_neg (by simp), List.getElem?_append_right (by omega), List.getElem?_map, List.getElem?_range (by omega)]
      show some ((took i b : Int) + sg most * best most i ws (0 + k + 1 - (ahead i b 0).length)) = some ((took i b : Int) + sg most * best most i ws (k - (ahead i b 0).length + 1))
      rw [show 0 + k + 1 - (ahead i b 0).length = k - (ahead i b 0).length + 1 by omega]
  · rw [List.getElem?_eq_none (by rw [List.length_map, List.length_range]; omega), List.getElem?_eq_none (by rw [List.length_append, List.length_map, List.length_range]; omega)]
theorem seg_split {F : Nat → Option Int} {a m : Nat} : segN F 0 (a + m) = segN F 0 a ++ segN F a m := by
  unfold segN
  apply List.ext_getElem?
  intro k
  by_cases c : k < a + m
  · rw [List.getElem?_map, List.getElem?_range c]
    by_cases c2 : k < a
    · rw [List.getElem?_append_left (by rw [List.length_map, List.length_range]; exact c2), List.getElem?_map, List.getElem?_range c2]
    · rw [List.getElem?_append_right (by rw [List.length_map, List.length_range]; omega), List.length_map, List.length_range, List.getElem?_map, List.getElem?_range (by omega)]
      show some (numF F (0 + k + 1)) = some (numF F (a + (k - a) + 1))
      rw [show 0 + k + 1 = a + (k - a) + 1 by omega]
  · rw [List.getElem?_eq_none (by rw [List.length_map, List.length_range]; omega), List.getElem?_eq_none (by rw [List.length_append, List.length_map, List.length_range, List.length_map, List.length_range]; omega)]
/-- where they are cut into head and loop -/
theorem ext_cut (hs : stopT most i ws = false) {lead lap : Nat} : segN (ext most i b ws) 0 ((ahead i b 0).length + lead) = ahead i b 0 ++ (vls most i b ws (lead + lap)).take lead ∧ segN (ext most i b ws) ((ahead i b 0).length + lead) lap = (vls most i b ws (lead + lap)).drop lead := by
  have e1 := ext_vls (b := b) hs (n := lead + lap)
  have e2 := seg_split (F := ext most i b ws) (a := (ahead i b 0).length + lead) (m := lap)
  rw [Nat.add_assoc, e1] at e2
  have l1 : (segN (ext most i b ws) 0 ((ahead i b 0).length + lead)).length = (ahead i b 0 ++ (vls most i b ws (lead + lap)).take lead).length := by
    rw [segN_len, List.length_append, List.length_take, vls_len]
    omega
  have e3 : (ahead i b 0 ++ (vls most i b ws (lead + lap)).take lead) ++ (vls most i b ws (lead + lap)).drop lead = segN (ext most i b ws) 0 ((ahead i b 0).length + lead) ++ segN (ext most i b ws) ((ahead i b 0).length + lead) lap := by
    rw [List.append_assoc, List.take_append_drop]
    exact e2
  have := List.append_inj e3 l1.symm
  exact ⟨this.1.symm, this.2.symm⟩
end
end NT
set_option linter.all false
set_option maxHeartbeats 4000000
/-! Needs on courses against the least and the greatest ones. Plain Lean. -/
namespace NT
section
variable {i : Nat} {b : List Deed} {ws : List (List Deed)} {most : Bool}
theorem dso_app {a c : List Nat} : dso ws (a ++ c) = dso ws a ++ dso ws c := by unfold dso; rw [List.map_append, List.flatten_append]
theorem dso_rep {ts : List Nat} : ∀ {k : Nat}, dso ws (List.replicate k ts).flatten = rep (dso ws ts) k
  | 0 => rfl
  | k + 1 => by
    rw [List.replicate_succ, List.flatten_cons, dso_app, dso_rep]
    rfl
theorem dso_took : ∀ {ks : List Nat}, took i (dso ws ks) = (ks.map (tA i ws)).sum
  | [] => rfl
  | k :: ks => by
    show took i (ws.getD k [] ++ dso ws ks) = _
    rw [took_app, dso_took]
    rfl
theorem dso_marks : ∀ {ks : List Nat} {t : Int}, (ahead i (dso ws ks) t).length = (ks.map (mA i ws)).sum
  | [], _ => rfl
  | k :: ks, t => by
    show (ahead i (ws.getD k [] ++ dso ws ks) t).length = _
    rw [ahead_app, List.length_append, dso_marks, ahead_off, List.length_map]
    rfl
theorem wv_step {G : List Nat} {m : Nat → Nat} {d : Nat → Int} {mk : Nat → Nat → Int} {n k : Nat} {c : Int} (h : Wv G m d mk n c) (hk : k ∈ G) : Wv G m d mk (n + m k) (c + d k) := by
  obtain ⟨j, hj, a, g, c', ha, e, r, rfl⟩ := h
  exact ⟨j, hj, a, g + m k, c' + d k, ha, by omega, rch_step r hk, by omega⟩
/-- a piece on a course, among what pieces may cost -/
theorem crs_wv : ∀ (ks : List Nat) (n : Nat) (v : Int), (∀ k ∈ ks, k < ws.length) → (most = false ∨ ∀ k ∈ ks, k ∈ giv i ws) → 1 ≤ n → (ahead i (dso ws ks) 0)[n - 1]? = some v → ∃ c, Wv (giv i ws) (mA i ws) (dA most i ws) (mkA most i ws) n c ∧ c ≤ sg most * v
  | [], n, v, _, _, _, e => by cases e
  | k :: ks, n, v, hk, hg, hn, e => by
    have e : (ahead i (ws.getD k [] ++ dso ws ks) 0)[n - 1]? = some v := e
    rw [ahead_app] at e
    have k1 := hk k List.mem_cons_self
    by_cases c : n - 1 < mA i ws k
    · rw [List.getElem?_append_left c] at e
      refine ⟨_, ⟨k, giv_mem.mpr ⟨k1, by omega⟩, n - 1, 0, 0, c, by omega, rch_nil, rfl⟩, ?_⟩
      unfold mkA aA
      rw [List.getD_eq_getElem?_getD, e]
      show 0 + sg most * v ≤ _
      omega
    · have le : (ahead i (ws.getD k []) 0).length ≤ n - 1 := by show mA i ws k ≤ n - 1; omega
      rw [List.getElem?_append_right le, Int.zero_add, ahead_off, List.getElem?_map] at e
      have e : ((ahead i (dso ws ks) 0)[n - 1 - mA i ws k]?).map (fun x => (tA i ws k : Int) + x) = some v := e
      cases e' : (ahead i (dso ws ks) 0)[n - 1 - mA i ws k]? with
      | none => rw [e'] at e; cases e
      | some v' =>
        rw [e'] at e
        have ev : (tA i ws k : Int) + v' = v := Option.some.inj e
        have hn' : 1 ≤ n - mA i ws k := by
          omega
        obtain ⟨c', w, le'⟩ := crs_wv ks (n - mA i ws k) v' (fun j hj => hk j (List.mem_cons_of_mem _ hj)) (hg.imp id fun h j hj => h j (List.mem_cons_of_mem _ hj)) hn' (by rw [show n - mA i ws k - 1 = n - 1 - mA i ws k by omega]; exact e')
        by_cases g : k ∈ giv i ws
        · refine ⟨c' + dA most i ws k, ?_, ?_⟩
          · have := wv_step w g
            rw [show n - mA i ws k + mA i ws k = n by omega] at this
            exact this
          · rw [← ev, Int.mul_add]
            unfold dA
            omega
        · have m0 : mA i ws k = 0 := by
            rcases Nat.eq_zero_or_pos (mA i ws k) with z | z
            · exact z
            · exact absurd (giv_mem.mpr ⟨k1, z⟩) g
          rw [m0, Nat.sub_zero] at w
          rcases hg with rfl | hg
          · refine ⟨c', w, ?_⟩
            rw [← ev]
            unfold sg at le' ⊢
            simp at le' ⊢
            omega
          · exact absurd (hg k List.mem_cons_self) g
/-- the need on a course, place by place, along the course -/
theorem need_crs {fs ts : List Nat} {n : Nat} (hn : 1 ≤ n) : at_ (needT i (b ++ dso ws fs) (dso ws ts)).1 (needT i (b ++ dso ws fs) (dso ws ts)).2.1 (needT i (b ++ dso ws fs) (dso ws ts)).2.2 n = (ahead i (b ++ dso ws (fs ++ (List.replicate n ts).flatten)) 0)[n - 1]? := by
  rw [needT_at hn (Nat.le_refl n), List.append_assoc, dso_app, dso_rep]
theorem mem_crs {fs ts : List Nat} {n k : Nat} (h : k ∈ fs ++ (List.replicate n ts).flatten) : k ∈ fs ∨ k ∈ ts := by
  rcases List.mem_append.mp h with h | h
  · exact .inl h
  · obtain ⟨l, hl, hk⟩ := List.mem_flatten.mp h
    rw [(List.mem_replicate.mp hl).2] at hk
    exact .inr hk
/-- a need behind the beginning, on a course, against the least or the greatest -/
theorem crs_le {ks : List Nat} {n : Nat} {v : Int} (hk : ∀ k ∈ ks, k < ws.length) (hg : most = false ∨ ∀ k ∈ ks, k ∈ giv i ws) (hn : (ahead i b 0).length < n) (e : (ahead i (b ++ dso ws ks) 0)[n - 1]? = some v) : ∃ kb, kb ∈ giv i ws ∧ best most i ws (n - (ahead i b 0).length) ≤ sg most * (v - (took i b : Int)) := by
  rw [ahead_app, List.getElem?_append_right (by omega), Int.zero_add, ahead_off, List.getElem?_map] at e
  cases e' : (ahead i (dso ws ks) 0)[n - 1 - (ahead i b 0).length]? with
  | none => rw [e'] at e; cases e
  | some v' =>
    rw [e'] at e
    have ev : (took i b : Int) + v' = v := Option.some.inj e
    obtain ⟨c, w, le⟩ := crs_wv (most := most) ks (n - (ahead i b 0).length) v' hk hg (by omega) (by rw [show n - (ahead i b 0).length - 1 = n - 1 - (ahead i b 0).length by omega]; exact e')
    obtain ⟨kb, hkb, _⟩ := id w
    refine ⟨kb, hkb, ?_⟩
    have := (best_is (most := most) hkb (show 1 ≤ n - (ahead i b 0).length by omega)).2 c w
    rw [show v - (took i b : Int) = v' by omega]
    omega
theorem giv_empty (h : stopT false i ws = true) : giv i ws = [] := by
  unfold stopT at h
  simpa using h
/-- the least need is not above the one on any course -/
theorem ext_least {fs ts : List Nat} {n : Nat} (hn : 1 ≤ n) (hf : ∀ k ∈ fs, k < ws.length) (ht : ∀ k ∈ ts, k < ws.length) :
    leO (ext false i b ws n) (at_ (needT i (b ++ dso ws fs) (dso ws ts)).1 (needT i (b ++ dso ws fs) (dso ws ts)).2.1 (needT i (b ++ dso ws fs) (dso ws ts)).2.2 n) := by
  rw [need_crs hn]
  unfold ext
  by_cases c : n ≤ (ahead i b 0).length
  · rw [if_pos c, ahead_app, List.getElem?_append_left (by omega), List.getD_eq_getElem?_getD, List.getElem?_eq_getElem (by omega)]
    exact leO.refl _
  · rw [if_neg c]
    cases e : (ahead i (b ++ dso ws (fs ++ (List.replicate n ts).flatten)) 0)[n - 1]? with
    | none => exact .inl rfl
    | some v =>
      obtain ⟨kb, hkb, le⟩ := crs_le (most := false) (fun k hk => (mem_crs hk).elim (hf k) (ht k)) (.inl rfl) (by omega) e
      have hs : stopT false i ws = false := by
        cases h : stopT false i ws with
        | false => rfl
        | true =>
          rw [giv_empty h] at hkb
          cases hkb
      rw [hs, if_neg (by simp)]
      refine .inr ⟨_, _, rfl, rfl, ?_⟩
      unfold sg at le ⊢
      simp at le ⊢
      omega
/-- the greatest need is not below the one on any course -/
theorem ext_greatest {fs ts : List Nat} {n : Nat} (hn : 1 ≤ n) (hf : ∀ k ∈ fs, k < ws.length) (ht : ∀ k ∈ ts, k < ws.length) (t1 : ts ≠ []) :
    leO (at_ (needT i (b ++ dso ws fs) (dso ws ts)).1 (needT i (b ++ dso ws fs) (dso ws ts)).2.1 (needT i (b ++ dso ws fs) (dso ws ts)).2.2 n) (ext true i b ws n) := by
  rw [need_crs hn]
  unfold ext
  by_cases c : n ≤ (ahead i b 0).length
  · rw [if_pos c, ahead_app, List.getElem?_append_left (by omega), List.getD_eq_getElem?_getD, List.getElem?_eq_getElem (by omega)]
    exact leO.refl _
  · rw [if_neg c]
    cases hs : stopT true i ws with
    | true => exact .inl rfl
    | false =>
      rw [if_neg (by simp)]
      have hall := all_give hs
      have hk : ∀ k ∈ fs ++ (List.replicate n ts).flatten, k < ws.length := fun k hk => (mem_crs hk).elim (hf k) (ht k)
      -- it gives so many pieces
      have long : n - 1 < (ahead i (b ++ dso ws (fs ++ (List.replicate n ts).flatten)) 0).length := by
        rw [ahead_app, List.length_append, dso_marks, List.map_append, List.sum_append]
        have l1 := len_le_sum (l := ((List.replicate n ts).flatten).map (mA i ws)) fun x hx => by
          obtain ⟨k, hk', rfl⟩ := List.mem_map.mp hx
          exact giv_pos k (hall k (hk k (List.mem_append.mpr (.inr hk'))))
        rw [List.length_map] at l1
        have l2 : n ≤ ((List.replicate n ts).flatten).length := by
          have p := List.length_pos_iff.mpr t1
          clear l1 hk c hn
          induction n with
          | zero => exact Nat.zero_le _
          | succ n ih =>
            rw [List.replicate_succ, List.flatten_cons, List.length_append]
            omega
        omega
      cases e : (ahead i (b ++ dso ws (fs ++ (List.replicate n ts).flatten)) 0)[n - 1]? with
      | none =>
        rw [List.getElem?_eq_none_iff] at e
        omega
      | some v =>
        obtain ⟨kb, hkb, le⟩ := crs_le (most := true) hk (.inr fun k hk' => hall k (hk k hk')) (by omega) e
        refine .inr ⟨_, _, rfl, rfl, ?_⟩
        unfold sg at le ⊢
        simp at le ⊢
        omega
/-- the course that was found: these rounds, then kb for ever -/
theorem found_at {fs : List Nat} {kb q a n : Nat} {sh U : Int} (hf : ∀ k ∈ fs, k ∈ giv i ws) (hb : kb ∈ giv i ws) (ha : a < mA i ws kb) (hn : (fs.map (mA i ws)).sum + q * mA i ws kb + a + 1 = n) (hsh : (n : Int) ≤ sh)
    (hU : U = (fs.map fun k => dA most i ws k * sh + ((if k = kb then 0 else 1 : Nat) : Int)).sum + (q : Int) * (dA most i ws kb * sh) + mkA most i ws kb a * sh) (hB : U / sh = best most i ws n) :
    at_ (needT i (b ++ dso ws fs) (dso ws [kb])).1 (needT i (b ++ dso ws fs) (dso ws [kb])).2.1 (needT i (b ++ dso ws fs) (dso ws [kb])).2.2 ((ahead i b 0).length + n) = some ((took i b : Int) + sg most * best most i ws n) := by
  obtain ⟨r, r1, r2⟩ := sum_sc (d := dA most i ws) (sh := sh) (tl := fun k => if k = kb then 0 else 1) (fun k => by split <;> omega) fs
  have lf := len_le_sum (l := fs.map (mA i ws)) fun x hx => by
    obtain ⟨k, hk, rfl⟩ := List.mem_map.mp hx
    exact giv_pos k (hf k hk)
  rw [List.length_map] at lf
  have eU : U = ((fs.map (dA most i ws)).sum + (q : Int) * dA most i ws kb + mkA most i ws kb a) * sh + (r : Int) := by
    rw [hU, r2, Int.add_mul, Int.add_mul, Int.mul_assoc]
    omega
  rw [eU, share_div (by omega) (by omega)] at hB
  -- the value
  have hdd : ∀ ks : List Nat, (ks.map (dA most i ws)).sum = sg most * (((ks.map (tA i ws)).sum : Nat) : Int) := fun ks => by
    induction ks with
    | nil => simp
    | cons k ks ih =>
      rw [List.map_cons, List.sum_cons, List.map_cons, List.sum_cons, ih, Int.natCast_add, Int.mul_add]
      rfl
  have ev : sg most * best most i ws n = (((fs.map (tA i ws)).sum : Nat) : Int) + (q : Int) * (tA i ws kb : Int) + aA i ws kb a := by
    rw [← hB, hdd]
    unfold dA mkA
    rw [show (q : Int) * (sg most * (tA i ws kb : Int)) = sg most * ((q : Int) * (tA i ws kb : Int)) by rw [← Int.mul_assoc, ← Int.mul_assoc, Int.mul_comm (q : Int)], ← Int.mul_add, ← Int.mul_add, ← Int.mul_assoc, sg_sq, Int.one_mul]
  rw [ev]
  have mb : 1 ≤ mA i ws kb := giv_pos kb hb
  have ed : dso ws [kb] = ws.getD kb [] := by
    unfold dso
    simp
  have hl : ahead i (dso ws [kb]) (took i (b ++ dso ws fs) : Int) = (ahead i (ws.getD kb []) 0).map ((took i (b ++ dso ws fs) : Int) + ·) := by rw [ed, ahead_off]
  have hlen : (ahead i (b ++ dso ws fs) 0).length = (ahead i b 0).length + (fs.map (mA i ws)).sum := by rw [ahead_app, List.length_append, dso_marks]
  have hne : ahead i (dso ws [kb]) (took i (b ++ dso ws fs) : Int) ≠ [] := fun z => by
    rw [hl] at z
    have := congrArg List.length z
    rw [List.length_map] at this
    have : mA i ws kb = 0 := this
    omega
  unfold needT at_
  dsimp only
  rw [if_neg (by rw [hlen]; omega), if_neg hne, if_neg hne]
  unfold walk
  rw [hl, List.length_map]
  show some (List.getD _ ((_ - _ - 1) % mA i ws kb) 0 + _ * (((_ - _ - 1) / mA i ws kb : Nat) : Int)) = _
  rw [hlen, show (ahead i b 0).length + n - ((ahead i b 0).length + (fs.map (mA i ws)).sum) - 1 = a + mA i ws kb * q by rw [Nat.mul_comm (mA i ws kb)]; omega, Nat.add_mul_mod_self_left, Nat.mod_eq_of_lt ha, Nat.add_mul_div_left _ _ (by omega), Nat.div_eq_of_lt ha, Nat.zero_add]
  rw [List.getD_eq_getElem?_getD, List.getElem?_map, List.getElem?_eq_getElem ha]
  show some (((took i (b ++ dso ws fs) : Nat) : Int) + (ahead i (ws.getD kb []) 0)[a] + _) = _
  rw [took_app, dso_took, ed]
  have ea : aA i ws kb a = (ahead i (ws.getD kb []) 0)[a]'ha := by
    unfold aA
    rw [List.getD_eq_getElem?_getD, List.getElem?_eq_getElem ha]
    rfl
  rw [ea]
  congr 1
  show _ = (took i b : Int) + ((((fs.map (tA i ws)).sum : Nat) : Int) + (q : Int) * (took i (ws.getD kb []) : Int) + _)
  rw [Int.natCast_add, Int.mul_comm (took i (ws.getD kb []) : Int)]
  omega
/-- ahead of the rounds the course does not matter -/
theorem begun_at {fs ts : List Nat} {n : Nat} (hn : 1 ≤ n) (h : n ≤ (ahead i b 0).length) : at_ (needT i (b ++ dso ws fs) (dso ws ts)).1 (needT i (b ++ dso ws fs) (dso ws ts)).2.1 (needT i (b ++ dso ws fs) (dso ws ts)).2.2 n = ext most i b ws n := by
  rw [need_crs hn]
  unfold ext
  rw [if_pos h, ahead_app, List.getElem?_append_left (by omega), List.getD_eq_getElem?_getD, List.getElem?_eq_getElem (by omega)]
  rfl
/-- a way that does not give -/
theorem still_at {kb n : Nat} (h : mA i ws kb = 0) (hn : (ahead i b 0).length < n) : at_ (needT i (b ++ dso ws []) (dso ws [kb])).1 (needT i (b ++ dso ws []) (dso ws [kb])).2.1 (needT i (b ++ dso ws []) (dso ws [kb])).2.2 n = none := by
  have ed : dso ws [kb] = ws.getD kb [] := by
    unfold dso
    simp
  have e0 : b ++ dso ws [] = b := List.append_nil _
  have z : ahead i (dso ws [kb]) (took i b : Int) = [] := by
    rw [ed, ahead_off, List.length_eq_zero_iff.mp h]
    rfl
  unfold needT at_
  dsimp only
  rw [e0, if_neg (by omega), if_pos z]
/-- with one way there is one need -/
theorem ext_one {w : List Deed} {n : Nat} (hn : 1 ≤ n) : ext most i b [w] n = at_ (needT i (b ++ dso [w] []) (dso [w] [0])).1 (needT i (b ++ dso [w] []) (dso [w] [0])).2.1 (needT i (b ++ dso [w] []) (dso [w] [0])).2.2 n := by
  by_cases c : n ≤ (ahead i b 0).length
  · exact (begun_at hn c).symm
  · by_cases z : mA i [w] 0 = 0
    · rw [still_at z (by omega)]
      have ge : giv i [w] = [] := by
        unfold giv
        simp [z]
      have hs : stopT most i [w] = true := by
        unfold stopT
        rw [ge]
        cases most <;> rfl
      unfold ext
      rw [if_neg c, if_pos hs]
    · have ge : giv i [w] = [0] := by
        unfold giv
        simp [z]
      have hs : stopT most i [w] = false := by
        unfold stopT
        rw [ge]
        cases most <;> rfl
      have g0 : 0 ∈ giv i [w] := by rw [ge]; exact List.mem_singleton.mpr rfl
      obtain ⟨m, hm⟩ : ∃ m, n = (ahead i b 0).length + m := ⟨n - (ahead i b 0).length, by omega⟩
      have bi := best_is (most := most) g0 (show 1 ≤ m by omega)
      have bo := wv_one (fun k hk => by rw [ge] at hk; exact List.mem_singleton.mp hk) (by omega) bi.1
      have md := Nat.div_add_mod (m - 1) (mA i [w] 0)
      have ml := Nat.mod_lt (m - 1) (show 0 < mA i [w] 0 by omega)
      have := found_at (most := most) (b := b) (fs := []) (kb := 0) (q := (m - 1) / mA i [w] 0) (a := (m - 1) % mA i [w] 0) (n := m) (sh := (m : Int)) (U := best most i [w] m * (m : Int)) (by simp) g0 ml (by rw [Nat.mul_comm] at md; simp; omega) (Int.le_refl _) (by rw [bo, Int.add_mul, Int.mul_assoc]; simp) (by
        rw [Int.mul_ediv_cancel _ (by omega)])
      rw [hm, this]
      unfold ext
      rw [if_neg (by omega), hs, if_neg (by simp), Nat.add_sub_cancel_left]
/-! ### the best of all ways -/
theorem rate_trans {d1 d2 d3 : Int} {m1 m2 m3 : Nat} (h : d1 * (m2 : Int) ≤ d2 * (m1 : Int)) (k : d2 * (m3 : Int) ≤ d3 * (m2 : Int)) (p : 1 ≤ m2) : d1 * (m3 : Int) ≤ d3 * (m1 : Int) := by
  have h1 := Int.mul_le_mul_of_nonneg_right h (show (0 : Int) ≤ m3 by omega)
  have h2 := Int.mul_le_mul_of_nonneg_right k (show (0 : Int) ≤ m1 by omega)
  have e1 : d1 * (m2 : Int) * (m3 : Int) = d1 * (m3 : Int) * (m2 : Int) := by rw [Int.mul_assoc, Int.mul_comm (m2 : Int), ← Int.mul_assoc]
  have e2 : d2 * (m1 : Int) * (m3 : Int) = d2 * (m3 : Int) * (m1 : Int) := by rw [Int.mul_assoc, Int.mul_comm (m1 : Int), ← Int.mul_assoc]
  have e3 : d3 * (m2 : Int) * (m1 : Int) = d3 * (m1 : Int) * (m2 : Int) := by rw [Int.mul_assoc, Int.mul_comm (m2 : Int), ← Int.mul_assoc]
  exact Int.le_of_mul_le_mul_right (show d1 * (m3 : Int) * (m2 : Int) ≤ d3 * (m1 : Int) * (m2 : Int) by omega) (by omega)
end
end NT
set_option Elab.async false
set_option linter.all false
set_option maxRecDepth 100000
set_option maxHeartbeats 4000000
/-! enumerate(xs, start=k) of a list. -/
namespace NF
open PySem PySem.Spec PyProof.Rows L2 He RZ
section
variable {M : Model} {A : Around} {E : Value → Shared → Prop} {s : Shared} {env : Env}
theorem callWith_typeK {pos : Pos} {T : String} {first : List Value} {args : List (Bool × Sem Value)} {keywords : List (Option Str × Sem Value)} {Q : Value → Shared → Prop}
    (hplain : args.any (·.1) = false) (hkw : keywords.any (·.1.isNone) = false)
    (h : wpAny M A (evalArgs (.type T) true args keywords) (fun a s₁ => wpAny M A (call (.type T) (first ++ a.pos) a.kw) Q E s₁) E s) :
    wpAny M A (callWith pos (.type T) first args keywords) Q E s := by
  unfold callWith
  refine wpAny_bind (wpAny_holding (wpAny_mono h (fun a s₁ h₁ => wpAny_bind (wpAny_standAt ?_)) fun _ _ x => x))
  simp only [hplain, hkw, Bool.or_false]
  refine wpAny_bind (wpAny_pure ?_)
  exact wpAny_bind (wpAny_mono h₁ (fun r s₂ hr => wpAny_bind (wpAny_holding (wpAny_point (wpAny_pure hr)))) fun _ _ x => x)
theorem callWith_kwT {pos : Pos} {T : String} {e : Expr} {rest : List Expr} {kws : List Keyword} {Q : Value → Shared → Prop}
    (h : wpAny M A (spliced (backTo pos (starEach (e :: rest) env))) (fun vs s₁ => wpAny M A (evalAll ((backToKw pos (keywordEach kws env)).map (·.2)))
      (fun kvs s₂ => wpAny M A (call (.type T) vs (((backToKw pos (keywordEach kws env)).filterMap (·.1)).zip kvs)) Q E s₂) E s₁) E s)
    (he : backTo pos (starEach (e :: rest) env) = (false, eval e env) :: backTo pos (starEach rest env) := by rfl)
    (hplain : (backTo pos (starEach (e :: rest) env)).any (·.1) = false := by rfl)
    (hall : (backToKw pos (keywordEach kws env)).all (·.1.isSome) = true := by rfl)
    (hkw : (backToKw pos (keywordEach kws env)).any (·.1.isNone) = false := by rfl) :
    wpAny M A (callWith pos (.type T) [] (backTo pos (starEach (e :: rest) env)) (backToKw pos (keywordEach kws env))) Q E s := by
  refine callWith_typeK hplain hkw ?_
  rw [he] at h ⊢
  exact evalArgs_kwB hall h
end
/-- the list at a as it stands at each turn, each item in a new pair behind its number, from k on -/
def Its (K : PySem.W.Frag) (k : Int) (a : Addr) : It :=
  ⟨fun i H => ∃ (xs : List V) (x : V), SqL K H a xs ∧ xs[i]? = some x, fun i H v H' => ∃ T x, v = .ref T ∧ H T = none ∧ H' = upd H T (.tup [.int (k + (i : Nat)), x]) ∧ ∀ xs, SqL K H a xs → xs[i]? = some x, fun i H => ∃ xs : List V, SqL K H a xs ∧ xs.length = i⟩
theorem turn_enumS {P : Program} {w : World} {K : PySem.W.Frag} {elts : List Expr} {kk : Nat} {tpos : Pos} {k : Int} (a e it : Addr) (hne : e ≠ it) (hae : e ≠ a) (hai : a ≠ it) :
    Turn P w K (.Tuple elts kk tpos) (Its K k a) [e, it] e (fun i h => (∃ old, IsEnum h e it (k + (i : Nat)) old) ∧ h.IsListIter it a i) where
  mem := by simp
  obj := fun i h st b hb => by
    obtain ⟨⟨old, he⟩, ⟨o, ho, hc, hd⟩⟩ := st
    have e' : b = e ∨ b = it := by simpa using hb
    rcases e' with z | z
    · rw [z]; exact ⟨_, he, fun v q => nomatch q⟩
    · rw [z]; exact ⟨o, ho, fun v q => by rw [hd] at q; cases q⟩
  keep := fun i h h' st k => let ⟨⟨old, he⟩, hi⟩ := st; ⟨⟨old, k e (by simp) _ he⟩, hi.at fun o q => k it (by simp) o q⟩
  item := by
    intro X hP hw hK hc i pins s σ H E I hf st hg
    subst hP hw hK
    obtain ⟨⟨old, he⟩, hit⟩ := st
    obtain ⟨xs, x, hq, hx⟩ := hg
    obtain ⟨its, rv, p, hz⟩ := I.list hq
    obtain ⟨u, hu, ru⟩ := rv.get hx
    have hel : e < s.heap.objs.size := Heap.lt_size he
    have hil : it < s.heap.objs.size := by obtain ⟨_, q, _⟩ := hit; exact Heap.lt_size q
    have li : i < its.toArray.size := by
      have := (List.getElem?_eq_some_iff.mp hu).1
      simpa using this
    have hd : X.A.in1.handled = none := I.ok.hd hc
    refine wpAny_pyNext_enum_itemC (i := i) (Draws.list hd it a hai its.toArray) he ⟨hit, p.isList⟩ li hne (by simp [hne, hae]) fun x' h' tk hP ho st2 hT hsz hk => ?_
    obtain rfl : u = x' := by
      have : its[i]? = some x' := by simpa using hP
      exact Option.some.inj (hu.symm.trans this)
    refine ⟨_, rfl, wpAny_letOwnedTupleGo_enum (s := { s with heap := h', toks := tk + 1 }) ho fun h'' he' sb => ?_⟩
    have hT2 : h''.get? s.heap.objs.size = some { cls := .type "tuple", data := .seq #[.int (k + (i : Nat)) tk, u] } := (sb.2 _ (Nat.ne_of_gt hel)).trans hT
    have new : ObjOk X.prog X.w (upd H s.heap.objs.size (.tup [.int (k + (i : Nat)), x])) h'' s.heap.objs.size (.tup [.int (k + (i : Nat)), x]) :=
      ⟨by show 2 ≤ sizeLine; decide, [.int (k + (i : Nat)) tk, u], .cons ⟨_, rfl⟩ (.cons ru .nil), ⟨_, hT2, rfl, _, rfl⟩⟩
    have I1 : Inv X pins σ (upd H s.heap.objs.size (.tup [.int (k + (i : Nat)), x])) { s with heap := h'', toks := tk + 1 } :=
      I.turnedNew (ch := [e, it]) (fun b ob hb q => (sb.2 b (fun z => hb (by simp [z]))).trans (hk b ob (fun z => hb (by simp [z])) (fun z => hb (by simp [z])) q)) hf (Nat.le_refl _) new
    refine ⟨.ref s.heap.objs.size, _, I1, rfl, ⟨_, x, rfl, I.hok.fresh (Nat.le_refl _), rfl, fun ys hy => by rw [I.list_inj hy hq]; exact hx⟩, ⟨⟨u, ?_⟩, st2.1.at fun o q => (sb.2 it (Ne.symm hne)).trans q⟩, fun b hb => ?_⟩
    · have e1 : k + ((i + 1 : Nat) : Int) = k + (i : Int) + 1 := by omega
      rw [e1]; exact he'
    · have hb' : b < s.heap.objs.size := by
        have e' : b = e ∨ b = it := by simpa using hb
        rcases e' with z | z
        · rw [z]; exact hel
        · rw [z]; exact hil
      rw [upd_ne (Nat.ne_of_lt hb')]
      exact (hf b hb).1
  done := by
    intro X hP hw hK hc i pins s σ H E I hf st hg
    subst hP hw hK
    obtain ⟨⟨old, he⟩, hit⟩ := st
    obtain ⟨xs, hq, hx⟩ := hg
    obtain ⟨its, rv, p, hz⟩ := I.list hq
    obtain ⟨f0, f1, f2, f3, f4, f5⟩ := hf it (by simp)
    have hl := rv.length
    have hd : X.A.in1.handled = none := I.ok.hd hc
    have en : its.toArray.size = i := by simp; omega
    subst en
    exact wpAny_pyNext_enum_endD (Draws.list hd it a hai its.toArray) he ⟨hit, p.isList⟩ fun h' eb => ⟨rfl, I.turned (t' := s.toks) (fun b o hb q => eb b o hb q) f0 f1 f3 f4 f5⟩
  self := fun A i s Q E st h => let ⟨⟨_, he⟩, _⟩ := st; wpAny_pyIter_enum he h
def iEnumS (K : PySem.W.Frag) (ta tk : TA) : TI := fun σ H R => ta σ H fun vs H1 => tk σ H1 fun zs H2 => ∃ a xs k, vs = [.ref a] ∧ zs = [.int k] ∧ 0 ≤ k ∧ k < 1000000 ∧ SqL K H2 a xs ∧ R (Its K k a) H2
theorem pi_enumS {X : Cx} {e : Expr} {ta tk : TA} {p pos tpos : Pos} {elts : List Expr} {kk : Nat} {kws : List Keyword} (hg : Gl X "enumerate") (hm : X.mg "enumerate" = none) (ha : PA X [e] ta) (hk : PK X kws tk)
    (he : backTo pos (starEach [e] X.env) = (false, eval e X.env) :: backTo pos (starEach [] X.env) := by rfl) (hpl : (backTo pos (starEach [e] X.env)).any (·.1) = false := by rfl)
    (hall : (backToKw pos (keywordEach kws X.env)).all (·.1.isSome) = true := by rfl) (hnone : (backToKw pos (keywordEach kws X.env)).any (·.1.isNone) = false := by rfl) (hks : (backToKw pos (keywordEach kws X.env)).filterMap (·.1) = [Str.ofString "start"] := by rfl) :
    PI X (.Tuple elts kk tpos) (.Call (.Name "enumerate" p) [e] kws pos) (iEnumS X.K ta tk) := by
  refine ⟨fun pins s σ H R I h => ?_⟩
  refine wpAny_Call_Name_kw (ld_blt I hg hm boot_enumerate ?_)
  refine callWith_kwT (thn (ha.run pos pins s σ H _ I h) fun us s1 ⟨vs, H1, I1, r1, q1⟩ => thn (hk.run pos pins s1 σ H1 _ I1 q1) fun ws s2 ⟨zs, H2, I2, r2, a, xs, k, ex, ez, k0, k1, hq, q⟩ => ?_) he hpl hall hnone
  rw [hks]
  subst ex ez
  obtain rfl := Vals.ref1 r1
  obtain ⟨w1, rfl, t, rfl⟩ : ∃ w1, ws = [w1] ∧ ∃ t, w1 = Value.int k t := by
    cases r2 with
    | cons r rr =>
      cases rr
      obtain ⟨t, e⟩ := r
      exact ⟨_, rfl, t, e⟩
  obtain ⟨its, rv, p', hz⟩ := I2.list hq
  show wpAny _ _ (call (.type "enumerate") [.ref a] [(Str.ofString "start", .int k t)]) _ _ s2
  refine enum_begins_start (begins_list a its.toArray) p'.isList (by omega) (by omega) fun h' he' hit hsz hkp => wpAny_pyIter_enum he' ?_
  have I3 : Inv X pins σ H2 { s2 with heap := h' } := I2.kept (t' := s2.toks) hkp
  have la : a < s2.heap.objs.size := p'.lt
  refine ⟨s2.heap.objs.size + 1, [s2.heap.objs.size + 1, s2.heap.objs.size], _, _, H2, rfl, I3, turn_enumS (k := k) a (s2.heap.objs.size + 1) s2.heap.objs.size (Nat.succ_ne_self _) (Nat.ne_of_gt (Nat.lt_succ_of_lt la)) (Nat.ne_of_lt la), ⟨⟨.none, by rw [Int.ofNat_zero, Int.add_zero]; exact he'⟩, ⟨_, hit, rfl, rfl⟩⟩, fun b hb => ?_, q⟩
  have e' : b = s2.heap.objs.size + 1 ∨ b = s2.heap.objs.size := by simpa using hb
  have hle : s2.heap.objs.size ≤ b := by
    rcases e' with z | z
    · rw [z]; exact Nat.le_add_right _ _
    · rw [z]; exact Nat.le_refl _
  exact I2.fpOk hle (I2.hok.fresh hle)
theorem walk_enumS {K : PySem.W.Frag} {k : Int} {a : Addr} {xs : List V} : Walk (Its K k a) xs.length (fun H => SqL K H a xs) (YPair (fun i => some (.int (k + (i : Nat)))) (fun i => xs[i]?)) := by
  refine ⟨fun i _ hi q => ⟨xs, xs[i], q, by simp [hi]⟩, fun _ q => ⟨xs, q, rfl⟩, fun i H v H' _ q y => ?_⟩
  obtain ⟨T, x, h1, h2, h3, h4⟩ := y
  exact ⟨T, .int (k + (i : Nat)), x, h1, h2, h3, rfl, h4 xs q⟩
end NF
set_option Elab.async false
set_option linter.all false
set_option maxRecDepth 100000
set_option maxHeartbeats 4000000
/-! enumerate(t) and enumerate(t, start=k) of a tuple. -/
namespace NF
open PySem PySem.Spec PyProof.Rows L2 He RZ
theorem meets_enum1 {v : Value} {o : Obj} {H : Heap → Prop} (B : Begins v o H) :
    Meets (Builtin.«enumerate.__new__» ⟨[.type "enumerate", v], []⟩) (fun _ R s => H s.heap ∧
      R (.ok (.ret (.ref (s.heap.push o).objs.size))) { s with heap := (s.heap.push o).push { cls := .type "enumerate", data := .fields #[.none, .bool false, .ref s.heap.objs.size, rawInt 0, .none, .none] } }) :=
  .of_wp fun prog w A R s h => by
    obtain ⟨hp, g, d, tk, os⟩ := s
    obtain ⟨h1, h⟩ := h
    have hsub := sub_enumerate
    have q1 : ∀ {A' : Around} {E : Value → Shared → Prop} {Q : Value → Shared → Prop}, Q (.ref hp.objs.size) ⟨hp.push o, g, d, tk, os⟩ → wpAny (model prog w) A' (pyIter v) Q E ⟨hp, g, d, tk, os⟩ :=
      fun q => B.iter prog w _ _ ⟨hp, g, d, tk, os⟩ _ h1 q
    wp_walk using q1
    refine wpAny_stack_any fun st => wpAny_pure ?_
    split
    · rename_i c _ _ _ _ _
      cases (c == Value.type "enumerate")
      · wp_walk using q1
        exact ⟨_, rfl, h⟩
      · wp_walk using q1
        exact ⟨_, rfl, h⟩
    · wp_walk using q1
      exact ⟨_, rfl, h⟩
section
variable {prog : Program} {w : World} {A : Around} {E : Value → Shared → Prop} {s : Shared}
theorem enum_begins1 {v : Value} {o : Obj} {H : Heap → Prop} {Q : Value → Shared → Prop} (B : Begins v o H) (h1 : H s.heap)
    (h : ∀ h', IsEnum h' (s.heap.objs.size + 1) s.heap.objs.size 0 .none → h'.get? s.heap.objs.size = some o → h'.objs.size = s.heap.objs.size + 2 →
      (∀ b o, s.heap.get? b = some o → h'.get? b = some o) → Q (.ref (s.heap.objs.size + 1)) { s with heap := h' }) :
    wpAny (model prog w) A (call (.type "enumerate") [v]) Q E s := by
  refine callType_new F.called_enumerate (by decide) (F.typeCall_enumerate_1 _) (F.newCall_enumerate_1 _) (fun obj => F.args_object_init_2 obj _) F.entry_enumerate_new
    (meets_enum1 B) ⟨h1, ?_⟩
  have hz : (s.heap.push o).objs.size = s.heap.objs.size + 1 := Heap.size_push ..
  show _ ∧ _
  rw [hz]
  have he : IsEnum ((s.heap.push o).push { cls := .type "enumerate", data := .fields #[.none, .bool false, .ref s.heap.objs.size, rawInt 0, .none, .none] }) (s.heap.objs.size + 1) s.heap.objs.size 0 .none := by
    have := Heap.get?_push_size (s.heap.push o) (o := { cls := .type "enumerate", data := .fields #[.none, .bool false, .ref s.heap.objs.size, rawInt 0, .none, .none] }) rfl
    rw [hz] at this; exact this
  exact ⟨⟨_, he, rfl⟩, h _ he (Heap.get?_push_of_some _ (Heap.get?_push_size _ B.free)) (by rw [Heap.size_push, hz]) fun b o x => Heap.get?_push_of_some _ (Heap.get?_push_of_some _ x)⟩
end
/-- the tuple at a, each item in a new pair behind its number, from k on -/
def Itst (K : PySem.W.Frag) (k : Int) (a : Addr) : It :=
  ⟨fun i H => ∃ (xs : List V) (x : V), SqT K H a xs ∧ xs[i]? = some x, fun i H v H' => ∃ T x, v = .ref T ∧ H T = none ∧ H' = upd H T (.tup [.int (k + (i : Nat)), x]) ∧ ∀ xs, SqT K H a xs → xs[i]? = some x, fun i H => ∃ xs : List V, SqT K H a xs ∧ xs.length = i⟩
theorem turn_enumT {P : Program} {w : World} {K : PySem.W.Frag} {elts : List Expr} {kk : Nat} {tpos : Pos} {k : Int} (a e it : Addr) (hne : e ≠ it) (hae : e ≠ a) (hai : a ≠ it) :
    Turn P w K (.Tuple elts kk tpos) (Itst K k a) [e, it] e (fun i h => (∃ old, IsEnum h e it (k + (i : Nat)) old) ∧ h.IsTupleIter it a i) where
  mem := by simp
  obj := fun i h st b hb => by
    obtain ⟨⟨old, he⟩, ⟨o, ho, hc, hd⟩⟩ := st
    have e' : b = e ∨ b = it := by simpa using hb
    rcases e' with z | z
    · rw [z]; exact ⟨_, he, fun v q => nomatch q⟩
    · rw [z]; exact ⟨o, ho, fun v q => by rw [hd] at q; cases q⟩
  keep := fun i h h' st k => let ⟨⟨old, he⟩, hi⟩ := st; ⟨⟨old, k e (by simp) _ he⟩, hi.at fun o q => k it (by simp) o q⟩
  item := by
    intro X hP hw hK hc i pins s σ H E I hf st hg
    subst hP hw hK
    obtain ⟨⟨old, he⟩, hit⟩ := st
    obtain ⟨xs, x, hq, hx⟩ := hg
    obtain ⟨its, rv, p, hz⟩ := I.tuple hq
    obtain ⟨u, hu, ru⟩ := rv.get hx
    have hel : e < s.heap.objs.size := Heap.lt_size he
    have hil : it < s.heap.objs.size := by obtain ⟨_, q, _⟩ := hit; exact Heap.lt_size q
    have li : i < its.toArray.size := by
      have := (List.getElem?_eq_some_iff.mp hu).1
      simpa using this
    have hd : X.A.in1.handled = none := I.ok.hd hc
    refine wpAny_pyNext_enum_itemC (i := i) (Draws.tuple hd it a hai its.toArray) he ⟨hit, p⟩ li hne (by simp [hne, hae]) fun x' h' tk hP ho st2 hT hsz hk => ?_
    obtain rfl : u = x' := by
      have : its[i]? = some x' := by simpa using hP
      exact Option.some.inj (hu.symm.trans this)
    refine ⟨_, rfl, wpAny_letOwnedTupleGo_enum (s := { s with heap := h', toks := tk + 1 }) ho fun h'' he' sb => ?_⟩
    have hT2 : h''.get? s.heap.objs.size = some { cls := .type "tuple", data := .seq #[.int (k + (i : Nat)) tk, u] } := (sb.2 _ (Nat.ne_of_gt hel)).trans hT
    have new : ObjOk X.prog X.w (upd H s.heap.objs.size (.tup [.int (k + (i : Nat)), x])) h'' s.heap.objs.size (.tup [.int (k + (i : Nat)), x]) :=
      ⟨by show 2 ≤ sizeLine; decide, [.int (k + (i : Nat)) tk, u], .cons ⟨_, rfl⟩ (.cons ru .nil), ⟨_, hT2, rfl, _, rfl⟩⟩
    have I1 : Inv X pins σ (upd H s.heap.objs.size (.tup [.int (k + (i : Nat)), x])) { s with heap := h'', toks := tk + 1 } :=
      I.turnedNew (ch := [e, it]) (fun b ob hb q => (sb.2 b (fun z => hb (by simp [z]))).trans (hk b ob (fun z => hb (by simp [z])) (fun z => hb (by simp [z])) q)) hf (Nat.le_refl _) new
    refine ⟨.ref s.heap.objs.size, _, I1, rfl, ⟨_, x, rfl, I.hok.fresh (Nat.le_refl _), rfl, fun ys hy => by rw [I.tuple_inj hy hq]; exact hx⟩, ⟨⟨u, ?_⟩, st2.1.at fun o q => (sb.2 it (Ne.symm hne)).trans q⟩, fun b hb => ?_⟩
    · have e1 : k + ((i + 1 : Nat) : Int) = k + (i : Int) + 1 := by omega
      rw [e1]; exact he'
    · have hb' : b < s.heap.objs.size := by
        have e' : b = e ∨ b = it := by simpa using hb
        rcases e' with z | z
        · rw [z]; exact hel
        · rw [z]; exact hil
      rw [upd_ne (Nat.ne_of_lt hb')]
      exact (hf b hb).1
  done := by
    intro X hP hw hK hc i pins s σ H E I hf st hg
    subst hP hw hK
    obtain ⟨⟨old, he⟩, hit⟩ := st
    obtain ⟨xs, hq, hx⟩ := hg
    obtain ⟨its, rv, p, hz⟩ := I.tuple hq
    obtain ⟨f0, f1, f2, f3, f4, f5⟩ := hf it (by simp)
    have hl := rv.length
    have hd : X.A.in1.handled = none := I.ok.hd hc
    have en : its.toArray.size = i := by simp; omega
    subst en
    exact wpAny_pyNext_enum_endD (Draws.tuple hd it a hai its.toArray) he ⟨hit, p⟩ fun h' eb => ⟨rfl, I.turned (t' := s.toks) (fun b o hb q => eb b o hb q) f0 f1 f3 f4 f5⟩
  self := fun A i s Q E st h => let ⟨⟨_, he⟩, _⟩ := st; wpAny_pyIter_enum he h
def iEnumT (K : PySem.W.Frag) (ta : TA) : TI := fun σ H R => ta σ H fun vs H1 => ∃ a xs, vs = [.ref a] ∧ SqT K H1 a xs ∧ R (Itst K 0 a) H1
theorem pi_enumT {X : Cx} {e : Expr} {ta : TA} {p pos tpos : Pos} {elts : List Expr} {kk : Nat} (hg : Gl X "enumerate") (hm : X.mg "enumerate" = none) (ha : PA X [e] ta) (hs : starEach [e] X.env = [(false, eval e X.env)] := by rfl) :
    PI X (.Tuple elts kk tpos) (.Call (.Name "enumerate" p) [e] [] pos) (iEnumT X.K ta) := by
  refine ⟨fun pins s σ H R I h => ?_⟩
  refine Call_ (ld_blt I hg hm boot_enumerate (PyProof.Rows.callWith_type1 (thn (ha.run pos pins s σ H _ I h) fun us s1 ⟨vs, H1, I1, r1, q1⟩ => ?_) hs rfl))
  obtain ⟨a, xs, ex, hq, q⟩ := q1
  subst ex
  cases r1 with
  | cons r rr =>
    cases rr
    cases r
    obtain ⟨its, rv, p', hz⟩ := I1.tuple hq
    have la : a < s1.heap.objs.size := by
      obtain ⟨_, z, _⟩ := id p'
      exact Heap.lt_size z
    refine enum_begins1 (begins_tuple a its.toArray) p' fun h' he hit hsz hk => wpAny_pyIter_enum he ?_
    have I2 : Inv X pins σ H1 { s1 with heap := h' } := I1.kept (t' := s1.toks) hk
    refine ⟨s1.heap.objs.size + 1, [s1.heap.objs.size + 1, s1.heap.objs.size], _, _, H1, rfl, I2, turn_enumT (k := 0) a (s1.heap.objs.size + 1) s1.heap.objs.size (Nat.succ_ne_self _) (Nat.ne_of_gt (Nat.lt_succ_of_lt la)) (Nat.ne_of_lt la), ⟨⟨.none, he⟩, ⟨_, hit, rfl, rfl⟩⟩, fun b hb => ?_, q⟩
    have e' : b = s1.heap.objs.size + 1 ∨ b = s1.heap.objs.size := by simpa using hb
    have hle : s1.heap.objs.size ≤ b := by
      rcases e' with z | z
      · rw [z]; exact Nat.le_add_right _ _
      · rw [z]; exact Nat.le_refl _
    exact I1.fpOk hle (I1.hok.fresh hle)
def iEnumST (K : PySem.W.Frag) (ta tk : TA) : TI := fun σ H R => ta σ H fun vs H1 => tk σ H1 fun zs H2 => ∃ a xs k, vs = [.ref a] ∧ zs = [.int k] ∧ 0 ≤ k ∧ k < 1000000 ∧ SqT K H2 a xs ∧ R (Itst K k a) H2
theorem pi_enumST {X : Cx} {e : Expr} {ta tk : TA} {p pos tpos : Pos} {elts : List Expr} {kk : Nat} {kws : List Keyword} (hg : Gl X "enumerate") (hm : X.mg "enumerate" = none) (ha : PA X [e] ta) (hk : PK X kws tk)
    (he : backTo pos (starEach [e] X.env) = (false, eval e X.env) :: backTo pos (starEach [] X.env) := by rfl) (hpl : (backTo pos (starEach [e] X.env)).any (·.1) = false := by rfl)
    (hall : (backToKw pos (keywordEach kws X.env)).all (·.1.isSome) = true := by rfl) (hnone : (backToKw pos (keywordEach kws X.env)).any (·.1.isNone) = false := by rfl) (hks : (backToKw pos (keywordEach kws X.env)).filterMap (·.1) = [Str.ofString "start"] := by rfl) :
    PI X (.Tuple elts kk tpos) (.Call (.Name "enumerate" p) [e] kws pos) (iEnumST X.K ta tk) := by
  refine ⟨fun pins s σ H R I h => ?_⟩
  refine wpAny_Call_Name_kw (ld_blt I hg hm boot_enumerate ?_)
  refine callWith_kwT (thn (ha.run pos pins s σ H _ I h) fun us s1 ⟨vs, H1, I1, r1, q1⟩ => thn (hk.run pos pins s1 σ H1 _ I1 q1) fun ws s2 ⟨zs, H2, I2, r2, a, xs, k, ex, ez, k0, k1, hq, q⟩ => ?_) he hpl hall hnone
  rw [hks]
  subst ex ez
  obtain rfl := Vals.ref1 r1
  obtain ⟨w1, rfl, t, rfl⟩ : ∃ w1, ws = [w1] ∧ ∃ t, w1 = Value.int k t := by
    cases r2 with
    | cons r rr =>
      cases rr
      obtain ⟨t, e⟩ := r
      exact ⟨_, rfl, t, e⟩
  obtain ⟨its, rv, p', hz⟩ := I2.tuple hq
  have la : a < s2.heap.objs.size := by
    obtain ⟨_, z, _⟩ := id p'
    exact Heap.lt_size z
  show wpAny _ _ (call (.type "enumerate") [.ref a] [(Str.ofString "start", .int k t)]) _ _ s2
  refine enum_begins_start (begins_tuple a its.toArray) p' (by omega) (by omega) fun h' he' hit hsz hkp => wpAny_pyIter_enum he' ?_
  have I3 : Inv X pins σ H2 { s2 with heap := h' } := I2.kept (t' := s2.toks) hkp
  refine ⟨s2.heap.objs.size + 1, [s2.heap.objs.size + 1, s2.heap.objs.size], _, _, H2, rfl, I3, turn_enumT (k := k) a (s2.heap.objs.size + 1) s2.heap.objs.size (Nat.succ_ne_self _) (Nat.ne_of_gt (Nat.lt_succ_of_lt la)) (Nat.ne_of_lt la), ⟨⟨.none, by rw [Int.ofNat_zero, Int.add_zero]; exact he'⟩, ⟨_, hit, rfl, rfl⟩⟩, fun b hb => ?_, q⟩
  have e' : b = s2.heap.objs.size + 1 ∨ b = s2.heap.objs.size := by simpa using hb
  have hle : s2.heap.objs.size ≤ b := by
    rcases e' with z | z
    · rw [z]; exact Nat.le_add_right _ _
    · rw [z]; exact Nat.le_refl _
  exact I2.fpOk hle (I2.hok.fresh hle)
theorem walk_enumT {K : PySem.W.Frag} {k : Int} {a : Addr} {xs : List V} : Walk (Itst K k a) xs.length (fun H => SqT K H a xs) (YPair (fun i => some (.int (k + (i : Nat)))) (fun i => xs[i]?)) := by
  refine ⟨fun i _ hi q => ⟨xs, xs[i], q, by simp [hi]⟩, fun _ q => ⟨xs, q, rfl⟩, fun i H v H' _ q y => ?_⟩
  obtain ⟨T, x, h1, h2, h3, h4⟩ := y
  exact ⟨T, .int (k + (i : Nat)), x, h1, h2, h3, rfl, h4 xs q⟩
end NF
set_option Elab.async false
set_option linter.all false
set_option maxRecDepth 100000
set_option maxHeartbeats 4000000
namespace K28
open PySem PySem.Spec PyProof.Rows L2 He NF RZ NT
/-- what the class of outlooks is -/
structure OutC (K : PySem.W.Frag) (C : Addr) : Prop where
  cl : Cls K C
  nm : NoAttr K C "most"
  nb : NoAttr K C "begin"
  nr : NoAttr K C "rounds"
  ng : NoAttr K C "giving"
  ns : NoAttr K C "shares"
  nt : NoAttr K C "taken"
  nl : NoAttr K C "lasts"
def of (most : Bool) (xb pr pg : Addr) (sh : Int) (pt pl : Addr) : List (Str × V) := [("most", .bl most), ("begin", .ref xb), ("rounds", .ref pr), ("giving", .ref pg), ("shares", .int sh), ("taken", .ref pt), ("lasts", .ref pl)]
theorem of_eq (most : Bool) (xb pr pg : Addr) (sh : Int) (pt pl : Addr) : putF "lasts" (.ref pl) (putF "taken" (.ref pt) (putF "shares" (.int sh) (putF "giving" (.ref pg) (putF "rounds" (.ref pr) (putF "begin" (.ref xb) (putF "most" (.bl most) [])))))) = of most xb pr pg sh pt pl := by rfl
/-- what does not change -/
def OutB (K : PySem.W.Frag) (CR : Addr) (H : Hp) (xb pr pg : Addr) (i : Nat) (b : List Deed) (ws : List (List Deed)) : Prop := RouAt K CR H xb i b ∧ (∃ xs : List Addr, H pr = some (.lst (xs.map V.ref)) ∧ Chosen K CR H xs i ws) ∧ H pg = some (.lst (vNs (giv i ws)))
theorem OutB.mono {K : PySem.W.Frag} {CR : Addr} {H H' : Hp} {xb pr pg : Addr} {i : Nat} {b : List Deed} {ws : List (List Deed)} (h : OutB K CR H xb pr pg i b ws) (s : Same H H') : OutB K CR H' xb pr pg i b ws := by
  obtain ⟨h1, ⟨xs, h2, h3⟩, h4⟩ := h
  exact ⟨h1.mono s, ⟨xs, s _ _ h2, h3.mono s⟩, s _ _ h4⟩
def OutAt (K : PySem.W.Frag) (C CR : Addr) (H : Hp) (x : Addr) (most : Bool) (i : Nat) (b : List Deed) (ws : List (List Deed)) (sh : Int) (pt pl : Addr) : Prop := ∃ dx xb pr pg, H x = some (.ins C dx (of most xb pr pg sh pt pl)) ∧ OutB K CR H xb pr pg i b ws
theorem OutAt.mono {K : PySem.W.Frag} {C CR : Addr} {H H' : Hp} {x : Addr} {most : Bool} {i : Nat} {b : List Deed} {ws : List (List Deed)} {sh : Int} {pt pl : Addr} (h : OutAt K C CR H x most i b ws sh pt pl) (s : Same H H') : OutAt K C CR H' x most i b ws sh pt pl := by
  obtain ⟨dx, xb, pr, pg, h1, h2⟩ := h
  exact ⟨dx, xb, pr, pg, s _ _ h1, h2.mono s⟩
def vOn (o : Option Nat) : V := match o with
  | none => .non
  | some k => .int (k : Int)
/-- an outlook is made -/
def spOInit (K : PySem.W.Frag) (C CM CR : Addr) : Sp := fun vs H Q _ => ∃ (x dx xm : Addr) (n i : Nat) (most : Bool) (b : List Deed) (ws : List (List Deed)), vs = [.ref x, .ref xm, .int (i : Int), .bl most] ∧ H x = some (.ins C dx []) ∧ MakAt K CM (wo H x) xm n b ws ∧ GoodM n b ws ∧
  ∀ H' sh pt pl, Same (wo H x) H' → OutAt K C CR H' x most i b ws sh pt pl → Q .non H'
/-- whether a value is better than another, or than none -/
def spBet (K : PySem.W.Frag) (C : Addr) : Sp := fun vs H Q _ => ∃ (x dx : Addr) (most : Bool) (xb pr pg : Addr) (sh : Int) (pt pl : Addr) (v : Int) (o : Option Int), vs = [.ref x, .int v, vO o] ∧ H x = some (.ins C dx (of most xb pr pg sh pt pl)) ∧
  Q (.bl (less (sg most * v) (o.map (sg most * ·)))) H
def spStop (K : PySem.W.Frag) (C CR : Addr) : Sp := fun vs H Q _ => ∃ (x : Addr) (most : Bool) (i : Nat) (b : List Deed) (ws : List (List Deed)) (sh : Int) (pt pl : Addr), vs = [.ref x] ∧ OutAt K C CR H x most i b ws sh pt pl ∧ ws ≠ [] ∧
  ∀ o H', Same H H' → ((o : Option Nat) = none → stopT most i ws = false) → (∀ k, o = some k → stopT most i ws = true ∧ k < ws.length ∧ mA i ws k = 0) → Q (vOn o) H'
theorem sc_Outlook___init__ : FnScope ["self", "maker", "inlet", "most", "way", "number", "one"] ["self", "maker", "inlet", "most"] (defScope s_Outlook_init) := ⟨rfl, rfl, rfl, by decide +kernel, rfl, by decide +kernel, by decide +kernel⟩
theorem sc_Outlook_better : FnScope ["self", "value", "other"] ["self", "value", "other"] (defScope s_Outlook_better) := ⟨rfl, rfl, rfl, by decide +kernel, rfl, by decide +kernel, by decide +kernel⟩
theorem sc_Outlook_stopping : FnScope ["self", "number", "one"] ["self"] (defScope s_Outlook_stopping) := ⟨rfl, rfl, rfl, by decide +kernel, rfl, by decide +kernel, by decide +kernel⟩
section
variable {P : Program} {w : World} {K : PySem.W.Frag} {mg : Str → Option Value} {base : Heap} {gs fs : List Str} {C CM CR : Addr}
theorem ok_Outlook_better {f : Addr} {fd : FuncData} (F : FunD K "better" "Outlook.better" (defArgs s_Outlook_better) (defBody s_Outlook_better) (defScope s_Outlook_better) [] [] f fd) (T : Txt K mg gs FS) (oc : OutC K C) : FnOk P w K mg base CX0 1 f fd ["self", "value", "other"] (spBet K C) := by
  refine F.ok sc_Outlook_better (fun vs H Q E h => ?_) (fun cdv A outer s H vs Q E hr h => ?_)
  · obtain ⟨x, dx, most, xb, pr, pg, sh, pt, pl, v, o, rfl, _⟩ := h
    rfl
  · obtain ⟨x, dx, most, xb, pr, pg, sh, pt, pl, v, o, rfl, hx, q⟩ := h
    refine ⟨_, PSs.nox (pss_cons (ps_if (pt_cmpR op_isN (pv 2) pe_non (nomark _)) (pss_one (ps_ret pe_bl)) pss_nil) (pss_one (ps_ret (pe_ifExp (pt_val (pe_fld (pv 0) rfl)) (pe_cmpR op_gt (pv 1) (pv 2) (nomark _)) (pe_cmpR op_lt (pv 1) (pv 2) (nomark _)))))), ?_⟩
    cases o with
    | none =>
      refine ⟨_, rfl, rfl, _, rfl, iteT' (decide_eq_true rfl) ?_⟩
      exact q
    | some u =>
      refine ⟨_, rfl, rfl, _, rfl, iteF' rfl ?_⟩
      refine ⟨_, rfl, x, C, dx, _, _, rfl, hx, oc.cl, oc.nm, rfl, most, rfl, ?_⟩
      cases most with
      | true =>
        refine iteT ?_
        refine ⟨_, rfl, _, rfl, _, _, rfl, rfl, ?_⟩
        have e : less (sg true * v) ((some u).map (sg true * ·)) = decide (v > u) := by
          show decide (-1 * v < -1 * u) = _
          by_cases h : v > u
          · rw [decide_eq_true h, decide_eq_true (by omega)]
          · rw [decide_eq_false h, decide_eq_false (by omega)]
        rw [e] at q
        exact q
      | false =>
        refine iteF ?_
        refine ⟨_, rfl, _, rfl, _, _, rfl, rfl, ?_⟩
        have e : less (sg false * v) ((some u).map (sg false * ·)) = decide (v < u) := by
          show decide (1 * v < 1 * u) = _
          by_cases h : v < u
          · rw [decide_eq_true h, decide_eq_true (by omega)]
          · rw [decide_eq_false h, decide_eq_false (by omega)]
        rw [e] at q
        exact q
theorem vN_giv {i : Nat} {ws : List (List Deed)} {k : Nat} (h : k < ws.length) (hk : k ∉ giv i ws) : mA i ws k = 0 := by
  rcases Nat.eq_zero_or_pos (mA i ws k) with z | z
  · exact z
  · exact absurd (giv_mem.mpr ⟨h, z⟩) hk
theorem ok_Outlook_stopping {f : Addr} {fd : FuncData} (F : FunD K "stopping" "Outlook.stopping" (defArgs s_Outlook_stopping) (defBody s_Outlook_stopping) (defScope s_Outlook_stopping) [] [] f fd) (T : Txt K mg gs FS) (oc : OutC K C) (rc : RouC K CR) : FnOk P w K mg base CX0 1 f fd ["self"] (spStop K C CR) := by
  refine F.ok sc_Outlook_stopping (fun vs H Q E h => ?_) (fun cdv A outer s H vs Q E hr h => ?_)
  · obtain ⟨x, most, i, b, ws, sh, pt, pl, rfl, _⟩ := h
    rfl
  · obtain ⟨x, most, i, b, ws, sh, pt, pl, rfl, ⟨dx, xb, pr, pg, hx, hb, ⟨xs, hr1, xl, hro⟩, hg⟩, h0, q⟩ := h
    have w0 := List.length_pos_iff.mpr h0
    refine ⟨_, PSs.nox (pss_cons (ps_if (pt_not (pt_val (pe_fld (pv 0) rfl))) (pss_one (ps_ret (pe_ifExp (pt_truth (pe_fld (pv 0) rfl) (fun _ => rfl)) pe_non pe_int))) pss_nil) (pss_cons (ps_for PassesOwn.never rfl (pi_enum rfl (T.fr _ (by decide +kernel)) (pa_cons (pe_fld (pv 0) rfl) pa_nil)) (pgt (K := K) (n := 2) rfl rfl (pgs_cons (pg_name (i := 1) sc_Outlook_stopping.nd rfl (Or.inl rfl)) (pgs_cons (pg_name (i := 2) sc_Outlook_stopping.nd rfl (Or.inl rfl)) pgs_nil))) (pss_one (ps_if (pt_not (pt_truth (pe_fld (pv 2) rfl) (fun _ => rfl))) (pss_one (ps_ret (pv 1))) pss_nil))) (pss_one (ps_ret pe_non)))), ?_⟩
    refine ⟨_, rfl, x, C, dx, _, _, rfl, hx, oc.cl, oc.nm, rfl, most, rfl, ?_⟩
    cases most with
    | false =>
      refine iteT ?_
      refine ⟨_, rfl, x, C, dx, _, _, rfl, hx, oc.cl, oc.ng, rfl, ?_⟩
      refine ⟨_, .inl ⟨_, SqL.of hg, rfl⟩, ?_⟩
      have e0 : (vNs (giv i ws)).isEmpty = (giv i ws).isEmpty := by
        unfold vNs
        cases giv i ws <;> rfl
      cases hz : giv i ws with
      | nil =>
        refine iteF' rfl ?_
        refine q (some 0) H (Same.refl H) (fun z => nomatch z) fun k hk => ?_
        cases hk
        exact ⟨by unfold stopT; rw [hz]; rfl, w0, vN_giv w0 (by rw [hz]; simp)⟩
      | cons k ks =>
        refine iteT' rfl ?_
        exact q none H (Same.refl H) (fun _ => by unfold stopT; rw [hz]; rfl) fun k hk => nomatch hk
    | true =>
      refine iteF ?_
      refine ⟨_, rfl, x, C, dx, _, _, rfl, hx, oc.cl, oc.nr, rfl, pr, _, rfl, SqL.of hr1, ?_⟩
      refine for_it (walk_enum (xs := xs.map V.ref)) (fun j σ G => Same H G ∧ (∀ k, k < j → 1 ≤ mA i ws k) ∧ ∃ v1 v2 : Option V, σ = [some (.ref x), v1, v2]) ⟨Same.refl H, fun k hk => absurd hk (Nat.not_lt_zero _), none, none, rfl⟩ (fun j σ G _ z => SqL.of (z.1 _ _ hr1)) ?_ ?_
      · rintro j y σ G1 G2 hj ⟨sG1, all, v1, v2, rfl⟩ ⟨U, a1, b1, rfl, hU, rfl, ha1, hb1⟩
        obtain rfl : V.int (j : Int) = a1 := Option.some.inj ha1
        rw [List.length_map] at hj
        have hb1 : (xs.map V.ref)[j]? = some b1 := hb1
        obtain rfl : V.ref (xs[j]) = b1 := by
          rw [List.getElem?_map, List.getElem?_eq_getElem hj] at hb1
          exact Option.some.inj hb1
        have hjw : j < ws.length := by omega
        have sU := NF.Same.new (o := .tup [V.int (j : Int), V.ref xs[j]]) sG1 hU
        obtain ⟨dr, mm, hro1, hro2⟩ := (hro j xs[j] ws[j] (List.getElem?_eq_getElem hj) (List.getElem?_eq_getElem hjw)).mono sU
        refine ⟨U, _, rfl, SqT.of upd_same, rfl, _, _, rfl, ?_⟩
        refine ⟨_, _, rfl, ?_⟩
        refine ⟨rfl, ?_⟩
        refine ⟨_, rfl, _, CR, dr, _, _, rfl, hro1, rc.cl, rc.nm, rfl, _, .inr (.inl ⟨_, hro2, rfl⟩), ?_⟩
        have em : mA i ws j = (ahead i ws[j] 0).length := by
          unfold mA
          rw [List.getD_eq_getElem?_getD, List.getElem?_eq_getElem hjw]
          rfl
        have ee : (vI (ahead i ws[j] 0)).isEmpty = decide (mA i ws j = 0) := by
          rw [em]
          unfold vI
          cases ahead i ws[j] 0 <;> rfl
        rw [ee]
        refine ite2 (fun h => ?_) (fun h => ?_)
        · have h : mA i ws j = 0 := by simpa using h
          refine ⟨_, rfl, ?_⟩
          refine q (some j) _ sU (fun z => nomatch z) fun k hk => ?_
          cases hk
          refine ⟨?_, hjw, h⟩
          cases hs : stopT true i ws with
          | true => rfl
          | false =>
            have := giv_pos j (all_give hs j hjw)
            omega
        · have h : mA i ws j ≠ 0 := by simpa using h
          refine ⟨sU, fun k hk => ?_, _, _, rfl⟩
          rcases Nat.lt_or_ge k j with z | z
          · exact all k z
          · rw [show k = j by omega]
            omega
      · rintro σ G ⟨sG, all, v1, v2, rfl⟩
        rw [List.length_map, xl] at all
        refine q none G sG (fun _ => ?_) fun k hk => nomatch hk
        have e : giv i ws = List.range ws.length := by
          unfold giv
          refine List.filter_eq_self.mpr fun k hk => decide_eq_true ?_
          have := all k (List.mem_range.mp hk)
          omega
        unfold stopT
        rw [e, List.length_range]
        simp
theorem RouAt.putI {G : Hp} {y x : Addr} {i : Nat} {r : List Deed} {dx : Addr} {fl : List (Str × V)} {o : HO} (h : RouAt K CR G y i r) (ne : y ≠ x) (hx : G x = some (.ins C dx fl)) : RouAt K CR (upd G x o) y i r := by
  obtain ⟨dy, m, h1, h2⟩ := h
  exact ⟨dy, m, (upd_ne ne).trans h1, SqT.put h2 hx trivial⟩
theorem Chosen.putI {G : Hp} {xs : List Addr} {x : Addr} {i : Nat} {rs : List (List Deed)} {dx : Addr} {fl : List (Str × V)} {o : HO} (h : Chosen K CR G xs i rs) (ne : ∀ y ∈ xs, y ≠ x) (hx : G x = some (.ins C dx fl)) : Chosen K CR (upd G x o) xs i rs :=
  ⟨h.1, fun j y r e1 e2 => RouAt.putI (h.2 j y r e1 e2) (ne y (List.mem_of_getElem? e1)) hx⟩
theorem giv_snoc {i j : Nat} {ws : List (List Deed)} : (List.range (j + 1)).filter (fun k => decide (mA i ws k ≠ 0)) = (List.range j).filter (fun k => decide (mA i ws k ≠ 0)) ++ (if mA i ws j ≠ 0 then [j] else []) := by
  rw [List.range_succ, List.filter_append]
  congr 1
  by_cases h : mA i ws j = 0 <;> simp [h]
theorem marks_empty {i j : Nat} {ws : List (List Deed)} (h : j < ws.length) : (vI (ahead i ws[j] 0)).isEmpty = decide (mA i ws j = 0) := by
  have em : mA i ws j = (ahead i ws[j] 0).length := by
    unfold mA
    rw [List.getD_eq_getElem?_getD, List.getElem?_eq_getElem h]
    rfl
  rw [em]
  unfold vI
  cases ahead i ws[j] 0 <;> rfl
theorem ok_Outlook_init {f : Addr} {fd : FuncData} (F : FunD K "__init__" "Outlook.__init__" (defArgs s_Outlook_init) (defBody s_Outlook_init) (defScope s_Outlook_init) [] [] f fd) (T : Txt K mg gs FS) (oc : OutC K C) (mc : MakC K CM) (rc : RouC K CR) (m_Round2 : Mak P w K mg base 1 0 "Round" CR (spRoInit K CR) []) : FnOk P w K mg base CX0 3 f fd ["self", "maker", "inlet", "most"] (spOInit K C CM CR) := by
  refine F.ok sc_Outlook___init__ (fun vs H Q E h => ?_) (fun cdv A outer s H vs Q E hr h => ?_)
  · obtain ⟨x, dx, xm, n, i, most, b, ws, rfl, _⟩ := h
    rfl
  · obtain ⟨x, dx, xm, n, i, most, b, ws, rfl, hx, mk, g, q⟩ := h
    have m4 := g.m4
    have gb := g.bl
    refine ⟨_, PSs.nox (pss_cons (ps_fld (pv 0) (pv 3) rfl) (pss_cons (ps_fld (pv 0) (pe_mk m_Round2 hr (by decide) rfl (pa_cons (pe_fld (pv 1) rfl) (pa_cons (pv 2) pa_nil))) rfl) (pss_cons (ps_fld (pv 0) (pe_lc (own := [("way", 4)]) rfl sc_Outlook___init__.nd (pi_tup (pe_fld (pv 1) rfl)) (blkOk_by (N := ["self", "maker", "inlet", "most", "way", "number", "one"]) (sc := defScope s_Outlook_init) (by decide +kernel)) (fun _ _ _ _ _ => by exact (pg_name (i := 4) sc_Outlook___init__.nd rfl (Or.inl rfl))) (fun _ _ _ _ _ => by exact pts_nil) (fun _ _ _ _ _ => by exact (pe_mk m_Round2 hr (by decide) rfl (pa_cons (pv 4) (pa_cons (pv 2) pa_nil))))) rfl) (pss_cons (ps_fld (pv 0) (pe_lc (own := [("number", 5), ("one", 6)]) rfl sc_Outlook___init__.nd (pi_enum rfl (T.fr _ (by decide +kernel)) (pa_cons (pe_fld (pv 0) rfl) pa_nil)) (blkOk_by (N := ["self", "maker", "inlet", "most", "way", "number", "one"]) (sc := defScope s_Outlook_init) (by decide +kernel)) (fun _ _ _ _ _ => by exact (pgt (K := K) (n := 2) rfl rfl (pgs_cons (pg_name (i := 5) sc_Outlook___init__.nd rfl (Or.inl rfl)) (pgs_cons (pg_name (i := 6) sc_Outlook___init__.nd rfl (Or.inl rfl)) pgs_nil)))) (fun _ _ _ _ _ => by exact (pts_one (pt_truthK (K := K) (pe_fldK (K := K) (pv 6) rfl) (fun _ => rfl)))) (fun _ _ _ _ _ => by exact (pv 5))) rfl) (pss_cons (ps_fld (pv 0) pe_int rfl) (pss_cons (ps_fld (pv 0) (pe_lst (pa_cons pe_int pa_nil)) rfl) (pss_one (ps_fld (pv 0) (pe_lst (pa_cons pe_non pa_nil)) rfl)))))))), ?_⟩
    refine ⟨_, rfl, _, rfl, x, C, dx, _, rfl, hx, oc.cl, oc.nm, (by decide), ?_⟩
    have sw1 := NF.Same.put (o := .ins C dx (putF "most" (.bl most) [])) (wo_same' (H := H) (p := x)) wo_none
    have hx1 := upd_same (H := H) (a := x) (o := .ins C dx (putF "most" (.bl most) []))
    generalize upd H x (.ins C dx (putF "most" (.bl most) [])) = H1 at sw1 hx1
    -- the beginning
    obtain ⟨dxm, pb, pw, hm1, hb1, as, hw1, hl, hws1⟩ := mk.mono sw1
    refine ⟨_, rfl, xm, CM, dxm, _, _, rfl, hm1, mc.cl, mc.nb, rfl, _, rfl, ?_⟩
    intro y dy ny nd ne
    have yx : y ≠ x := fun z => by rw [z, hx1] at ny; cases ny
    refine ⟨y, dy, pb, i, b, rfl, upd_same, .inr (NF.Same.tup (same_woM ny nd) hb1), by omega, fun H2 s2 ro => ⟨rfl, ?_⟩⟩
    have s12 : Same H1 H2 := Same.trans (same_woM ny nd) s2
    have hx2 := s12 _ _ hx1
    refine ⟨_, rfl, x, C, dx, _, rfl, hx2, oc.cl, oc.nb, (show 1 < 1000 by decide), ?_⟩
    have sw2 := NF.Same.put (o := .ins C dx (putF "begin" (.ref y) (putF "most" (.bl most) []))) (Same.trans sw1 s12) wo_none
    have hx3 := upd_same (H := H2) (a := x) (o := .ins C dx (putF "begin" (.ref y) (putF "most" (.bl most) [])))
    have ro3 := RouAt.putI (o := .ins C dx (putF "begin" (.ref y) (putF "most" (.bl most) []))) ro yx hx2
    generalize upd H2 x (.ins C dx (putF "begin" (.ref y) (putF "most" (.bl most) []))) = H3 at sw2 hx3 ro3
    -- the rounds
    obtain ⟨dxm, pb, pw, hm3, hb3, as, hw3, hl, hws3⟩ := mk.mono sw2
    refine ⟨_, rfl, xm, CM, dxm, _, _, rfl, hm3, mc.cl, mc.nw, rfl, pw, rfl, ⟨_, hw3⟩, fun D hD => ?_⟩
    refine lc_tup (xs := as.map V.ref) (fun j G => Same H3 G ∧ ∃ xs : List Addr, G D = some (.lst (xs.map V.ref)) ∧ Chosen K CR G xs i (ws.take j) ∧ ∀ a ∈ xs, a ≠ x) ⟨NF.Same.new (Same.refl H3) hD, [], upd_same, ⟨rfl, fun j x r e => by simp at e⟩, by simp⟩ (fun j G _ z => NF.Same.tup z.1 hw3) ?_ ?_
    · rintro j v G hv ⟨sG, xs, hG, ch, xn⟩
      have hj := (List.getElem?_eq_some_iff.mp hv).1
      rw [List.length_map] at hj
      obtain rfl : V.ref (as[j]) = v := by
        rw [List.getElem?_map, List.getElem?_eq_getElem hj] at hv
        exact Option.some.inj hv
      have hjw : j < ws.length := by omega
      have hr1 := NF.Same.tup sG (hws3 j as[j] ws[j] (List.getElem?_eq_getElem hj) (List.getElem?_eq_getElem hjw))
      obtain ⟨w1, w2, w3⟩ := g.wy ws[j] (List.getElem_mem hjw)
      have xl : xs.length = j := by
        rw [ch.1, List.length_take]
        omega
      refine ⟨rfl, _, rfl, _, rfl, ?_⟩
      intro y dy ny nd ne
      have yx : y ≠ x := fun z => by rw [z, sG _ _ hx3] at ny; cases ny
      refine ⟨y, dy, as[j], i, ws[j], rfl, upd_same, .inr (NF.Same.tup (same_woM ny nd) hr1), by omega, fun G2 s2 ro => ⟨rfl, ?_⟩⟩
      have s3 : Same G G2 := Same.trans (same_woM ny nd) s2
      have hG2 := s3 _ _ hG
      refine ⟨_, hG2, by rw [List.length_map, xl]; exact Nat.lt_of_lt_of_le (show j < 10000 by omega) (by decide), NF.Same.mut (Same.trans sG s3) hD, xs ++ [y], ?_, ⟨?_, fun k z r e1 e2 => ?_⟩, fun a ha => ?_⟩
      · rw [upd_same, List.map_append]
        rfl
      · rw [List.length_append, xl, List.length_take]
        show j + 1 = _
        omega
      · refine RouAt.put ?_ hG2
        rw [List.getElem?_take] at e2
        rcases Nat.lt_trichotomy k j with h | h | h
        · rw [List.getElem?_append_left (by omega)] at e1
          rw [if_pos (by omega)] at e2
          exact (ch.2 k z r e1 (by rw [List.getElem?_take, if_pos h]; exact e2)).mono s3
        · subst h
          rw [List.getElem?_append_right (by omega), xl, Nat.sub_self] at e1
          rw [if_pos (by omega), List.getElem?_eq_getElem hjw] at e2
          cases e1
          cases e2
          exact ro
        · rw [if_neg (by omega)] at e2
          cases e2
      · rcases List.mem_append.mp ha with ha | ha
        · exact xn a ha
        · rw [List.mem_singleton.mp ha]
          exact yx
    · rintro G4 ⟨s4, xs, hG4, ch4, xn⟩
      rw [List.length_map, hl, List.take_length] at ch4
      have hx4 := s4 _ _ hx3
      have ro4 := ro3.mono s4
      have sw4 := Same.trans sw2 s4
      have Dx : D ≠ x := fun z => by rw [z, hx4] at hG4; cases hG4
      refine ⟨_, rfl, x, C, dx, _, rfl, hx4, oc.cl, oc.nr, (show 2 < 1000 by decide), ?_⟩
      have sw5 := NF.Same.put (o := .ins C dx (putF "rounds" (.ref D) (putF "begin" (.ref y) (putF "most" (.bl most) [])))) sw4 wo_none
      have hx5 := upd_same (H := G4) (a := x) (o := .ins C dx (putF "rounds" (.ref D) (putF "begin" (.ref y) (putF "most" (.bl most) []))))
      have ro5 := RouAt.putI (o := .ins C dx (putF "rounds" (.ref D) (putF "begin" (.ref y) (putF "most" (.bl most) [])))) ro4 yx hx4
      have ch5 := Chosen.putI (o := .ins C dx (putF "rounds" (.ref D) (putF "begin" (.ref y) (putF "most" (.bl most) [])))) ch4 xn hx4
      have hG5 := (upd_ne (H := G4) (o := .ins C dx (putF "rounds" (.ref D) (putF "begin" (.ref y) (putF "most" (.bl most) [])))) Dx).trans hG4
      generalize upd G4 x (.ins C dx (putF "rounds" (.ref D) (putF "begin" (.ref y) (putF "most" (.bl most) [])))) = H5 at sw5 hx5 ro5 ch5 hG5
      -- those that give
      refine ⟨_, rfl, x, C, dx, _, _, rfl, hx5, oc.cl, oc.nr, rfl, D, _, rfl, SqL.of hG5, ?_⟩
      refine fun D2 hD2 => ?_
      refine lc_it (tt := fun σ H Q => tFld K (tVar 6) "marks" σ H fun x H' => ∃ k, TruV K x H' k ∧ Q k H') (walk_enum (K := K) (a := D) (xs := xs.map V.ref)) (fun j G => Same H5 G ∧ G D2 = some (.lst (vNs ((List.range j).filter fun k => decide (mA i ws k ≠ 0))))) ⟨NF.Same.new (Same.refl H5) hD2, upd_same⟩ (fun j G _ z => SqL.of (z.1 _ _ hG5)) ?_ ?_
      · rintro j v G1 G2 hj ⟨sG1, hG1⟩ ⟨U, a1, b1, rfl, hU, rfl, ha1, hb1⟩
        obtain rfl : V.int (j : Int) = a1 := Option.some.inj ha1
        rw [List.length_map] at hj
        have hb1 : (xs.map V.ref)[j]? = some b1 := hb1
        obtain rfl : V.ref (xs[j]) = b1 := by
          rw [List.getElem?_map, List.getElem?_eq_getElem hj] at hb1
          exact Option.some.inj hb1
        have hjw : j < ws.length := by have := ch5.1; omega
        have sU := NF.Same.new (o := .tup [V.int (j : Int), V.ref xs[j]]) sG1 hU
        have hU1 := NF.Same.new (o := .tup [V.int (j : Int), V.ref xs[j]]) (Same.refl G1) hU
        obtain ⟨dr, mm, hro1, hro2⟩ := (ch5.2 j xs[j] ws[j] (List.getElem?_eq_getElem hj) (List.getElem?_eq_getElem hjw)).mono sU
        refine ⟨U, _, rfl, SqT.of upd_same, rfl, _, _, rfl, ?_⟩
        refine ⟨_, _, rfl, ?_⟩
        refine ⟨rfl, rfl, ?_⟩
        refine ⟨_, rfl, _, CR, dr, _, _, rfl, hro1, rc.cl, rc.nm, rfl, _, .inr (.inl ⟨_, hro2, rfl⟩), ?_⟩
        rw [marks_empty hjw]
        have es := giv_snoc (i := i) (j := j) (ws := ws)
        have hlen := List.length_filter_le (fun k => decide (mA i ws k ≠ 0)) (List.range j)
        rw [List.length_range] at hlen
        refine ite2 (fun h => ?_) (fun h => ?_)
        · have h : mA i ws j ≠ 0 := by simpa using h
          rw [if_pos h] at es
          refine ⟨_, rfl, _, hU1 _ _ hG1, ?_, NF.Same.mut sU hD2, ?_⟩
          · unfold vNs
            rw [List.length_map]
            have := ch5.1
            exact Nat.lt_of_le_of_lt hlen (Nat.lt_of_lt_of_le (show j < 10000 by omega) (by decide))
          · rw [upd_same, es]
            unfold vNs
            rw [List.map_append]
            rfl
        · have h : mA i ws j = 0 := by simpa using h
          rw [if_neg (by omega), List.append_nil] at es
          refine ⟨sU, ?_⟩
          rw [es]
          exact hU1 _ _ hG1
      · rintro G6 ⟨s6, hG6⟩
        have hx6 := s6 _ _ hx5
        have ro6 := ro5.mono s6
        have ch6 := ch5.mono s6
        have hD6 := s6 _ _ hG5
        have sw6 := Same.trans sw5 s6
        have D2x : D2 ≠ x := fun z => by rw [z, hx6] at hG6; cases hG6
        rw [List.length_map, ch5.1] at hG6
        have egiv : ((List.range ws.length).filter fun k => decide (mA i ws k ≠ 0)) = giv i ws := rfl
        rw [egiv] at hG6
        have B6 : OutB K CR G6 y D D2 i b ws := ⟨ro6, ⟨xs, hD6, ch6⟩, hG6⟩
        have setx : ∀ {G : Hp} {fl : List (Str × V)} (o : HO), OutB K CR G y D D2 i b ws → G D = some (.lst (xs.map V.ref)) → G x = some (.ins C dx fl) → OutB K CR (upd G x o) y D D2 i b ws ∧ upd G x o D = some (.lst (xs.map V.ref)) := fun {G fl} o hB hD' hx => by
          obtain ⟨b1, ⟨xs', b2, b3⟩, b4⟩ := hB
          have hD'' := (upd_ne (H := G) (o := o) Dx).trans hD'
          have exs : xs' = xs := by
            rw [hD'] at b2
            have := HO.lst.inj (Option.some.inj b2)
            exact (List.map_inj_right (fun a b h => V.ref.inj h)).mp this.symm
          subst exs
          exact ⟨⟨RouAt.putI b1 yx hx, ⟨xs', hD'', Chosen.putI b3 xn hx⟩, (upd_ne D2x).trans b4⟩, hD''⟩
        refine ⟨_, rfl, x, C, dx, _, rfl, hx6, oc.cl, oc.ng, (show 3 < 1000 by decide), ?_⟩
        have B7 := setx (.ins C dx (putF "giving" (.ref D2) (putF "rounds" (.ref D) (putF "begin" (.ref y) (putF "most" (.bl most) []))))) B6 hD6 hx6
        have sw7 := NF.Same.put (o := .ins C dx (putF "giving" (.ref D2) (putF "rounds" (.ref D) (putF "begin" (.ref y) (putF "most" (.bl most) []))))) sw6 wo_none
        have hx7 := upd_same (H := G6) (a := x) (o := .ins C dx (putF "giving" (.ref D2) (putF "rounds" (.ref D) (putF "begin" (.ref y) (putF "most" (.bl most) [])))))
        generalize upd G6 x (.ins C dx (putF "giving" (.ref D2) (putF "rounds" (.ref D) (putF "begin" (.ref y) (putF "most" (.bl most) []))))) = G7 at B7 sw7 hx7
        refine ⟨_, rfl, x, C, dx, _, rfl, hx7, oc.cl, oc.ns, (show 4 < 1000 by decide), ?_⟩
        have B8 := setx (.ins C dx (putF "shares" (.int 1) (putF "giving" (.ref D2) (putF "rounds" (.ref D) (putF "begin" (.ref y) (putF "most" (.bl most) [])))))) B7.1 B7.2 hx7
        have sw8 := NF.Same.put (o := .ins C dx (putF "shares" (.int 1) (putF "giving" (.ref D2) (putF "rounds" (.ref D) (putF "begin" (.ref y) (putF "most" (.bl most) [])))))) sw7 wo_none
        have hx8 := upd_same (H := G7) (a := x) (o := .ins C dx (putF "shares" (.int 1) (putF "giving" (.ref D2) (putF "rounds" (.ref D) (putF "begin" (.ref y) (putF "most" (.bl most) []))))))
        generalize upd G7 x (.ins C dx (putF "shares" (.int 1) (putF "giving" (.ref D2) (putF "rounds" (.ref D) (putF "begin" (.ref y) (putF "most" (.bl most) [])))))) = G8 at B8 sw8 hx8
        refine ⟨(by show 1 ≤ sizeLine; decide), fun p1 hp1 => ?_⟩
        have s9 := NF.Same.new (o := .lst [V.int 0]) (Same.refl G8) hp1
        have hx9 := s9 _ _ hx8
        have sw9 := Same.trans sw8 s9
        have B9 := B8.1.mono s9
        have hD9 := s9 _ _ B8.2
        generalize upd G8 p1 (.lst [V.int 0]) = G9 at s9 hx9 sw9 B9 hD9
        refine ⟨_, rfl, x, C, dx, _, rfl, hx9, oc.cl, oc.nt, (show 5 < 1000 by decide), ?_⟩
        have BA := setx (.ins C dx (putF "taken" (.ref p1) (putF "shares" (.int 1) (putF "giving" (.ref D2) (putF "rounds" (.ref D) (putF "begin" (.ref y) (putF "most" (.bl most) []))))))) B9 hD9 hx9
        have swA := NF.Same.put (o := .ins C dx (putF "taken" (.ref p1) (putF "shares" (.int 1) (putF "giving" (.ref D2) (putF "rounds" (.ref D) (putF "begin" (.ref y) (putF "most" (.bl most) []))))))) sw9 wo_none
        have hxA := upd_same (H := G9) (a := x) (o := .ins C dx (putF "taken" (.ref p1) (putF "shares" (.int 1) (putF "giving" (.ref D2) (putF "rounds" (.ref D) (putF "begin" (.ref y) (putF "most" (.bl most) [])))))))
        generalize upd G9 x (.ins C dx (putF "taken" (.ref p1) (putF "shares" (.int 1) (putF "giving" (.ref D2) (putF "rounds" (.ref D) (putF "begin" (.ref y) (putF "most" (.bl most) []))))))) = GA at BA swA hxA
        refine ⟨(by show 1 ≤ sizeLine; decide), fun p2 hp2 => ?_⟩
        have sB := NF.Same.new (o := .lst [V.non]) (Same.refl GA) hp2
        have hxB := sB _ _ hxA
        have swB := Same.trans swA sB
        have BB := BA.1.mono sB
        have hDB := sB _ _ BA.2
        generalize upd GA p2 (.lst [V.non]) = GB at sB hxB swB BB hDB
        refine ⟨_, rfl, x, C, dx, _, rfl, hxB, oc.cl, oc.nl, (show 6 < 1000 by decide), ?_⟩
        have BC := setx (.ins C dx (of most y D D2 1 p1 p2)) BB hDB hxB
        have swC := NF.Same.put (o := .ins C dx (of most y D D2 1 p1 p2)) swB wo_none
        exact q _ 1 p1 p2 swC ⟨dx, y, D, D2, upd_same, BC.1⟩
end
end K28
set_option linter.all false
set_option maxHeartbeats 4000000
/-! What the rounds cost in shares, and the last rounds. Plain Lean. -/
namespace NT
/-- the toll of a round -/
def toll (free : Option Nat) (k : Nat) : Nat := match free with
  | none => 1
  | some j => if k = j then 0 else 1
theorem toll_le (free : Option Nat) (k : Nat) : toll free k ≤ 1 := by
  cases free with
  | none => exact Nat.le_refl _
  | some j =>
    show (if k = j then 0 else 1) ≤ 1
    split <;> omega
def dSh (most : Bool) (i : Nat) (ws : List (List Deed)) (free : Option Nat) (sh : Int) (k : Nat) : Int := dA most i ws k * sh + (toll free k : Int)
/-- the last rounds tell the way back, below B -/
def Trc (most : Bool) (i : Nat) (ws : List (List Deed)) (free : Option Nat) (sh : Int) (many B : Nat) (U : Nat → Option Int) (L : Nat → Option Nat) : Prop :=
  ∀ g, 0 < g → g ≤ many → ∀ u, U g = some u → ∃ k ∈ giv i ws, L g = some k ∧ mA i ws k ≤ g ∧ g - mA i ws k ≤ B ∧ U (g - mA i ws k) = some (u - dSh most i ws free sh k)
/-- what was found for each number of pieces -/
structure Lkd (most : Bool) (i : Nat) (ws : List (List Deed)) (free : Option Nat) (sh : Int) (many : Nat) (U : Nat → Option Int) (L : Nat → Option Nat) : Prop where
  u : ∀ g, g ≤ many → MinOf (Rch (giv i ws) (mA i ws) (dSh most i ws free sh) g) (U g)
  t : Trc most i ws free sh many many U L
/-- so far: all behind fewer than B pieces, the first j behind B -/
structure Lkn (most : Bool) (i : Nat) (ws : List (List Deed)) (free : Option Nat) (sh : Int) (many B j : Nat) (U : Nat → Option Int) (L : Nat → Option Nat) : Prop where
  u : ∀ g, g ≤ many → MinOf (Psh (giv i ws) (mA i ws) (dSh most i ws free sh) B j g) (U g)
  t : Trc most i ws free sh many B U L
section
variable {most : Bool} {i : Nat} {ws : List (List Deed)} {free : Option Nat} {sh : Int} {many B j : Nat} {U : Nat → Option Int} {L : Nat → Option Nat}
theorem lkn_zero : Lkn most i ws free sh many 0 0 (fun g => if g = 0 then some 0 else none) (fun _ => none) :=
  ⟨fun g _ => psh_zero g, fun g h0 _ u e => by
    rw [if_neg (by omega)] at e
    cases e⟩
theorem Trc.up {B' : Nat} (h : Trc most i ws free sh many B U L) (le : B ≤ B') : Trc most i ws free sh many B' U L := fun g h0 hg u e => by
  obtain ⟨k, hk, h1, h2, h3, h4⟩ := h g h0 hg u e
  exact ⟨k, hk, h1, h2, by omega, h4⟩
theorem Lkn.done (h : Lkn most i ws free sh many many 0 U L) : Lkd most i ws free sh many U L := ⟨fun g hg => (h.u g hg).congr (psh_done giv_pos hg), h.t⟩
theorem Lkn.next (h : Lkn most i ws free sh many B (giv i ws).length U L) : Lkn most i ws free sh many (B + 1) 0 U L := ⟨fun g hg => (h.u g hg).congr psh_next, h.t.up (by omega)⟩
/-- what is told for B pieces is final -/
theorem Lkn.at_B (h : Lkn most i ws free sh many B j U L) (hB : B ≤ many) : MinOf (Rch (giv i ws) (mA i ws) (dSh most i ws free sh) B) (U B) := (h.u B hB).congr (psh_done giv_pos (Nat.le_refl B))
theorem Lkn.none (h : Lkn most i ws free sh many B j U L) (hB : B ≤ many) (e : U B = none) : Lkn most i ws free sh many B (j + 1) U L := by
  have hn := h.at_B hB
  rw [e] at hn
  exact ⟨fun g hg => ((h.u g hg).congr (psh_none hn)).congr fun c => (psh_none hn c).symm, h.t⟩
/-- too many pieces -/
theorem Lkn.far {k : Nat} (h : Lkn most i ws free sh many B j U L) (e : (giv i ws)[j]? = some k) (far : many < B + mA i ws k) : Lkn most i ws free sh many B (j + 1) U L :=
  ⟨fun g hg => psh_off e (by omega) (h.u g hg), h.t⟩
/-- no better than what was found -/
theorem Lkn.keep {k : Nat} {u : Int} (h : Lkn most i ws free sh many B j U L) (hB : B ≤ many) (e : (giv i ws)[j]? = some k) (hu : U B = some u) (hl : B + mA i ws k ≤ many) (no : less (u + dSh most i ws free sh k) (U (B + mA i ws k)) = false) : Lkn most i ws free sh many B (j + 1) U L := by
  have hm := h.at_B hB
  rw [hu] at hm
  refine ⟨fun g hg => ?_, h.t⟩
  by_cases c : g = B + mA i ws k
  · subst c
    have := psh_put e hm (h.u _ hg)
    rw [rlx_less, no] at this
    exact this
  · exact psh_off e c (h.u g hg)
/-- better than what was found -/
theorem Lkn.put {k : Nat} {u : Int} (h : Lkn most i ws free sh many B j U L) (hB : B ≤ many) (e : (giv i ws)[j]? = some k) (hu : U B = some u) (hl : B + mA i ws k ≤ many) (yes : less (u + dSh most i ws free sh k) (U (B + mA i ws k)) = true) :
    Lkn most i ws free sh many B (j + 1) (fun g => if g = B + mA i ws k then some (u + dSh most i ws free sh k) else U g) (fun g => if g = B + mA i ws k then some k else L g) := by
  have hm := h.at_B hB
  rw [hu] at hm
  have hk := List.mem_of_getElem? e
  have k1 := giv_pos k hk
  refine ⟨fun g hg => ?_, fun g h0 hg v ev => ?_⟩
  · by_cases c : g = B + mA i ws k
    · subst c
      rw [if_pos rfl]
      have := psh_put e hm (h.u _ hg)
      rw [rlx_less, yes] at this
      exact this
    · rw [if_neg c]
      exact psh_off e c (h.u g hg)
  · by_cases c : g = B + mA i ws k
    · subst c
      rw [if_pos rfl] at ev
      have ev := Option.some.inj ev
      refine ⟨k, hk, if_pos rfl, by omega, by omega, ?_⟩
      rw [Nat.add_sub_cancel, if_neg (by omega), hu, ← ev]
      congr 1
      omega
    · rw [if_neg c] at ev ⊢
      obtain ⟨q, hq, h1, h2, h3, h4⟩ := h.t g h0 hg v ev
      have q1 := giv_pos q hq
      refine ⟨q, hq, h1, h2, h3, ?_⟩
      rw [if_neg (by omega)]
      exact h4
theorem setmap_range {α : Type} {f : Nat → α} {n k : Nat} {v : α} (h : k < n) : ((List.range n).map f).set k v = (List.range n).map fun g => if g = k then v else f g := by
  apply List.ext_getElem?
  intro g
  rw [List.getElem?_set, List.length_map, List.length_range]
  by_cases c : g < n
  · rw [List.getElem?_map, List.getElem?_map, List.getElem?_range c]
    by_cases e : k = g
    · subst e
      rw [if_pos rfl, if_pos c]
      show some v = some (if k = k then v else f k)
      rw [if_pos rfl]
    · rw [if_neg e]
      show some (f g) = some (if g = k then v else f g)
      rw [if_neg (fun z => e z.symm)]
  · rw [List.getElem?_map, List.getElem?_map, List.getElem?_eq_none (by rw [List.length_range]; omega)]
    by_cases e : k = g
    · rw [if_pos e, if_neg (by omega)]
      rfl
    · rw [if_neg e]
      rfl
/-! ### a course, told by the last rounds -/
theorem Lkd.zero (h : Lkd most i ws free sh many U L) : U 0 = some 0 := by
  have := (h.u 0 (Nat.zero_le _)).one (b := some 0) ⟨rch_nil, fun c hc => by
    rcases rch_inv hc with ⟨_, rfl⟩ | ⟨k, hk, g', c', _, e, _⟩
    · exact Int.le_refl _
    · have := giv_pos k hk
      omega⟩
  exact this
end
/-! ### values, found step by step -/
/-- the (j+1)-th piece: rounds behind fewer than B pieces, and behind B those of the first jj ways, and the first t marks of the next way -/
def Psv (G : List Nat) (m : Nat → Nat) (d : Nat → Int) (mk : Nat → Nat → Int) (B jj t j : Nat) (c : Int) : Prop := ∃ idx k a g c', G[idx]? = some k ∧ a < m k ∧ g + a = j ∧ Rch G m d g c' ∧ c = c' + mk k a ∧ (g < B ∨ (g = B ∧ (idx < jj ∨ (idx = jj ∧ a < t))))
section
variable {G : List Nat} {m : Nat → Nat} {d : Nat → Int} {mk : Nat → Nat → Int} {B jj t j k n : Nat} {o : Option Int}
theorem psv_zero : MinOf (Psv G m d mk 0 0 0 j) none := fun c ⟨idx, k, a, g, c', _, _, _, _, _, h⟩ => by omega
theorem psv_put {u : Int} (e : G[jj]? = some k) (hu : MinOf (Rch G m d B) (some u)) (ht : t < m k) (ho : MinOf (Psv G m d mk B jj t (B + t)) o) : MinOf (Psv G m d mk B jj (t + 1) (B + t)) (rlx o (u + mk k t)) := by
  refine (ho.push (T := fun c => ∃ c', Rch G m d B c' ∧ c = c' + mk k t) ⟨⟨u, hu.1, rfl⟩, fun c ⟨c', r, e'⟩ => by have := hu.2 c' r; omega⟩).congr fun c => ⟨fun z => ?_, ?_⟩
  · rcases z with ⟨idx, k', a, g, c', e1, e2, e3, e4, e5, e6⟩ | ⟨c', r, e1⟩
    · exact ⟨idx, k', a, g, c', e1, e2, e3, e4, e5, by omega⟩
    · exact ⟨jj, k, t, B, c', e, ht, rfl, r, e1, by omega⟩
  · rintro ⟨idx, k', a, g, c', e1, e2, e3, e4, e5, e6⟩
    by_cases z : g = B ∧ idx = jj
    · obtain ⟨rfl, rfl⟩ := z
      rw [e] at e1
      cases e1
      obtain rfl : a = t := by omega
      exact .inr ⟨c', e4, e5⟩
    · exact .inl ⟨idx, k', a, g, c', e1, e2, e3, e4, e5, by omega⟩
theorem psv_off (hj : j ≠ B + t) (ho : MinOf (Psv G m d mk B jj t j) o) : MinOf (Psv G m d mk B jj (t + 1) j) o :=
  ho.congr fun c => ⟨fun ⟨idx, k', a, g, c', e1, e2, e3, e4, e5, e6⟩ => ⟨idx, k', a, g, c', e1, e2, e3, e4, e5, by omega⟩, fun ⟨idx, k', a, g, c', e1, e2, e3, e4, e5, e6⟩ => ⟨idx, k', a, g, c', e1, e2, e3, e4, e5, by omega⟩⟩
theorem psv_way (e : G[jj]? = some k) (hj : j < n) (ho : MinOf (Psv G m d mk B jj (min (n - B) (m k)) j) o) : MinOf (Psv G m d mk B (jj + 1) 0 j) o :=
  ho.congr fun c => ⟨fun ⟨idx, k', a, g, c', e1, e2, e3, e4, e5, e6⟩ => ⟨idx, k', a, g, c', e1, e2, e3, e4, e5, by omega⟩, fun ⟨idx, k', a, g, c', e1, e2, e3, e4, e5, e6⟩ => by
    refine ⟨idx, k', a, g, c', e1, e2, e3, e4, e5, ?_⟩
    by_cases z : idx = jj
    · subst z
      rw [e] at e1
      cases e1
      omega
    · omega⟩
theorem psv_next (ho : MinOf (Psv G m d mk B G.length 0 j) o) : MinOf (Psv G m d mk (B + 1) 0 0 j) o :=
  ho.congr fun c => ⟨fun ⟨idx, k', a, g, c', e1, e2, e3, e4, e5, e6⟩ => ⟨idx, k', a, g, c', e1, e2, e3, e4, e5, by omega⟩, fun ⟨idx, k', a, g, c', e1, e2, e3, e4, e5, e6⟩ => by
    have := (List.getElem?_eq_some_iff.mp e1).1
    exact ⟨idx, k', a, g, c', e1, e2, e3, e4, e5, by omega⟩⟩
theorem psv_none (hn : MinOf (Rch G m d B) none) (ho : MinOf (Psv G m d mk B 0 0 j) o) : MinOf (Psv G m d mk (B + 1) 0 0 j) o :=
  ho.congr fun c => ⟨fun ⟨idx, k', a, g, c', e1, e2, e3, e4, e5, e6⟩ => ⟨idx, k', a, g, c', e1, e2, e3, e4, e5, by omega⟩, fun ⟨idx, k', a, g, c', e1, e2, e3, e4, e5, e6⟩ => by
    refine ⟨idx, k', a, g, c', e1, e2, e3, e4, e5, ?_⟩
    by_cases z : g = B
    · rw [z] at e4
      exact absurd e4 (hn c')
    · omega⟩
theorem psv_done (hj : j < n) (ho : MinOf (Psv G m d mk n 0 0 j) o) : MinOf (Wv G m d mk (j + 1)) o :=
  ho.congr fun c => ⟨fun ⟨idx, k', a, g, c', e1, e2, e3, e4, e5, e6⟩ => ⟨k', List.mem_of_getElem? e1, a, g, c', e2, by omega, e4, e5⟩, fun ⟨k', hk, a, g, c', e2, e3, e4, e5⟩ => by
    obtain ⟨idx, hi, e⟩ := List.mem_iff_getElem.mp hk
    exact ⟨idx, k', a, g, c', by rw [List.getElem?_eq_getElem hi, e], e2, by omega, e4, e5, by omega⟩⟩
end
/-! ### the same, told from the pieces ahead -/
noncomputable def optR (S : Int → Prop) : Option Int := open Classical in if h : ∃ o, MinOf S o then h.choose else none
theorem optR_is {S : Int → Prop} (h : ∃ o, MinOf S o) : MinOf S (optR S) := by
  unfold optR
  rw [dif_pos h]
  exact h.choose_spec
/-- the least cost of rounds that give g pieces -/
noncomputable def opt (most : Bool) (i : Nat) (ws : List (List Deed)) (g : Nat) : Option Int := optR (Rch (giv i ws) (mA i ws) (dA most i ws) g)
section
variable {most : Bool} {i : Nat} {ws : List (List Deed)}
theorem opt_is (g : Nat) : MinOf (Rch (giv i ws) (mA i ws) (dA most i ws) g) (opt most i ws g) := optR_is (rch_min giv_pos g)
theorem opt_zero : opt most i ws 0 = some 0 := by
  refine (opt_is 0).one ⟨rch_nil, fun c hc => ?_⟩
  rcases rch_inv hc with ⟨_, rfl⟩ | ⟨k, hk, g', c', _, e, _⟩
  · exact Int.le_refl _
  · have := giv_pos k hk
    omega
theorem opt_pull {n : Nat} (hn : 1 ≤ n) {zs : List Int} (hz : ∀ z, z ∈ zs ↔ ∃ k ∈ giv i ws, mA i ws k ≤ n ∧ ∃ u, opt most i ws (n - mA i ws k) = some u ∧ z = u + dA most i ws k) :
    (zs = [] → opt most i ws n = none) ∧ ∀ z ∈ zs, (∀ y ∈ zs, z ≤ y) → opt most i ws n = some z := by
  have down : ∀ c, Rch (giv i ws) (mA i ws) (dA most i ws) n c → ∃ z ∈ zs, z ≤ c := fun c hc => by
    rcases rch_inv hc with ⟨h0, _⟩ | ⟨k, hk, g', c', r, e1, e2⟩
    · omega
    · have mo := opt_is (most := most) (i := i) (ws := ws) (n - mA i ws k)
      rw [show n - mA i ws k = g' by omega] at mo
      cases hu : opt most i ws g' with
      | none =>
        rw [hu] at mo
        exact absurd r (mo c')
      | some u =>
        rw [hu] at mo
        have := mo.2 c' r
        exact ⟨u + dA most i ws k, (hz _).mpr ⟨k, hk, by omega, u, by rw [show n - mA i ws k = g' by omega, hu], rfl⟩, by omega⟩
  refine ⟨fun e => (opt_is n).one fun c hc => ?_, fun z hzz hall => (opt_is n).one ⟨?_, fun c hc => ?_⟩⟩
  · obtain ⟨z, h, _⟩ := down c hc
    rw [e] at h
    cases h
  · obtain ⟨k, hk, le, u, hu, rfl⟩ := (hz z).mp hzz
    have mo := opt_is (most := most) (i := i) (ws := ws) (n - mA i ws k)
    rw [hu] at mo
    have := rch_step mo.1 hk
    rw [show n - mA i ws k + mA i ws k = n by omega] at this
    exact this
  · obtain ⟨y, hy, le⟩ := down c hc
    have := hall y hy
    omega
theorem best_pull {n : Nat} (hn : 1 ≤ n) {zs : List Int} (hz : ∀ z, z ∈ zs ↔ ∃ k ∈ giv i ws, ∃ a, a < mA i ws k ∧ a < n ∧ ∃ u, opt most i ws (n - a - 1) = some u ∧ z = u + mkA most i ws k a) :
    (giv i ws ≠ [] → zs ≠ []) ∧ ∀ z ∈ zs, (∀ y ∈ zs, z ≤ y) → best most i ws n = z := by
  have down : ∀ c, Wv (giv i ws) (mA i ws) (dA most i ws) (mkA most i ws) n c → ∃ z ∈ zs, z ≤ c := fun c hc => by
    obtain ⟨k, hk, a, g, c', ha, e1, r, rfl⟩ := hc
    have mo := opt_is (most := most) (i := i) (ws := ws) g
    cases hu : opt most i ws g with
    | none =>
      rw [hu] at mo
      exact absurd r (mo c')
    | some u =>
      rw [hu] at mo
      have := mo.2 c' r
      exact ⟨u + mkA most i ws k a, (hz _).mpr ⟨k, hk, a, ha, by omega, u, by rw [show n - a - 1 = g by omega, hu], rfl⟩, by omega⟩
  refine ⟨fun hg e => ?_, fun z hzz hall => minV_of ⟨?_, fun c hc => ?_⟩⟩
  · obtain ⟨kb, hkb⟩ := List.exists_mem_of_ne_nil _ hg
    obtain ⟨c, hc⟩ := wv_some (d := dA most i ws) (mk := mkA most i ws) hkb giv_pos hn
    obtain ⟨z, h, _⟩ := down c hc
    rw [e] at h
    cases h
  · obtain ⟨k, hk, a, ha, an, u, hu, rfl⟩ := (hz z).mp hzz
    have mo := opt_is (most := most) (i := i) (ws := ws) (n - a - 1)
    rw [hu] at mo
    exact ⟨k, hk, a, n - a - 1, u, ha, by omega, mo.1, rfl⟩
  · obtain ⟨y, hy, le⟩ := down c hc
    have := hall y hy
    omega
end
end NT
set_option Elab.async false
set_option linter.all false
set_option maxRecDepth 100000
set_option maxHeartbeats 4000000
namespace K28
open PySem PySem.Spec PyProof.Rows L2 He NF RZ NT
def tkn (most : Bool) (U : Nat → Option Int) (many : Nat) : List V := (List.range (many + 1)).map fun g => vO ((U g).map (sg most * ·))
def lst (L : Nat → Option Nat) (many : Nat) : List V := (List.range (many + 1)).map fun g => vOn (L g)
/-- find out what rounds take -/
def spLook (K : PySem.W.Frag) (C CR : Addr) : Sp := fun vs H Q _ => ∃ (x : Addr) (most : Bool) (i : Nat) (b : List Deed) (ws : List (List Deed)) (sh : Int) (pt pl : Addr) (many : Nat) (free : Option Nat), vs = [.ref x, .int (many : Int), vOn free] ∧ OutAt K C CR H x most i b ws sh pt pl ∧ many ≤ 5000 ∧ ws.length ≤ 4 ∧
  ∀ H' U L pt' pl', Same (wo H x) H' → OutAt K C CR H' x most i b ws ((many + 1 : Nat) : Int) pt' pl' → H' pt' = some (.lst (tkn most U many)) → H' pl' = some (.lst (lst L many)) → Lkd most i ws free ((many + 1 : Nat) : Int) many U L → Q .non H'
theorem ixN_n {n j : Nat} (h : j < n) : ixN n (j : Int) = some j := by
  unfold ixN
  rw [if_pos (by omega), if_pos (by omega)]
  rfl
theorem less_sg {most : Bool} {w : Int} {o : Option Int} : less (sg most * (sg most * w)) ((o.map (sg most * ·)).map (sg most * ·)) = less w o := by
  have e : ∀ z : Int, sg most * (sg most * z) = z := fun z => by rw [← Int.mul_assoc, sg_sq, Int.one_mul]
  cases o with
  | none => rfl
  | some u =>
    show decide (sg most * (sg most * w) < sg most * (sg most * u)) = decide (w < u)
    rw [e, e]
theorem sc_Outlook_look : FnScope ["self", "many", "free", "toll", "tolls", "given", "number", "behind", "taken"] ["self", "many", "free"] (defScope s_Outlook_look) := ⟨rfl, rfl, rfl, by decide +kernel, rfl, by decide +kernel, by decide +kernel⟩
theorem ifSg {most : Bool} {σ : L2.St} {H : Hp} {Q : VK} {X : Prop} (hx : tC (.int (-1)) σ H Q → X) (h : tC (.int (sg most)) σ H Q) : if most = true then X else tC (.int 1) σ H Q := by
  cases most with
  | true => exact iteT (hx h)
  | false => exact iteF h
theorem ofs (most : Bool) (xb pr pg : Addr) (sh s' : Int) (pt pl : Addr) : putF "shares" (.int s') (of most xb pr pg sh pt pl) = of most xb pr pg s' pt pl := by rfl
theorem oft (most : Bool) (xb pr pg : Addr) (sh : Int) (pt pl p : Addr) : putF "taken" (.ref p) (of most xb pr pg sh pt pl) = of most xb pr pg sh p pl := by rfl
theorem ofl (most : Bool) (xb pr pg : Addr) (sh : Int) (pt pl p : Addr) : putF "lasts" (.ref p) (of most xb pr pg sh pt pl) = of most xb pr pg sh pt p := by rfl
theorem OutB.putX {K : PySem.W.Frag} {C CR : Addr} {G : Hp} {xb pr pg x dx : Addr} {i : Nat} {b : List Deed} {ws : List (List Deed)} {fl : List (Str × V)} {o : HO} (h : OutB K CR G xb pr pg i b ws) (hx : G x = some (.ins C dx fl)) (hf : fl.length ≠ 2) : OutB K CR (upd G x o) xb pr pg i b ws := by
  have ne : ∀ {y : Addr} {r : List Deed}, RouAt K CR G y i r → y ≠ x := fun {y r} h z => by
    obtain ⟨dy, m, h1, _⟩ := h
    rw [z, hx] at h1
    have := congrArg List.length (HO.ins.inj (Option.some.inj h1)).2.2
    exact hf this
  obtain ⟨h1, ⟨xs, h2, h3⟩, h4⟩ := h
  refine ⟨RouAt.putI h1 (ne h1) hx, ⟨xs, (upd_ne fun z => by rw [z, hx] at h2; cases h2).trans h2, h3.1, fun j y r e1 e2 => ?_⟩, (upd_ne fun z => by rw [z, hx] at h4; cases h4).trans h4⟩
  have := h3.2 j y r e1 e2
  exact RouAt.putI this (ne this) hx
theorem RouAt.woL {K : PySem.W.Frag} {CR : Addr} {G : Hp} {y p : Addr} {i : Nat} {r : List Deed} {l : List V} (h : RouAt K CR G y i r) (hp : G p = some (.lst l)) : RouAt K CR (wo G p) y i r := by
  obtain ⟨dy, m, h1, h2⟩ := h
  exact ⟨dy, m, (wo_ne fun z => by rw [z, hp] at h1; cases h1).trans h1, SqT.wo h2 hp trivial⟩
theorem OutB.woL {K : PySem.W.Frag} {CR : Addr} {G : Hp} {xb pr pg p : Addr} {i : Nat} {b : List Deed} {ws : List (List Deed)} {l : List V} (h : OutB K CR G xb pr pg i b ws) (hp : G p = some (.lst l)) (n1 : pr ≠ p) (n2 : pg ≠ p) : OutB K CR (wo G p) xb pr pg i b ws := by
  obtain ⟨h1, ⟨xs, h2, h3⟩, h4⟩ := h
  exact ⟨RouAt.woL h1 hp, ⟨xs, (wo_ne n1).trans h2, h3.1, fun j y r e1 e2 => RouAt.woL (h3.2 j y r e1 e2) hp⟩, (wo_ne n2).trans h4⟩
theorem tkn_get {most : Bool} {U : Nat → Option Int} {many g : Nat} (h : g ≤ many) : (tkn most U many)[g]? = some (vO ((U g).map (sg most * ·))) := by
  unfold tkn
  rw [List.getElem?_map, List.getElem?_range (by omega)]
  rfl
theorem lst_get {L : Nat → Option Nat} {many g : Nat} (h : g ≤ many) : (lst L many)[g]? = some (vOn (L g)) := by
  unfold lst
  rw [List.getElem?_map, List.getElem?_range (by omega)]
  rfl
theorem tkn_set {most : Bool} {U : Nat → Option Int} {many g : Nat} {u : Int} (h : g ≤ many) : (tkn most U many).set g (.int (sg most * u)) = tkn most (fun k => if k = g then some u else U k) many := by
  unfold tkn
  rw [setmap_range (by omega)]
  refine List.map_congr_left fun k _ => ?_
  show (if k = g then V.int (sg most * u) else vO ((U k).map (sg most * ·))) = vO ((if k = g then some u else U k).map (sg most * ·))
  by_cases e : k = g
  · rw [if_pos e, if_pos e]; rfl
  · rw [if_neg e, if_neg e]
theorem lst_set {L : Nat → Option Nat} {many g k : Nat} (h : g ≤ many) : (lst L many).set g (.int (k : Int)) = lst (fun j => if j = g then some k else L j) many := by
  unfold lst
  rw [setmap_range (by omega)]
  refine List.map_congr_left fun j _ => ?_
  show (if j = g then V.int (k : Int) else vOn (L j)) = vOn (if j = g then some k else L j)
  by_cases e : j = g
  · rw [if_pos e, if_pos e]; rfl
  · rw [if_neg e, if_neg e]
theorem rep_one {v : V} {n : Nat} : (List.replicate n [v]).flatten = (List.range n).map fun _ => v := by
  induction n with
  | zero => rfl
  | succ n ih => rw [List.replicate_succ', List.flatten_append, ih, List.range_succ, List.map_append]; rfl
theorem tkn_zero {most : Bool} {many : Nat} : [V.int 0] ++ (List.replicate many [V.non]).flatten = tkn most (fun g => if g = 0 then some 0 else none) many := by
  unfold tkn
  rw [List.range_succ_eq_map, List.map_cons, rep_one]
  show V.int 0 :: _ = V.int (sg most * 0) :: _
  rw [Int.mul_zero, List.map_map]
  rfl
section
variable {P : Program} {w : World} {K : PySem.W.Frag} {mg : Str → Option Value} {base : Heap} {gs fs : List Str} {C CM CR : Addr}
theorem ok_Outlook_look {f : Addr} {fd : FuncData} (F : FunD K "look" "Outlook.look" (defArgs s_Outlook_look) (defBody s_Outlook_look) (defScope s_Outlook_look) [] [] f fd) (T : Txt K mg gs FS) (oc : OutC K C) (rc : RouC K CR) (o_better : MetC P w K mg base 1 C "better" (spBet K C)) : FnOk P w K mg base CX0 3 f fd ["self", "many", "free"] (spLook K C CR) := by
  refine F.ok sc_Outlook_look (fun vs H Q E h => ?_) (fun cdv A outer s H vs Q E hr h => ?_)
  · obtain ⟨x, most, i, b, ws, sh, pt, pl, many, free, rfl, _⟩ := h
    rfl
  · obtain ⟨x, most, i, b, ws, sh, pt0, pl0, many, free, rfl, ⟨dx, xb, pr, pg, hx, hB⟩, hmany, hw4, q⟩ := h
    refine ⟨_, PSs.nox (pss_cons (ps_fld (pv 0) (pe_op op_add (pv 1) pe_int) rfl) (pss_cons (ps_set (i := 3) sc_Outlook_look.nd rfl (Or.inr rfl) (pe_ifExp (pt_val (pe_fld (pv 0) rfl)) (pe_un un_neg pe_int) pe_int)) (pss_cons (ps_setLc (i := 4) (own := [("number", 6)]) rfl sc_Outlook_look.nd rfl rfl (sw_true rfl rfl rfl (by decide +kernel)) (pi_range1 rfl (T.fr _ (by decide +kernel)) (pa_cons (pe_callB call_len_seq rfl (T.fr _ (by decide +kernel)) boot_len (pa_cons (pe_fld (pv 0) rfl) pa_nil)) pa_nil)) (blkOk_by (N := ["self", "many", "free", "toll", "tolls", "given", "number", "behind", "taken"]) (sc := defScope s_Outlook_look) (by decide +kernel)) (fun _ _ _ _ _ => by exact (pg_name (i := 6) sc_Outlook_look.nd rfl (Or.inl rfl))) (fun _ _ _ _ _ => by exact pts_nil) (fun _ _ _ _ _ => by exact (pe_ifExp (pt_cmpR op_eq (pv 6) (pv 2) (nomark _)) pe_int (pv 3)))) (pss_cons (ps_fld (pv 0) (pe_op op_cat (pe_lst (pa_cons pe_int pa_nil)) (pe_op op_rep (pe_lst (pa_cons pe_non pa_nil)) (pv 1))) rfl) (pss_cons (ps_fld (pv 0) (pe_op op_rep (pe_lst (pa_cons pe_non pa_nil)) (pe_op op_add (pv 1) pe_int)) rfl) (pss_one (ps_for PassesOwn.never rfl (pi_range1 rfl (T.fr _ (by decide +kernel)) (pa_cons (pv 1) pa_nil)) (pg_name (i := 5) sc_Outlook_look.nd rfl (Or.inl rfl)) (pss_one (ps_for PassesOwn.never rfl (pi_list (pe_fld (pv 0) rfl)) (pg_name (i := 6) sc_Outlook_look.nd rfl (Or.inl rfl)) (pss_cons (ps_set (i := 7) sc_Outlook_look.nd rfl (Or.inl rfl) (pe_op op_add (pv 5) (pe_callB call_len_seq rfl (T.fr _ (by decide +kernel)) boot_len (pa_cons (pe_fld (pe_ix (ixl (K := K)) (pe_fld (pv 0) rfl) (pv 6) fun _ _ => rfl) rfl) pa_nil)))) (pss_one (ps_if (PW.pt (pw_and (pt_cmpR op_notN (pe_ix (ixl (K := K)) (pe_fld (pv 0) rfl) (pv 5) fun _ _ => rfl) pe_non (nomark _)) (pw_and1 (pt_cmpR op_le (pv 7) (pv 1) (nomark _))))) (pss_cons (ps_set (i := 8) sc_Outlook_look.nd rfl (Or.inl rfl) (pe_op op_add (pe_op op_add (pe_ix (ixl (K := K)) (pe_fld (pv 0) rfl) (pv 5) fun _ _ => rfl) (pe_op op_mul (pe_fld (pe_ix (ixl (K := K)) (pe_fld (pv 0) rfl) (pv 6) fun _ _ => rfl) rfl) (pe_fld (pv 0) rfl))) (pe_ix (ixl (K := K)) (pv 4) (pv 6) fun _ _ => rfl))) (pss_one (ps_if (pt_val (pe_mt (pv 0) o_better hr (by decide) (pa_cons (pv 8) (pa_cons (pe_ix (ixl (K := K)) (pe_fld (pv 0) rfl) (pv 7) fun _ _ => rfl) pa_nil)))) (pss_cons (ps_asg (pv 8) (pg_sub (pe_fld (pv 0) rfl) (pv 7) set_list)) (pss_one (ps_asg (pv 6) (pg_sub (pe_fld (pv 0) rfl) (pv 7) set_list)))) pss_nil))) pss_nil)))))))))))), ?_⟩
    refine ⟨_, rfl, _, _, rfl, rfl, _, rfl, x, C, dx, _, rfl, hx, oc.cl, oc.ns, (show 7 < 1000 by decide), ?_⟩
    rw [ofs]
    have e1 : (many : Int) + 1 = ((many + 1 : Nat) : Int) := by omega
    rw [e1]
    generalize hS : ((many + 1 : Nat) : Int) = S at q
    have B1 := OutB.putX (o := .ins C dx (of most xb pr pg S pt0 pl0)) hB hx (show 7 ≠ 2 by decide)
    have sw1 := NF.Same.put (o := .ins C dx (of most xb pr pg S pt0 pl0)) (wo_same' (H := H) (p := x)) wo_none
    have hx1 := upd_same (H := H) (a := x) (o := .ins C dx (of most xb pr pg S pt0 pl0))
    generalize upd H x (.ins C dx (of most xb pr pg S pt0 pl0)) = H1 at B1 sw1 hx1
    refine ⟨_, rfl, x, C, dx, _, _, rfl, hx1, oc.cl, oc.nm, rfl, most, rfl, ?_⟩
    refine ifSg (fun h => ⟨_, rfl, h⟩) ?_
    -- the tolls
    obtain ⟨_, ⟨xs, hr1, xl, hro⟩, hg1⟩ := id B1
    refine ⟨_, rfl, x, C, dx, _, _, rfl, hx1, oc.cl, oc.nr, rfl, pr, _, rfl, .inl (SqL.of hr1), ?_⟩
    rw [List.length_map, xl]
    refine ⟨_, rfl, by omega, by omega, fun td htd => ?_⟩
    refine lc_range (lo := 0) (n := ((ws.length : Nat) : Int).toNat) (fun j G => Same H1 G ∧ G td = some (.lst ((List.range j).map fun k => V.int (sg most * (toll free k : Int))))) ⟨NF.Same.new (Same.refl H1) htd, upd_same⟩ ?_ ?_
    · rintro j G hj ⟨sG, hG⟩
      have hj : j < ws.length := by omega
      have fin : ∃ acc, G td = some (HO.lst acc) ∧ acc.length < sizeLine ∧ (Same H1 (upd G td (.lst (acc ++ [V.int (sg most * (toll free j : Int))]))) ∧ upd G td (.lst (acc ++ [V.int (sg most * (toll free j : Int))])) td = some (.lst ((List.range (j + 1)).map fun k => V.int (sg most * (toll free k : Int))))) := by
        refine ⟨_, hG, by rw [List.length_map, List.length_range]; exact Nat.lt_of_lt_of_le (show j < 10000 by omega) (by decide), NF.Same.mut sG htd, ?_⟩
        rw [upd_same, List.range_succ, List.map_append]
        rfl
      refine ⟨rfl, _, rfl, _, rfl, by cases free <;> rfl, _, rfl, ?_⟩
      have ej : (0 : Int) + (j : Int) = (j : Int) := Int.zero_add _
      rw [ej]
      cases free with
      | none =>
        refine iteF' rfl ⟨_, rfl, ?_⟩
        have e : sg most = sg most * ((toll none j : Nat) : Int) := (Int.mul_one _).symm
        rw [← e] at fin
        exact fin
      | some j' =>
        by_cases c : j = j'
        · subst c
          refine iteT' (decide_eq_true rfl) ?_
          have e : (0 : Int) = sg most * ((toll (some j) j : Nat) : Int) := by
            unfold toll
            simp
          rw [← e] at fin
          exact fin
        · refine iteF' (decide_eq_false fun z => c (by injection z with z; omega)) ⟨_, rfl, ?_⟩
          have e : sg most = sg most * ((toll (some j') j : Nat) : Int) := by
            unfold toll
            simp [c]
          rw [← e] at fin
          exact fin
    · rintro G2 ⟨s2, hG2⟩
      have sw2 := Same.trans sw1 s2
      have hx2 := s2 _ _ hx1
      have B2 := B1.mono s2
      have td0 : H1 td = none := htd
      rw [Int.toNat_natCast] at hG2
      -- the list of what is taken
      refine ⟨(by show 1 ≤ sizeLine; decide), fun a1 ha1 => ?_⟩
      have t1 := NF.Same.new (o := .lst [V.int 0]) (Same.refl G2) ha1
      refine ⟨(by show 1 ≤ sizeLine; decide), fun a2 ha2 => ?_⟩
      have t2 := NF.Same.new (o := .lst [V.non]) t1 ha2
      have hA1 : upd (upd G2 a1 (.lst [V.int 0])) a2 (.lst [V.non]) a1 = some (.lst [V.int 0]) := (upd_ne (ne_of_none upd_same ha2)).trans upd_same
      have hA2 := upd_same (H := upd G2 a1 (.lst [V.int 0])) (a := a2) (o := .lst [V.non])
      generalize upd (upd G2 a1 (.lst [V.int 0])) a2 (.lst [V.non]) = G3 at t2 hA1 hA2
      refine ⟨_, rfl, a2, _, _, rfl, rfl, hA2, by omega, by omega, by rw [List.length_singleton, Int.toNat_natCast, Nat.one_mul]; exact Nat.le_trans (show many ≤ 10000 by omega) (by decide), fun a3 ha3 => ?_⟩
      have t3 := NF.Same.new (o := .lst (List.replicate ((many : Nat) : Int).toNat [V.non]).flatten) t2 ha3
      have hB1 : upd G3 a3 (.lst (List.replicate ((many : Nat) : Int).toNat [V.non]).flatten) a1 = some (.lst [V.int 0]) := (upd_ne (ne_of_none hA1 ha3)).trans hA1
      have hB3 := upd_same (H := G3) (a := a3) (o := .lst (List.replicate ((many : Nat) : Int).toNat [V.non]).flatten)
      generalize upd G3 a3 (.lst (List.replicate ((many : Nat) : Int).toNat [V.non]).flatten) = G4 at t3 hB1 hB3
      refine ⟨a1, a3, _, _, rfl, rfl, hB1, hB3, ?_, fun pt hpt => ?_⟩
      · rw [Int.toNat_natCast, rep_one, List.length_map, List.length_range, List.length_singleton]
        exact Nat.le_trans (show 1 + many ≤ 10000 by omega) (by decide)
      rw [Int.toNat_natCast, tkn_zero (most := most)]
      have t4 := NF.Same.new (o := .lst (tkn most (fun g => if g = 0 then some 0 else none) many)) t3 hpt
      have hpt4 := upd_same (H := G4) (a := pt) (o := .lst (tkn most (fun g => if g = 0 then some 0 else none) many))
      have pt2 : G2 pt = none := L2.Same.free t3 hpt
      generalize upd G4 pt (.lst (tkn most (fun g => if g = 0 then some 0 else none) many)) = G5 at t4 hpt4
      have hx5 := t4 _ _ hx2
      refine ⟨_, rfl, x, C, dx, _, rfl, hx5, oc.cl, oc.nt, (show 7 < 1000 by decide), ?_⟩
      rw [oft]
      have B6 := OutB.putX (o := .ins C dx (of most xb pr pg S pt pl0)) (B2.mono t4) hx5 (show 7 ≠ 2 by decide)
      have sw6 := NF.Same.put (o := .ins C dx (of most xb pr pg S pt pl0)) (Same.trans sw2 t4) wo_none
      have hx6 := upd_same (H := G5) (a := x) (o := .ins C dx (of most xb pr pg S pt pl0))
      have ptx : pt ≠ x := fun z => by rw [z, hx2] at pt2; cases pt2
      have tdx : td ≠ x := fun z => by rw [z, hx2] at hG2; cases hG2
      have hpt6 := (upd_ne (H := G5) (o := .ins C dx (of most xb pr pg S pt pl0)) ptx).trans hpt4
      have htd6 := (upd_ne (H := G5) (o := .ins C dx (of most xb pr pg S pt pl0)) tdx).trans (t4 _ _ hG2)
      generalize upd G5 x (.ins C dx (of most xb pr pg S pt pl0)) = G6 at B6 sw6 hx6 hpt6 htd6
      -- the last ways
      refine ⟨(by show 1 ≤ sizeLine; decide), fun b1 hb1 => ?_⟩
      have t7 := NF.Same.new (o := .lst [V.non]) (Same.refl G6) hb1
      have hb1' := upd_same (H := G6) (a := b1) (o := .lst [V.non])
      generalize upd G6 b1 (.lst [V.non]) = G7 at t7 hb1'
      refine ⟨_, rfl, _, _, rfl, rfl, b1, _, _, rfl, rfl, hb1', by omega, by omega, by rw [List.length_singleton, Nat.one_mul]; exact Nat.le_trans (show ((many : Int) + 1).toNat ≤ 10000 by omega) (by decide), fun pl hpl => ?_⟩
      have elst : (List.replicate ((many : Int) + 1).toNat [V.non]).flatten = lst (fun _ => none) many := by
        rw [show ((many : Int) + 1).toNat = many + 1 by omega, rep_one]
        rfl
      rw [elst]
      have t8 := NF.Same.new (o := .lst (lst (fun _ => none) many)) t7 hpl
      have pl6 : G6 pl = none := L2.Same.free t7 hpl
      have hpl8 := upd_same (H := G7) (a := pl) (o := .lst (lst (fun _ => none) many))
      generalize upd G7 pl (.lst (lst (fun _ => none) many)) = G8 at t8 hpl8
      have hx8 := t8 _ _ hx6
      have plx : pl ≠ x := fun z => by rw [z, hx6] at pl6; cases pl6
      have plpt : pl ≠ pt := fun z => by rw [z, hpt6] at pl6; cases pl6
      have pltd : pl ≠ td := fun z => by rw [z, htd6] at pl6; cases pl6
      refine ⟨_, rfl, x, C, dx, _, rfl, hx8, oc.cl, oc.nl, (show 7 < 1000 by decide), ?_⟩
      rw [ofl]
      have B9 := OutB.putX (o := .ins C dx (of most xb pr pg S pt pl)) (B6.mono t8) hx8 (show 7 ≠ 2 by decide)
      have sw9 := NF.Same.put (o := .ins C dx (of most xb pr pg S pt pl)) (Same.trans sw6 t8) wo_none
      have hx9 := upd_same (H := G8) (a := x) (o := .ins C dx (of most xb pr pg S pt pl))
      have hpt9 := (upd_ne (H := G8) (o := .ins C dx (of most xb pr pg S pt pl)) ptx).trans (t8 _ _ hpt6)
      have htd9 := (upd_ne (H := G8) (o := .ins C dx (of most xb pr pg S pt pl)) tdx).trans (t8 _ _ htd6)
      have hpl9 := (upd_ne (H := G8) (o := .ins C dx (of most xb pr pg S pt pl)) plx).trans hpl8
      generalize upd G8 x (.ins C dx (of most xb pr pg S pt pl)) = G9 at B9 sw9 hx9 hpt9 htd9 hpl9
      -- all but the two lists stands from here on
      have ptd : pt ≠ td := fun z => by rw [z, hG2] at pt2; cases pt2
      have pt_pr : pr ≠ pt := fun z => by
        have := s2 _ _ hr1
        rw [z, pt2] at this
        cases this
      have pt_pg : pg ≠ pt := fun z => by
        have := s2 _ _ hg1
        rw [z, pt2] at this
        cases this
      obtain ⟨_, ⟨xs6, hr6, _⟩, hg6⟩ := id B6
      have pl_pr : pr ≠ pl := fun z => by rw [z, pl6] at hr6; cases hr6
      have pl_pg : pg ≠ pl := fun z => by rw [z, pl6] at hg6; cases hg6
      obtain ⟨Gb, hGb⟩ : ∃ Gb, Gb = wo (wo G9 pt) pl := ⟨_, rfl⟩
      have sb : Same Gb G9 := by
        rw [hGb]
        exact Same.trans wo_same' wo_same'
      have hptb : Gb pt = none := by
        rw [hGb, wo_ne (Ne.symm plpt)]
        exact wo_none
      have hplb : Gb pl = none := by
        rw [hGb]
        exact wo_none
      have hxb : Gb x = some (.ins C dx (of most xb pr pg S pt pl)) := by
        rw [hGb, wo_ne (Ne.symm plx), wo_ne (Ne.symm ptx)]
        exact hx9
      have htdb : Gb td = some (.lst ((List.range ws.length).map fun k => V.int (sg most * (toll free k : Int)))) := by
        rw [hGb, wo_ne (Ne.symm pltd), wo_ne (Ne.symm ptd)]
        exact htd9
      have Bb : OutB K CR Gb xb pr pg i b ws := by
        rw [hGb]
        exact OutB.woL (OutB.woL B9 hpt9 pt_pr pt_pg) ((wo_ne plpt).trans hpl9) pl_pr pl_pg
      have swb : Same (wo H x) Gb := by
        rw [hGb]
        have f1 : (wo H x) pt = none := L2.Same.free sw2 pt2
        have f2 : (wo H x) pl = none := L2.Same.free sw6 pl6
        intro a o e
        rw [wo_ne (fun z => by rw [z, f2] at e; cases e), wo_ne (fun z => by rw [z, f1] at e; cases e)]
        exact sw9 _ _ e
      obtain ⟨hbb, ⟨xs, hrb, xl, hro⟩, hgb⟩ := id Bb
      refine ⟨_, rfl, _, rfl, by omega, by omega, ?_⟩
      have em : ∀ k, k < ws.length → ∃ y dr m, xs[k]? = some y ∧ Gb y = some (.ins CR dr (rf i (ws.getD k []) m)) ∧ SqT K Gb m (vI (ahead i (ws.getD k []) 0)) := fun k hk => by
        have hk' : k < xs.length := by omega
        obtain ⟨dr, m, h1, h2⟩ := hro k xs[k] ws[k] (List.getElem?_eq_getElem hk') (List.getElem?_eq_getElem hk)
        have e : ws.getD k [] = ws[k] := by
          rw [List.getD_eq_getElem?_getD, List.getElem?_eq_getElem hk]
          rfl
        rw [e]
        exact ⟨_, dr, m, List.getElem?_eq_getElem hk', h1, h2⟩
      refine for_range (lo := 0) (n := ((many : Nat) : Int).toNat) (fun j σ G => Same Gb G ∧ ∃ (U : Nat → Option Int) (L : Nat → Option Nat), G pt = some (.lst (tkn most U many)) ∧ G pl = some (.lst (lst L many)) ∧ Lkn most i ws free S many j 0 U L ∧ ∃ v5 v6 v7 v8 : Option V, σ = [some (.ref x), some (.int (many : Int)), some (vOn free), some (.int (sg most)), some (.ref td), v5, v6, v7, v8])
        ⟨sb, _, _, hpt9, hpl9, lkn_zero, none, none, none, none, rfl⟩ ?_ ?_
      · rintro B σ G hBm ⟨sG, U, L, hptG, hplG, lk, v5, v6, v7, v8, rfl⟩
        have hBm : B ≤ many := by omega
        refine ⟨_, rfl, x, C, dx, _, _, rfl, sG _ _ hxb, oc.cl, oc.ng, rfl, pg, rfl, ⟨_, SqL.of (sG _ _ hgb)⟩, ?_⟩
        refine for_list (xs := vNs (giv i ws)) (fun j σ G => Same Gb G ∧ ∃ (U : Nat → Option Int) (L : Nat → Option Nat), G pt = some (.lst (tkn most U many)) ∧ G pl = some (.lst (lst L many)) ∧ Lkn most i ws free S many B j U L ∧ ∃ v6 v7 v8 : Option V, σ = [some (.ref x), some (.int (many : Int)), some (vOn free), some (.int (sg most)), some (.ref td), some (.int (0 + (B : Int))), v6, v7, v8])
          ⟨sG, U, L, hptG, hplG, lk, v6, v7, v8, rfl⟩ (fun j σ G _ z => SqL.of (z.1 _ _ hgb)) ?_ ?_
        · rintro j v σ G hv ⟨sG, U, L, hptG, hplG, lk, v6, v7, v8, rfl⟩
          have hj := (List.getElem?_eq_some_iff.mp hv).1
          rw [show (vNs (giv i ws)).length = (giv i ws).length from List.length_map ..] at hj
          rw [at_nat hj] at hv
          obtain rfl := Option.some.inj hv
          obtain ⟨k, hkd⟩ : ∃ k, k = (giv i ws)[j] := ⟨_, rfl⟩
          have ek : (giv i ws)[j]? = some k := by rw [List.getElem?_eq_getElem hj, hkd]
          rw [← hkd]
          have kg := List.mem_of_getElem? ek
          obtain ⟨kw, k1⟩ := giv_mem.mp kg
          obtain ⟨y, dr, m, ey, hy1, hy2⟩ := em k kw
          have hyG := sG _ _ hy1
          have hxG := sG _ _ hxb
          have hrG := SqL.of (K := K) (sG _ _ hrb)
          have hrk : atI (xs.map V.ref) (k : Int) = some (V.ref y) := atI_nat (by rw [List.getElem?_map, ey]; rfl)
          have lenm : (vI (ahead i (ws.getD k []) 0)).length = mA i ws k := vI_len ..
          refine ⟨_, rfl, _, rfl, x, C, dx, _, _, rfl, hxG, oc.cl, oc.nr, rfl, _, rfl, pr, _, _, _, rfl, rfl, hrG, hrk, y, CR, dr, _, _, rfl, hyG, rc.cl, rc.nm, rfl, m, _, rfl, .inr (NF.Same.tup sG hy2), _, _, rfl, rfl, ?_⟩
          rw [lenm]
          have e0 : (0 : Int) + (B : Int) + (mA i ws k : Int) = ((B + mA i ws k : Nat) : Int) := by omega
          have atB : atI (tkn most U many) (0 + (B : Int)) = some (vO ((U B).map (sg most * ·))) := by
            rw [Int.zero_add]
            exact atI_nat (tkn_get hBm)
          refine ⟨_, rfl, x, C, dx, _, _, rfl, hxG, oc.cl, oc.nt, rfl, _, rfl, pt, _, _, _, rfl, rfl, SqL.of hptG, atB, rfl, _, rfl, ?_⟩
          cases hU : U B with
          | none =>
            refine iteF' rfl (iteF ?_)
            exact ⟨sG, U, L, hptG, hplG, lk.none hBm hU, _, _, _, rfl⟩
          | some u =>
            refine iteT' rfl ?_
            refine ⟨_, rfl, _, rfl, _, _, rfl, rfl, _, rfl, ?_⟩
            refine ite2 (fun hle => ?_) (fun hle => ?_)
            · have hle : B + mA i ws k ≤ many := by
                have := of_decide_eq_true hle
                omega
              -- what the rounds take then
              have hw : u + dSh most i ws free S k = u + (dA most i ws k * S + (toll free k : Int)) := rfl
              have ev : sg most * u + (tA i ws k : Int) * S + sg most * (toll free k : Int) = sg most * (u + dSh most i ws free S k) := by
                unfold dSh dA
                rw [Int.mul_add, Int.mul_add, ← Int.mul_assoc, ← Int.mul_assoc, sg_sq, Int.one_mul]
                omega
              have tdG := SqL.of (K := K) (sG _ _ htdb)
              have tdk : atI ((List.range ws.length).map fun k => V.int (sg most * (toll free k : Int))) (k : Int) = some (V.int (sg most * (toll free k : Int))) := atI_nat (by rw [List.getElem?_map, List.getElem?_range kw]; rfl)
              have S0 : -(2 ^ 64) < S ∧ S < 2 ^ 64 := by
                rw [← hS]
                constructor <;> omega
              refine ⟨_, rfl, x, C, dx, _, _, rfl, hxG, oc.cl, oc.nt, rfl, _, rfl, pt, _, _, _, rfl, rfl, SqL.of hptG, atB, ?_⟩
              rw [hU]
              refine ⟨_, rfl, x, C, dx, _, _, rfl, hxG, oc.cl, oc.nr, rfl, _, rfl, pr, _, _, _, rfl, rfl, hrG, hrk, y, CR, dr, _, _, rfl, hyG, rc.cl, rc.nt, rfl, ?_⟩
              refine ⟨_, rfl, x, C, dx, _, _, rfl, hxG, oc.cl, oc.ns, rfl, _, _, rfl, rfl, .inr S0, ?_⟩
              refine ⟨_, _, rfl, rfl, _, rfl, _, rfl, td, _, _, _, rfl, rfl, tdG, tdk, _, _, rfl, rfl, ?_⟩
              dsimp only
              rw [show sg most * u + ((took i (ws.getD k []) : Nat) : Int) * S + sg most * ((toll free k : Nat) : Int) = sg most * (u + dSh most i ws free S k) from ev, e0]
              have atH : atI (tkn most U many) ((B + mA i ws k : Nat) : Int) = some (vO ((U (B + mA i ws k)).map (sg most * ·))) := atI_nat (tkn_get hle)
              refine ⟨_, rfl, x, dx, _, rfl, hxG, rfl, ?_⟩
              refine ⟨_, rfl, _, rfl, x, C, dx, _, _, rfl, hxG, oc.cl, oc.nt, rfl, _, rfl, pt, _, _, _, rfl, rfl, SqL.of hptG, atH, ?_⟩
              refine ⟨x, dx, most, xb, pr, pg, S, pt, pl, _, _, rfl, hxG, ?_⟩
              rw [less_sg]
              refine ⟨_, rfl, ite2 (fun yes => ?_) (fun no => ?_)⟩
              · have hlen : ∀ {α : Type} (f : Nat → α), B + mA i ws k < ((List.range (many + 1)).map f).length := fun f => by rw [List.length_map, List.length_range]; omega
                refine ⟨_, rfl, _, rfl, x, C, dx, _, _, rfl, hxG, oc.cl, oc.nt, rfl, _, rfl, pt, _, _, B + mA i ws k, rfl, rfl, hptG, ixN_n (hlen _), ?_⟩
                rw [tkn_set hle]
                have sG2 := NF.Same.put (o := .lst (tkn most (fun g => if g = B + mA i ws k then some (u + dSh most i ws free S k) else U g) many)) sG hptb
                have hpl2 := (upd_ne (H := G) (o := .lst (tkn most (fun g => if g = B + mA i ws k then some (u + dSh most i ws free S k) else U g) many)) plpt).trans hplG
                have hpt2 := upd_same (H := G) (a := pt) (o := .lst (tkn most (fun g => if g = B + mA i ws k then some (u + dSh most i ws free S k) else U g) many))
                generalize upd G pt (.lst (tkn most (fun g => if g = B + mA i ws k then some (u + dSh most i ws free S k) else U g) many)) = G2 at sG2 hpl2 hpt2
                refine ⟨_, rfl, _, rfl, x, C, dx, _, _, rfl, sG2 _ _ hxb, oc.cl, oc.nl, rfl, _, rfl, pl, _, _, B + mA i ws k, rfl, rfl, hpl2, ixN_n (hlen _), ?_⟩
                rw [lst_set hle]
                exact ⟨NF.Same.put sG2 hplb, _, _, (upd_ne (Ne.symm plpt)).trans hpt2, upd_same, lk.put hBm ek hU hle yes, _, _, _, rfl⟩
              · exact ⟨sG, U, L, hptG, hplG, lk.keep hBm ek hU hle (by cases h : less (u + dSh most i ws free S k) (U (B + mA i ws k)) with | false => rfl | true => exact absurd h no), _, _, _, rfl⟩
            · have hle : many < B + mA i ws k := by
                by_cases z : B + mA i ws k ≤ many
                · exact absurd (decide_eq_true (by omega)) hle
                · omega
              exact ⟨sG, U, L, hptG, hplG, lk.far ek hle, _, _, _, rfl⟩
        · rintro σ G ⟨sG, U, L, hptG, hplG, lk, v6, v7, v8, rfl⟩
          rw [show (vNs (giv i ws)).length = (giv i ws).length from List.length_map ..] at lk
          exact ⟨sG, U, L, hptG, hplG, lk.next, _, v6, v7, v8, rfl⟩
      · rintro σ G ⟨sG, U, L, hptG, hplG, lk, v5, v6, v7, v8, rfl⟩
        rw [Int.toNat_natCast] at lk
        subst hS
        exact q G U L pt pl (Same.trans swb sG) ⟨dx, xb, pr, pg, sG _ _ hxb, Bb.mono sG⟩ hptG hplG lk.done
end
end K28
set_option Elab.async false
set_option linter.all false
set_option maxRecDepth 100000
set_option maxHeartbeats 4000000
namespace K28
open PySem PySem.Spec PyProof.Rows L2 He NF RZ NT
def spBestW (K : PySem.W.Frag) (C CR : Addr) : Sp := fun vs H Q _ => ∃ (x : Addr) (most : Bool) (i : Nat) (b : List Deed) (ws : List (List Deed)) (sh : Int) (pt pl : Addr), vs = [.ref x] ∧ OutAt K C CR H x most i b ws sh pt pl ∧ giv i ws ≠ [] ∧ (∀ v ∈ ws, v.length ≤ 10000) ∧
  ∀ kb y H', IsBest most i ws kb → Same H H' → RouAt K CR H' y i (ws.getD kb []) → Q (.ref y) H'
/-- what is found for pieces whose last round is of a way -/
def spAhd (K : PySem.W.Frag) (C CR : Addr) : Sp := fun vs H Q _ => ∃ (x : Addr) (most : Bool) (i : Nat) (b : List Deed) (ws : List (List Deed)) (sh : Int) (pt pl : Addr) (n k : Nat) (free : Option Nat) (U : Nat → Option Int) (L : Nat → Option Nat), vs = [.ref x, .int (n : Int), .int (k : Int)] ∧ OutAt K C CR H x most i b ws sh pt pl ∧ H pt = some (.lst (tkn most U n)) ∧ Lkd most i ws free sh n U L ∧
  k ∈ giv i ws ∧ 1 ≤ n ∧ n ≤ 5000 ∧ 0 ≤ sh ∧ sh ≤ 10000 ∧
  ∀ p o g H', Same H H' → MinOf (Wn (giv i ws) (mA i ws) (dSh most i ws free sh) (fun k a => mkA most i ws k a * sh) k n) o → (∀ v, o = some v → g < n ∧ ∃ a u, a < mA i ws k ∧ g + a + 1 = n ∧ U g = some u ∧ v = u + mkA most i ws k a * sh) → SqT K H' p [vO (o.map (sg most * ·)), .int (g : Int)] → Q (.ref p) H'
/-- the other ways of the rounds that were found -/
def spOth (K : PySem.W.Frag) (C CR : Addr) : Sp := fun vs H Q _ => ∃ (x : Addr) (most : Bool) (i : Nat) (b : List Deed) (ws : List (List Deed)) (sh : Int) (pt pl : Addr) (n g k : Nat) (U : Nat → Option Int) (L : Nat → Option Nat) (u : Int), vs = [.ref x, .int (g : Int), .int (k : Int)] ∧ OutAt K C CR H x most i b ws sh pt pl ∧ H pl = some (.lst (lst L n)) ∧ Lkd most i ws (some k) sh n U L ∧
  k ∈ giv i ws ∧ n ≤ 5000 ∧ g ≤ n ∧ U g = some u ∧
  ∀ p ks q H', Same H H' → SqT K H' p (vNs ks) → (∀ j ∈ ks, j ∈ giv i ws) → (ks.map (mA i ws)).sum + q * mA i ws k = g → u = (ks.map (dSh most i ws (some k) sh)).sum + (q : Int) * (dA most i ws k * sh) → Q (.ref p) H'
theorem sc_Outlook_best_way : FnScope ["self", "best", "number", "one"] ["self"] (defScope s_Outlook_best_way) := ⟨rfl, rfl, rfl, by decide +kernel, rfl, by decide +kernel, by decide +kernel⟩
theorem sc_Outlook_ahead_of : FnScope ["self", "piece", "number", "best", "ahead", "at", "mark", "given"] ["self", "piece", "number"] (defScope s_Outlook_ahead_of) := ⟨rfl, rfl, rfl, by decide +kernel, rfl, by decide +kernel, by decide +kernel⟩
theorem sc_Outlook_others_ahead : FnScope ["self", "given", "free", "found"] ["self", "given", "free"] (defScope s_Outlook_others_ahead) := ⟨rfl, rfl, rfl, by decide +kernel, rfl, by decide +kernel, by decide +kernel⟩
theorem round_at {K : PySem.W.Frag} {CR : Addr} {H : Hp} {xs : List Addr} {i : Nat} {ws : List (List Deed)} (ch : Chosen K CR H xs i ws) {k : Nat} (hk : k < ws.length) : ∃ y dr m, xs[k]? = some y ∧ atI (xs.map V.ref) (k : Int) = some (V.ref y) ∧ RouAt K CR H y i (ws.getD k []) ∧ H y = some (.ins CR dr (rf i (ws.getD k []) m)) ∧ SqT K H m (vI (ahead i (ws.getD k []) 0)) := by
  have hk' : k < xs.length := by have := ch.1; omega
  have ro := ch.2 k xs[k] ws[k] (List.getElem?_eq_getElem hk') (List.getElem?_eq_getElem hk)
  have e : ws.getD k [] = ws[k] := by
    rw [List.getD_eq_getElem?_getD, List.getElem?_eq_getElem hk]
    rfl
  rw [e]
  obtain ⟨dr, m, h1, h2⟩ := id ro
  exact ⟨_, dr, m, List.getElem?_eq_getElem hk', atI_nat (by rw [List.getElem?_map, List.getElem?_eq_getElem hk']; rfl), ro, h1, h2⟩
theorem mA_le {i : Nat} {ws : List (List Deed)} {B : Nat} (hw : ∀ v ∈ ws, v.length ≤ B) {k : Nat} : mA i ws k ≤ B := by
  unfold mA
  have := ahead_len (i := i) (a := ws.getD k []) (t := 0)
  have : (ws.getD k []).length ≤ B := by
    rw [List.getD_eq_getElem?_getD]
    cases e : ws[k]? with
    | none => exact Nat.zero_le _
    | some v => exact hw v (List.mem_of_getElem? e)
  omega
theorem vNs_at {ks : List Nat} {j k : Nat} (h : ks[j]? = some k) : (vNs ks)[j]? = some (V.int (k : Int)) := by
  unfold vNs
  rw [List.getElem?_map, h]
  rfl
section
variable {P : Program} {w : World} {K : PySem.W.Frag} {mg : Str → Option Value} {base : Heap} {gs fs : List Str} {C CM CR : Addr}
theorem ok_Outlook_best_way {f : Addr} {fd : FuncData} (F : FunD K "best_way" "Outlook.best_way" (defArgs s_Outlook_best_way) (defBody s_Outlook_best_way) (defScope s_Outlook_best_way) [] [] f fd) (T : Txt K mg gs FS) (oc : OutC K C) (rc : RouC K CR) (o_better : MetC P w K mg base 1 C "better" (spBet K C)) : FnOk P w K mg base CX0 3 f fd ["self"] (spBestW K C CR) := by
  refine F.ok sc_Outlook_best_way (fun vs H Q E h => ?_) (fun cdv A outer s H vs Q E hr h => ?_)
  · obtain ⟨x, most, i, b, ws, sh, pt, pl, rfl, _⟩ := h
    rfl
  · obtain ⟨x, most, i, b, ws, sh, pt, pl, rfl, ⟨dx, xb, pr, pg, hx, hb, ⟨xs, hr1, ch⟩, hg⟩, g0, hw, q⟩ := h
    have g1 := List.length_pos_iff.mpr g0
    refine ⟨_, PSs.nox (pss_cons (ps_set (i := 1) sc_Outlook_best_way.nd rfl (Or.inl rfl) (pe_ix (ixl (K := K)) (pe_fld (pv 0) rfl) (pe_ix (ixl (K := K)) (pe_fld (pv 0) rfl) pe_int fun _ _ => rfl) fun _ _ => rfl)) (pss_cons (ps_for PassesOwn.never rfl (pi_list (pe_slice sl_list (pe_fld (pv 0) rfl) (po_some pe_int) po_none)) (pg_name (i := 2) sc_Outlook_best_way.nd rfl (Or.inl rfl)) (pss_cons (ps_set (i := 3) sc_Outlook_best_way.nd rfl (Or.inl rfl) (pe_ix (ixl (K := K)) (pe_fld (pv 0) rfl) (pv 2) fun _ _ => rfl)) (pss_one (ps_if (pt_val (pe_mt (pv 0) o_better hr (by decide) (pa_cons (pe_op op_mul (pe_fld (pv 3) rfl) (pe_callB call_len_seq rfl (T.fr _ (by decide +kernel)) boot_len (pa_cons (pe_fld (pv 1) rfl) pa_nil))) (pa_cons (pe_op op_mul (pe_fld (pv 1) rfl) (pe_callB call_len_seq rfl (T.fr _ (by decide +kernel)) boot_len (pa_cons (pe_fld (pv 3) rfl) pa_nil))) pa_nil)))) (pss_one (ps_set (i := 1) sc_Outlook_best_way.nd rfl (Or.inl rfl) (pv 3))) pss_nil)))) (pss_one (ps_ret (pv 1))))), ?_⟩
    have ek0 : (giv i ws)[0]? = some (giv i ws)[0] := List.getElem?_eq_getElem g1
    have k0 := List.mem_of_getElem? ek0
    obtain ⟨y0, dr0, m0, _, at0', ro0, _, _⟩ := round_at ch (giv_mem.mp k0).1
    refine ⟨_, rfl, x, C, dx, _, _, rfl, hx, oc.cl, oc.nr, rfl, ?_⟩
    refine ⟨_, rfl, x, C, dx, _, _, rfl, hx, oc.cl, oc.ng, rfl, pg, _, _, _, rfl, rfl, SqL.of hg, atI_nat (j := 0) (vNs_at ek0), pr, _, _, _, rfl, rfl, SqL.of hr1, at0', ?_⟩
    refine ⟨_, rfl, x, C, dx, _, _, rfl, hx, oc.cl, oc.ng, rfl, _, rfl, pg, _, rfl, SqL.of hg, fun p hp => ?_⟩
    have ecut : cutV (vNs (giv i ws)) (some 1) none = vNs ((giv i ws).drop 1) := by
      rw [show (some (1 : Int)) = some ((1 : Nat) : Int) from rfl, cut_from]
      unfold vNs
      rw [List.map_drop]
    rw [ecut]
    have s1 := NF.Same.new (o := .lst (vNs ((giv i ws).drop 1))) (Same.refl H) hp
    have hp1 := upd_same (H := H) (a := p) (o := .lst (vNs ((giv i ws).drop 1)))
    generalize upd H p (.lst (vNs ((giv i ws).drop 1))) = H1 at s1 hp1
    refine ⟨p, rfl, ⟨_, SqL.of hp1⟩, ?_⟩
    refine for_list (xs := vNs ((giv i ws).drop 1)) (fun j σ G => Same H1 G ∧ ∃ (kb : Nat) (y : Addr) (v2 v3 : Option V), kb ∈ giv i ws ∧ RouAt K CR H1 y i (ws.getD kb []) ∧ (∀ k ∈ (giv i ws).take (j + 1), dA most i ws kb * (mA i ws k : Int) ≤ dA most i ws k * (mA i ws kb : Int)) ∧ σ = [some (.ref x), some (.ref y), v2, v3])
      ⟨Same.refl H1, _, y0, none, none, k0, ro0.mono s1, ?_, rfl⟩ (fun j σ G _ z => SqL.of (z.1 _ _ hp1)) ?_ ?_
    · intro k hk
      rw [List.take_add_one, List.take_zero, ek0] at hk
      rw [show k = (giv i ws)[0] by simpa using hk]
      exact Int.le_refl _
    · rintro j v σ G hv ⟨sG, kb, yb, v2, v3, hkb, rob, hall, rfl⟩
      have hj := (List.getElem?_eq_some_iff.mp hv).1
      rw [show (vNs ((giv i ws).drop 1)).length = ((giv i ws).drop 1).length from List.length_map ..] at hj
      rw [at_nat hj] at hv
      obtain rfl := Option.some.inj hv
      obtain ⟨k, hkd⟩ : ∃ k, k = ((giv i ws).drop 1)[j] := ⟨_, rfl⟩
      have ek : (giv i ws)[j + 1]? = some k := by
        rw [hkd, List.getElem_drop, List.length_drop] at *
        rw [List.getElem?_eq_getElem (by omega)]
        congr 2
        omega
      rw [← hkd]
      have kg := List.mem_of_getElem? ek
      obtain ⟨y, dr, m, _, ak, ro, hy1, hy2⟩ := round_at (ch.mono s1) (giv_mem.mp kg).1
      obtain ⟨db, mb, hb1, hb2⟩ := id rob
      have hxG := sG _ _ (s1 _ _ hx)
      have mle : ∀ k, mA i ws k ≤ 10000 := fun k => mA_le hw
      have lenm : ∀ k, ((vI (ahead i (ws.getD k []) 0)).length : Int) = (mA i ws k : Int) := fun k => by rw [vI_len]; rfl
      refine ⟨_, rfl, x, C, dx, _, _, rfl, hxG, oc.cl, oc.nr, rfl, _, rfl, pr, _, _, _, rfl, rfl, SqL.of (sG _ _ (s1 _ _ hr1)), ak, ?_⟩
      refine ⟨_, rfl, x, dx, _, rfl, hxG, rfl, ?_⟩
      refine ⟨_, rfl, y, CR, dr, _, _, rfl, sG _ _ hy1, rc.cl, rc.nt, rfl, _, rfl, yb, CR, db, _, _, rfl, sG _ _ hb1, rc.cl, rc.nm, rfl, mb, _, rfl, .inr (NF.Same.tup sG hb2), _, _, rfl, rfl, .inr ?_, ?_⟩
      · rw [lenm]
        have := mle kb
        constructor <;> omega
      refine ⟨_, rfl, yb, CR, db, _, _, rfl, sG _ _ hb1, rc.cl, rc.nt, rfl, _, rfl, y, CR, dr, _, _, rfl, sG _ _ hy1, rc.cl, rc.nm, rfl, m, _, rfl, .inr (NF.Same.tup sG hy2), _, _, rfl, rfl, .inr ?_, ?_⟩
      · rw [lenm]
        have := mle k
        constructor <;> omega
      refine ⟨x, dx, most, xb, pr, pg, sh, pt, pl, _, some _, rfl, hxG, ?_⟩
      have ed : ∀ j k, sg most * ((tA i ws j : Int) * (mA i ws k : Int)) = dA most i ws j * (mA i ws k : Int) := fun j k => by
        unfold dA
        rw [Int.mul_assoc]
      have el : less (sg most * ((tA i ws k : Int) * (mA i ws kb : Int))) ((some ((tA i ws kb : Int) * (mA i ws k : Int))).map (sg most * ·)) = decide (dA most i ws k * (mA i ws kb : Int) < dA most i ws kb * (mA i ws k : Int)) := by
        show decide (sg most * ((tA i ws k : Int) * (mA i ws kb : Int)) < sg most * ((tA i ws kb : Int) * (mA i ws k : Int))) = _
        rw [ed, ed]
      rw [lenm, lenm]
      have et : ((giv i ws).take (j + 2)) = (giv i ws).take (j + 1) ++ [k] := by rw [List.take_add_one, ek]; rfl
      refine ⟨_, rfl, ?_⟩
      rw [show less (sg most * (((took i (ws.getD k []) : Nat) : Int) * (mA i ws kb : Int))) ((some (((took i (ws.getD kb []) : Nat) : Int) * (mA i ws k : Int))).map (sg most * ·)) = _ from el]
      refine ite2 (fun h => ?_) (fun h => ?_)
      · have h := of_decide_eq_true h
        refine ⟨_, rfl, sG, k, y, _, _, kg, ro, fun q hq => ?_, rfl⟩
        rw [et] at hq
        rcases List.mem_append.mp hq with hq | hq
        · exact rate_trans (Int.le_of_lt h) (hall q hq) (giv_pos kb hkb)
        · rw [List.mem_singleton.mp hq]
          exact Int.le_refl _
      · have h : dA most i ws kb * (mA i ws k : Int) ≤ dA most i ws k * (mA i ws kb : Int) := by
          by_cases z : dA most i ws k * (mA i ws kb : Int) < dA most i ws kb * (mA i ws k : Int)
          · exact absurd (decide_eq_true z) h
          · omega
        refine ⟨sG, kb, yb, _, _, hkb, rob, fun q hq => ?_, rfl⟩
        rw [et] at hq
        rcases List.mem_append.mp hq with hq | hq
        · exact hall q hq
        · rw [List.mem_singleton.mp hq]
          exact h
    · rintro σ G ⟨sG, kb, yb, v2, v3, hkb, rob, hall, rfl⟩
      refine ⟨_, rfl, q kb yb G ⟨hkb, fun k hk => hall k ?_⟩ (Same.trans s1 sG) (rob.mono sG)⟩
      rw [show (vNs ((giv i ws).drop 1)).length = ((giv i ws).drop 1).length from List.length_map .., List.length_drop, List.take_of_length_le (by omega)]
      exact hk
/-- so far: the first t marks -/
def Wt (G : List Nat) (m : Nat → Nat) (d : Nat → Int) (mk : Nat → Nat → Int) (k n t : Nat) (c : Int) : Prop := ∃ a g c', a < t ∧ a < m k ∧ g + a + 1 = n ∧ Rch G m d g c' ∧ c = c' + mk k a
theorem ok_Outlook_ahead_of {f : Addr} {fd : FuncData} (F : FunD K "ahead_of" "Outlook.ahead_of" (defArgs s_Outlook_ahead_of) (defBody s_Outlook_ahead_of) (defScope s_Outlook_ahead_of) [] [] f fd) (T : Txt K mg gs FS) (oc : OutC K C) (rc : RouC K CR) (o_better : MetC P w K mg base 1 C "better" (spBet K C)) : FnOk P w K mg base CX0 3 f fd ["self", "piece", "number"] (spAhd K C CR) := by
  refine F.ok sc_Outlook_ahead_of (fun vs H Q E h => ?_) (fun cdv A outer s H vs Q E hr h => ?_)
  · obtain ⟨x, most, i, b, ws, sh, pt, pl, n, k, free, U, L, rfl, _⟩ := h
    rfl
  · obtain ⟨x, most, i, b, ws, sh, pt, pl, n, k, free, U, L, rfl, ⟨dx, xb, pr, pg, hx, hb, ⟨xs, hr1, ch⟩, hg⟩, hpt, lk, hk, n1, hn, sh0, sh1, q⟩ := h
    obtain ⟨kw, k1⟩ := giv_mem.mp hk
    obtain ⟨y, dr, m, _, ak, ro, hy1, hy2⟩ := round_at ch kw
    refine ⟨_, PSs.nox (pss_cons (ps_set (i := 3) sc_Outlook_ahead_of.nd rfl (Or.inl rfl) pe_non) (pss_cons (ps_set (i := 4) sc_Outlook_ahead_of.nd rfl (Or.inl rfl) pe_int) (pss_cons (ps_for PassesOwn.never rfl (pi_enumT rfl (T.fr _ (by decide +kernel)) (pa_cons (pe_slice sl_tupA (pe_fld (pe_ix (ixl (K := K)) (pe_fld (pv 0) rfl) (pv 2) fun _ _ => rfl) rfl) po_none (po_some (pv 1))) pa_nil)) (pgt (K := K) (n := 2) rfl rfl (pgs_cons (pg_name (i := 5) sc_Outlook_ahead_of.nd rfl (Or.inl rfl)) (pgs_cons (pg_name (i := 6) sc_Outlook_ahead_of.nd rfl (Or.inl rfl)) pgs_nil))) (pss_cons (ps_set (i := 7) sc_Outlook_ahead_of.nd rfl (Or.inl rfl) (pe_op op_sub (pe_op op_sub (pv 1) pe_int) (pv 5))) (pss_one (ps_if (PW.pt (pw_and (pt_cmpR op_notN (pe_ix (ixl (K := K)) (pe_fld (pv 0) rfl) (pv 7) fun _ _ => rfl) pe_non (nomark _)) (pw_and1 (pt_val (pe_mt (pv 0) o_better hr (by decide) (pa_cons (pe_op op_add (pe_ix (ixl (K := K)) (pe_fld (pv 0) rfl) (pv 7) fun _ _ => rfl) (pe_op op_mul (pv 6) (pe_fld (pv 0) rfl))) (pa_cons (pv 3) pa_nil))))))) (pss_cons (ps_set (i := 3) sc_Outlook_ahead_of.nd rfl (Or.inl rfl) (pe_op op_add (pe_ix (ixl (K := K)) (pe_fld (pv 0) rfl) (pv 7) fun _ _ => rfl) (pe_op op_mul (pv 6) (pe_fld (pv 0) rfl)))) (pss_one (ps_set (i := 4) sc_Outlook_ahead_of.nd rfl (Or.inl rfl) (pv 7)))) pss_nil)))) (pss_one (ps_ret (pe_tup (pa_cons (pv 3) (pa_cons (pv 4) pa_nil)))))))), ?_⟩
    refine ⟨_, rfl, x, C, dx, _, _, rfl, hx, oc.cl, oc.nr, rfl, _, rfl, pr, _, _, _, rfl, rfl, SqL.of hr1, ak, y, CR, dr, _, _, rfl, hy1, rc.cl, rc.nm, rfl, _, rfl, _, rfl, ?_⟩
    refine slA_done (K := K) hy2 fun p1 H1 s1 t1 => ?_
    rw [cut_to] at t1
    refine ⟨p1, _, rfl, t1, ?_⟩
    have elen : ((vI (ahead i (ws.getD k []) 0)).take n).length = min n (mA i ws k) := by
      rw [List.length_take, vI_len]
      rfl
    refine for_it (walk_enumT (k := 0) (xs := (vI (ahead i (ws.getD k []) 0)).take n)) (fun t σ G => Same H1 G ∧ ∃ (o : Option Int) (g : Nat) (v5 v6 v7 : Option V), MinOf (Wt (giv i ws) (mA i ws) (dSh most i ws free sh) (fun k a => mkA most i ws k a * sh) k n t) o ∧ (∀ v, o = some v → g < n ∧ ∃ a u, a < mA i ws k ∧ g + a + 1 = n ∧ U g = some u ∧ v = u + mkA most i ws k a * sh) ∧ σ = [some (.ref x), some (.int (n : Int)), some (.int (k : Int)), some (vO (o.map (sg most * ·))), some (.int (g : Int)), v5, v6, v7])
      ⟨Same.refl H1, none, 0, none, none, none, fun c ⟨a, g, c', h, _⟩ => absurd h (Nat.not_lt_zero _), fun v e => (nomatch e), rfl⟩ (fun t σ G _ z => NF.Same.tup z.1 t1) ?_ ?_
    · rintro t v σ G1 G2 ht ⟨sG, o, g, v5, v6, v7, mo, ho, rfl⟩ ⟨T1, a1, b1, rfl, hT, rfl, ha1, hb1⟩
      rw [elen] at ht
      have htm : t < mA i ws k := by omega
      have htn : t < n := by omega
      obtain rfl : V.int (0 + (t : Int)) = a1 := Option.some.inj ha1
      have hb1 : ((vI (ahead i (ws.getD k []) 0)).take n)[t]? = some b1 := hb1
      obtain rfl : V.int (aA i ws k t) = b1 := by
        rw [List.getElem?_take, if_pos htn] at hb1
        unfold vI at hb1
        rw [List.getElem?_map, List.getElem?_eq_getElem htm] at hb1
        have := Option.some.inj hb1
        rw [← this]
        unfold aA
        rw [List.getD_eq_getElem?_getD, List.getElem?_eq_getElem htm]
        rfl
      have s2 := NF.Same.new (o := .tup [V.int (0 + (t : Int)), V.int (aA i ws k t)]) sG hT
      have hxG := s2 _ _ (s1 _ _ hx)
      have hptG := SqL.of (K := K) (s2 _ _ (s1 _ _ hpt))
      refine ⟨T1, _, rfl, SqT.of upd_same, rfl, _, _, rfl, ?_⟩
      refine ⟨_, _, rfl, ?_⟩
      refine ⟨rfl, ?_⟩
      have eg : (n : Int) - 1 - (0 + (t : Int)) = ((n - 1 - t : Nat) : Int) := by omega
      have atg : atI (tkn most U n) ((n : Int) - 1 - (0 + (t : Int))) = some (vO ((U (n - 1 - t)).map (sg most * ·))) := by
        rw [eg]
        exact atI_nat (tkn_get (by omega))
      refine ⟨_, rfl, _, _, rfl, rfl, _, rfl, _, _, rfl, rfl, ?_⟩
      refine ⟨_, rfl, x, C, dx, _, _, rfl, hxG, oc.cl, oc.nt, rfl, _, rfl, pt, _, _, _, rfl, rfl, hptG, atg, rfl, _, rfl, ?_⟩
      have mu := lk.u (n - 1 - t) (by omega)
      cases hU : U (n - 1 - t) with
      | none =>
        rw [hU] at mu
        refine iteF' rfl (iteF ?_)
        refine ⟨s2, o, g, _, _, _, mo.congr fun c => ⟨fun ⟨a, g', c', h1, h2⟩ => ⟨a, g', c', by omega, h2⟩, fun ⟨a, g', c', h1, h2, h3, h4, h5⟩ => ?_⟩, ho, rfl⟩
        by_cases e : a = t
        · rw [show n - 1 - t = g' by omega] at mu
          exact absurd h4 (mu c')
        · exact ⟨a, g', c', by omega, h2, h3, h4, h5⟩
      | some u =>
        rw [hU] at mu atg
        have emk : sg most * u + aA i ws k t * sh = sg most * (u + mkA most i ws k t * sh) := by
          unfold mkA
          rw [Int.mul_add, ← Int.mul_assoc (sg most) (sg most * _), ← Int.mul_assoc (sg most) (sg most), sg_sq, Int.one_mul]
        have mo2 : MinOf (Wt (giv i ws) (mA i ws) (dSh most i ws free sh) (fun k a => mkA most i ws k a * sh) k n (t + 1)) (rlx o (u + mkA most i ws k t * sh)) := by
          refine (mo.push (T := fun c => ∃ c', Rch (giv i ws) (mA i ws) (dSh most i ws free sh) (n - 1 - t) c' ∧ c = c' + mkA most i ws k t * sh) ⟨⟨u, mu.1, rfl⟩, fun c ⟨c', r, e⟩ => by have := mu.2 c' r; omega⟩).congr fun c => ⟨fun z => ?_, fun ⟨a, g', c', h1, h2, h3, h4, h5⟩ => ?_⟩
          · rcases z with ⟨a, g', c', h1, h2⟩ | ⟨c', r, e⟩
            · exact ⟨a, g', c', by omega, h2⟩
            · exact ⟨t, n - 1 - t, c', by omega, htm, by omega, r, e⟩
          · by_cases e : a = t
            · subst e
              rw [show g' = n - 1 - a by omega] at h4
              exact .inr ⟨c', h4, h5⟩
            · exact .inl ⟨a, g', c', by omega, h2, h3, h4, h5⟩
        have S0 : -(2 ^ 64) < sh ∧ sh < 2 ^ 64 := by constructor <;> omega
        refine iteT' rfl ?_
        refine ⟨_, rfl, x, dx, _, rfl, hxG, rfl, ?_⟩
        refine ⟨_, rfl, x, C, dx, _, _, rfl, hxG, oc.cl, oc.nt, rfl, _, rfl, pt, _, _, _, rfl, rfl, hptG, atg, _, rfl, _, rfl, x, C, dx, _, _, rfl, hxG, oc.cl, oc.ns, rfl, _, _, rfl, rfl, .inr S0, _, _, rfl, rfl, _, rfl, ?_⟩
        dsimp only
        rw [emk]
        refine ⟨x, dx, most, xb, pr, pg, sh, pt, pl, _, _, rfl, hxG, ?_⟩
        rw [less_sg]
        rw [rlx_less] at mo2
        refine ⟨_, rfl, ite2 (fun yes => ?_) (fun no => ?_)⟩
        · rw [if_pos yes] at mo2
          refine ⟨_, rfl, x, C, dx, _, _, rfl, hxG, oc.cl, oc.nt, rfl, _, rfl, pt, _, _, _, rfl, rfl, hptG, atg, _, rfl, _, rfl, x, C, dx, _, _, rfl, hxG, oc.cl, oc.ns, rfl, _, _, rfl, rfl, .inr S0, _, _, rfl, rfl, ?_⟩
          dsimp only
          rw [emk, eg]
          refine ⟨_, rfl, s2, some (u + mkA most i ws k t * sh), n - 1 - t, _, _, _, mo2, fun v e => ?_, rfl⟩
          cases e
          exact ⟨by omega, t, u, htm, by omega, hU, rfl⟩
        · rw [if_neg no] at mo2
          exact ⟨s2, o, g, _, _, _, mo2, ho, rfl⟩
    · rintro σ G ⟨sG, o, g, v5, v6, v7, mo, ho, rfl⟩
      rw [elen] at mo
      refine ⟨_, rfl, _, rfl, (by show 2 ≤ sizeLine; decide), fun p hp => ?_⟩
      have s2 := NF.Same.new (o := .tup [vO (o.map (sg most * ·)), V.int (g : Int)]) (Same.trans s1 sG) hp
      refine q p o g _ s2 (mo.congr fun c => ⟨fun ⟨a, g', c', h1, h2⟩ => ⟨a, g', c', h2⟩, fun ⟨a, g', c', h2, h3, h4⟩ => ⟨a, g', c', by omega, h2, h3, h4⟩⟩) ho (SqT.of upd_same)
end
end K28
set_option Elab.async false
set_option linter.all false
set_option maxRecDepth 100000
set_option maxHeartbeats 4000000
namespace K28
open PySem PySem.Spec PyProof.Rows L2 He NF RZ NT
/-- what is taken ahead of each piece -/
def spVals (K : PySem.W.Frag) (C CR : Addr) : Sp := fun vs H Q _ => ∃ (x : Addr) (most : Bool) (i : Nat) (b : List Deed) (ws : List (List Deed)) (pt pl : Addr) (n : Nat) (U : Nat → Option Int) (L : Nat → Option Nat), vs = [.ref x, .int (n : Int)] ∧ OutAt K C CR H x most i b ws ((n + 1 : Nat) : Int) pt pl ∧ H pt = some (.lst (tkn most U n)) ∧ Lkd most i ws none ((n + 1 : Nat) : Int) n U L ∧
  giv i ws ≠ [] ∧ n ≤ 5000 ∧ ∀ p H', Same H H' → H' p = some (.lst (vI ((List.range n).map fun j => sg most * best most i ws (j + 1)))) → Q (.ref p) H'
def bst (most : Bool) (Vf : Nat → Option Int) (n : Nat) : List V := (List.range n).map fun g => vO ((Vf g).map (sg most * ·))
theorem bst_get {most : Bool} {U : Nat → Option Int} {n g : Nat} (h : g < n) : (bst most U n)[g]? = some (vO ((U g).map (sg most * ·))) := by
  unfold bst
  rw [List.getElem?_map, List.getElem?_range h]
  rfl
theorem bst_set {most : Bool} {U : Nat → Option Int} {n g : Nat} {u : Int} (h : g < n) : (bst most U n).set g (.int (sg most * u)) = bst most (fun k => if k = g then some u else U k) n := by
  unfold bst
  rw [setmap_range h]
  refine List.map_congr_left fun k _ => ?_
  show (if k = g then V.int (sg most * u) else vO ((U k).map (sg most * ·))) = vO ((if k = g then some u else U k).map (sg most * ·))
  by_cases e : k = g
  · rw [if_pos e, if_pos e]; rfl
  · rw [if_neg e, if_neg e]
theorem bst_len {most : Bool} {U : Nat → Option Int} {n : Nat} : (bst most U n).length = n := by
  unfold bst
  rw [List.length_map, List.length_range]
theorem same_wo_of {A B : Hp} {p : Addr} (s : Same A B) (n : A p = none) : Same A (wo B p) := fun a o e => by
  rw [wo_ne fun z => by rw [z, n] at e; cases e]
  exact s _ _ e
theorem sc_Outlook_values_up_to : FnScope ["self", "many", "best", "given", "number", "taken", "at", "mark"] ["self", "many"] (defScope s_Outlook_values_up_to) := ⟨rfl, rfl, rfl, by decide +kernel, rfl, by decide +kernel, by decide +kernel⟩
section
variable {P : Program} {w : World} {K : PySem.W.Frag} {mg : Str → Option Value} {base : Heap} {gs fs : List Str} {C CM CR : Addr}
theorem ok_Outlook_values_up_to {f : Addr} {fd : FuncData} (F : FunD K "values_up_to" "Outlook.values_up_to" (defArgs s_Outlook_values_up_to) (defBody s_Outlook_values_up_to) (defScope s_Outlook_values_up_to) [] [] f fd) (T : Txt K mg gs FS) (oc : OutC K C) (rc : RouC K CR) (o_better : MetC P w K mg base 1 C "better" (spBet K C)) : FnOk P w K mg base CX0 3 f fd ["self", "many"] (spVals K C CR) := by
  refine F.ok sc_Outlook_values_up_to (fun vs H Q E h => ?_) (fun cdv A outer s H vs Q E hr h => ?_)
  · obtain ⟨x, most, i, b, ws, pt, pl, n, U, L, rfl, _⟩ := h
    rfl
  · obtain ⟨x, most, i, b, ws, pt, pl, n, U, L, rfl, ⟨dx, xb, pr, pg, hx, hb, ⟨xs, hr1, ch⟩, hg⟩, hpt, lk, g0, hn, q⟩ := h
    generalize hS : ((n + 1 : Nat) : Int) = S at hx lk
    have S0 : -(2 ^ 64) < S ∧ S < 2 ^ 64 := by
      rw [← hS]
      constructor <;> omega
    refine ⟨_, PSs.nox (pss_cons (ps_set (i := 2) sc_Outlook_values_up_to.nd rfl (Or.inl rfl) (pe_op op_rep (pe_lst (pa_cons pe_non pa_nil)) (pv 1))) (pss_cons (ps_for PassesOwn.never rfl (pi_range1 rfl (T.fr _ (by decide +kernel)) (pa_cons (pv 1) pa_nil)) (pg_name (i := 3) sc_Outlook_values_up_to.nd rfl (Or.inl rfl)) (pss_one (ps_if (pt_cmpR op_notN (pe_ix (ixl (K := K)) (pe_fld (pv 0) rfl) (pv 3) fun _ _ => rfl) pe_non (nomark _)) (pss_one (ps_for PassesOwn.never rfl (pi_list (pe_fld (pv 0) rfl)) (pg_name (i := 4) sc_Outlook_values_up_to.nd rfl (Or.inl rfl)) (pss_one (ps_for PassesOwn.never rfl (pi_enumST rfl (T.fr _ (by decide +kernel)) (pa_cons (pe_slice sl_tupA (pe_fld (pe_ix (ixl (K := K)) (pe_fld (pv 0) rfl) (pv 4) fun _ _ => rfl) rfl) po_none (po_some (pe_op op_sub (pv 1) (pv 3)))) pa_nil) (pk_cons (pv 3) pk_nil)) (pgt (K := K) (n := 2) rfl rfl (pgs_cons (pg_name (i := 6) sc_Outlook_values_up_to.nd rfl (Or.inl rfl)) (pgs_cons (pg_name (i := 7) sc_Outlook_values_up_to.nd rfl (Or.inl rfl)) pgs_nil))) (pss_cons (ps_set (i := 5) sc_Outlook_values_up_to.nd rfl (Or.inl rfl) (pe_op op_add (pe_ix (ixl (K := K)) (pe_fld (pv 0) rfl) (pv 3) fun _ _ => rfl) (pe_op op_mul (pv 7) (pe_fld (pv 0) rfl)))) (pss_one (ps_if (pt_val (pe_mt (pv 0) o_better hr (by decide) (pa_cons (pv 5) (pa_cons (pe_ix (ixl (K := K)) (pv 2) (pv 6) fun _ _ => rfl) pa_nil)))) (pss_one (ps_asg (pv 5) (pg_sub (pv 2) (pv 6) set_list))) pss_nil))))))) pss_nil))) (pss_one (ps_ret (pe_lc (own := [("taken", 5)]) rfl sc_Outlook_values_up_to.nd (pi_list (pv 2)) (blkOk_by (N := ["self", "many", "best", "given", "number", "taken", "at", "mark"]) (sc := defScope s_Outlook_values_up_to) (by decide +kernel)) (fun _ _ _ _ _ => by exact (pg_name (i := 5) sc_Outlook_values_up_to.nd rfl (Or.inl rfl))) (fun _ _ _ _ _ => by exact pts_nil) (fun _ _ _ _ _ => by exact (pe_ifExp (pt_val (pe_fldK (K := K) (pv 0) rfl)) (pe_un un_neg (pe_op op_fdiv (pe_un un_neg (pv 5)) (pe_fldK (K := K) (pv 0) rfl))) (pe_op op_fdiv (pv 5) (pe_fldK (K := K) (pv 0) rfl))))))))), ?_⟩
    refine ⟨(by show 1 ≤ sizeLine; decide), fun a1 ha1 => ?_⟩
    have t1 := NF.Same.new (o := .lst [V.non]) (Same.refl H) ha1
    have hA1 := upd_same (H := H) (a := a1) (o := .lst [V.non])
    generalize upd H a1 (.lst [V.non]) = H1 at t1 hA1
    refine ⟨_, rfl, a1, _, _, rfl, rfl, hA1, by omega, by omega, by rw [List.length_singleton, Int.toNat_natCast, Nat.one_mul]; exact Nat.le_trans (show n ≤ 10000 by omega) (by decide), fun D hD => ?_⟩
    have eb : (List.replicate ((n : Nat) : Int).toNat [V.non]).flatten = bst most (fun _ => none) n := by
      rw [Int.toNat_natCast, rep_one]
      rfl
    rw [eb]
    have s1 := NF.Same.new (o := .lst (bst most (fun _ => none) n)) t1 hD
    have hD0 : H D = none := L2.Same.free t1 hD
    have hD1 := upd_same (H := H1) (a := D) (o := .lst (bst most (fun _ => none) n))
    generalize upd H1 D (.lst (bst most (fun _ => none) n)) = H2 at s1 hD1
    refine ⟨_, rfl, _, rfl, by omega, by omega, ?_⟩
    refine for_range (lo := 0) (n := ((n : Nat) : Int).toNat) (fun B σ G => Same H G ∧ ∃ (Vf : Nat → Option Int) (v3 v4 v5 v6 v7 : Option V), G D = some (.lst (bst most Vf n)) ∧ (∀ j, j < n → MinOf (Psv (giv i ws) (mA i ws) (dSh most i ws none S) (fun k a => mkA most i ws k a * S) B 0 0 j) (Vf j)) ∧ σ = [some (.ref x), some (.int (n : Int)), some (.ref D), v3, v4, v5, v6, v7])
      ⟨s1, _, none, none, none, none, none, hD1, fun j _ => psv_zero, rfl⟩ ?_ ?_
    · rintro B σ G hB ⟨sG, Vf, v3, v4, v5, v6, v7, hDG, hV, rfl⟩
      have hB : B < n := by omega
      have atB : atI (tkn most U n) (0 + (B : Int)) = some (vO ((U B).map (sg most * ·))) := by
        rw [Int.zero_add]
        exact atI_nat (tkn_get (by omega))
      have muB := lk.u B (by omega)
      refine ⟨_, rfl, x, C, dx, _, _, rfl, sG _ _ hx, oc.cl, oc.nt, rfl, _, rfl, pt, _, _, _, rfl, rfl, SqL.of (sG _ _ hpt), atB, rfl, _, rfl, ?_⟩
      cases hU : U B with
      | none =>
        rw [hU] at muB
        refine iteF' rfl ?_
        exact ⟨sG, Vf, _, _, _, _, _, hDG, fun j hj => psv_none muB (hV j hj), rfl⟩
      | some u =>
        rw [hU] at muB atB
        refine iteT' rfl ?_
        refine ⟨_, rfl, x, C, dx, _, _, rfl, sG _ _ hx, oc.cl, oc.ng, rfl, pg, rfl, ⟨_, SqL.of (sG _ _ hg)⟩, ?_⟩
        refine for_list (xs := vNs (giv i ws)) (fun jj σ G => Same H G ∧ ∃ (Vf : Nat → Option Int) (v4 v5 v6 v7 : Option V), G D = some (.lst (bst most Vf n)) ∧ (∀ j, j < n → MinOf (Psv (giv i ws) (mA i ws) (dSh most i ws none S) (fun k a => mkA most i ws k a * S) B jj 0 j) (Vf j)) ∧ σ = [some (.ref x), some (.int (n : Int)), some (.ref D), some (.int (0 + (B : Int))), v4, v5, v6, v7])
          ⟨sG, Vf, v4, v5, v6, v7, hDG, hV, rfl⟩ (fun j σ G _ z => SqL.of (z.1 _ _ hg)) ?_ ?_
        · rintro jj v σ G hv ⟨sG, Vf, v4, v5, v6, v7, hDG, hV, rfl⟩
          have hj := (List.getElem?_eq_some_iff.mp hv).1
          rw [show (vNs (giv i ws)).length = (giv i ws).length from List.length_map ..] at hj
          rw [at_nat hj] at hv
          obtain rfl := Option.some.inj hv
          obtain ⟨k, hkd⟩ : ∃ k, k = (giv i ws)[jj] := ⟨_, rfl⟩
          have ek : (giv i ws)[jj]? = some k := by rw [List.getElem?_eq_getElem hj, hkd]
          rw [← hkd]
          have kg := List.mem_of_getElem? ek
          obtain ⟨kw, k1⟩ := giv_mem.mp kg
          obtain ⟨y, dr, m, _, ak, ro, hy1, hy2⟩ := round_at (ch.mono sG) kw
          refine ⟨_, rfl, x, C, dx, _, _, rfl, sG _ _ hx, oc.cl, oc.nr, rfl, _, rfl, pr, _, _, _, rfl, rfl, SqL.of (sG _ _ hr1), ak, y, CR, dr, _, _, rfl, hy1, rc.cl, rc.nm, rfl, ?_⟩
          refine ⟨_, rfl, _, rfl, _, _, rfl, rfl, _, rfl, ?_⟩
          refine slA_done (K := K) hy2 fun p1 G1 s2 t2 => ?_
          rw [show (n : Int) - (0 + (B : Int)) = ((n - B : Nat) : Int) by omega, cut_to] at t2
          refine ⟨_, rfl, p1, _, _, rfl, rfl, by omega, by omega, t2, ?_⟩
          have elen : ((vI (ahead i (ws.getD k []) 0)).take (n - B)).length = min (n - B) (mA i ws k) := by
            rw [List.length_take, vI_len]
            rfl
          have hD1' := s2 _ _ hDG
          have tw : SqT K (wo G1 D) p1 ((vI (ahead i (ws.getD k []) 0)).take (n - B)) := SqT.wo t2 hD1' trivial
          have sw : Same H (wo G1 D) := same_wo_of (Same.trans sG s2) hD0
          have rw1 : RouAt K CR (wo G1 D) y i (ws.getD k []) := RouAt.woL (ro.mono s2) hD1'
          obtain ⟨dr, m, hy1, hy2⟩ := rw1
          refine for_it (walk_enumT (k := 0 + (B : Int)) (xs := (vI (ahead i (ws.getD k []) 0)).take (n - B))) (fun t σ G => Same (wo G1 D) G ∧ ∃ (Vf : Nat → Option Int) (v5 v6 v7 : Option V), G D = some (.lst (bst most Vf n)) ∧ (∀ j, j < n → MinOf (Psv (giv i ws) (mA i ws) (dSh most i ws none S) (fun k a => mkA most i ws k a * S) B jj t j) (Vf j)) ∧ σ = [some (.ref x), some (.int (n : Int)), some (.ref D), some (.int (0 + (B : Int))), some (.int (k : Int)), v5, v6, v7])
            ⟨wo_same', Vf, _, _, _, hD1', hV, rfl⟩ (fun t σ G _ z => NF.Same.tup z.1 tw) ?_ ?_
          · rintro t v σ G2 G3 ht ⟨sG2, Vf, v5, v6, v7, hDG, hV, rfl⟩ ⟨T1, a1, b1, rfl, hT, rfl, ha1, hb1⟩
            rw [elen] at ht
            have htm : t < mA i ws k := by omega
            have htn : t < n - B := by omega
            obtain rfl : V.int (0 + (B : Int) + (t : Int)) = a1 := Option.some.inj ha1
            have hb1 : ((vI (ahead i (ws.getD k []) 0)).take (n - B))[t]? = some b1 := hb1
            obtain rfl : V.int (aA i ws k t) = b1 := by
              rw [List.getElem?_take, if_pos htn] at hb1
              unfold vI at hb1
              rw [List.getElem?_map, List.getElem?_eq_getElem htm] at hb1
              have := Option.some.inj hb1
              rw [← this]
              unfold aA
              rw [List.getD_eq_getElem?_getD, List.getElem?_eq_getElem htm]
              rfl
            have s3 := NF.Same.new (o := .tup [V.int (0 + (B : Int) + (t : Int)), V.int (aA i ws k t)]) sG2 hT
            have s23 := NF.Same.new (o := .tup [V.int (0 + (B : Int) + (t : Int)), V.int (aA i ws k t)]) (Same.refl G2) hT
            have hT3 := SqT.of (K := K) (upd_same (H := G2) (a := T1) (o := .tup [V.int (0 + (B : Int) + (t : Int)), V.int (aA i ws k t)]))
            generalize upd G2 T1 (.tup [V.int (0 + (B : Int) + (t : Int)), V.int (aA i ws k t)]) = G3 at s3 s23 hT3
            have sH3 := Same.trans sw s3
            have hxG := sH3 _ _ hx
            have hptG := SqL.of (K := K) (sH3 _ _ hpt)
            have hD3 := s23 _ _ hDG
            have eBt : (0 : Int) + (B : Int) + (t : Int) = ((B + t : Nat) : Int) := by omega
            have emk : sg most * u + aA i ws k t * S = sg most * (u + mkA most i ws k t * S) := by
              unfold mkA
              rw [Int.mul_add, ← Int.mul_assoc (sg most) (sg most * _), ← Int.mul_assoc (sg most) (sg most), sg_sq, Int.one_mul]
            have atV : atI (bst most Vf n) ((B + t : Nat) : Int) = some (vO ((Vf (B + t)).map (sg most * ·))) := atI_nat (bst_get (by omega))
            refine ⟨T1, _, rfl, hT3, rfl, _, _, rfl, ?_⟩
            refine ⟨_, _, rfl, ?_⟩
            refine ⟨rfl, ?_⟩
            refine ⟨_, rfl, x, C, dx, _, _, rfl, hxG, oc.cl, oc.nt, rfl, _, rfl, pt, _, _, _, rfl, rfl, hptG, atB, _, rfl, _, rfl, x, C, dx, _, _, rfl, hxG, oc.cl, oc.ns, rfl, _, _, rfl, rfl, .inr S0, _, _, rfl, rfl, ?_⟩
            dsimp only
            rw [emk, eBt]
            refine ⟨_, rfl, x, dx, _, rfl, hxG, rfl, ?_⟩
            refine ⟨_, rfl, _, rfl, _, rfl, D, _, _, _, rfl, rfl, SqL.of hD3, atV, ?_⟩
            refine ⟨x, dx, most, xb, pr, pg, S, pt, pl, _, _, rfl, hxG, ?_⟩
            rw [less_sg]
            have hput := psv_put (mk := fun k a => mkA most i ws k a * S) ek muB htm (hV (B + t) (by omega))
            rw [rlx_less] at hput
            refine ⟨_, rfl, ite2 (fun yes => ?_) (fun no => ?_)⟩
            · rw [if_pos yes] at hput
              refine ⟨_, rfl, _, rfl, _, rfl, D, _, _, B + t, rfl, rfl, hD3, ixN_n (by rw [bst_len]; omega), ?_⟩
              rw [bst_set (by omega)]
              refine ⟨NF.Same.put s3 wo_none, _, _, _, _, upd_same, fun j hj => ?_, rfl⟩
              by_cases e : j = B + t
              · rw [if_pos e, e]
                exact hput
              · rw [if_neg e]
                exact psv_off e (hV j hj)
            · rw [if_neg no] at hput
              refine ⟨s3, Vf, _, _, _, hD3, fun j hj => ?_, rfl⟩
              by_cases e : j = B + t
              · rw [e]
                exact hput
              · exact psv_off e (hV j hj)
          · rintro σ G2 ⟨sG2, Vf, v5, v6, v7, hDG, hV, rfl⟩
            rw [elen] at hV
            exact ⟨Same.trans sw sG2, Vf, _, _, _, _, hDG, fun j hj => psv_way ek hj (hV j hj), rfl⟩
        · rintro σ G ⟨sG, Vf, v4, v5, v6, v7, hDG, hV, rfl⟩
          rw [show (vNs (giv i ws)).length = (giv i ws).length from List.length_map ..] at hV
          exact ⟨sG, Vf, _, _, _, _, _, hDG, fun j hj => psv_next (hV j hj), rfl⟩
    · rintro σ G ⟨sG, Vf, v3, v4, v5, v6, v7, hDG, hV, rfl⟩
      rw [Int.toNat_natCast] at hV
      -- the shares are rounded
      have hval : ∀ j, j < n → ∃ u, Vf j = some u ∧ u / S = best most i ws (j + 1) := fun j hj => by
        have mv := psv_done hj (hV j hj)
        obtain ⟨kb, hkb⟩ := List.exists_mem_of_ne_nil _ g0
        obtain ⟨c, hc⟩ := wv_some (d := dSh most i ws none S) (mk := fun k a => mkA most i ws k a * S) hkb giv_pos (show 1 ≤ j + 1 by omega)
        cases hv : Vf j with
        | none =>
          rw [hv] at mv
          exact absurd hc (mv c)
        | some u =>
          rw [hv] at mv
          refine ⟨u, rfl, ?_⟩
          have ms := wv_sc (d := dA most i ws) (mk := mkA most i ws) (sh := S) (n := j + 1) (by omega) (fun _ => 1) (fun _ => Nat.le_refl _) giv_pos mv
          exact (minV_of ms).symm
      have Sp : 0 < S ∧ S < 1073741824 := by omega
      refine ⟨_, rfl, D, rfl, ⟨_, SqL.of hDG⟩, fun D2 hD2 => ?_⟩
      refine lc_list (xs := bst most Vf n) (fun j G' => Same G G' ∧ G' D2 = some (.lst (vI ((List.range j).map fun j => sg most * best most i ws (j + 1))))) ⟨NF.Same.new (Same.refl G) hD2, upd_same⟩ (fun j G' _ z => SqL.of (z.1 _ _ hDG)) ?_ ?_
      · rintro j v G' hv ⟨sG', hG'⟩
        have hj := (List.getElem?_eq_some_iff.mp hv).1
        rw [bst_len] at hj
        rw [bst_get hj] at hv
        obtain rfl := Option.some.inj hv
        obtain ⟨u, hu, hu2⟩ := hval j hj
        rw [hu]
        have hx' := sG' _ _ (sG _ _ hx)
        refine ⟨rfl, _, rfl, x, C, dx, _, _, rfl, hx', oc.cl, oc.nm, rfl, most, rfl, ?_⟩
        have fin : ∃ acc, G' D2 = some (HO.lst acc) ∧ acc.length < sizeLine ∧ (Same G (upd G' D2 (.lst (acc ++ [V.int (sg most * (u / S))]))) ∧ upd G' D2 (.lst (acc ++ [V.int (sg most * (u / S))])) D2 = some (.lst (vI ((List.range (j + 1)).map fun j => sg most * best most i ws (j + 1))))) := by
          refine ⟨_, hG', by rw [vI_len, List.length_map, List.length_range]; exact Nat.lt_of_lt_of_le (show j < 10000 by omega) (by decide), NF.Same.mut sG' hD2, ?_⟩
          rw [upd_same, List.range_succ, List.map_append, ← vI_app, hu2]
          rfl
        cases most with
        | true =>
          refine iteT ?_
          refine ⟨_, rfl, _, rfl, _, rfl, x, C, dx, _, _, rfl, hx', oc.cl, oc.ns, rfl, _, _, rfl, rfl, Sp, ?_⟩
          refine ⟨_, rfl, ?_⟩
          have e : -(-(sg true * u) / S) = sg true * (u / S) := by
            show -(-(-1 * u) / S) = -1 * (u / S)
            rw [show -(-1 * u) = u by omega]
            omega
          rw [← e] at fin
          exact fin
        | false =>
          refine iteF ?_
          refine ⟨_, rfl, _, rfl, x, C, dx, _, _, rfl, hx', oc.cl, oc.ns, rfl, _, _, rfl, rfl, Sp, ?_⟩
          have e : sg false * u / S = sg false * (u / S) := by
            show 1 * u / S = 1 * (u / S)
            rw [Int.one_mul, Int.one_mul]
          rw [← e] at fin
          exact fin
      · rintro G' ⟨sG', hG'⟩
        rw [bst_len] at hG'
        exact q D2 G' (Same.trans sG sG') hG'
end
end K28
set_option Elab.async false
set_option linter.all false
set_option maxRecDepth 100000
set_option maxHeartbeats 4000000
namespace K28
open PySem PySem.Spec PyProof.Rows L2 He NF RZ NT
theorem both1G {X : Prop} {R : Hp → Prop} (P : Hp → Prop) (h1 : (∀ G, P G → R G) → X) (h2 : ∀ G, P G → R G) : X := h1 h2
section
variable {P : Program} {w : World} {K : PySem.W.Frag} {mg : Str → Option Value} {base : Heap} {gs fs : List Str} {C CM CR : Addr}
theorem ok_Outlook_others_ahead {f : Addr} {fd : FuncData} (F : FunD K "others_ahead" "Outlook.others_ahead" (defArgs s_Outlook_others_ahead) (defBody s_Outlook_others_ahead) (defScope s_Outlook_others_ahead) [] [] f fd) (T : Txt K mg gs FS) (oc : OutC K C) (rc : RouC K CR) : FnOk P w K mg base CX0 1 f fd ["self", "given", "free"] (spOth K C CR) := by
  refine F.ok sc_Outlook_others_ahead (fun vs H Q E h => ?_) (fun cdv A outer s H vs Q E hr h => ?_)
  · obtain ⟨x, most, i, b, ws, sh, pt, pl, n, g, k, U, L, u, rfl, _⟩ := h
    rfl
  · obtain ⟨x, most, i, b, ws, sh, pt, pl, n, g, k, U, L, u, rfl, ⟨dx, xb, pr, pg, hx, hb, ⟨xs, hr1, ch⟩, hg⟩, hpl, lk, hk, hn, gn, hu, q⟩ := h
    refine ⟨_, PSs.nox (pss_cons (ps_set (i := 3) sc_Outlook_others_ahead.nd rfl (Or.inl rfl) (pe_lst pa_nil)) (pss_cons (ps_while PassesOwn.never (pt_cmpR op_gt (pv 1) pe_int (nomark _)) (pss_cons (ps_if (pt_cmpR op_ne (pe_ix (ixl (K := K)) (pe_fld (pv 0) rfl) (pv 1) fun _ _ => rfl) (pv 2) (nomark _)) (pss_one (ps_expr (pe_bm PySem.F.plainAttrs_list PySem.F.slot_list_append PySem.F.type_list_append mt_append (pv 3) (pa_cons (pe_ix (ixl (K := K)) (pe_fld (pv 0) rfl) (pv 1) fun _ _ => rfl) pa_nil)))) pss_nil) (pss_one (ps_set (i := 1) sc_Outlook_others_ahead.nd rfl (Or.inl rfl) (pe_op op_sub (pv 1) (pe_callB call_len_seq rfl (T.fr _ (by decide +kernel)) boot_len (pa_cons (pe_fld (pe_ix (ixl (K := K)) (pe_fld (pv 0) rfl) (pe_ix (ixl (K := K)) (pe_fld (pv 0) rfl) (pv 1) fun _ _ => rfl) fun _ _ => rfl) rfl) pa_nil))))))) (pss_one (ps_ret (pe_callTy cr_tup rfl (T.fr _ (by decide +kernel)) (by decide +kernel) (pa_cons (pv 3) pa_nil)))))), ?_⟩
    refine ⟨(by show 0 ≤ sizeLine; decide), fun D hD => ?_⟩
    refine ⟨fun m σ G => Same H G ∧ ∃ (ks : List Nat) (q u' : Nat → Int) (qn gv : Nat) (uv : Int), G D = some (.lst (vNs ks)) ∧ m = gv ∧ gv ≤ n ∧ U gv = some uv ∧ (∀ j ∈ ks, j ∈ giv i ws) ∧ (ks.map (mA i ws)).sum + qn * mA i ws k + gv = g ∧ u = (ks.map (dSh most i ws (some k) sh)).sum + (qn : Int) * (dA most i ws k * sh) + uv ∧ σ = [some (.ref x), some (.int (gv : Int)), some (.int (k : Int)), some (.ref D)],
      ⟨g, NF.Same.new (Same.refl H) hD, [], (fun _ => 0), (fun _ => 0), 0, g, u, upd_same, rfl, gn, hu, by simp, by simp, by simp, rfl⟩, ?_⟩
    rintro gv σ G ⟨sG, ks, _, _, qn, _, uv, hDG, rfl, gvn, huv, hks, e1, e2, rfl⟩
    refine ⟨_, rfl, _, _, rfl, rfl, _, rfl, ?_⟩
    refine ite2 (fun h => ?_) (fun h => ?_)
    · have h0 : 0 < gv := by
        have := of_decide_eq_true h
        omega
      obtain ⟨j, hj, lj, le1, _, hprev⟩ := lk.t gv h0 gvn uv huv
      have hxG := sG _ _ hx
      have hplG := SqL.of (K := K) (sG _ _ hpl)
      have atl : atI (lst L n) (gv : Int) = some (V.int (j : Int)) := by
        refine atI_nat ?_
        rw [lst_get gvn, lj]
        rfl
      obtain ⟨jw, j1⟩ := giv_mem.mp hj
      refine ⟨fun σ' G' => ∃ m', m' < gv ∧ (Same H G' ∧ ∃ (ks : List Nat) (q u' : Nat → Int) (qn gv : Nat) (uv : Int), G' D = some (.lst (vNs ks)) ∧ m' = gv ∧ gv ≤ n ∧ U gv = some uv ∧ (∀ j ∈ ks, j ∈ giv i ws) ∧ (ks.map (mA i ws)).sum + qn * mA i ws k + gv = g ∧ u = (ks.map (dSh most i ws (some k) sh)).sum + (qn : Int) * (dA most i ws k * sh) + uv ∧ σ' = [some (.ref x), some (.int (gv : Int)), some (.int (k : Int)), some (.ref D)]), fun σ' G' z => z, ?_⟩
      refine ⟨_, rfl, x, C, dx, _, _, rfl, hxG, oc.cl, oc.nl, rfl, _, rfl, pl, _, _, _, rfl, rfl, hplG, atl, _, rfl, rfl, _, rfl, ?_⟩
      refine' @both1G _ _ (fun G9 : Hp => Same H G9 ∧ ∃ (ks' : List Nat) (qn' : Nat), G9 D = some (.lst (vNs ks')) ∧ (∀ j ∈ ks', j ∈ giv i ws) ∧ (ks'.map (mA i ws)).sum + qn' * mA i ws k + (gv - mA i ws j) = g ∧ u = (ks'.map (dSh most i ws (some k) sh)).sum + (qn' : Int) * (dA most i ws k * sh) + (uv - dSh most i ws (some k) sh j)) (fun kk => ?A) ?B
      case A =>
        by_cases c : j = k
        · refine iteF' (by simp [c]) ?_
          have h0 := kk G ⟨sG, ks, qn + 1, hDG, hks, (by have ec : mA i ws j = mA i ws k := (by rw [c]); rw [Nat.succ_mul]; omega), by
            have et : dSh most i ws (some k) sh j = dA most i ws k * sh := by
              rw [c]
              unfold dSh toll
              simp
            rw [et, e2, Int.natCast_add, Int.add_mul]
            omega⟩
          revert h0
          generalize G = Gz
          intro h0
          exact h0
        · refine iteT' (by rw [decide_eq_false (fun z => c (by injection z with z; omega))]; rfl) ?_
          refine ⟨_, rfl, Or.inl ⟨rfl, _, SqL.of hDG⟩, _, rfl, x, C, dx, _, _, rfl, hxG, oc.cl, oc.nl, rfl, _, rfl, pl, _, _, _, rfl, rfl, hplG, atl, D, _, _, rfl, rfl, hDG, ?_, ?_⟩
          · have l1 := len_le_sum (l := ks.map (mA i ws)) fun v hv => by
              obtain ⟨t, ht, rfl⟩ := List.mem_map.mp hv
              exact giv_pos t (hks t ht)
            rw [List.length_map] at l1
            unfold vNs
            rw [List.length_map]
            exact Nat.lt_of_le_of_lt (show ks.length ≤ 5000 by omega) (by decide)
          · have evn : vNs ks ++ [V.int (j : Int)] = vNs (ks ++ [j]) := by
              unfold vNs
              rw [List.map_append]
              rfl
            rw [evn]
            have h0 := kk (upd G D (.lst (vNs (ks ++ [j])))) ⟨NF.Same.mut sG hD, ks ++ [j], qn, upd_same, fun t ht => (List.mem_append.mp ht).elim (hks t) fun z => by rw [List.mem_singleton.mp z]; exact hj, by rw [List.map_append, List.sum_append]; simp; omega, by rw [List.map_append, List.sum_append]; simp; omega⟩
            revert h0
            generalize upd G D (.lst (vNs (ks ++ [j]))) = Gz
            intro h0
            exact h0
      case B =>
        rintro G9 ⟨s9, ks', qn', hD9, hks', e1', e2'⟩
        have hx9 := s9 _ _ hx
        have hpl9 := SqL.of (K := K) (s9 _ _ hpl)
        obtain ⟨y, dr, m, _, aj, ro, hy1, hy2⟩ := round_at (ch.mono s9) jw
        refine ⟨_, rfl, _, rfl, x, C, dx, _, _, rfl, hx9, oc.cl, oc.nr, rfl, ?_⟩
        refine ⟨_, rfl, x, C, dx, _, _, rfl, hx9, oc.cl, oc.nl, rfl, _, rfl, pl, _, _, _, rfl, rfl, hpl9, atl, pr, _, _, _, rfl, rfl, SqL.of (s9 _ _ hr1), aj, y, CR, dr, _, _, rfl, hy1, rc.cl, rc.nm, rfl, m, _, rfl, .inr hy2, _, _, rfl, rfl, ?_⟩
        have eg : (gv : Int) - ((vI (ahead i (ws.getD j []) 0)).length : Int) = ((gv - mA i ws j : Nat) : Int) := by
          rw [vI_len]
          show (gv : Int) - (mA i ws j : Int) = _
          omega
        dsimp only
        rw [eg]
        exact ⟨gv - mA i ws j, by omega, s9, ks', (fun _ => 0), (fun _ => 0), qn', gv - mA i ws j, _, hD9, rfl, by omega, hprev, hks', e1', e2', rfl⟩
    · have h0 : gv = 0 := by
        by_cases z : gv = 0
        · exact z
        · exact absurd (decide_eq_true (by omega)) h
      subst h0
      rw [lk.zero] at huv
      have uv0 : (0 : Int) = uv := Option.some.inj huv
      refine ⟨_, rfl, D, _, rfl, .inl (SqL.of hDG), fun p G2 s2 t2 => ?_⟩
      exact q p ks qn G2 (Same.trans sG s2) t2 hks (by omega) (by rw [e2, ← uv0, Int.add_zero])
end
end K28
set_option Elab.async false
set_option linter.all false
set_option maxRecDepth 100000
set_option maxHeartbeats 4000000
namespace K28
open PySem PySem.Spec PyProof.Rows L2 He NF RZ NT
/-- few enough deeds -/
def Fewd (ws : List (List Deed)) : Prop := ws ≠ [] ∧ ws.length ≤ 4 ∧ ((∀ v ∈ ws, v.length ≤ 24) ∨ (ws.length = 1 ∧ ∀ v ∈ ws, v.length ≤ 600))
theorem Fewd.all {ws : List (List Deed)} (h : Fewd ws) : ∀ v ∈ ws, v.length ≤ 10000 := fun v hv => by
  rcases h.2.2 with z | ⟨_, z⟩ <;> have := z v hv <;> omega
/-- head, loop and rise of the table of the least, or the greatest -/
def spForm2 (K : PySem.W.Frag) (C CR : Addr) : Sp := fun vs H Q _ => ∃ (x : Addr) (most : Bool) (i : Nat) (b : List Deed) (ws : List (List Deed)) (sh : Int) (pt pl : Addr), vs = [.ref x] ∧ OutAt K C CR H x most i b ws sh pt pl ∧ Fewd ws ∧ b.length ≤ 600 ∧
  ∀ (p ph pq : Addr) (h l : List Int) (r : Int) (H' : Hp), Same (wo H x) H' → SqT K H' p [.ref ph, .ref pq, .int r] → Row K H' ph (vI h) → Row K H' pq (vI l) → Good h l r → h.length + l.length ≤ 3000 → r ≤ 10000 → (∀ n, 1 ≤ n → at_ h l r n = ext most i b ws n) → Q (.ref p) H'
theorem sc_Outlook_form : FnScope ["self", "head", "best", "lap", "longest", "lead", "values", "value", "number"] ["self"] (defScope s_Outlook_form) := ⟨rfl, rfl, rfl, by decide +kernel, rfl, by decide +kernel, by decide +kernel⟩
theorem bothL {X : Prop} {R : Nat → Prop} (P : Nat → Prop) (h1 : (∀ n, P n → R n) → X) (h2 : ∀ n, P n → R n) : X := h1 h2
theorem rou_ne {K : PySem.W.Frag} {C CR : Addr} {G : Hp} {y x : Addr} {i : Nat} {r : List Deed} {dx : Addr} {fl : List (Str × V)} (h : RouAt K CR G y i r) (hx : G x = some (.ins C dx fl)) (hf : fl.length ≠ 2) : y ≠ x := fun z => by
  obtain ⟨dy, m, h1, _⟩ := h
  rw [z, hx] at h1
  exact hf (congrArg List.length (HO.ins.inj (Option.some.inj h1)).2.2)
theorem RouAt.woX {K : PySem.W.Frag} {C CR : Addr} {G : Hp} {y x : Addr} {i : Nat} {r : List Deed} {dx : Addr} {fl : List (Str × V)} (h : RouAt K CR G y i r) (hx : G x = some (.ins C dx fl)) (hf : fl.length ≠ 2) : RouAt K CR (wo G x) y i r := by
  have ne := rou_ne h hx hf
  obtain ⟨dy, m, h1, h2⟩ := h
  exact ⟨dy, m, (wo_ne ne).trans h1, SqT.wo h2 hx trivial⟩
theorem stop_head {most : Bool} {i : Nat} {b : List Deed} {ws : List (List Deed)} (hs : stopT most i ws = true) (h0 : ws ≠ []) : Good (ahead i b 0) [] 0 ∧ ∀ n, 1 ≤ n → at_ (ahead i b 0) [] 0 n = ext most i b ws n := by
  refine ⟨⟨ahead_climbs (Int.le_refl 0), trivial, fun _ z => absurd rfl z, Int.le_refl _, fun _ => rfl, fun z => absurd rfl z⟩, fun n hn => ?_⟩
  unfold at_ ext
  by_cases c : n ≤ (ahead i b 0).length
  · rw [if_pos c, if_pos c]
  · rw [if_neg c, if_neg c, if_pos rfl, if_pos hs]
section
variable {P : Program} {w : World} {K : PySem.W.Frag} {mg : Str → Option Value} {base : Heap} {gs fs : List Str} {C CM CR : Addr}
theorem ok_Outlook_form {f : Addr} {fd : FuncData} (F : FunD K "form" "Outlook.form" (defArgs s_Outlook_form) (defBody s_Outlook_form) (defScope s_Outlook_form) [] [] f fd) (T : Txt K mg gs FS) (oc : OutC K C) (rc : RouC K CR) (o_stopping : MetC P w K mg base 1 C "stopping" (spStop K C CR)) (o_best_way : MetC P w K mg base 3 C "best_way" (spBestW K C CR)) (o_look : MetC P w K mg base 3 C "look" (spLook K C CR)) (o_values_up_to : MetC P w K mg base 3 C "values_up_to" (spVals K C CR)) : FnOk P w K mg base CX0 5 f fd ["self"] (spForm2 K C CR) := by
  refine F.ok sc_Outlook_form (fun vs H Q E h => ?_) (fun cdv A outer s H vs Q E hr h => ?_)
  · obtain ⟨x, most, i, b, ws, sh, pt, pl, rfl, _⟩ := h
    rfl
  · obtain ⟨x, most, i, b, ws, sh, pt0, pl0, rfl, oa, fw, hb6, q⟩ := h
    obtain ⟨dx, xb, pr, pg, hx, B0⟩ := id oa
    obtain ⟨hb, ⟨xs, hr1, ch⟩, hg⟩ := id B0
    obtain ⟨db, mb, hb1, hb2⟩ := id hb
    have bl := ahead_len (i := i) (a := b) (t := 0)
    refine ⟨_, PSs.nox (pss_cons (ps_set (i := 1) sc_Outlook_form.nd rfl (Or.inl rfl) (pe_callTy call_list_of rfl (T.fr _ (by decide +kernel)) (by decide +kernel) (pa_cons (pe_fld (pe_fld (pv 0) rfl) rfl) pa_nil))) (pss_cons (ps_if (pt_cmpR op_notN (pe_mt0 (pv 0) o_stopping hr (by decide)) pe_non (nomark _)) (pss_one (ps_ret (pe_tup (pa_cons (pv 1) (pa_cons (pe_tup pa_nil) (pa_cons pe_int pa_nil)))))) pss_nil) (pss_cons (ps_set (i := 2) sc_Outlook_form.nd rfl (Or.inl rfl) (pe_mt0 (pv 0) o_best_way hr (by decide))) (pss_cons (ps_set (i := 3) sc_Outlook_form.nd rfl (Or.inl rfl) (pe_callB call_len_seq rfl (T.fr _ (by decide +kernel)) boot_len (pa_cons (pe_fld (pv 2) rfl) pa_nil))) (pss_cons (ps_set (i := 4) sc_Outlook_form.nd rfl (Or.inl rfl) (pe_callB (cr_max rfl) rfl (T.fr _ (by decide +kernel)) (by decide +kernel) (pa_cons (pe_lc (own := [("number", 8)]) rfl sc_Outlook_form.nd (pi_list (pe_fld (pv 0) rfl)) (blkOk_by (N := ["self", "head", "best", "lap", "longest", "lead", "values", "value", "number"]) (sc := defScope s_Outlook_form) (by decide +kernel)) (fun _ _ _ _ _ => by exact (pg_name (i := 8) sc_Outlook_form.nd rfl (Or.inl rfl))) (fun _ _ _ _ _ => by exact pts_nil) (fun _ _ _ _ _ => by exact (pe_callB (call_lenK (K := K)) rfl (T.fr _ (by decide +kernel)) boot_len (pa_cons (pe_fldK (K := K) (pe_ix (ixl (K := K)) (pe_fldK (K := K) (pv 0) rfl) (pv 8) fun _ _ => rfl) rfl) pa_nil)))) pa_nil))) (pss_cons (ps_set (i := 5) sc_Outlook_form.nd rfl (Or.inl rfl) (pe_ifExp (pt_cmpR op_eq (pe_callB call_len_seq rfl (T.fr _ (by decide +kernel)) boot_len (pa_cons (pe_fld (pv 0) rfl) pa_nil)) pe_int (nomark _)) (pv 4) (pe_op op_mul (pv 3) (pv 4)))) (pss_cons (ps_expr (pe_mt (pv 0) o_look hr (by decide) (pa_cons (pe_op op_add (pv 5) (pv 3)) (pa_cons pe_non pa_nil)))) (pss_cons (ps_setLc (i := 6) (own := [("value", 7)]) rfl sc_Outlook_form.nd rfl rfl (sw_true rfl rfl rfl (by decide +kernel)) (pi_list (pe_mt (pv 0) o_values_up_to hr (by decide) (pa_cons (pe_op op_add (pv 5) (pv 3)) pa_nil))) (blkOk_by (N := ["self", "head", "best", "lap", "longest", "lead", "values", "value", "number"]) (sc := defScope s_Outlook_form) (by decide +kernel)) (fun _ _ _ _ _ => by exact (pg_name (i := 7) sc_Outlook_form.nd rfl (Or.inl rfl))) (fun _ _ _ _ _ => by exact pts_nil) (fun _ _ _ _ _ => by exact (pe_op op_add (pe_fldK (K := K) (pe_fldK (K := K) (pv 0) rfl) rfl) (pv 7)))) (pss_one (ps_ret (pe_tup (pa_cons (pe_op op_cat (pv 1) (pe_slice sl_list (pv 6) po_none (po_some (pv 5)))) (pa_cons (pe_slice sl_list (pv 6) (po_some (pv 5)) po_none) (pa_cons (pe_fld (pv 2) rfl) pa_nil)))))))))))))), ?_⟩
    refine ⟨_, rfl, x, C, dx, _, _, rfl, hx, oc.cl, oc.nb, rfl, xb, CR, db, _, _, rfl, hb1, rc.cl, rc.nm, rfl, mb, _, rfl, .inr hb2, fun L1 hL1 => ?_⟩
    have s1 := NF.Same.new (o := .lst (vI (ahead i b 0))) (Same.refl H) hL1
    have hl1 := upd_same (H := H) (a := L1) (o := .lst (vI (ahead i b 0)))
    generalize upd H L1 (.lst (vI (ahead i b 0))) = H1 at s1 hl1
    refine ⟨_, rfl, x, dx, _, rfl, s1 _ _ hx, rfl, ?_⟩
    refine ⟨x, most, i, b, ws, sh, pt0, pl0, rfl, oa.mono s1, fw.1, fun o H2 s2 o1 o2 => ⟨?_, _, rfl, ?_⟩⟩
    · rfl
    have s02 := Same.trans s1 s2
    have hl2 := s2 _ _ hl1
    cases o with
    | some k =>
      obtain ⟨hs, _, _⟩ := o2 k rfl
      obtain ⟨gd, ha⟩ := stop_head (b := b) hs fw.1
      refine iteT' rfl ?_
      refine ⟨_, rfl, (by show 0 ≤ sizeLine; decide), fun e1 he1 => ?_⟩
      have t1 := NF.Same.new (o := .tup []) (Same.refl H2) he1
      have he1' := upd_same (H := H2) (a := e1) (o := .tup [])
      generalize upd H2 e1 (.tup []) = H3 at t1 he1'
      refine ⟨(by show 3 ≤ sizeLine; decide), fun p hp => ?_⟩
      have t2 := NF.Same.new (o := .tup [V.ref L1, V.ref e1, V.int 0]) (Same.refl H3) hp
      refine q p L1 e1 (ahead i b 0) [] 0 _ (Same.trans (Same.trans wo_same' s02) (Same.trans t1 t2)) (SqT.of upd_same) (.inl (SqL.of (t2 _ _ (t1 _ _ hl2)))) (.inr (NF.Same.tup t2 (SqT.of he1'))) gd (by show _ + 0 ≤ _; omega) (by decide) ha
    | none =>
      have hs := o1 rfl
      have hgne : giv i ws ≠ [] := by
        obtain ⟨k, hk⟩ := some_gives fw.1 hs
        exact fun z => by rw [z] at hk; cases hk
      refine iteF' rfl ?_
      refine ⟨_, rfl, x, dx, _, rfl, s02 _ _ hx, rfl, ?_⟩
      refine ⟨x, most, i, b, ws, sh, pt0, pl0, rfl, oa.mono s02, hgne, fw.all, fun kb y H3 hbest s3 ro => ?_⟩
      have s03 := Same.trans s02 s3
      have hl3 := s3 _ _ hl2
      obtain ⟨dr, m, hy1, hy2⟩ := id ro
      have lenb : ((vI (ahead i (ws.getD kb []) 0)).length : Int) = (mA i ws kb : Int) := by rw [vI_len]; rfl
      refine ⟨_, rfl, y, CR, dr, _, _, rfl, hy1, rc.cl, rc.nm, rfl, m, _, rfl, .inr hy2, ?_⟩
      rw [lenb]
      -- the longest
      have hx3 := s03 _ _ hx
      have hg3 := s03 _ _ hg
      refine ⟨_, rfl, x, C, dx, _, _, rfl, hx3, oc.cl, oc.ng, rfl, pg, rfl, ⟨_, SqL.of hg3⟩, fun D hD => ?_⟩
      refine lc_list (xs := vNs (giv i ws)) (fun j G => Same H3 G ∧ G D = some (.lst ((((giv i ws).take j).map fun k => (mA i ws k : Int)).map V.int))) ⟨NF.Same.new (Same.refl H3) hD, upd_same⟩ (fun j G _ z => SqL.of (z.1 _ _ hg3)) ?_ ?_
      · rintro j v G hv ⟨sG, hG⟩
        have hj := (List.getElem?_eq_some_iff.mp hv).1
        rw [show (vNs (giv i ws)).length = (giv i ws).length from List.length_map ..] at hj
        rw [at_nat hj] at hv
        obtain rfl := Option.some.inj hv
        obtain ⟨k, hkd⟩ : ∃ k, k = (giv i ws)[j] := ⟨_, rfl⟩
        have ek : (giv i ws)[j]? = some k := by rw [List.getElem?_eq_getElem hj, hkd]
        rw [← hkd]
        obtain ⟨kw, k1⟩ := giv_mem.mp (List.mem_of_getElem? ek)
        obtain ⟨y2, dr2, m2, _, ak, ro2, hz1, hz2⟩ := round_at (ch.mono (Same.trans s03 sG)) kw
        refine ⟨rfl, _, rfl, x, C, dx, _, _, rfl, sG _ _ hx3, oc.cl, oc.nr, rfl, _, rfl, pr, _, _, _, rfl, rfl, SqL.of (sG _ _ (s03 _ _ hr1)), ak, y2, CR, dr2, _, _, rfl, hz1, rc.cl, rc.nm, rfl, m2, _, rfl, .inr hz2, ?_⟩
        rw [vI_len]
        refine ⟨_, hG, ?_, NF.Same.mut sG hD, ?_⟩
        · rw [List.length_map, List.length_map, List.length_take]
          have : (giv i ws).length ≤ ws.length := by
            unfold giv
            exact Nat.le_trans (List.length_filter_le _ _) (by rw [List.length_range]; exact Nat.le_refl _)
          have := fw.2.1
          exact Nat.lt_of_le_of_lt (show min j (giv i ws).length ≤ 10 by omega) (by decide)
        · rw [upd_same, List.take_add_one, ek, List.map_append, List.map_append]
          rfl
      · rintro G4 ⟨s4, hD4⟩
        rw [show (vNs (giv i ws)).length = (giv i ws).length from List.length_map .., List.take_length] at hD4
        have s04 := Same.trans s03 s4
        have hx4 := s4 _ _ hx3
        have hg4 := s4 _ _ hg3
        have hl4 := s4 _ _ hl3
        refine ⟨D, (giv i ws).map (fun k => (mA i ws k : Int)), rfl, SqL.of hD4, by rw [List.length_map]; exact List.length_pos_iff.mpr hgne, fun mx hmx hall => ?_⟩
        obtain ⟨k0, hk0, rfl⟩ := List.mem_map.mp hmx
        have hM : ∀ k ∈ giv i ws, mA i ws k ≤ mA i ws k0 := fun k hk => by
          have := hall _ (List.mem_map.mpr ⟨k, hk, rfl⟩)
          omega
        have gl : (giv i ws).length ≤ ws.length := by
          unfold giv
          exact Nat.le_trans (List.length_filter_le _ _) (by rw [List.length_range]; exact Nat.le_refl _)
        refine ⟨_, rfl, x, C, dx, _, _, rfl, hx4, oc.cl, oc.ng, rfl, pg, _, rfl, .inl (SqL.of hg4), rfl, _, rfl, ?_⟩
        have lg : (vNs (giv i ws)).length = (giv i ws).length := List.length_map ..
        rw [lg]
        refine' @bothL _ _ (fun lead : Nat => (mA i ws kb * mA i ws k0 ≤ lead ∨ ((∀ k ∈ giv i ws, k = kb) ∧ mA i ws kb ≤ lead)) ∧ lead + mA i ws kb ≤ 1200) (fun kk => ?A) ?B
        case A =>
          by_cases c : ¬ (giv i ws).length = 1
          · refine iteF' (decide_eq_false fun z => c (by injection z with z; omega)) ?_
            have g2 := List.length_pos_iff.mpr hgne
            have h24 : ∀ k, mA i ws k ≤ 24 := fun k => mA_le (by
              rcases fw.2.2 with z | ⟨z, _⟩
              · exact z
              · omega)
            refine ⟨_, rfl, _, rfl, _, _, rfl, rfl, .inl ?_, ?_⟩
            · have := h24 kb
              constructor <;> omega
            have e : (mA i ws kb : Int) * (mA i ws k0 : Int) = ((mA i ws kb * mA i ws k0 : Nat) : Int) := (Int.natCast_mul _ _).symm
            dsimp only
            rw [e]
            have h0 := kk (mA i ws kb * mA i ws k0) ⟨.inl (Nat.le_refl _), by
              have := Nat.mul_le_mul (h24 kb) (h24 k0)
              have := h24 kb
              omega⟩
            revert h0
            generalize mA i ws kb * mA i ws k0 = z
            intro h0
            exact h0
          · have c := Decidable.of_not_not c
            refine iteT' (decide_eq_true (by rw [c]; rfl)) ?_
            refine ⟨_, rfl, ?_⟩
            have hone : ∀ k ∈ giv i ws, k = kb := fun k hk => by
              obtain ⟨z, hz⟩ := List.length_eq_one_iff.mp c
              rw [hz] at hk
              have hb' := hbest.1
              rw [hz] at hb'
              rw [List.mem_singleton.mp hk, List.mem_singleton.mp hb']
            have h600 : ∀ k, mA i ws k ≤ 600 := fun k => mA_le fun v hv => by
              rcases fw.2.2 with z | ⟨_, z⟩ <;> have := z v hv <;> omega
            have h0 := kk (mA i ws k0) ⟨.inr ⟨hone, hM kb hbest.1⟩, by have := h600 k0; have := h600 kb; omega⟩
            exact h0
        case B =>
          rintro lead hlead'
          have hlead : (mA i ws kb * mA i ws k0 ≤ lead ∨ ((∀ k ∈ giv i ws, k = kb) ∧ mA i ws kb ≤ lead)) ∧ True := ⟨hlead'.1, trivial⟩
          have hsz := hlead'.2
          have e2 : (lead : Int) + (mA i ws kb : Int) = ((lead + mA i ws kb : Nat) : Int) := by omega
          have L1x : L1 ≠ x := fun z => by rw [z, hx4] at hl4; cases hl4
          have rox : RouAt K CR (wo G4 x) y i (ws.getD kb []) := RouAt.woX (ro.mono s4) hx4 (show 7 ≠ 2 by decide)
          have hlx : (wo G4 x) L1 = some (.lst (vI (ahead i b 0))) := (wo_ne L1x).trans hl4
          have s04x : Same (wo H x) (wo G4 x) := fun a o e => by
            by_cases z : a = x
            · rw [z, wo_none] at e; cases e
            · rw [wo_ne z] at e ⊢
              exact s04 _ _ e
          refine ⟨_, rfl, x, dx, _, rfl, hx4, rfl, ?_⟩
          refine ⟨_, rfl, _, rfl, _, _, rfl, rfl, ?_⟩
          refine ⟨x, most, i, b, ws, sh, pt0, pl0, lead + mA i ws kb, none, by show [V.ref x, V.int ((lead : Int) + (mA i ws kb : Int)), V.non] = _; rw [e2]; rfl, oa.mono s04, by omega, fw.2.1, fun H5 U L pt pl s5 oa5 hpt hpl lk => ?_⟩
          have rox := rox.mono s5
          have hl5 := s5 _ _ hlx
          have s05 := Same.trans s04x s5
          obtain ⟨dx5, xb5, pr5, pg5, hx5, B5⟩ := id oa5
          refine ⟨_, rfl, x, dx5, _, rfl, hx5, rfl, ?_⟩
          refine ⟨_, rfl, _, rfl, _, _, rfl, rfl, ?_⟩
          refine ⟨x, most, i, b, ws, pt, pl, lead + mA i ws kb, U, L, by show [V.ref x, V.int ((lead : Int) + (mA i ws kb : Int))] = _; rw [e2], oa5, hpt, lk, hgne, by omega, fun p H6 s6 hp6 => ?_⟩
          refine ⟨p, rfl, ⟨_, SqL.of hp6⟩, fun D2 hD2 => ?_⟩
          have hx6 := s6 _ _ hx5
          obtain ⟨db6, mb6, hb6', _⟩ := (B5.mono s6).1
          refine lc_list (xs := vI ((List.range (lead + mA i ws kb)).map fun j => sg most * best most i ws (j + 1))) (fun j G => Same H6 G ∧ G D2 = some (.lst (vI (vls most i b ws j)))) ⟨NF.Same.new (Same.refl H6) hD2, upd_same⟩ (fun j G _ z => SqL.of (z.1 _ _ hp6)) ?_ ?_
          · rintro j v G hv ⟨sG, hG⟩
            have hj := (List.getElem?_eq_some_iff.mp hv).1
            rw [vI_len, List.length_map, List.length_range] at hj
            unfold vI at hv
            rw [List.getElem?_map, List.getElem?_map, List.getElem?_range hj] at hv
            obtain rfl : V.int (sg most * best most i ws (j + 1)) = v := Option.some.inj hv
            refine ⟨rfl, _, rfl, x, C, dx5, _, _, rfl, sG _ _ hx6, oc.cl, oc.nb, rfl, xb5, CR, db6, _, _, rfl, sG _ _ hb6', rc.cl, rc.nt, rfl, _, rfl, _, _, rfl, rfl, ?_⟩
            refine ⟨_, hG, by rw [vI_len, vls_len]; exact Nat.lt_of_lt_of_le (show j < 10000 by omega) (by decide), NF.Same.mut sG hD2, ?_⟩
            unfold vls
            rw [upd_same, List.range_succ, List.map_append, ← vI_app]
            rfl
          · rintro G7 ⟨s7, hD7⟩
            rw [vI_len, List.length_map, List.length_range] at hD7
            have s57 := Same.trans s6 s7
            have hl7 := s57 _ _ hl5
            have ro7 := rox.mono s57
            obtain ⟨dr7, m7, hy7, hy7'⟩ := id ro7
            -- cut and told
            refine ⟨_, rfl, _, rfl, _, rfl, _, rfl, D2, _, rfl, SqL.of hD7, fun c1 hc1 => ?_⟩
            rw [cut_to, vI_take]
            have t1 := NF.Same.new (o := .lst (vI ((vls most i b ws (lead + mA i ws kb)).take lead))) (Same.refl G7) hc1
            have hc1' := upd_same (H := G7) (a := c1) (o := .lst (vI ((vls most i b ws (lead + mA i ws kb)).take lead)))
            generalize upd G7 c1 (.lst (vI ((vls most i b ws (lead + mA i ws kb)).take lead))) = G8 at t1 hc1'
            refine ⟨L1, c1, _, _, rfl, rfl, t1 _ _ hl7, hc1', ?_, fun c2 hc2 => ?_⟩
            · rw [vI_len, vI_len, List.length_take, vls_len]
              exact Nat.le_trans (show (ahead i b 0).length + min lead (lead + mA i ws kb) ≤ 10000 by omega) (by decide)
            rw [vI_app]
            have t2 := NF.Same.new (o := .lst (vI (ahead i b 0 ++ (vls most i b ws (lead + mA i ws kb)).take lead))) t1 hc2
            have hc2' := upd_same (H := G8) (a := c2) (o := .lst (vI (ahead i b 0 ++ (vls most i b ws (lead + mA i ws kb)).take lead)))
            generalize upd G8 c2 (.lst (vI (ahead i b 0 ++ (vls most i b ws (lead + mA i ws kb)).take lead))) = G9 at t2 hc2'
            refine ⟨_, rfl, _, rfl, _, rfl, D2, _, rfl, SqL.of (t2 _ _ hD7), fun c3 hc3 => ?_⟩
            rw [cut_from, vI_drop]
            have t3 := NF.Same.new (o := .lst (vI ((vls most i b ws (lead + mA i ws kb)).drop lead))) (Same.refl G9) hc3
            have hc3' := upd_same (H := G9) (a := c3) (o := .lst (vI ((vls most i b ws (lead + mA i ws kb)).drop lead)))
            generalize upd G9 c3 (.lst (vI ((vls most i b ws (lead + mA i ws kb)).drop lead))) = GA at t3 hc3'
            have t23 := Same.trans t2 t3
            refine ⟨_, rfl, y, CR, dr7, _, _, rfl, t23 _ _ hy7, rc.cl, rc.nt, rfl, (by show 3 ≤ sizeLine; decide), fun p2 hp2 => ?_⟩
            have t4 := NF.Same.new (o := .tup [V.ref c2, V.ref c3, V.int (took i (ws.getD kb []) : Int)]) (Same.refl GA) hp2
            obtain ⟨gd, ha⟩ := ext_form (b := b) fw.1 hs hbest hM hlead.1
            obtain ⟨c1e, c2e⟩ := ext_cut (b := b) hs (lead := lead) (lap := mA i ws kb)
            rw [c1e, c2e] at gd ha
            refine q p2 c2 c3 _ _ _ _ (Same.trans s05 (Same.trans s57 (Same.trans t23 t4))) (SqT.of upd_same) (.inl (SqL.of (t4 _ _ (t3 _ _ hc2')))) (.inl (SqL.of (t4 _ _ hc3'))) gd ?_ ?_ ha
            · rw [List.length_append, List.length_take, List.length_drop, vls_len]
              omega
            · have z1 := took_len (i := i) (a := ws.getD kb [])
              have z2 : (ws.getD kb []).length ≤ 10000 := by
                rw [List.getD_eq_getElem?_getD]
                cases e : ws[kb]? with
                | none => exact Nat.zero_le _
                | some v => exact fw.all v (List.mem_of_getElem? e)
              omega
end
end K28
set_option Elab.async false
set_option linter.all false
/-! The best way, and the sizes of an extreme; plain forms that pass over. -/
namespace NT
theorem plain_tr {h l h' l' : List Int} {r r' : Int} {x : List Int × List Int × Int} (p : IsPlain h l r x) (e : ∀ n, 1 ≤ n → at_ h l r n = at_ h' l' r' n) : IsPlain h' l' r' x := by
  rcases p with ⟨rfl, rfl⟩ | ⟨n1, n1', m1, k1, e1⟩
  · by_cases c : l' = []
    · subst c
      refine .inl ⟨rfl, ?_⟩
      rw [one_never e]
    · have q := e (h.length + h'.length + 1) (by omega)
      rw [at_loop c (by omega)] at q
      unfold at_ at q
      rw [if_neg (by omega), if_pos rfl] at q
      cases q
  · by_cases c : l' = []
    · subst c
      have q := e (h.length + h'.length + 1) (by omega)
      rw [at_loop n1 (by omega)] at q
      unfold at_ at q
      rw [if_neg (by omega), if_pos rfl] at q
      cases q
    · exact .inr ⟨c, n1', m1, k1, fun n hn => (e1 n hn).trans (e n hn)⟩
theorem best_ex {m : Nat → Nat} {d : Nat → Int} : ∀ {G : List Nat}, (∀ k ∈ G, 1 ≤ m k) → G ≠ [] → ∃ kb, kb ∈ G ∧ ∀ k ∈ G, d kb * (m k : Int) ≤ d k * (m kb : Int)
  | [], _, h => absurd rfl h
  | [a], _, _ => ⟨a, by simp, fun k hk => by rw [List.mem_singleton.mp hk]; exact Int.le_refl _⟩
  | a :: b :: G, hm, _ => by
    obtain ⟨kb, hk, hb⟩ := best_ex (G := b :: G) (fun k hk => hm k (List.mem_cons_of_mem _ hk)) (by simp)
    have pa := hm a (by simp)
    have pk := hm kb (List.mem_cons_of_mem _ hk)
    by_cases c : d a * (m kb : Int) ≤ d kb * (m a : Int)
    · refine ⟨a, by simp, fun k hk' => ?_⟩
      rcases List.mem_cons.mp hk' with rfl | hk'
      · exact Int.le_refl _
      · exact rate_trans c (hb k hk') pk
    · refine ⟨kb, List.mem_cons_of_mem _ hk, fun k hk' => ?_⟩
      rcases List.mem_cons.mp hk' with rfl | hk'
      · omega
      · exact hb k hk'
end NT
set_option Elab.async false
set_option linter.all false
set_option maxRecDepth 100000
set_option maxHeartbeats 4000000
namespace K28
open PySem PySem.Spec PyProof.Rows L2 He NF RZ NT
/-- the plain form of the least, or the greatest -/
def IsExt (most : Bool) (i : Nat) (b : List Deed) (ws : List (List Deed)) (z : List Int × List Int × Int) : Prop := ∃ h l r, Good h l r ∧ h.length + l.length ≤ 3000 ∧ r ≤ 10000 ∧ (∀ n, 1 ≤ n → at_ h l r n = ext most i b ws n) ∧ IsPlain h l r z
def spExt (K : PySem.W.Frag) (CM CT : Addr) (most : Bool) : Sp := fun vs H Q _ => ∃ (xm : Addr) (n i : Nat) (b : List Deed) (ws : List (List Deed)), vs = [.ref xm, .int (i : Int)] ∧ MakAt K CM H xm n b ws ∧ GoodM n b ws ∧ i < n ∧
  ∀ y z H', IsExt most i b ws z → Same H H' → TabAt K CT H' y z → Q (.ref y) H'
theorem sc_greatest : FnScope ["maker", "inlet", "head", "loop", "rise"] ["maker", "inlet"] (defScope s_greatest) := ⟨rfl, rfl, rfl, by decide +kernel, rfl, by decide +kernel, by decide +kernel⟩
theorem sc_least : FnScope ["maker", "inlet", "head", "loop", "rise"] ["maker", "inlet"] (defScope s_least) := ⟨rfl, rfl, rfl, by decide +kernel, rfl, by decide +kernel, by decide +kernel⟩
theorem GoodM.few {n : Nat} {b : List Deed} {ws : List (List Deed)} (g : GoodM n b ws) : Fewd ws := ⟨fun z => by have := g.m1; rw [z] at this; simp at this, g.m4, by
  by_cases c : ws.length = 1
  · exact .inr ⟨c, fun v hv => by have := (g.wy v hv).2.1; omega⟩
  · exact .inl fun v hv => by have := (g.wy v hv).2.1; omega⟩
section
variable {P : Program} {w : World} {K : PySem.W.Frag} {mg : Str → Option Value} {base : Heap} {gs fs : List Str} {C CM CR CT : Addr} {tok : Tok}
theorem ok_least {f : Addr} {fd : FuncData} (F : FunD K "least" "least" (defArgs s_least) (defBody s_least) (defScope s_least) [] [] f fd) (T : Txt K mg gs FS) (c_check_inlet : Cal P w K mg base 3 "check_inlet" (spChkI K CM)) (m_Outlook : Mak P w K mg base 3 0 "Outlook" C (spOInit K C CM CR) []) (o_form : MetC P w K mg base 5 C "form" (spForm2 K C CR)) (m_Table : Mak P w K mg base 4 0 "Table" CT (spInit K CT) []) : FnOk P w K mg base CX0 7 f fd ["maker", "inlet"] (spExt K CM CT false) := by
  refine F.ok sc_least (fun vs H Q E h => ?_) (fun cdv A outer s H vs Q E hr h => ?_)
  · obtain ⟨xm, n, i, b, ws, rfl, _⟩ := h
    rfl
  · obtain ⟨xm, n, i, b, ws, rfl, mk, g, hi, q⟩ := h
    refine ⟨_, PSs.nox (pss_cons (ps_expr (pe_c c_check_inlet hr (by decide) rfl (pa_cons (pv 0) (pa_cons (pv 1) pa_nil)))) (pss_cons (ps_asg (pe_mt0 (pe_mk m_Outlook hr (by decide) rfl (pa_cons (pv 0) (pa_cons (pv 1) (pa_cons pe_bl pa_nil)))) o_form hr (by decide)) (pgt (K := K) (n := 3) rfl rfl (pgs_cons (pg_name (i := 2) sc_least.nd rfl (Or.inl rfl)) (pgs_cons (pg_name (i := 3) sc_least.nd rfl (Or.inl rfl)) (pgs_cons (pg_name (i := 4) sc_least.nd rfl (Or.inl rfl)) pgs_nil))))) (pss_one (ps_ret (pe_mk m_Table hr (by decide) rfl (pa_cons (pv 2) (pa_cons (pv 3) (pa_cons (pv 4) pa_nil)))))))), ?_⟩
    refine ⟨_, rfl, _, rfl, xm, n, i, b, ws, rfl, mk, hi, ?_⟩
    refine ⟨_, rfl, _, rfl, ?_⟩
    intro x dx nx nd ne
    refine ⟨x, dx, xm, n, i, false, b, ws, rfl, upd_same, mk.mono (same_woM nx nd), g, fun H1 sh pt pl s1 oa => ⟨rfl, ?_⟩⟩
    have s01 : Same H H1 := Same.trans (same_woM nx nd) s1
    obtain ⟨dxo, _, _, _, hxo, _⟩ := id oa
    refine ⟨x, dxo, _, rfl, hxo, rfl, ?_⟩
    refine ⟨x, false, i, b, ws, sh, pt, pl, rfl, oa, g.few, g.bl, fun p ph pq h l r H2 s2 tp rh rl gd hl hr1 ha => ?_⟩
    have hxn : (wo H1 x) x = none := wo_none
    have s02 : Same H H2 := Same.trans (fun a o e => by
      rw [wo_ne fun z => by rw [z, nx] at e; cases e]
      exact s01 _ _ e) s2
    refine ⟨p, _, rfl, tp, rfl, _, _, rfl, ?_⟩
    refine ⟨_, _, rfl, ?_⟩
    refine ⟨_, _, rfl, ?_⟩
    refine ⟨rfl, ?_⟩
    refine ⟨_, rfl, _, rfl, _, rfl, ?_⟩
    intro y dy ny nd' ne'
    refine ⟨y, dy, ph, pq, h, l, r, rfl, upd_same, row_made ny nd' rh, row_made ny nd' rl, gd, by omega, fun z H' hz s tb => ⟨rfl, ?_⟩⟩
    exact q y z H' ⟨h, l, r, gd, hl, hr1, ha, hz⟩ (Same.trans s02 (same_made ny nd' s)) tb
theorem ok_greatest {f : Addr} {fd : FuncData} (F : FunD K "greatest" "greatest" (defArgs s_greatest) (defBody s_greatest) (defScope s_greatest) [] [] f fd) (T : Txt K mg gs FS) (c_check_inlet : Cal P w K mg base 3 "check_inlet" (spChkI K CM)) (m_Outlook : Mak P w K mg base 3 0 "Outlook" C (spOInit K C CM CR) []) (o_form : MetC P w K mg base 5 C "form" (spForm2 K C CR)) (m_Table : Mak P w K mg base 4 0 "Table" CT (spInit K CT) []) : FnOk P w K mg base CX0 7 f fd ["maker", "inlet"] (spExt K CM CT true) := by
  refine F.ok sc_greatest (fun vs H Q E h => ?_) (fun cdv A outer s H vs Q E hr h => ?_)
  · obtain ⟨xm, n, i, b, ws, rfl, _⟩ := h
    rfl
  · obtain ⟨xm, n, i, b, ws, rfl, mk, g, hi, q⟩ := h
    refine ⟨_, PSs.nox (pss_cons (ps_expr (pe_c c_check_inlet hr (by decide) rfl (pa_cons (pv 0) (pa_cons (pv 1) pa_nil)))) (pss_cons (ps_asg (pe_mt0 (pe_mk m_Outlook hr (by decide) rfl (pa_cons (pv 0) (pa_cons (pv 1) (pa_cons pe_bl pa_nil)))) o_form hr (by decide)) (pgt (K := K) (n := 3) rfl rfl (pgs_cons (pg_name (i := 2) sc_greatest.nd rfl (Or.inl rfl)) (pgs_cons (pg_name (i := 3) sc_greatest.nd rfl (Or.inl rfl)) (pgs_cons (pg_name (i := 4) sc_greatest.nd rfl (Or.inl rfl)) pgs_nil))))) (pss_one (ps_ret (pe_mk m_Table hr (by decide) rfl (pa_cons (pv 2) (pa_cons (pv 3) (pa_cons (pv 4) pa_nil)))))))), ?_⟩
    refine ⟨_, rfl, _, rfl, xm, n, i, b, ws, rfl, mk, hi, ?_⟩
    refine ⟨_, rfl, _, rfl, ?_⟩
    intro x dx nx nd ne
    refine ⟨x, dx, xm, n, i, true, b, ws, rfl, upd_same, mk.mono (same_woM nx nd), g, fun H1 sh pt pl s1 oa => ⟨rfl, ?_⟩⟩
    have s01 : Same H H1 := Same.trans (same_woM nx nd) s1
    obtain ⟨dxo, _, _, _, hxo, _⟩ := id oa
    refine ⟨x, dxo, _, rfl, hxo, rfl, ?_⟩
    refine ⟨x, true, i, b, ws, sh, pt, pl, rfl, oa, g.few, g.bl, fun p ph pq h l r H2 s2 tp rh rl gd hl hr1 ha => ?_⟩
    have hxn : (wo H1 x) x = none := wo_none
    have s02 : Same H H2 := Same.trans (fun a o e => by
      rw [wo_ne fun z => by rw [z, nx] at e; cases e]
      exact s01 _ _ e) s2
    refine ⟨p, _, rfl, tp, rfl, _, _, rfl, ?_⟩
    refine ⟨_, _, rfl, ?_⟩
    refine ⟨_, _, rfl, ?_⟩
    refine ⟨rfl, ?_⟩
    refine ⟨_, rfl, _, rfl, _, rfl, ?_⟩
    intro y dy ny nd' ne'
    refine ⟨y, dy, ph, pq, h, l, r, rfl, upd_same, row_made ny nd' rh, row_made ny nd' rl, gd, by omega, fun z H' hz s tb => ⟨rfl, ?_⟩⟩
    exact q y z H' ⟨h, l, r, gd, hl, hr1, ha, hz⟩ (Same.trans s02 (same_made ny nd' s)) tb
end
end K28
set_option Elab.async false
set_option linter.all false
/-! The deeds of a maker that is made for told tables, and what they need. -/
namespace NT
/-- what is taken on the way from the place ahead to a place -/
def stp (F : Nat → Nat → Int) (n p : Nat) : List Deed := ((List.range n).map fun i => List.replicate (F i p - F i (p - 1)).toNat (some i)).flatten
def begD (F : Nat → Nat → Int) (n L : Nat) : List Deed := ((List.range L).map fun p => stp F n (p + 1) ++ [none]).flatten
def wayD (F : Nat → Nat → Int) (n L m : Nat) : List Deed := ((List.range m).map fun k => none :: stp F n (L + k + 2)).flatten
def totF (F : Nat → Nat → Int) (n p : Nat) : Int := ((List.range n).map fun i => F i p).sum
variable {F : Nat → Nat → Int} {n p L m i : Nat}
theorem stp_succ : stp F (n + 1) p = stp F n p ++ List.replicate (F n p - F n (p - 1)).toNat (some n) := by
  unfold stp
  rw [List.range_succ, List.map_append, List.flatten_append]
  simp
theorem begD_succ : begD F n (L + 1) = begD F n L ++ (stp F n (L + 1) ++ [none]) := by
  unfold begD
  rw [List.range_succ, List.map_append, List.flatten_append]
  simp
theorem wayD_succ : wayD F n L (m + 1) = wayD F n L m ++ (none :: stp F n (L + m + 2)) := by
  unfold wayD
  rw [List.range_succ, List.map_append, List.flatten_append]
  simp
theorem totF_succ : totF F (n + 1) p = totF F n p + F n p := by
  unfold totF
  rw [List.range_succ, List.map_append, List.sum_append]
  simp
theorem stp_mem {d : Deed} (h : d ∈ stp F n p) : ∃ i, i < n ∧ d = some i := by
  unfold stp at h
  obtain ⟨l, hl, hd⟩ := List.mem_flatten.mp h
  obtain ⟨i, hi, rfl⟩ := List.mem_map.mp hl
  exact ⟨i, List.mem_range.mp hi, List.eq_of_mem_replicate hd⟩
theorem stp_ahead {t : Int} : ahead i (stp F n p) t = [] := ahead_nil.mpr fun h => by
  obtain ⟨_, _, e⟩ := stp_mem h
  cases e
theorem took_rep {j k : Nat} : took i (List.replicate k (some j)) = if j = i then k else 0 := by
  induction k with
  | zero => split <;> rfl
  | succ k ih =>
    rw [List.replicate_succ]
    unfold took
    rw [ih]
    by_cases c : j = i
    · simp [c]
      omega
    · simp [c]
theorem stp_took0 : ∀ {n : Nat}, n ≤ i → took i (stp F n p) = 0
  | 0, _ => rfl
  | n + 1, h => by
    rw [stp_succ, took_app, stp_took0 (by omega), took_rep, if_neg (by omega)]
theorem stp_took (h : F i (p - 1) ≤ F i p) : ∀ {n : Nat}, i < n → (took i (stp F n p) : Int) = F i p - F i (p - 1)
  | 0, z => by omega
  | n + 1, z => by
    rw [stp_succ, took_app, took_rep]
    by_cases c : n = i
    · rw [if_pos c, c, stp_took0 (Nat.le_refl _)]
      omega
    · rw [if_neg c, Nat.add_zero]
      exact stp_took h (by omega)
theorem stp_len : ∀ {n : Nat}, (∀ i, i < n → F i (p - 1) ≤ F i p) → ((stp F n p).length : Int) = totF F n p - totF F n (p - 1)
  | 0, _ => rfl
  | n + 1, h => by
    have h1 := stp_len (n := n) fun i hi => h i (by omega)
    have h2 := h n (by omega)
    rw [stp_succ, List.length_append, List.length_replicate, totF_succ, totF_succ]
    omega
theorem totF_mono {a b : Nat} : ∀ {n : Nat}, (∀ i, i < n → F i a ≤ F i b) → totF F n a ≤ totF F n b
  | 0, _ => Int.le_refl _
  | n + 1, h => by
    have h1 := totF_mono (n := n) fun i hi => h i (by omega)
    have h2 := h n (by omega)
    rw [totF_succ, totF_succ]
    omega
theorem totF_zero : ∀ {n : Nat}, (∀ i, i < n → F i p = 0) → totF F n p = 0
  | 0, _ => rfl
  | n + 1, h => by
    rw [totF_succ, totF_zero fun i hi => h i (by omega), h n (by omega)]
    rfl
theorem begD_took (hi : i < n) (h0 : F i 0 = 0) : ∀ {L : Nat}, (∀ p, p < L → F i p ≤ F i (p + 1)) → (took i (begD F n L) : Int) = F i L
  | 0, _ => h0.symm
  | L + 1, h => by
    have h1 := begD_took hi h0 (L := L) fun p hp => h p (by omega)
    have h2 := stp_took (F := F) (i := i) (p := L + 1) (h L (by omega)) hi
    rw [begD_succ, took_app, took_app]
    have : took i [none] = 0 := rfl
    rw [Nat.add_sub_cancel] at h2
    omega
theorem begD_ahead (hi : i < n) (h0 : F i 0 = 0) : ∀ {L : Nat}, (∀ p, p < L → F i p ≤ F i (p + 1)) → ahead i (begD F n L) 0 = (List.range L).map fun p => F i (p + 1)
  | 0, _ => rfl
  | L + 1, h => by
    have h1 := begD_ahead hi h0 (L := L) fun p hp => h p (by omega)
    have h2 := begD_took hi h0 (L := L) fun p hp => h p (by omega)
    have h3 := stp_took (F := F) (i := i) (p := L + 1) (h L (by omega)) hi
    rw [Nat.add_sub_cancel] at h3
    rw [begD_succ, ahead_app, ahead_app, stp_ahead, List.nil_append, h1, List.range_succ, List.map_append]
    have e : ahead i [none] ((0 : Int) + (took i (begD F n L) : Int) + (took i (stp F n (L + 1)) : Int)) = [(0 : Int) + (took i (begD F n L) : Int) + (took i (stp F n (L + 1)) : Int)] := rfl
    rw [e, show (0 : Int) + (took i (begD F n L) : Int) + (took i (stp F n (L + 1)) : Int) = F i (L + 1) by omega]
    rfl
theorem wayD_took (hi : i < n) : ∀ {m : Nat}, (∀ p, L < p → F i p ≤ F i (p + 1)) → (took i (wayD F n L m) : Int) = F i (L + 1 + m) - F i (L + 1)
  | 0, _ => by
    show ((0 : Nat) : Int) = _
    rw [Nat.add_zero]
    omega
  | m + 1, h => by
    have h1 := wayD_took hi (m := m) h
    have h2 := stp_took (F := F) (i := i) (p := L + m + 2) (h (L + m + 1) (by omega)) hi
    rw [wayD_succ, took_app]
    have : took i (none :: stp F n (L + m + 2)) = took i (stp F n (L + m + 2)) := rfl
    rw [show L + m + 2 - 1 = L + 1 + m by omega] at h2
    rw [show L + 1 + (m + 1) = L + m + 2 by omega]
    omega
theorem wayD_ahead (hi : i < n) {t : Int} : ∀ {m : Nat}, (∀ p, L < p → F i p ≤ F i (p + 1)) → ahead i (wayD F n L m) t = (List.range m).map fun k => t + (F i (L + 1 + k) - F i (L + 1))
  | 0, _ => rfl
  | m + 1, h => by
    have h1 := wayD_ahead hi (t := t) (m := m) h
    have h2 := wayD_took (L := L) hi (m := m) h
    rw [wayD_succ, ahead_app, h1, List.range_succ, List.map_append]
    have e : ahead i (none :: stp F n (L + m + 2)) (t + (took i (wayD F n L m) : Int)) = (t + (took i (wayD F n L m) : Int)) :: ahead i (stp F n (L + m + 2)) (t + (took i (wayD F n L m) : Int)) := rfl
    rw [e, stp_ahead, h2]
    rfl
theorem begD_len (h0 : ∀ i, i < n → F i 0 = 0) : ∀ {L : Nat}, (∀ i, i < n → ∀ p, p < L → F i p ≤ F i (p + 1)) → ((begD F n L).length : Int) = (L : Int) + totF F n L
  | 0, _ => by rw [totF_zero h0]; rfl
  | L + 1, h => by
    have h1 := begD_len h0 (L := L) fun i hi p hp => h i hi p (by omega)
    have h2 := stp_len (F := F) (p := L + 1) (n := n) fun i hi => h i hi L (by omega)
    rw [Nat.add_sub_cancel] at h2
    rw [begD_succ, List.length_append, List.length_append]
    show _ = _
    simp only [List.length_singleton]
    omega
theorem wayD_len (h : ∀ i, i < n → ∀ p, L < p → F i p ≤ F i (p + 1)) : ∀ {m : Nat}, ((wayD F n L m).length : Int) = (m : Int) + (totF F n (L + 1 + m) - totF F n (L + 1))
  | 0 => by
    show ((0 : Nat) : Int) = _
    rw [Nat.add_zero]
    omega
  | m + 1 => by
    have h1 := wayD_len h (m := m)
    have h2 := stp_len (F := F) (p := L + m + 2) (n := n) fun i hi => h i hi (L + m + 1) (by omega)
    rw [wayD_succ, List.length_append, List.length_cons]
    rw [show L + m + 2 - 1 = L + 1 + m by omega] at h2
    rw [show L + 1 + (m + 1) = L + m + 2 by omega]
    omega
theorem begD_mem {j : Nat} (h : some j ∈ begD F n L) : j < n := by
  unfold begD at h
  obtain ⟨l, hl, hd⟩ := List.mem_flatten.mp h
  obtain ⟨p, _, rfl⟩ := List.mem_map.mp hl
  rcases List.mem_append.mp hd with hd | hd
  · obtain ⟨i, hi, e⟩ := stp_mem hd
    cases e
    exact hi
  · simp at hd
theorem wayD_mem {j : Nat} (h : some j ∈ wayD F n L m) : j < n := by
  unfold wayD at h
  obtain ⟨l, hl, hd⟩ := List.mem_flatten.mp h
  obtain ⟨p, _, rfl⟩ := List.mem_map.mp hl
  rcases List.mem_cons.mp hd with hd | hd
  · cases hd
  · obtain ⟨i, hi, e⟩ := stp_mem hd
    cases e
    exact hi
/-- the need of the made deeds: the table, where it comes for ever -/
theorem made_need {G : Nat → Option Int} {P : Nat} {R : Int} (A : Asc G) (hi : i < n) (h0 : F i 0 = 0) (hG : ∀ p, 1 ≤ p → G p = some (F i p)) (hP : 0 < P) (per : ∀ k, L < k → F i (k + P) = F i k + R) {k : Nat} (hk : 1 ≤ k) :
    at_ (needT i (begD F n L ++ stp F n (L + 1)) (wayD F n L P)).1 (needT i (begD F n L ++ stp F n (L + 1)) (wayD F n L P)).2.1 (needT i (begD F n L ++ stp F n (L + 1)) (wayD F n L P)).2.2 k = G k := by
  have mono : ∀ p, F i p ≤ F i (p + 1) := fun p => by
    rcases Nat.eq_zero_or_pos p with z | z
    · subst z
      rw [h0]
      have := A.nonneg (n := 0 + 1) (by omega) (by rw [hG _ (by omega)]; simp)
      unfold numF at this
      rw [hG _ (by omega)] at this
      exact this
    · have := A.mono (m := p) (n := p + 1) z (by omega) (by rw [hG _ (by omega)]; simp)
      unfold numF at this
      rw [hG p z, hG (p + 1) (by omega)] at this
      exact this
  have nF : ∀ p, 1 ≤ p → numF G p = F i p := fun p hp => by
    unfold numF
    rw [hG p hp]
    rfl
  have bt := begD_took (L := L) hi h0 fun p _ => mono p
  have st := stp_took (F := F) (i := i) (p := L + 1) (mono L) hi
  rw [Nat.add_sub_cancel] at st
  have tk : (took i (begD F n L ++ stp F n (L + 1)) : Int) = F i (L + 1) := by
    rw [took_app]
    omega
  have e1 : ahead i (begD F n L ++ stp F n (L + 1)) 0 = segN G 0 L := by
    rw [ahead_app, stp_ahead, List.append_nil, begD_ahead hi h0 fun p _ => mono p]
    unfold segN
    refine List.map_congr_left fun p _ => ?_
    rw [show 0 + p + 1 = p + 1 by omega, nF _ (by omega)]
  have e2 : ahead i (wayD F n L P) (took i (begD F n L ++ stp F n (L + 1)) : Int) = segN G L P := by
    rw [wayD_ahead hi fun p _ => mono p, tk]
    unfold segN
    refine List.map_congr_left fun p _ => ?_
    rw [nF _ (by omega), show L + p + 1 = L + 1 + p by omega]
    omega
  have wt := wayD_took (F := F) (L := L) (m := P) hi fun p _ => mono p
  have p1 := per (L + 1) (by omega)
  have e3 : (took i (wayD F n L P) : Int) = R := by omega
  have ne : segN G L P ≠ [] := fun z => by
    have := congrArg List.length z
    rw [segN_len] at this
    simp at this
    omega
  have e : needT i (begD F n L ++ stp F n (L + 1)) (wayD F n L P) = (segN G 0 L, segN G L P, R) := by
    unfold needT
    rw [e1, e2, if_neg ne, e3]
  rw [e]
  exact (looped A hP (fun p hp => by rw [hG p hp]; simp) (fun p hp => by rw [nF _ (by omega), nF _ (by omega)]; exact per p hp)).2 k hk
/-- .. where it ends -/
theorem made_end {G : Nat → Option Int} (hi : i < n) (h0 : F i 0 = 0) (hG : ∀ p, 1 ≤ p → p ≤ L → G p = some (F i p)) (A : Asc G) : needT i (begD F n L) [some 0] = (segN G 0 L, [], 0) := by
  have mono : ∀ p, p < L → F i p ≤ F i (p + 1) := fun p hp => by
    rcases Nat.eq_zero_or_pos p with z | z
    · subst z
      rw [h0]
      have := A.nonneg (n := 0 + 1) (by omega) (by rw [hG _ (by omega) (by omega)]; simp)
      unfold numF at this
      rw [hG _ (by omega) (by omega)] at this
      exact this
    · have := A.mono (m := p) (n := p + 1) z (by omega) (by rw [hG _ (by omega) (by omega)]; simp)
      unfold numF at this
      rw [hG p z (by omega), hG (p + 1) (by omega) (by omega)] at this
      exact this
  have e2 : ahead i [some 0] (took i (begD F n L) : Int) = [] := ahead_nil.mpr (by simp)
  unfold needT
  rw [e2, if_pos rfl, begD_ahead hi h0 mono]
  congr 1
  unfold segN
  refine List.map_congr_left fun p hp => ?_
  have := List.mem_range.mp hp
  unfold numF
  rw [show 0 + p + 1 = p + 1 by omega, hG _ (by omega) (by omega)]
  rfl
/-! ### laps -/
theorem lcm_fold {α : Type} {f : α → Nat} : ∀ {r : List α} {a : Nat}, a ∣ r.foldl (fun l z => Nat.lcm l (f z)) a ∧ (∀ z ∈ r, f z ∣ r.foldl (fun l z => Nat.lcm l (f z)) a) ∧ (0 < a → (∀ z ∈ r, 0 < f z) → 0 < r.foldl (fun l z => Nat.lcm l (f z)) a) ∧ (a = 0 → r.foldl (fun l z => Nat.lcm l (f z)) a = 0)
  | [], a => ⟨Nat.dvd_refl a, (fun z hz => by cases hz), fun h _ => h, fun h => h⟩
  | z :: r, a => by
    obtain ⟨h1, h2, h3, h4⟩ := lcm_fold (f := f) (r := r) (a := Nat.lcm a (f z))
    refine ⟨Nat.dvd_trans (Nat.dvd_lcm_left a (f z)) h1, fun y hy => ?_, fun p q => h3 (Nat.lcm_pos p (q z (List.mem_cons_self ..))) fun y hy => q y (List.mem_cons_of_mem _ hy), fun e => h4 (by rw [e, Nat.lcm_zero_left])⟩
    rcases List.mem_cons.mp hy with rfl | hy
    · exact Nat.dvd_trans (Nat.dvd_lcm_right a (f y)) h1
    · exact h2 y hy
theorem walk_lap {l : List Int} {r : Int} (hl : 0 < l.length) (k : Nat) : ∀ q : Nat, walk l r (k + q * l.length) = walk l r k + (q : Int) * r
  | 0 => by simp
  | q + 1 => by
    have := walk_lap (r := r) hl k q
    have e : walk l r (k + (q + 1) * l.length) = walk l r (k + q * l.length) + r := by
      unfold walk
      rw [show k + (q + 1) * l.length = (k + q * l.length) + l.length by rw [Nat.succ_mul]; omega, Nat.add_mod_right, Nat.add_div_right _ hl, Int.natCast_succ, Int.mul_add, Int.mul_one]
      omega
    rw [e, this, Int.natCast_succ, Int.add_mul, Int.one_mul]
    omega
/-- the numbers of a table with a loop come again, lap by lap -/
theorem num_lap {h l : List Int} {r : Int} (hl : l ≠ []) {P k : Nat} (d : l.length ∣ P) (hk : h.length < k) : numF (at_ h l r) (k + P) = numF (at_ h l r) k + ((P / l.length : Nat) : Int) * r := by
  obtain ⟨q, rfl⟩ := d
  have lp := List.length_pos_iff.mpr hl
  unfold numF
  rw [at_loop hl (by omega), at_loop hl hk, Nat.mul_div_cancel_left q lp]
  show walk l r (k + l.length * q - h.length - 1) = walk l r (k - h.length - 1) + _
  rw [← walk_lap lp (k - h.length - 1) q, show k + l.length * q - h.length - 1 = k - h.length - 1 + q * l.length by rw [Nat.mul_comm]; omega]
/-- each one is at most the sum -/
theorem le_totF : ∀ {n : Nat}, (∀ i, i < n → 0 ≤ F i p) → 0 ≤ totF F n p ∧ ∀ i, i < n → F i p ≤ totF F n p
  | 0, _ => ⟨Int.le_refl _, fun i hi => by omega⟩
  | n + 1, h => by
    obtain ⟨h1, h2⟩ := le_totF (n := n) fun i hi => h i (by omega)
    have h3 := h n (by omega)
    rw [totF_succ]
    refine ⟨by omega, fun i hi => ?_⟩
    by_cases c : i = n
    · subst c
      omega
    · have := h2 i (by omega)
      omega
end NT
set_option Elab.async false
set_option linter.all false
set_option maxRecDepth 100000
set_option maxHeartbeats 4000000
/-! bool(x) of an instance whose class has its own __bool__. -/
namespace NF
open PySem PySem.Spec PyProof.Rows L2 He RZ NT
theorem new_boolO {prog : Program} {w : World} {A0 : Around} {s0 : Shared} {a : Addr} :
    MeetsIn prog w (Builtin.«bool.__new__» ⟨[.type "bool", .ref a], []⟩) (fun A R s => A = A0 ∧ s = s0 ∧ wpAny (model prog w) A.in1 (truthy (.ref a)) (fun b s' => R (.ok (.ret (.bool b))) s') (fun e s' => R (.error e) s') s) :=
  MeetsIn.of_wp fun A R s hs => by
    obtain ⟨_, _, hs⟩ := hs
    have f1 := F.conv_sub_bool
    obtain ⟨hp, g, d, tk, os⟩ := s
    repeat (any_goals (first | assumption | (refine wpAny_bind (wpAny_mono hs (fun b s' h => ?_) fun _ _ e => e)) | wp_step))
    all_goals first | exact ⟨_, rfl, h⟩ | exact hs | skip
structure BlM (K : PySem.W.Frag) (C f : Addr) : Prop where
  o1 : PySem.W.findIn K (.ref C) "__bool__" = some (some (.ref f))
  o2 : PySem.W.isFn K (.ref f) = true
structure BlC (P : Program) (w : World) (K : PySem.W.Frag) (mg : Str → Option Value) (base : Heap) (k : Nat) (C : Addr) (sp : Sp) : Prop where
  ex : ∃ (f : Addr) (fd : FuncData) (ps : List Str), FnOk P w K mg base CX0 k f fd ps sp ∧ BlM K C f ∧ Binds K fd ps []
section
variable {X : Cx} {k j : Nat} {C : Addr} {sp : Sp}
theorem run_fn2 {pins : List (Addr × Obj)} {σ : L2.St} {H : Hp} {s : Shared} {Q : VK} {us : List Value} {vs : List V} {f : Addr} {fd : FuncData} {ps : List Str} (F : FnOk X.prog X.w X.K X.mg X.base CX0 k f fd ps sp) (hr : Room (k + 2) X.A) (hb : Binds X.K fd ps [])
    (I : Inv X pins σ H s) (r : Vals vs us) (h : sp (vs ++ []) H Q E0) : wpAny (model X.prog X.w) X.A.in1.in1 (call (.ref f) us) (EP X pins σ Q) X.xe s := by
  have r2 : Vals (vs ++ []) (us ++ []) := r.append .nil
  have hl : (us ++ []).length = ps.length := by rw [← r2.length]; exact F.len _ _ _ _ h
  refine wpAny_call (codeAny_mono (F.run X.A.in1.in1 X.stack s H ⟨us, []⟩ (us ++ []) (vs ++ []) Q E0 hr.in1.in1 I.env0.in1.in1 (hb s us I.kIn hl) r2 h) fun r s' hq => ?_)
  cases r with
  | error e => exact pass0 pins σ H s e s' I hq
  | ok fl =>
    cases fl with
    | ret u => exact I.after hq
    | next => exact False.elim hq
    | brk => exact False.elim hq
    | cont => exact False.elim hq
def rBoolO (C : Addr) (sp : Sp) : List V → Hp → VK → Prop := fun xs H Q => ∃ a dx fs, xs = [.ref a] ∧ H a = some (.ins C dx fs) ∧ sp [.ref a] H (fun r H' => ∃ b, r = .bl b ∧ Q (.bl b) H') E0
theorem call_boolO (c : BlC X.prog X.w X.K X.mg X.base k C sp) (hr : Room j X.A) (hk : k + 2 ≤ j) : CallR X (.type "bool") (rBoolO C sp) := by
  obtain ⟨f, fd, ps, Fk, ⟨hs, hf⟩, hb⟩ := c.ex
  intro pins s σ H xs us Q I r h
  obtain ⟨a, dx, fs, rfl, ha, q⟩ := h
  obtain rfl := Vals.ref1 r
  obtain ⟨mA, O, _⟩ := ins_get I.hok ha
  obtain ⟨od, J, _⟩ := O.look
  obtain ⟨m, hF⟩ := I.fr
  refine callType_newIn F.called_bool F.newNe_bool (F.typeCall_bool_1 _) (F.newCall_bool_1 _) (fun obj => F.args_object_init_2 obj _) F.entry_bool_new (new_boolO (A0 := X.A.in1) (s0 := s)) ⟨rfl, rfl, ?_⟩
  refine PySem.W.truthy_K hF I.ok.mod.kin J hs hf ?_
  refine wpAny_mono (run_fn2 (us := [.ref a]) (vs := [.ref a]) Fk (hr.mono hk) hb I (.cons rfl .nil) q) (fun u s' z => ?_) fun _ _ e => e
  obtain ⟨z, H', I', rz, b, rfl, q'⟩ := z
  obtain rfl : u = Value.bool b := rz
  exact ⟨rfl, .bl b, H', I', rfl, q'⟩
end
/-- .. as the head's run finds it; d: the class that has the def -/
def blB (c d : Str) (K : PySem.W.Frag) : Bool := eqO (PySem.W.findIn K (.ref (ga K c)) "__bool__") (some (some (.ref (ma K (ga K d) "__bool__")))) && PySem.W.isFn K (.ref (ma K (ga K d) "__bool__"))
theorem bl_ok {c d : Str} {K : PySem.W.Frag} (h : blB c d K = true) : BlM K (ga K c) (ma K (ga K d) "__bool__") := by
  obtain ⟨h1, h2⟩ := ba h
  exact ⟨eqO_ok h1, h2⟩
end NF
set_option Elab.async false
set_option linter.all false
set_option maxRecDepth 100000
set_option maxHeartbeats 4000000
/-! Lists or tuples: enumerate, the rest behind the first, bool of a tuple. -/
namespace NF
open PySem PySem.Spec PyProof.Rows L2 He RZ NT
theorem pi_or {X : Cx} {tg e : Expr} {t1 t2 : TI} (h1 : PI X tg e t1) (h2 : PI X tg e t2) : PI X tg e (fun σ H R => t1 σ H R ∨ t2 σ H R) :=
  ⟨fun pins s σ H R I h => h.elim (h1.run pins s σ H R I) (h2.run pins s σ H R I)⟩
def iEnumR (K : PySem.W.Frag) (ta : TA) : TI := fun σ H R => iEnum K ta σ H R ∨ iEnumT K ta σ H R
theorem pi_enumR {X : Cx} {e : Expr} {ta : TA} {p pos tpos : Pos} {elts : List Expr} {kk : Nat} (hg : Gl X "enumerate") (hm : X.mg "enumerate" = none) (ha : PA X [e] ta) (hs : starEach [e] X.env = [(false, eval e X.env)] := by rfl) :
    PI X (.Tuple elts kk tpos) (.Call (.Name "enumerate" p) [e] [] pos) (iEnumR X.K ta) := pi_or (pi_enum hg hm ha hs) (pi_enumT hg hm ha hs)
/-- a pair of a number and an entry -/
def YEnum (xs : List V) : Nat → Hp → V → Hp → Prop := fun i H v H' => ∃ T x, v = .ref T ∧ H T = none ∧ H' = upd H T (.tup [.int (i : Int), x]) ∧ xs[i]? = some x
theorem for_enumR {K : PySem.W.Frag} {i : Nat} {a : Addr} {xs : List V} {g : TG} {tb : TS} {D : Ends} {σ : L2.St} {H : Hp} (hv : σ[i]? = some (some (.ref a))) (hr : Row K H a xs) (Pv : Nat → L2.St → Hp → Prop) (h0 : Pv 0 σ H) (hm : ∀ i σ H', Pv i σ H' → Same H H')
    (hs : ∀ i x σ H H', i < xs.length → Pv i σ H → YEnum xs i H x H' → g x σ H' fun σ2 H2 => tb { D with nx := Pv (i + 1), ct := Pv (i + 1), bk := D.nx } σ2 H2) (hd : ∀ σ H, Pv xs.length σ H → D.nx σ H) :
    tFor (iEnumR K (tCons (tVar i) tNil)) g tb D σ H := by
  rcases hr with hr | hr
  · refine .inl ⟨_, hv, a, xs, rfl, hr, for_it walk_enum Pv h0 (fun i σ H' _ p => L2.Same.seq (hm i σ H' p) hr) (fun i x σ G G' hi p y => hs i x σ G G' hi p ?_) hd⟩
    obtain ⟨T, v1, v2, e1, e2, e3, e4, e5⟩ := y
    cases e4
    exact ⟨T, v2, e1, e2, e3, e5⟩
  · refine .inr ⟨_, hv, a, xs, rfl, hr, for_it walk_enumT Pv h0 (fun i σ H' _ p => NF.Same.tup (hm i σ H' p) hr) (fun i x σ G G' hi p y => hs i x σ G G' hi p ?_) hd⟩
    obtain ⟨T, v1, v2, e1, e2, e3, e4, e5⟩ := y
    have e4 : some (V.int (0 + (i : Int))) = some v1 := e4
    rw [Int.zero_add] at e4
    cases e4
    exact ⟨T, v2, e1, e2, e3, e5⟩
theorem for_enumM {K : PySem.W.Frag} {i : Nat} {a : Addr} {xs : List V} {g : TG} {tb : TS} {D : Ends} {σ : L2.St} {H H0 : Hp} (hv : σ[i]? = some (some (.ref a))) (hr : Row K H0 a xs) (Pv : Nat → L2.St → Hp → Prop) (h0 : Pv 0 σ H) (hm : ∀ i σ H', Pv i σ H' → Same H0 H')
    (hs : ∀ i x σ H H', i < xs.length → Pv i σ H → YEnum xs i H x H' → g x σ H' fun σ2 H2 => tb { D with nx := Pv (i + 1), ct := Pv (i + 1), bk := D.nx } σ2 H2) (hd : ∀ σ H, Pv xs.length σ H → D.nx σ H) :
    tFor (iEnumR K (tCons (tVar i) tNil)) g tb D σ H := by
  rcases hr with hr | hr
  · refine .inl ⟨_, hv, a, xs, rfl, L2.Same.seq (hm 0 σ H h0) hr, for_it walk_enum Pv h0 (fun i σ H' _ p => L2.Same.seq (hm i σ H' p) hr) (fun i x σ G G' hi p y => hs i x σ G G' hi p ?_) hd⟩
    obtain ⟨T, v1, v2, e1, e2, e3, e4, e5⟩ := y
    cases e4
    exact ⟨T, v2, e1, e2, e3, e5⟩
  · refine .inr ⟨_, hv, a, xs, rfl, NF.Same.tup (hm 0 σ H h0) hr, for_it walk_enumT Pv h0 (fun i σ H' _ p => NF.Same.tup (hm i σ H' p) hr) (fun i x σ G G' hi p y => hs i x σ G G' hi p ?_) hd⟩
    obtain ⟨T, v1, v2, e1, e2, e3, e4, e5⟩ := y
    have e4 : some (V.int (0 + (i : Int))) = some v1 := e4
    rw [Int.zero_add] at e4
    cases e4
    exact ⟨T, v2, e1, e2, e3, e5⟩
theorem sl_row {X : Cx} : SlR X (fun x lo hi H Q => rSlL X.K x lo hi H Q ∨ rSlA X.K x lo hi H Q) := SlR.or sl_list sl_tupA
/-- t[1:] -/
theorem slr_rest {K : PySem.W.Frag} {H : Hp} {a : Addr} {xs : List V} {Q : VK} (hr : Row K H a xs) (h1 : 1 ≤ xs.length) (q : ∀ p H', Same H H' → Row K H' p (xs.drop 1) → Q (.ref p) H') :
    rSlL K (.ref a) (some 1) none H Q ∨ rSlA K (.ref a) (some 1) none H Q := by
  rcases hr with hr | hr
  · refine .inl ⟨a, xs, rfl, hr, fun p hp => ?_⟩
    rw [show (1 : Int) = ((1 : Nat) : Int) from rfl, cut_from]
    exact q p _ (NF.Same.new (Same.refl H) hp) (.inl (SqL.of upd_same))
  · refine .inr ⟨a, xs, rfl, hr, fun z => ?_, fun _ p hp => ?_⟩
    · exfalso
      have z1 := z.1
      rw [show (1 : Int) = ((1 : Nat) : Int) from rfl, HT.sIx_nat] at z1
      omega
    · rw [show (1 : Int) = ((1 : Nat) : Int) from rfl, cut_from]
      exact q p _ (NF.Same.new (Same.refl H) hp) (.inr (SqT.of upd_same))
/-- bool(a tuple) -/
theorem call_boolT {X : Cx} {K : PySem.W.Frag} (hK : X.K = K := by rfl) : CallR X (.type "bool") (fun xs H Q => ∃ (a : Addr) (zs : List V), xs = [.ref a] ∧ SqT K H a zs ∧ Q (.bl (!zs.isEmpty)) H) := by
  subst hK
  intro pins s σ H xs us Q I r h
  obtain ⟨a, zs, rfl, hq, q⟩ := h
  obtain rfl := Vals.ref1 r
  obtain ⟨its, rv, pl, hz⟩ := I.tuple hq
  have hl := line63
  have hlen := rv.length
  refine callType_newIn F.called_bool F.newNe_bool (F.typeCall_bool_1 _) (F.newCall_bool_1 _) (fun obj => F.args_object_init_2 obj _) F.entry_bool_new (new_boolO (A0 := X.A.in1) (s0 := s)) ⟨rfl, rfl, ?_⟩
  refine truthy_tuple pl (by simp only [List.size_toArray]; omega) ?_
  refine ⟨rfl, .bl (!zs.isEmpty), H, I.tok _, ?_, q⟩
  rw [isEmpty_of rv]
  rfl
end NF
set_option linter.all false
/-! math.lcm of two ints of at most 64 bits. -/
namespace NF
open PySem PySem.Spec PyProof.Rows L2 He RZ
def rLcm : List V → Hp → VK → Prop := fun vs H Q => ∃ a b : Int, vs = [.int a, .int b] ∧ a.natAbs < 2 ^ 64 ∧ b.natAbs < 2 ^ 64 ∧ Q (.int ((Nat.lcm a.natAbs b.natAbs : Nat) : Int)) H
theorem lcm_small {a b : Nat} (ha : a < 2 ^ 64) (hb : b < 2 ^ 64) : Nat.lcm a b < 2 ^ 128 := by
  rcases Nat.eq_zero_or_pos a with rfl | h0
  · rw [Nat.lcm_zero_left]; decide
  · have h1 : Nat.lcm a b ≤ a * b := Nat.div_le_self _ _
    have h2 : a * b ≤ 2 ^ 64 * b := Nat.mul_le_mul_right _ (Nat.le_of_lt ha)
    have h3 : 2 ^ 64 * b < 2 ^ 64 * 2 ^ 64 := Nat.mul_lt_mul_of_pos_left hb (by decide)
    omega
theorem cr_lcm {X : Cx} : CallR X (.builtin "math.lcm") rLcm := by
  intro pins s σ H vs us Q I r h
  obtain ⟨a, b, rfl, ha, hb, q⟩ := h
  obtain ⟨t, u, rfl⟩ := Vals.int2 r
  have e : (Nat.lcm 1 a.natAbs).lcm b.natAbs = Nat.lcm a.natAbs b.natAbs := by rw [Nat.lcm_one_left]
  refine PySem.W.mg_lcm ha hb ?_ ?_
  · rw [e, Int.natAbs_natCast]
    exact Nat.lt_of_le_of_lt (PySem.W.mg_log (k := 127) (lcm_small ha hb)) (by decide)
  · rw [e]
    exact ⟨.int _, H, I.tok _, ⟨_, rfl⟩, q⟩
end NF
set_option Elab.async false
set_option linter.all false
set_option maxRecDepth 100000
set_option maxHeartbeats 4000000
namespace K28
open PySem PySem.Spec PyProof.Rows L2 He NF RZ NT
/-- an entry of what is passed as tables: a table, or none -/
def ItemN (K : PySem.W.Frag) (CT : Addr) (H : Hp) (v : V) : Option Y → Prop
  | some z => ∃ x, v = .ref x ∧ TabAt K CT H x z
  | none => ∃ tb, (∀ H', Same H H' → TyX K H' v tb) ∧ PySem.W.kitOne K tb (.ref CT) = some false
theorem ItemN.mono {K : PySem.W.Frag} {CT : Addr} {H H' : Hp} {v : V} {o : Option Y} (h : ItemN K CT H v o) (s : Same H H') : ItemN K CT H' v o := by
  cases o with
  | some z =>
    obtain ⟨x, e, t⟩ := h
    exact ⟨x, e, t.mono s⟩
  | none =>
    obtain ⟨tb, t, k⟩ := h
    exact ⟨tb, fun H2 s2 => t H2 (Same.trans s s2), k⟩
/-- tables, each one at its own address -/
def TabsT (K : PySem.W.Frag) (CT : Addr) (H : Hp) (ys : List Addr) (zs : List Y) : Prop := ys.length = zs.length ∧ ∀ (i : Nat) (x : Addr) (z : Y), ys[i]? = some x → zs[i]? = some z → TabAt K CT H x z
theorem TabsT.mono {K : PySem.W.Frag} {CT : Addr} {H H' : Hp} {ys : List Addr} {zs : List Y} (h : TabsT K CT H ys zs) (s : Same H H') : TabsT K CT H' ys zs := ⟨h.1, fun i x z e1 e2 => (h.2 i x z e1 e2).mono s⟩
/-- two tables end alike -/
def alike (z0 z : Y) : Bool := decide (z.2.1.isEmpty = z0.2.1.isEmpty) && (!z.2.1.isEmpty || decide (z.1.length = z0.1.length))
def Alike (zs : List Y) : Prop := ∀ z ∈ zs, alike (zs.headD ([], [], 0)) z = true
def BadN (K : PySem.W.Frag) (H : Hp) (E : XK) (k : Int) : Prop := ∀ d H', Same H H' → H d = none → H' d = some (.xd [("number", .int k)]) → E (.ref (ga K "BadTables")) (some d) H'
theorem BadN.mono {K : PySem.W.Frag} {H H' : Hp} {E : XK} {k : Int} (h : BadN K H E k) (s : Same H H') : BadN K H' E k := fun d G s2 hd hx => h d G (Same.trans s s2) (L2.Same.free s hd) hx
def spIsRowN (K : PySem.W.Frag) : Sp := fun vs H Q _ => ∃ v, vs = [v] ∧ ((∃ a xs, v = .ref a ∧ Row K H a xs ∧ ∀ H', Same H H' → Q (.bl true) H') ∨ (v = .non ∧ ∀ H', Same H H' → Q (.bl false) H'))
/-- what is no lot of tables, and what is one -/
def NeedsIn (K : PySem.W.Frag) (CT : Addr) (v : V) (H : Hp) (E : XK) (good : List Addr → List Y → Prop) : Prop :=
  ((v = .non ∨ ∃ a xs, v = .ref a ∧ Row K H a xs ∧ (xs.length = 0 ∨ 3 < xs.length)) ∧ BadN K H E (-1)) ∨
  (∃ (a : Addr) (xs : List V) (os : List (Option Y)) (k : Nat), v = .ref a ∧ Row K H a xs ∧ 1 ≤ xs.length ∧ xs.length ≤ 3 ∧ os.length = xs.length ∧ (∀ (i : Nat) (u : V) (o : Option Y), xs[i]? = some u → os[i]? = some o → ItemN K CT H u o) ∧ os[k]? = some none ∧ (∀ j, j < k → ∃ z, os[j]? = some (some z)) ∧ BadN K H E (k : Nat)) ∨
  (∃ (a : Addr) (ys : List Addr) (zs : List Y), v = .ref a ∧ Row K H a (ys.map V.ref) ∧ 1 ≤ zs.length ∧ zs.length ≤ 3 ∧ TabsT K CT H ys zs ∧ (¬ Alike zs → BadN K H E (-1)) ∧ (Alike zs → good ys zs))
def spCheckN (K : PySem.W.Frag) (CT : Addr) : Sp := fun vs H Q E => ∃ v, vs = [v] ∧ NeedsIn K CT v H E fun _ _ => ∀ H', Same H H' → Q .non H'
def lapT (zs : List Y) : Nat := (zs.drop 1).foldl (fun l z => Nat.lcm l z.2.1.length) (zs.headD ([], [], 0)).2.1.length
def spLapT (K : PySem.W.Frag) (CT : Addr) : Sp := fun vs H Q _ => ∃ (a : Addr) (ys : List Addr) (zs : List Y), vs = [.ref a] ∧ Row K H a (ys.map V.ref) ∧ 1 ≤ zs.length ∧ zs.length ≤ 3 ∧ (∀ z ∈ zs, z.2.1.length ≤ 300) ∧ TabsT K CT H ys zs ∧ ∀ H', Same H H' → Q (.int (lapT zs : Int)) H'
/-- the values, by inlet and place -/
def valF (zs : List Y) (i p : Nat) : Int := if p = 0 then 0 else numF (atY (zs.getD i ([], [], 0))) p
def spSteps (K : PySem.W.Frag) (CT : Addr) : Sp := fun vs H Q _ => ∃ (a : Addr) (ys : List Addr) (zs : List Y) (p : Nat), vs = [.ref a, .int (p : Nat)] ∧ Row K H a (ys.map V.ref) ∧ zs.length ≤ 3 ∧ TabsT K CT H ys zs ∧ (∀ z ∈ zs, Small z) ∧ 1 ≤ p ∧ (∀ z ∈ zs, ∀ m, 1 ≤ m → m ≤ p → atY z m ≠ none) ∧ (∀ i, i < zs.length → valF zs i (p - 1) ≤ valF zs i p ∧ valF zs i p ≤ valF zs i (p - 1) + 2000) ∧
  ∀ q H', Same H H' → H q = none → H' q = some (.lst ((stp (valF zs) zs.length p).map dV)) → Q (.ref q) H'
theorem sc_check_needs : FnScope ["tables", "table", "number"] ["tables"] (defScope s_check_needs) := ⟨rfl, rfl, rfl, by decide +kernel, rfl, by decide +kernel, by decide +kernel⟩
theorem sc_shared_lap : FnScope ["tables", "lap", "table"] ["tables"] (defScope s_shared_lap) := ⟨rfl, rfl, rfl, by decide +kernel, rfl, by decide +kernel, by decide +kernel⟩
theorem sc_steps_to : FnScope ["tables", "place", "found", "inlet", "table"] ["tables", "place"] (defScope s_steps_to) := ⟨rfl, rfl, rfl, by decide +kernel, rfl, by decide +kernel, by decide +kernel⟩
theorem val_F {zs : List Y} {i p : Nat} {z : Y} (e : zs[i]? = some z) (h : p = 0 ∨ atY z p ≠ none) : val_ z.1 z.2.1 z.2.2 (some p) = some (valF zs i p) := by
  unfold valF
  rw [List.getD_eq_getElem?_getD, e]
  by_cases c : p = 0
  · subst c
    rw [if_pos rfl]
    rfl
  · rw [if_neg c, val_at (by omega)]
    rcases h with h | h
    · exact absurd h c
    · exact numF_some h
section
variable {P : Program} {w : World} {K : PySem.W.Frag} {mg : Str → Option Value} {base : Heap} {gs : List Str} {C CT CM : Addr} {tok : Tok}
theorem ok_is_rowN {f : Addr} {fd : FuncData} (F : FunD K "is_row" "is_row" (defArgs s_is_row) (defBody s_is_row) (defScope s_is_row) [] [] f fd) (T : Txt K mg gs FS) : FnOk P w K mg base CX0 1 f fd ["thing"] (spIsRowN K) := by
  refine F.ok sc_is_row (fun vs H Q E h => ?_) (fun cdv A outer s H vs Q E hr h => ?_)
  · obtain ⟨v, rfl, _⟩ := h
    rfl
  · obtain ⟨v, rfl, hv⟩ := h
    refine ⟨_, PSs.nox (pss_one (ps_ret (pe_callB call_isiT rfl (T.fr _ (by decide +kernel)) (by decide +kernel) (pa_cons (pv 0) (pa_cons (pe_tup (pa_cons (pe_bltn (v := .ty "tuple") rfl (T.fr _ (by decide +kernel)) (by decide +kernel) rfl) (pa_cons (pe_bltn (v := .ty "list") rfl (T.fr _ (by decide +kernel)) (by decide +kernel) rfl) pa_nil))) pa_nil))))), ?_⟩
    refine ⟨_, rfl, (by show 2 ≤ sizeLine; decide), fun p hp => ?_⟩
    have s1 := NF.Same.new (o := .tup [V.ty "tuple", V.ty "list"]) (Same.refl H) hp
    rcases hv with ⟨a, xs, rfl, h, q⟩ | ⟨rfl, q⟩
    · rcases h.mono s1 with h | h
      · exact ⟨_, p, _, _, _, true, rfl, upd_same, .cons (.ty _) (.cons (.ty _) .nil), tyx_lst h, kit_l_tl K, q _ s1⟩
      · exact ⟨_, p, _, _, _, true, rfl, upd_same, .cons (.ty _) (.cons (.ty _) .nil), tyx_tup h, kit_t_tl K, q _ s1⟩
    · exact ⟨_, p, _, _, _, false, rfl, upd_same, .cons (.ty _) (.cons (.ty _) .nil), .base .non, (by kernel_rfl), q _ s1⟩
theorem ok_check_needs {f : Addr} {fd : FuncData} (F : FunD K "check_needs" "check_needs" (defArgs s_check_needs) (defBody s_check_needs) (defScope s_check_needs) [] [] f fd) (T : Txt K mg gs FS) (hT : mg "Table" = some (.ref CT)) (tc : TabC K CT) (h_MOST_INLETS : mg "MOST_INLETS" = some (.int 3 tok)) (m_BadTables : ExcI P w K mg base "BadTables" "number") (c_is_row : Cal P w K mg base 1 "is_row" (spIsRowN K)) : FnOk P w K mg base (L2.CX P w) 3 f fd ["tables"] (spCheckN K CT) := by
  refine F.ok sc_check_needs (fun vs H Q E h => ?_) (fun cdv A outer s H vs Q E hr h => ?_)
  · obtain ⟨v, rfl, _⟩ := h
    rfl
  · obtain ⟨v, rfl, h⟩ := h
    refine ⟨_, (pss_cons (ps_if (PW.pt (pw_or (pt_not (pt_val (pe_c c_is_row hr (by decide) rfl (pa_cons (pv 0) pa_nil)))) (pw_or1 (pt_not (pt_chain op_le op_le pe_int (pe_callB call_len_seq rfl (T.fr _ (by decide +kernel)) boot_len (pa_cons (pv 0) pa_nil)) (pe_glob (v := .int 3) rfl h_MOST_INLETS ⟨_, rfl⟩)))))) (pss_one (ps_rz rfl (takes_of rfl rfl rfl rfl) m_BadTables hr (by decide) rfl (pe_un un_neg pe_int))) pss_nil) (pss_cons (ps_for (passes_of rfl) rfl (pi_enumR rfl (T.fr _ (by decide +kernel)) (pa_cons (pv 0) pa_nil)) (pgt (K := K) (n := 2) rfl rfl (pgs_cons (pg_name (i := 2) sc_check_needs.nd rfl (Or.inl rfl)) (pgs_cons (pg_name (i := 1) sc_check_needs.nd rfl (Or.inl rfl)) pgs_nil))) (pss_one (ps_if (pt_not (pt_val (pe_callB call_isi rfl (T.fr _ (by decide +kernel)) (by decide +kernel) (pa_cons (pv 1) (pa_cons (pe_gl hT) pa_nil))))) (pss_one (ps_rz rfl (takes_of rfl rfl rfl rfl) m_BadTables hr (by decide) rfl (pv 2))) pss_nil))) (pss_one (ps_for (passes_of rfl) rfl (pi_row (pe_slice sl_row (pv 0) (po_some pe_int) po_none)) (pg_name (i := 1) sc_check_needs.nd rfl (Or.inl rfl)) (pss_cons (ps_if (pt_cmpR op_ne (pe_callTy (call_boolT (K := K)) rfl (T.fr _ (by decide +kernel)) (by decide +kernel) (pa_cons (pe_fld (pv 1) rfl) pa_nil)) (pe_callTy (call_boolT (K := K)) rfl (T.fr _ (by decide +kernel)) (by decide +kernel) (pa_cons (pe_fld (pe_ix (ixs (K := K)) (pv 0) pe_int fun _ _ => rfl) rfl) pa_nil)) (nomark _)) (pss_one (ps_rz rfl (takes_of rfl rfl rfl rfl) m_BadTables hr (by decide) rfl (pe_un un_neg pe_int))) pss_nil) (pss_one (ps_if (PW.pt (pw_and (pt_not (pt_truth (pe_fld (pv 1) rfl) (fun _ => rfl))) (pw_and1 (pt_cmpR op_ne (pe_callB call_len_seq rfl (T.fr _ (by decide +kernel)) boot_len (pa_cons (pe_fld (pv 1) rfl) pa_nil)) (pe_callB call_len_seq rfl (T.fr _ (by decide +kernel)) boot_len (pa_cons (pe_fld (pe_ix (ixs (K := K)) (pv 0) pe_int fun _ _ => rfl) rfl) pa_nil)) (nomark _))))) (pss_one (ps_rz rfl (takes_of rfl rfl rfl rfl) m_BadTables hr (by decide) rfl (pe_un un_neg pe_int))) pss_nil))))))), ?_⟩
    rcases h with ⟨h1, bad⟩ | ⟨a, xs, os, k, rfl, hr1, l1, l3, ol, it, ok, oj, bad⟩ | ⟨a, ys, zs, rfl, hr1, l1, l3, tt, bad, good⟩
    · have rz : ∀ H', Same H H' → _ := fun H' s1 => (raise_done (C := ga K "BadTables") (f := "number") (v := .int (-1)) (H1 := H') (Q := E) fun d H2 hd s2 hx => bad d H2 (Same.trans s1 s2) (L2.Same.free s1 hd) hx)
      rcases h1 with rfl | ⟨a, xs, rfl, hr1, hl⟩
      · refine ⟨_, rfl, _, rfl, .inr ⟨rfl, fun H1 s1 => ⟨false, rfl, iteT ?_⟩⟩⟩
        refine iteT ?_
        refine ⟨_, rfl, ?_⟩
        exact rz H1 s1
      · refine ⟨_, rfl, _, rfl, .inl ⟨a, xs, rfl, hr1, fun H1 s1 => ⟨true, rfl, iteF ?_⟩⟩⟩
        refine ⟨_, rfl, a, _, rfl, hr1.mono s1, ?_⟩
        by_cases c : xs.length = 0
        · refine ⟨_, _, rfl, rfl, _, rfl, iteF' (decide_eq_false (by omega)) ⟨_, rfl, ?_⟩⟩
          refine iteT ?_
          refine ⟨_, rfl, ?_⟩
          exact rz H1 s1
        · refine ⟨_, _, rfl, rfl, _, rfl, iteT' (decide_eq_true (by omega)) ⟨_, _, rfl, rfl, _, rfl, ?_⟩⟩
          rw [show decide ((xs.length : Int) ≤ 3) = false from decide_eq_false (by omega)]
          exact iteT ⟨_, rfl, rz H1 s1⟩
    · refine ⟨_, rfl, _, rfl, .inl ⟨a, xs, rfl, hr1, fun H1 s1 => ⟨true, rfl, iteF ?_⟩⟩⟩
      refine ⟨_, rfl, a, _, rfl, hr1.mono s1, ?_⟩
      refine ⟨_, _, rfl, rfl, _, rfl, iteT' (decide_eq_true (by omega)) ⟨_, _, rfl, rfl, _, rfl, ?_⟩⟩
      rw [show decide ((xs.length : Int) ≤ 3) = true from decide_eq_true (by omega)]
      refine iteF ?_
      have hk : k < os.length := (List.getElem?_eq_some_iff.mp ok).1
      refine for_enumR (K := K) rfl (hr1.mono s1) (fun j σ G => Same H1 G ∧ j ≤ k ∧ ∃ v1 v2 : Option V, σ = [some (.ref a), v1, v2]) ⟨Same.refl _, Nat.zero_le _, _, _, rfl⟩ (fun j σ G z => z.1) ?_ ?_
      · rintro j u σ G G' hj ⟨sG, jk, v1, v2, rfl⟩ ⟨T, x, rfl, hT, rfl, hx⟩
        have t1 := NF.Same.new (o := .tup [V.int (j : Int), x]) (Same.refl G) hT
        refine ⟨T, _, rfl, SqT.of upd_same, rfl, _, _, rfl, ?_⟩
        refine ⟨_, _, rfl, ?_⟩
        refine ⟨rfl, ?_⟩
        have sA := Same.trans s1 (Same.trans sG t1)
        have hjo : j < os.length := by omega
        have i1 := (it j x os[j] hx (List.getElem?_eq_getElem hjo)).mono sA
        by_cases c : j = k
        · subst c
          have e : os[j] = none := by
            rw [List.getElem?_eq_getElem hjo] at ok
            exact Option.some.inj ok
          rw [e] at i1
          obtain ⟨tb, ty, hk⟩ := i1
          refine ⟨_, rfl, _, _, _, _, false, rfl, .own CT, ty _ (Same.refl _), hk, false, rfl, iteT ?_⟩
          exact ⟨_, rfl, raise_done fun d H2 hd s2 hx => bad d H2 (Same.trans sA s2) (L2.Same.free sA hd) hx⟩
        · obtain ⟨z, ez⟩ := oj j (by omega)
          rw [List.getElem?_eq_getElem hjo] at ez
          rw [Option.some.inj ez] at i1
          obtain ⟨y, rfl, dx, _, _, hy, _⟩ := i1
          refine ⟨_, rfl, _, _, _, _, true, rfl, .own CT, tc.ty hy, tc.self, true, rfl, iteF ?_⟩
          exact ⟨Same.trans sG t1, by omega, _, _, rfl⟩
      · rintro σ G ⟨_, z, _⟩
        omega
    · have yl := tt.1
      refine ⟨_, rfl, _, rfl, .inl ⟨a, _, rfl, hr1, fun H1 s1 => ⟨true, rfl, iteF ?_⟩⟩⟩
      refine ⟨_, rfl, a, _, rfl, hr1.mono s1, ?_⟩
      rw [List.length_map, yl]
      refine ⟨_, _, rfl, rfl, _, rfl, iteT' (decide_eq_true (by omega)) ⟨_, _, rfl, rfl, _, rfl, ?_⟩⟩
      rw [show decide ((zs.length : Int) ≤ 3) = true from decide_eq_true (by omega)]
      refine iteF ?_
      refine for_enumR (K := K) rfl (hr1.mono s1) (fun j σ G => Same H1 G ∧ ∃ v1 v2 : Option V, σ = [some (.ref a), v1, v2]) ⟨Same.refl _, _, _, rfl⟩ (fun j σ G z => z.1) ?_ ?_
      · rintro j u σ G G' hj ⟨sG, v1, v2, rfl⟩ ⟨T, x, rfl, hT, rfl, hx⟩
        have t1 := NF.Same.new (o := .tup [V.int (j : Int), x]) (Same.refl G) hT
        refine ⟨T, _, rfl, SqT.of upd_same, rfl, _, _, rfl, ?_⟩
        refine ⟨_, _, rfl, ?_⟩
        refine ⟨rfl, ?_⟩
        have sA := Same.trans s1 (Same.trans sG t1)
        rw [List.length_map] at hj
        rw [List.getElem?_map, List.getElem?_eq_getElem hj] at hx
        obtain rfl : V.ref ys[j] = x := Option.some.inj hx
        obtain ⟨dx, _, _, hy, _⟩ := (tt.2 j ys[j] (zs[j]'(by omega)) (List.getElem?_eq_getElem hj) (List.getElem?_eq_getElem (by omega))).mono sA
        refine ⟨_, rfl, _, _, _, _, true, rfl, .own CT, tc.ty hy, tc.self, true, rfl, iteF ?_⟩
        exact ⟨Same.trans sG t1, _, _, rfl⟩
      · rintro σ G ⟨sG, v1, v2, rfl⟩
        have s0G := Same.trans s1 sG
        -- one behind the other
        refine ⟨_, rfl, _, rfl, ?_⟩
        refine slr_rest (K := K) (hr1.mono s0G) (by rw [List.length_map]; omega) fun p G2 s2 hp2 => ?_
        refine ⟨p, rfl, ?_⟩
        have s02 := Same.trans s0G s2
        obtain ⟨z0, r, ez⟩ : ∃ z0 r, zs = z0 :: r := by
          cases zs with
          | nil => simp at l1
          | cons z0 r => exact ⟨z0, r, rfl⟩
        obtain ⟨y0, yr, ey⟩ : ∃ y0 yr, ys = y0 :: yr := by
          cases ys with
          | nil => rw [ez] at yl; simp at yl
          | cons y0 yr => exact ⟨y0, yr, rfl⟩
        subst ez ey
        have yl2 : yr.length = r.length := by simpa using yl
        have t0 := tt.2 0 y0 z0 rfl rfl
        have hp3 : Row K G2 p (yr.map V.ref) := hp2
        refine for_row hp3 (fun j σ G => Same G2 G ∧ (∀ i, i < j → ∀ z, r[i]? = some z → alike z0 z = true) ∧ ∃ v1 v2 : Option V, σ = [some (.ref a), v1, v2]) ⟨Same.refl _, (fun i hi => by omega), _, _, rfl⟩ (fun j σ G z => z.1) ?_ ?_
        · rintro j u σ G3 hj ⟨s3, al, v1, v2, rfl⟩
          have hjl := (List.getElem?_eq_some_iff.mp hj).1
          rw [List.length_map] at hjl
          rw [List.getElem?_map, List.getElem?_eq_getElem hjl] at hj
          obtain rfl : V.ref yr[j] = u := Option.some.inj hj
          have sA := Same.trans s02 s3
          obtain ⟨dx, b1, b2, hy, hh, hlp⟩ := (tt.2 (j + 1) yr[j] (r[j]'(by omega)) (by simp) (by simp)).mono sA
          obtain ⟨dx0, c1, c2, hy0, hh0, hlp0⟩ := t0.mono sA
          obtain ⟨z, hz⟩ : ∃ z, z = r[j]'(by omega) := ⟨_, rfl⟩
          rw [← hz] at hy hh hlp
          have hix : atI ((y0 :: yr).map V.ref) 0 = some (V.ref y0) := atI_nat (xs := (y0 :: yr).map V.ref) (j := 0) rfl
          have hrA := hr1.mono sA
          have notal : alike z0 z = false → ∀ G4, Same G3 G4 → _ := fun hf G4 s4 => (raise_done (C := ga K "BadTables") (f := "number") (v := .int (-1)) (H1 := G4) (Q := E) fun d H2 hd s5 hx => bad (fun al' => by
            have := al' z (by rw [hz]; exact List.mem_cons_of_mem _ (List.getElem_mem _))
            have e : alike z0 z = true := this
            rw [hf] at e
            cases e) d H2 (Same.trans sA (Same.trans s4 s5)) (L2.Same.free (Same.trans sA s4) hd) hx)
          refine ⟨_, rfl, yr[j], CT, dx, _, _, rfl, hy, tc.cl, tc.lp, rfl, b2, _, rfl, hlp, ?_⟩
          refine ⟨_, rfl, ?_⟩
          refine ix_done (K := K) hrA hix ?_
          refine ⟨y0, CT, dx0, _, _, rfl, hy0, tc.cl, tc.lp, rfl, c2, _, rfl, hlp0, ?_⟩
          have ie : ∀ l : List Int, (vI l).isEmpty = l.isEmpty := fun l => by cases l <;> rfl
          rw [ie, ie]
          refine ⟨rfl, _, rfl, ?_⟩
          by_cases c : z.2.1.isEmpty = z0.2.1.isEmpty
          · refine iteF' (by rw [c]; simp) ?_
            refine ⟨_, rfl, yr[j], CT, dx, _, _, rfl, hy, tc.cl, tc.lp, rfl, _, tru_tup hlp, ?_⟩
            by_cases c2 : z.2.1.isEmpty = true
            · rw [c2]
              refine iteT ?_
              refine ⟨_, rfl, yr[j], CT, dx, _, _, rfl, hy, tc.cl, tc.hd, rfl, b1, _, rfl, .inr hh, ?_⟩
              refine ⟨_, rfl, ?_⟩
              refine ix_done (K := K) hrA hix ?_
              refine ⟨y0, CT, dx0, _, _, rfl, hy0, tc.cl, tc.hd, rfl, c1, _, rfl, .inr hh0, ?_⟩
              rw [vI_len, vI_len]
              refine ⟨rfl, _, rfl, ?_⟩
              by_cases c3 : z.1.length = z0.1.length
              · refine iteF' (by rw [c3]; simp) ?_
                refine ⟨s3, fun i hi w hw => ?_, _, _, rfl⟩
                by_cases c4 : i = j
                · subst c4
                  rw [List.getElem?_eq_getElem (by omega)] at hw
                  rw [← Option.some.inj hw, ← hz]
                  show (decide _ && (_ || decide _)) = true
                  rw [decide_eq_true c, decide_eq_true c3]
                  simp
                · exact al i (by omega) w hw
              · refine iteT' (by rw [decide_eq_false (fun e => c3 (by injection e with e; omega))]; rfl) ?_
                refine ⟨_, rfl, notal ?_ G3 (Same.refl _)⟩
                show (decide _ && (_ || decide _)) = false
                rw [decide_eq_false c3, c2]
                simp
            · rw [Bool.eq_false_iff.mpr c2]
              refine iteF ?_
              refine ⟨s3, fun i hi w hw => ?_, _, _, rfl⟩
              by_cases c4 : i = j
              · subst c4
                rw [List.getElem?_eq_getElem (by omega)] at hw
                rw [← Option.some.inj hw, ← hz]
                show (decide _ && (_ || decide _)) = true
                rw [decide_eq_true c, Bool.eq_false_iff.mpr c2]
                rfl
              · exact al i (by omega) w hw
          · refine iteT' ?_ ?_
            · rw [decide_eq_false (fun e => c (by injection e with e; simpa using e))]
              rfl
            · refine ⟨_, rfl, notal ?_ G3 (Same.refl _)⟩
              show (decide _ && (_ || decide _)) = false
              rw [decide_eq_false c]
              rfl
        · rintro σ G3 ⟨s3, al, v1, v2, rfl⟩
          rw [List.length_map] at al
          exact good (fun z hz => by
            rcases List.mem_cons.mp hz with rfl | hz
            · show (decide _ && (_ || decide _)) = true
              simp
            · obtain ⟨i, hi, rfl⟩ := List.mem_iff_getElem.mp hz
              exact al i (by omega) _ (List.getElem?_eq_getElem hi)) G3 (Same.trans s02 s3)
theorem ok_shared_lap {f : Addr} {fd : FuncData} (F : FunD K "shared_lap" "shared_lap" (defArgs s_shared_lap) (defBody s_shared_lap) (defScope s_shared_lap) [] [] f fd) (T : Txt K mg gs FS) (tc : TabC K CT) (h_lcm : mg "lcm" = some (.builtin "math.lcm")) : FnOk P w K mg base CX0 1 f fd ["tables"] (spLapT K CT) := by
  refine F.ok sc_shared_lap (fun vs H Q E h => ?_) (fun cdv A outer s H vs Q E hr h => ?_)
  · obtain ⟨a, ys, zs, rfl, _⟩ := h
    rfl
  · obtain ⟨a, ys, zs, rfl, hr1, l1, l3, lz, tt, q⟩ := h
    have yl := tt.1
    obtain ⟨z0, r, ez⟩ : ∃ z0 r, zs = z0 :: r := by
      cases zs with
      | nil => simp at l1
      | cons z0 r => exact ⟨z0, r, rfl⟩
    obtain ⟨y0, yr, ey⟩ : ∃ y0 yr, ys = y0 :: yr := by
      cases ys with
      | nil => rw [ez] at yl; simp at yl
      | cons y0 yr => exact ⟨y0, yr, rfl⟩
    subst ez ey
    have yl2 : yr.length = r.length := by simpa using yl
    have rl : r.length ≤ 2 := by simpa using l3
    obtain ⟨dx0, c1, c2, hy0, hh0, hlp0⟩ := tt.2 0 y0 z0 rfl rfl
    have hix : atI ((y0 :: yr).map V.ref) 0 = some (V.ref y0) := atI_nat (xs := (y0 :: yr).map V.ref) (j := 0) rfl
    refine ⟨_, PSs.nox (pss_cons (ps_set (i := 1) sc_shared_lap.nd rfl (Or.inl rfl) (pe_callB call_len_seq rfl (T.fr _ (by decide +kernel)) boot_len (pa_cons (pe_fld (pe_ix (ixs (K := K)) (pv 0) pe_int fun _ _ => rfl) rfl) pa_nil))) (pss_cons (ps_for PassesOwn.never rfl (pi_row (pe_slice sl_row (pv 0) (po_some pe_int) po_none)) (pg_name (i := 2) sc_shared_lap.nd rfl (Or.inl rfl)) (pss_one (ps_set (i := 1) sc_shared_lap.nd rfl (Or.inl rfl) (pe_callBfun cr_lcm rfl h_lcm (pa_cons (pv 1) (pa_cons (pe_callB call_len_seq rfl (T.fr _ (by decide +kernel)) boot_len (pa_cons (pe_fld (pv 2) rfl) pa_nil)) pa_nil)))))) (pss_one (ps_ret (pv 1))))), ?_⟩
    refine ⟨_, rfl, ?_⟩
    refine ix_done (K := K) hr1 hix ?_
    refine ⟨y0, CT, dx0, _, _, rfl, hy0, tc.cl, tc.lp, rfl, c2, _, rfl, .inr hlp0, ?_⟩
    rw [vI_len]
    refine ⟨_, rfl, _, rfl, ?_⟩
    refine slr_rest (K := K) hr1 (by simp) fun p G2 s2 hp2 => ?_
    refine ⟨p, rfl, ?_⟩
    have hp3 : Row K G2 p (yr.map V.ref) := hp2
    have b0 := lz z0 (List.mem_cons_self ..)
    refine for_row hp3 (fun j σ G => Same G2 G ∧ (r.take j).foldl (fun l z => Nat.lcm l z.2.1.length) z0.2.1.length ≤ 300 ^ (j + 1) ∧ ∃ v2 : Option V, σ = [some (.ref a), some (.int (((r.take j).foldl (fun l z => Nat.lcm l z.2.1.length) z0.2.1.length : Nat) : Int)), v2]) ⟨Same.refl _, by show z0.2.1.length ≤ 300 ^ 1; omega, _, rfl⟩ (fun j σ G z => z.1) ?_ ?_
    · rintro j u σ G3 hj ⟨s3, lb, v2, rfl⟩
      have hjl := (List.getElem?_eq_some_iff.mp hj).1
      rw [List.length_map] at hjl
      rw [List.getElem?_map, List.getElem?_eq_getElem hjl] at hj
      obtain rfl : V.ref yr[j] = u := Option.some.inj hj
      have hjr : j < r.length := by omega
      obtain ⟨dx, b1, b2, hy, hh, hlp⟩ := (tt.2 (j + 1) yr[j] r[j] (by simp) (by simp)).mono (Same.trans s2 s3)
      have bz := lz r[j] (List.mem_cons_of_mem _ (List.getElem_mem _))
      have et : (r.take (j + 1)).foldl (fun l z => Nat.lcm l z.2.1.length) z0.2.1.length = Nat.lcm ((r.take j).foldl (fun l z => Nat.lcm l z.2.1.length) z0.2.1.length) r[j].2.1.length := by
        rw [List.take_succ_eq_append_getElem hjr, List.foldl_append]
        rfl
      generalize (r.take j).foldl (fun l z => Nat.lcm l z.2.1.length) z0.2.1.length = lj at lb et
      have lle : Nat.lcm lj r[j].2.1.length ≤ lj * r[j].2.1.length := by
        unfold Nat.lcm
        exact Nat.div_le_self _ _
      have l2 : lj * r[j].2.1.length ≤ 300 ^ (j + 1) * 300 := Nat.mul_le_mul lb bz
      have l64 : 300 ^ (j + 1) ≤ 300 ^ 3 := Nat.pow_le_pow_right (by decide) (by omega)
      have l65 : (300 : Nat) ^ 3 < 2 ^ 64 := by decide
      refine ⟨_, rfl, _, rfl, yr[j], CT, dx, _, _, rfl, hy, tc.cl, tc.lp, rfl, b2, _, rfl, .inr hlp, ?_⟩
      rw [vI_len]
      refine ⟨_, _, rfl, by rw [Int.natAbs_natCast]; omega, by rw [Int.natAbs_natCast]; exact Nat.lt_of_le_of_lt bz (by decide), ?_⟩
      rw [Int.natAbs_natCast, Int.natAbs_natCast]
      refine ⟨s3, ?_, some (V.ref yr[j]), ?_⟩
      · rw [et, Nat.pow_succ]
        omega
      · rw [et]
        rfl
    · rintro σ G3 ⟨s3, lb, v2, rfl⟩
      rw [List.length_map, yl2, List.take_length]
      exact ⟨_, rfl, q G3 (Same.trans s2 s3)⟩
theorem rep_flat {α : Type} {x : α} : ∀ n : Nat, (List.replicate n [x]).flatten = List.replicate n x
  | 0 => rfl
  | n + 1 => by
    rw [List.replicate_succ, List.flatten_cons, rep_flat n, List.replicate_succ]
    rfl
theorem ok_steps_to {f : Addr} {fd : FuncData} (F : FunD K "steps_to" "steps_to" (defArgs s_steps_to) (defBody s_steps_to) (defScope s_steps_to) [] [] f fd) (T : Txt K mg gs FS) (tc : TabC K CT) (o_call : CalO P w K mg base 3 CT (spAt K CT)) : FnOk P w K mg base CX0 4 f fd ["tables", "place"] (spSteps K CT) := by
  refine F.ok sc_steps_to (fun vs H Q E h => ?_) (fun cdv A outer s H vs Q E hr h => ?_)
  · obtain ⟨a, ys, zs, p, rfl, _⟩ := h
    rfl
  · obtain ⟨a, ys, zs, p, rfl, hr1, l3, tt, sm, p1, nn, mo, q⟩ := h
    have yl := tt.1
    refine ⟨_, PSs.nox (pss_cons (ps_set (i := 2) sc_steps_to.nd rfl (Or.inl rfl) (pe_lst pa_nil)) (pss_cons (ps_for PassesOwn.never rfl (pi_enumR rfl (T.fr _ (by decide +kernel)) (pa_cons (pv 0) pa_nil)) (pgt (K := K) (n := 2) rfl rfl (pgs_cons (pg_name (i := 3) sc_steps_to.nd rfl (Or.inl rfl)) (pgs_cons (pg_name (i := 4) sc_steps_to.nd rfl (Or.inl rfl)) pgs_nil))) (pss_one (ps_expr (pe_bm PySem.F.plainAttrs_list PySem.F.slot_list_extend PySem.F.type_list_extend mt_extend (pv 2) (pa_cons (pe_op op_rep (pe_lst (pa_cons (pv 3) pa_nil)) (pe_op op_sub (pe_co (pv 4) o_call hr (by decide) (pa_cons (pv 1) pa_nil)) (pe_co (pv 4) o_call hr (by decide) (pa_cons (pe_op op_sub (pv 1) pe_int) pa_nil)))) pa_nil))))) (pss_one (ps_ret (pv 2))))), ?_⟩
    refine ⟨(by show 0 ≤ sizeLine; decide), fun D hD => ?_⟩
    have s1 := NF.Same.new (o := .lst []) (Same.refl H) hD
    have hD1 := upd_same (H := H) (a := D) (o := .lst [])
    generalize upd H D (.lst []) = H1 at s1 hD1
    obtain ⟨Hb, hHb⟩ : ∃ Hb, Hb = wo H1 D := ⟨_, rfl⟩
    have sb : Same H Hb := by
      rw [hHb]
      exact same_wo_of s1 hD
    have nb : Hb D = none := by rw [hHb]; exact wo_none
    have sb1 : Same Hb H1 := by rw [hHb]; exact wo_same'
    have ttb := tt.mono sb
    refine for_enumM (K := K) rfl (hr1.mono sb) (fun j σ G => Same Hb G ∧ G D = some (.lst ((stp (valF zs) j p).map dV)) ∧ (stp (valF zs) j p).length ≤ 2000 * j ∧ ∃ v3 v4 : Option V, σ = [some (.ref a), some (.int (p : Nat)), some (.ref D), v3, v4]) ⟨sb1, hD1, Nat.zero_le _, _, _, rfl⟩ (fun j σ G z => z.1) ?_ ?_
    · rintro j u σ G G' hj ⟨sG, hG, ln, v3, v4, rfl⟩ ⟨U, x, rfl, hU, rfl, hx⟩
      have t1 := NF.Same.new (o := .tup [V.int (j : Int), x]) (Same.refl G) hU
      refine ⟨U, _, rfl, SqT.of upd_same, rfl, _, _, rfl, ?_⟩
      refine ⟨_, _, rfl, ?_⟩
      refine ⟨rfl, ?_⟩
      have hG1 := t1 _ _ hG
      have sG1 := Same.trans sG t1
      generalize upd G U (.tup [V.int (j : Int), x]) = G1 at t1 hG1 sG1
      rw [List.length_map] at hj
      have hjz : j < zs.length := by omega
      rw [List.getElem?_map, List.getElem?_eq_getElem hj] at hx
      obtain rfl : V.ref ys[j] = x := Option.some.inj hx
      have ez : zs[j]? = some zs[j] := List.getElem?_eq_getElem hjz
      have hz := List.getElem_mem hjz
      have tb := ttb.2 j ys[j] zs[j] (List.getElem?_eq_getElem hj) ez
      have tb1 := tb.mono sG1
      have e1 := val_F ez (p := p) (.inr (nn _ hz p p1 (Nat.le_refl _)))
      have e2 := val_F ez (p := p - 1) (by
        by_cases c : p - 1 = 0
        · exact .inl c
        · exact .inr (nn _ hz (p - 1) (by omega) (by omega)))
      obtain ⟨m1, m2⟩ := mo j hjz
      refine ⟨_, rfl, Or.inl ⟨rfl, _, SqL.of hG1⟩, ?_⟩
      refine ⟨_, rfl, (by show 1 ≤ sizeLine; decide), fun l hl => ?_⟩
      have t2 := NF.Same.new (o := .lst [V.int (j : Int)]) (Same.refl G1) hl
      have hl2 := upd_same (H := G1) (a := l) (o := .lst [V.int (j : Int)])
      have hG2 := t2 _ _ hG1
      have sG2 := Same.trans sG1 t2
      generalize upd G1 l (.lst [V.int (j : Int)]) = G2 at t2 hl2 hG2 sG2
      have tb2 := tb.mono sG2
      obtain ⟨dx, _, _, hy, _⟩ := id tb2
      refine ⟨_, rfl, ys[j], rfl, _, rfl, Or.inr ⟨dx, _, hy⟩, ys[j], zs[j], some p, rfl, tb2, sm _ hz, fun G3 s3 => ?_⟩
      rw [e1]
      have sG3 := Same.trans sG2 s3
      have tb3 := tb.mono sG3
      obtain ⟨dx3, _, _, hy3, _⟩ := id tb3
      refine ⟨_, rfl, ys[j], rfl, _, rfl, _, _, rfl, rfl, Or.inr ⟨dx3, _, hy3⟩, ys[j], zs[j], some (p - 1), ?_, tb3, sm _ hz, fun G4 s4 => ?_⟩
      · show [V.ref ys[j], V.int ((p : Int) - 1)] = [V.ref ys[j], V.int ((p - 1 : Nat) : Int)]
        rw [show ((p - 1 : Nat) : Int) = (p : Int) - 1 by omega]
      rw [e2]
      have sG4 := Same.trans sG3 s4
      have hl4 := s4 _ _ (s3 _ _ hl2)
      have hG4 := s4 _ _ (s3 _ _ hG2)
      refine ⟨_, _, rfl, rfl, ?_⟩
      obtain ⟨k, hk⟩ : ∃ k, k = valF zs j p - valF zs j (p - 1) := ⟨_, rfl⟩
      refine ⟨l, k, _, rfl, by rw [hk], hl4, by omega, by omega, ?_, fun qq hqq => ?_⟩
      · show 1 * k.toNat ≤ sizeLine
        exact Nat.le_trans (show 1 * k.toNat ≤ 2000 by omega) (by decide)
      have t5 := NF.Same.new (o := .lst (List.replicate k.toNat [V.int (j : Int)]).flatten) (Same.refl G4) hqq
      have ef : (List.replicate k.toNat [V.int (j : Int)]).flatten = (List.replicate k.toNat (some j)).map dV := by
        rw [rep_flat, List.map_replicate]
        rfl
      refine ⟨D, qq, _, _, rfl, rfl, t5 _ _ hG4, upd_same, ?_, ?_⟩
      · rw [rep_flat, List.length_map, List.length_replicate]
        exact Nat.le_trans (show (stp (valF zs) j p).length + k.toNat ≤ 10000 by omega) (by decide)
      · refine ⟨NF.Same.put (Same.trans sG4 t5) nb, ?_, ?_, _, _, rfl⟩
        · rw [upd_same, ef, stp_succ, List.map_append, hk]
        · rw [stp_succ, List.length_append, List.length_replicate]
          omega
    · rintro σ G ⟨sG, hG, ln, v3, v4, rfl⟩
      rw [List.length_map, yl] at hG
      exact ⟨_, rfl, q D G (Same.trans sb sG) hD hG⟩
end
end K28
set_option Elab.async false
set_option linter.all false
set_option maxRecDepth 100000
set_option maxHeartbeats 4000000
namespace K28
open PySem PySem.Spec PyProof.Rows L2 He NF RZ NT
def IsLead (zs : List Y) (L : Nat) : Prop := (∃ z ∈ zs, z.1.length = L) ∧ ∀ z ∈ zs, z.1.length ≤ L
def totT (zs : List Y) (L P : Nat) : Int := (L : Int) + 2 * (P : Int) + totF (valF zs) zs.length (L + 2 * P)
/-- sizes of tables of which a maker is made -/
structure Fit (z : Y) : Prop where
  g : Good z.1 z.2.1 z.2.2
  h : z.1.length ≤ 300
  l : z.2.1.length ≤ 300
  r : z.2.2 ≤ 1000000
theorem Fit.sm {z : Y} (f : Fit z) : Small z := ⟨Nat.le_trans f.h (by decide), Nat.le_trans f.l (by decide), f.g.r0, f.r⟩
/-- the need at each inlet is the told table -/
def NeedIs (zs : List Y) (b w : List Deed) : Prop := ∀ i z, zs[i]? = some z → ∀ m, 1 ≤ m → at_ (needT i b w).1 (needT i b w).2.1 (needT i b w).2.2 m = atY z m
def spMakerOf (K : PySem.W.Frag) (CM CT : Addr) : Sp := fun vs H Q E => ∃ v, vs = [v] ∧ NeedsIn K CT v H E fun _ zs => (∀ z ∈ zs, Fit z) ∧ ∃ L, IsLead zs L ∧
  (totT zs L (lapT zs) ≤ 600 → ∀ x b w H', Same H H' → MakAt K CM H' x zs.length b [w] → GoodM zs.length b [w] → NeedIs zs b w → Q (.ref x) H') ∧
  (600 < totT zs L (lapT zs) → ∀ d H', Same H H' → H d = none → H' d = some (.xd [("word", .str "deed")]) → E (.ref (ga K "TooMany")) (some d) H')
theorem lead_one {zs : List Y} {L L' : Nat} (h : IsLead zs L) (h' : IsLead zs L') : L = L' := by
  obtain ⟨⟨z, hz, e⟩, a⟩ := h
  obtain ⟨⟨z', hz', e'⟩, a'⟩ := h'
  have := a z' hz'
  have := a' z hz
  omega
/-- how far the values are told, and what they are -/
structure Plan (zs : List Y) (L P : Nat) : Prop where
  fit : ∀ z ∈ zs, Fit z
  lead : IsLead zs L
  lap : P = lapT zs
  k : (0 < P ∧ ∀ z ∈ zs, z.2.1 ≠ []) ∨ (P = 0 ∧ ∀ z ∈ zs, z.2.1 = [] ∧ z.1.length = L)
theorem plan_of {zs : List Y} {L : Nat} (h1 : 1 ≤ zs.length) (al : Alike zs) (fit : ∀ z ∈ zs, Fit z) (ld : IsLead zs L) : Plan zs L (lapT zs) := by
  refine ⟨fit, ld, rfl, ?_⟩
  obtain ⟨z0, r, rfl⟩ : ∃ z0 r, zs = z0 :: r := by
    cases zs with
    | nil => simp at h1
    | cons z0 r => exact ⟨z0, r, rfl⟩
  obtain ⟨_, _, h3, h4⟩ := lcm_fold (f := fun z : Y => z.2.1.length) (r := r) (a := z0.2.1.length)
  have al2 : ∀ z ∈ z0 :: r, z.2.1.isEmpty = z0.2.1.isEmpty ∧ (z.2.1.isEmpty = true → z.1.length = z0.1.length) := fun z hz => by
    have e : (decide (z.2.1.isEmpty = z0.2.1.isEmpty) && (!z.2.1.isEmpty || decide (z.1.length = z0.1.length))) = true := al z hz
    obtain ⟨e1, e2⟩ := ba e
    refine ⟨of_decide_eq_true e1, fun c => ?_⟩
    rw [c] at e2
    simpa using e2
  by_cases c : z0.2.1 = []
  · refine .inr ⟨h4 (by rw [c]; rfl), fun z hz => ?_⟩
    have e := al2 z hz
    have e1 : z.2.1.isEmpty = true := e.1.trans (by rw [c]; rfl)
    refine ⟨List.isEmpty_iff.mp e1, ?_⟩
    obtain ⟨⟨w, hw, ew⟩, _⟩ := ld
    have e3 := al2 w hw
    rw [e.2 e1, ← ew, e3.2 (e3.1.trans (by rw [c]; rfl))]
  · have ne : ∀ z ∈ z0 :: r, z.2.1 ≠ [] := fun z hz e => by
      have e1 := (al2 z hz).1
      rw [e] at e1
      exact c (List.isEmpty_iff.mp e1.symm)
    exact .inl ⟨h3 (List.length_pos_iff.mpr c) fun z hz => List.length_pos_iff.mpr (ne z (List.mem_cons_of_mem _ hz)), ne⟩
theorem Plan.def_ {zs : List Y} {L P : Nat} (h : Plan zs L P) {z : Y} (hz : z ∈ zs) {m : Nat} (m1 : 1 ≤ m) (hm : m ≤ L ∨ 0 < P) : atY z m ≠ none := fun e => by
  have e : at_ z.1 z.2.1 z.2.2 m = none := e
  have s : m ≤ z.1.length ∨ z.2.1 ≠ [] := by
    rcases h.k with ⟨p, a⟩ | ⟨p, a⟩
    · exact .inr (a z hz)
    · have := (a z hz).2
      exact .inl (by omega)
  rw [at_some m s] at e
  cases e
theorem Plan.val {zs : List Y} {L P : Nat} (h : Plan zs L P) {i : Nat} (hi : i < zs.length) {m : Nat} (m1 : 1 ≤ m) (hm : m ≤ L ∨ 0 < P) : atY zs[i] m = some (valF zs i m) ∧ 0 ≤ valF zs i m := by
  have s := h.def_ (List.getElem_mem hi) m1 hm
  have e : valF zs i m = numF (atY zs[i]) m := by
    unfold valF
    rw [if_neg (by omega), List.getD_eq_getElem?_getD, List.getElem?_eq_getElem hi]
    rfl
  refine ⟨by rw [e]; exact numF_some s, ?_⟩
  rw [e]
  exact (asc_at (h.fit _ (List.getElem_mem hi)).g).nonneg m1 s
theorem valF_zero {zs : List Y} {i : Nat} : valF zs i 0 = 0 := rfl
theorem Plan.nn {zs : List Y} {L P : Nat} (h : Plan zs L P) {i : Nat} (hi : i < zs.length) {m : Nat} (hm : m ≤ L ∨ 0 < P) : 0 ≤ valF zs i m := by
  by_cases c : m = 0
  · rw [c]; exact Int.le_refl _
  · exact (h.val hi (by omega) hm).2
theorem Plan.mono {zs : List Y} {L P : Nat} (h : Plan zs L P) {i : Nat} (hi : i < zs.length) {m k : Nat} (mk : m ≤ k) (hk : k ≤ L ∨ 0 < P) : valF zs i m ≤ valF zs i k := by
  by_cases c : m = 0
  · rw [c, valF_zero]
    exact h.nn hi hk
  · obtain ⟨e1, _⟩ := h.val hi (m := m) (by omega) (by omega)
    obtain ⟨e2, _⟩ := h.val hi (m := k) (by omega) hk
    have s2 : atY zs[i] k ≠ none := by rw [e2]; simp
    have := (asc_at (h.fit _ (List.getElem_mem hi)).g).mono (by omega) mk s2
    unfold numF at this
    have e1 : at_ zs[i].1 zs[i].2.1 zs[i].2.2 m = some (valF zs i m) := e1
    have e2 : at_ zs[i].1 zs[i].2.1 zs[i].2.2 k = some (valF zs i k) := e2
    rw [e1, e2] at this
    exact this
/-- bounds of all that is asked -/
theorem Plan.bnd {zs : List Y} {L P : Nat} (h : Plan zs L P) (ht : totT zs L P ≤ 600) : L + 2 * P ≤ 600 ∧ ∀ i, i < zs.length → ∀ m, m ≤ L + 2 * P → valF zs i m ≤ 600 := by
  have hk : L + 2 * P ≤ L ∨ 0 < P := by omega
  obtain ⟨t0, t1⟩ := le_totF (F := valF zs) (p := L + 2 * P) (n := zs.length) fun i hi => h.nn hi hk
  unfold totT at ht
  refine ⟨by omega, fun i hi m hm => ?_⟩
  have := t1 i hi
  have := h.mono hi hm hk
  omega
/-- the deeds of the maker, and that they are right -/
def begM (zs : List Y) (L P : Nat) : List Deed := if P = 0 then begD (valF zs) zs.length L else begD (valF zs) zs.length L ++ stp (valF zs) zs.length (L + 1)
def wayM (zs : List Y) (L P : Nat) : List Deed := if P = 0 then [some 0] else wayD (valF zs) zs.length L P
theorem Plan.good {zs : List Y} {L P : Nat} (h : Plan zs L P) (n1 : 1 ≤ zs.length) (n3 : zs.length ≤ 3) (ht : totT zs L P ≤ 600) : GoodM zs.length (begM zs L P) [wayM zs L P] := by
  obtain ⟨b1, b2⟩ := h.bnd ht
  have hk : L + 2 * P ≤ L ∨ 0 < P := by omega
  have z0 : ∀ i, i < zs.length → valF zs i 0 = 0 := fun _ _ => rfl
  have mo : ∀ i, i < zs.length → ∀ p, p < L → valF zs i p ≤ valF zs i (p + 1) := fun i hi p hp => h.mono hi (by omega) (.inl (by omega))
  have lb := begD_len (F := valF zs) (n := zs.length) (L := L) z0 mo
  have tm := totF_mono (F := valF zs) (a := L) (b := L + 2 * P) (n := zs.length) fun i hi => h.mono hi (by omega) hk
  unfold totT at ht
  unfold begM wayM
  by_cases c : P = 0
  · rw [if_pos c, if_pos c]
    refine ⟨n1, n3, fun i hi => begD_mem hi, fun v hv => ?_, by simp, by simp, by omega⟩
    rw [List.mem_singleton.mp hv]
    exact ⟨by simp, .inl (by simp), fun i hi => by simp at hi; omega⟩
  · have hp : ∀ i, i < zs.length → ∀ m k, m ≤ k → valF zs i m ≤ valF zs i k := fun i hi m k mk => h.mono hi mk (.inr (by omega))
    rw [if_neg c, if_neg c]
    have ls := stp_len (F := valF zs) (p := L + 1) (n := zs.length) fun i hi => hp i hi _ _ (by omega)
    rw [Nat.add_sub_cancel] at ls
    have lw := wayD_len (F := valF zs) (n := zs.length) (L := L) (m := P) fun i hi p _ => hp i hi _ _ (by omega)
    have t1 := totF_mono (F := valF zs) (a := L + 1) (b := L + 2 * P) (n := zs.length) fun i hi => hp i hi _ _ (by omega)
    have t2 := totF_mono (F := valF zs) (a := L + 1 + P) (b := L + 2 * P) (n := zs.length) fun i hi => hp i hi _ _ (by omega)
    have t3 := (le_totF (F := valF zs) (p := L + 1) (n := zs.length) fun i hi => h.nn hi (.inr (by omega))).1
    refine ⟨n1, n3, fun i hi => ?_, fun v hv => ?_, by simp, by simp, by rw [List.length_append]; omega⟩
    · rcases List.mem_append.mp hi with hi | hi
      · exact begD_mem hi
      · obtain ⟨j, hj, e⟩ := stp_mem hi
        cases e
        exact hj
    · rw [List.mem_singleton.mp hv]
      refine ⟨fun z => ?_, .inr ⟨rfl, by omega⟩, fun i hi => wayD_mem hi⟩
      rw [z] at lw
      have t4 := totF_mono (F := valF zs) (a := L + 1) (b := L + 1 + P) (n := zs.length) fun i hi => hp i hi _ _ (by omega)
      simp at lw
      omega
theorem Plan.need {zs : List Y} {L P : Nat} (h : Plan zs L P) : NeedIs zs (begM zs L P) (wayM zs L P) := by
  intro i z e m hm
  have hi := (List.getElem?_eq_some_iff.mp e).1
  have ez : z = zs[i] := by
    rw [List.getElem?_eq_getElem hi] at e
    exact (Option.some.inj e).symm
  subst ez
  have hz := List.getElem_mem hi
  have A : Asc (atY zs[i]) := asc_at (h.fit _ hz).g
  unfold begM wayM
  rcases h.k with ⟨p, a⟩ | ⟨p, a⟩
  · rw [if_neg (by omega), if_neg (by omega)]
    have d : zs[i].2.1.length ∣ P := by
      rw [h.lap]
      unfold lapT
      cases zs with
      | nil => simp at hi
      | cons z0 r =>
        obtain ⟨h1, h2, _⟩ := lcm_fold (f := fun z : Y => z.2.1.length) (r := r) (a := z0.2.1.length)
        rcases List.mem_cons.mp hz with c | c
        · rw [c]; exact h1
        · exact h2 _ c
    have hv : ∀ q, 1 ≤ q → atY zs[i] q = some (valF zs i q) := fun q hq => (h.val hi hq (.inr p)).1
    refine made_need (G := atY zs[i]) (R := ((P / zs[i].2.1.length : Nat) : Int) * zs[i].2.2) A hi rfl hv p (fun k hk => ?_) hm
    have l2 := h.lead.2 _ hz
    have nl := num_lap (h := zs[i].1) (r := zs[i].2.2) (a _ hz) d (k := k) (by omega)
    have v1 := hv (k + P) (by omega)
    have v2 := hv k (by omega)
    unfold numF at nl
    have v1 : at_ zs[i].1 zs[i].2.1 zs[i].2.2 (k + P) = some (valF zs i (k + P)) := v1
    have v2 : at_ zs[i].1 zs[i].2.1 zs[i].2.2 k = some (valF zs i k) := v2
    rw [v1, v2] at nl
    exact nl
  · rw [if_pos p, if_pos p]
    obtain ⟨a1, a2⟩ := a _ hz
    rw [made_end (G := atY zs[i]) hi rfl (fun q q1 q2 => (h.val hi q1 (.inl q2)).1) A]
    show at_ (segN (atY zs[i]) 0 L) [] 0 m = atY zs[i] m
    unfold at_
    rw [segN_len]
    by_cases c : m ≤ L
    · rw [if_pos c, segN_get (by omega), show 0 + (m - 1) + 1 = m by omega]
      exact (numF_some (h.def_ hz hm (.inl c))).symm
    · rw [if_neg c, if_pos rfl]
      show none = at_ _ _ _ _
      unfold at_
      rw [if_neg (by omega), if_pos a1]
end K28
set_option Elab.async false
set_option linter.all false
set_option maxRecDepth 100000
set_option maxHeartbeats 4000000
/-! o(e, ..) told without its context, for comprehensions. -/
namespace NF
open PySem PySem.Spec PyProof.Rows L2 He RZ NT
theorem pe_coK {X : Cx} {k j : Nat} {C : Addr} {sp : Sp} {fe e : Expr} {es : List Expr} {t : TA} {tf : TE} {pos : Pos} (hf : PE X fe tf) (c : CalO X.prog X.w X.K X.mg X.base k C sp) (hr : Room j X.A) (hk : k ≤ j) (ha : PA X (e :: es) t)
    (ht : eval (.Call fe (e :: es) [] pos) X.env = (do callWith pos (← eval fe X.env) [] (backTo pos (starEach (e :: es) X.env)) (backToKw pos (keywordEach [] X.env))) := by rfl)
    (he : starEach (e :: es) X.env = (false, eval e X.env) :: starEach es X.env := by rfl) (hpl : (backTo pos (starEach es X.env)).any (·.1) = false := by rfl) :
    PE X (.Call fe (e :: es) [] pos) (tCallOS C sp (fun _ => E0) tf t) := by
  obtain ⟨g, fd, ps, co, F, b⟩ := c.ex
  refine ⟨fun pins s σ H Q I h => ?_⟩
  refine Call_ (thn (hf.run pins s σ H _ I h) fun u s1 ⟨y, H1, I1, ry, a, ey, q⟩ => ?_) ht
  subst ey
  cases ry
  refine StX.callO_with (thn (ha.run pos pins s1 σ H1 _ I1 q) fun us s2 ⟨vs, H2, I2, r, hi0, q2⟩ => ?_) he hpl
  have hi : StX.InsC X H2 a C := .inr hi0
  obtain ⟨ox, od, J, hd⟩ := StX.insC_at I2 hi
  refine ⟨⟨C, ox, od, J, hd⟩, ?_⟩
  have rr : Vals (V.ref a :: vs) (Value.ref a :: us) := .cons rfl r
  have len : (Value.ref a :: us).length = ps.length := rr.length.symm.trans (F.len _ _ _ _ q2)
  have bb := b s2 (Value.ref a :: us) I2.kIn (by rw [List.append_nil]; exact len)
  rw [List.append_nil] at bb
  refine wpAny_call (PySem.W.kco_code I2.kIn J hd co.at_ co.fn co.fi (codeAny_mono (F.run X.A X.stack s2 H2 ⟨Value.ref a :: us, []⟩ (Value.ref a :: us) (V.ref a :: vs) Q E0 (hr.mono hk) I2.env0 bb rr q2) fun z s' hq => ?_))
  cases z with
  | error e => exact pass0 pins σ H2 s2 e s' I2 hq
  | ok fl =>
    cases fl with
    | ret u => exact I2.after hq
    | next => exact False.elim hq
    | brk => exact False.elim hq
    | cont => exact False.elim hq
end NF
set_option Elab.async false
set_option linter.all false
set_option maxRecDepth 100000
set_option maxHeartbeats 4000000
namespace K28
open PySem PySem.Spec PyProof.Rows L2 He NF RZ NT
theorem sc_maker_of : FnScope ["tables", "lead", "lap", "begin", "place", "way", "table"] ["tables"] (defScope s_maker_of) := ⟨rfl, rfl, rfl, by decide +kernel, rfl, by decide +kernel, by decide +kernel⟩
theorem dV_len {l : List Deed} : (l.map dV).length = l.length := List.length_map ..
section
variable {P : Program} {w : World} {K : PySem.W.Frag} {mg : Str → Option Value} {base : Heap} {gs : List Str} {C CT CM : Addr} {tok : Tok}
theorem ok_maker_of {f : Addr} {fd : FuncData} (F : FunD K "maker_of" "maker_of" (defArgs s_maker_of) (defBody s_maker_of) (defScope s_maker_of) [] [] f fd) (T : Txt K mg gs FS) (tc : TabC K CT) (h_MOST_DEEDS : mg "MOST_DEEDS" = some (.int 600 tok)) (m_TooMany : ExcI P w K mg base "TooMany" "word") (c_check_needs : CalX P w K mg base 3 "check_needs" (spCheckN K CT)) (c_shared_lap : Cal P w K mg base 1 "shared_lap" (spLapT K CT)) (c_steps_to : Cal P w K mg base 4 "steps_to" (spSteps K CT)) (o_call : CalO P w K mg base 3 CT (spAt K CT)) (m_Maker : Mak P w K mg base 7 0 "Maker" CM (spMkInit K CM) []) : FnOk P w K mg base (L2.CX P w) 9 f fd ["tables"] (spMakerOf K CM CT) := by
  refine F.ok sc_maker_of (fun vs H Q E h => ?_) (fun cdv A outer s H vs Q E hr h => ?_)
  · obtain ⟨v, rfl, _⟩ := h
    rfl
  · obtain ⟨v, rfl, h⟩ := h
    refine ⟨_, (pss_cons (ps_expr (pe_cX (takes_of rfl rfl rfl rfl) c_check_needs hr (by decide) rfl (pa_cons (pv 0) pa_nil))) (pss_cons (ps_set (i := 1) sc_maker_of.nd rfl (Or.inr rfl) (pe_callB (cr_max rfl) rfl (T.fr _ (by decide +kernel)) (by decide +kernel) (pa_cons (pe_lc (own := [("table", 6)]) rfl sc_maker_of.nd (pi_row (pv 0)) (blkOk_by (N := ["tables", "lead", "lap", "begin", "place", "way", "table"]) (sc := defScope s_maker_of) (by decide +kernel)) (fun _ _ _ _ _ => by exact (pg_name (i := 6) sc_maker_of.nd rfl (Or.inl rfl))) (fun _ _ _ _ _ => by exact pts_nil) (fun _ _ _ _ _ => by exact (pe_callB (call_lenK (K := K)) rfl (T.fr _ (by decide +kernel)) boot_len (pa_cons (pe_fldK (K := K) (pv 6) rfl) pa_nil)))) pa_nil))) (pss_cons (ps_set (i := 2) sc_maker_of.nd rfl (Or.inr rfl) (pe_c c_shared_lap hr (by decide) rfl (pa_cons (pv 0) pa_nil))) (pss_cons (ps_if (pt_cmpR op_gt (pe_op op_add (pe_op op_add (pv 1) (pe_op op_mul pe_int (pv 2))) (pe_callB (cr_sum rfl) rfl (T.fr _ (by decide +kernel)) (by decide +kernel) (pa_cons (pe_lc (own := [("table", 6)]) rfl sc_maker_of.nd (pi_row (pv 0)) (blkOk_by (N := ["tables", "lead", "lap", "begin", "place", "way", "table"]) (sc := defScope s_maker_of) (by decide +kernel)) (fun _ _ _ _ _ => by exact (pg_name (i := 6) sc_maker_of.nd rfl (Or.inl rfl))) (fun _ _ _ _ _ => by exact pts_nil) (fun _ _ _ _ _ => by exact (pe_coK (pv 6) o_call hr (by decide) (pa_cons (pe_op op_add (pv 1) (pe_op op_mul pe_int (pv 2))) pa_nil)))) pa_nil))) (pe_glob (v := .int 600) rfl h_MOST_DEEDS ⟨_, rfl⟩) (nomark _)) (pss_one (ps_rz rfl (takes_of rfl rfl rfl rfl) m_TooMany hr (by decide) rfl pe_str)) pss_nil) (pss_cons (ps_set (i := 3) sc_maker_of.nd rfl (Or.inl rfl) (pe_lst pa_nil)) (pss_cons (ps_for (passes_of rfl) rfl (pi_range2 rfl (T.fr _ (by decide +kernel)) (pa_cons pe_int (pa_cons (pe_op op_add (pv 1) pe_int) pa_nil))) (pg_name (i := 4) sc_maker_of.nd rfl (Or.inl rfl)) (pss_one (ps_expr (pe_bm PySem.F.plainAttrs_list PySem.F.slot_list_extend PySem.F.type_list_extend mt_extend (pv 3) (pa_cons (pe_op op_cat (pe_c c_steps_to hr (by decide) rfl (pa_cons (pv 0) (pa_cons (pv 4) pa_nil))) (pe_lst (pa_cons pe_str pa_nil))) pa_nil))))) (pss_cons (ps_if (pt_cmpR op_eq (pv 2) pe_int (nomark _)) (pss_one (ps_ret (pe_mk m_Maker hr (by decide) rfl (pa_cons (pe_callB call_len_seq rfl (T.fr _ (by decide +kernel)) boot_len (pa_cons (pv 0) pa_nil)) (pa_cons (pv 3) (pa_cons (pe_tup (pa_cons (pe_tup (pa_cons pe_int pa_nil)) pa_nil)) pa_nil)))))) pss_nil) (pss_cons (ps_expr (pe_bm PySem.F.plainAttrs_list PySem.F.slot_list_extend PySem.F.type_list_extend mt_extend (pv 3) (pa_cons (pe_c c_steps_to hr (by decide) rfl (pa_cons (pv 0) (pa_cons (pe_op op_add (pv 1) pe_int) pa_nil))) pa_nil))) (pss_cons (ps_set (i := 5) sc_maker_of.nd rfl (Or.inl rfl) (pe_lst pa_nil)) (pss_cons (ps_for (passes_of rfl) rfl (pi_range2 rfl (T.fr _ (by decide +kernel)) (pa_cons (pe_op op_add (pv 1) pe_int) (pa_cons (pe_op op_add (pe_op op_add (pv 1) (pv 2)) pe_int) pa_nil))) (pg_name (i := 4) sc_maker_of.nd rfl (Or.inl rfl)) (pss_one (ps_expr (pe_bm PySem.F.plainAttrs_list PySem.F.slot_list_extend PySem.F.type_list_extend mt_extend (pv 5) (pa_cons (pe_op op_cat (pe_lst (pa_cons pe_str pa_nil)) (pe_c c_steps_to hr (by decide) rfl (pa_cons (pv 0) (pa_cons (pe_op op_add (pv 4) pe_int) pa_nil)))) pa_nil))))) (pss_one (ps_ret (pe_mk m_Maker hr (by decide) rfl (pa_cons (pe_callB call_len_seq rfl (T.fr _ (by decide +kernel)) boot_len (pa_cons (pv 0) pa_nil)) (pa_cons (pv 3) (pa_cons (pe_tup (pa_cons (pv 5) pa_nil)) pa_nil)))))))))))))))), ?_⟩
    rcases h with h1 | h2 | ⟨a, ys, zs, rfl, hr1, l1, l3, tt, bad, good⟩
    · exact ⟨_, rfl, _, rfl, .inl h1⟩
    · exact ⟨_, rfl, _, rfl, .inr (.inl h2)⟩
    · refine ⟨_, rfl, _, rfl, .inr (.inr ⟨a, ys, zs, rfl, hr1, l1, l3, tt, bad, fun al H1 s1 => ?_⟩)⟩
      obtain ⟨fit, L, ld, fine, many⟩ := good al
      have pl := plan_of l1 al fit ld
      have yl := tt.1
      have hrA := hr1.mono s1
      have ttA := tt.mono s1
      -- the longest head
      refine ⟨_, rfl, a, rfl, ?_⟩
      refine lc_row hrA (fun D j G => Same H1 G ∧ G D = some (.lst (vI ((zs.take j).map fun z => (z.1.length : Int))))) (fun D hD => ⟨NF.Same.new (Same.refl H1) hD, upd_same⟩) (fun D i G _ z => z.1) ?_ ?_
      · rintro D hD j v G hv ⟨sG, hG⟩
        have hj := (List.getElem?_eq_some_iff.mp hv).1
        rw [List.length_map] at hj
        obtain rfl : V.ref (ys[j]) = v := by
          rw [List.getElem?_map, List.getElem?_eq_getElem hj] at hv
          exact Option.some.inj hv
        have hjz : j < zs.length := by omega
        obtain ⟨dx, b1, b2, hy, hh, hlp⟩ := (ttA.2 j ys[j] zs[j] (List.getElem?_eq_getElem hj) (List.getElem?_eq_getElem hjz)).mono sG
        refine ⟨rfl, _, rfl, ys[j], CT, dx, _, _, rfl, hy, tc.cl, tc.hd, rfl, b1, _, rfl, .inr hh, ?_⟩
        rw [vI_len]
        refine ⟨_, hG, by rw [vI_len, List.length_map, List.length_take]; exact Nat.lt_of_le_of_lt (show min j zs.length ≤ 3 by omega) (by decide), NF.Same.mut sG hD, ?_⟩
        rw [upd_same, List.take_add_one, List.getElem?_eq_getElem hjz, List.map_append, ← vI_app]
        rfl
      · rintro D hD G2 ⟨s2, hG2⟩
        rw [List.length_map, yl, List.take_length] at hG2
        refine ⟨D, _, rfl, SqL.of hG2, by rw [List.length_map]; omega, fun mx hmx hall => ?_⟩
        obtain ⟨zm, hzm, rfl⟩ := List.mem_map.mp hmx
        have eL : zm.1.length = L := lead_one (zs := zs) ⟨⟨zm, hzm, rfl⟩, fun z hz => by
          have := hall (z.1.length : Int) (List.mem_map.mpr ⟨z, hz, rfl⟩)
          omega⟩ ld
        rw [eL]
        have s02 := Same.trans s1 s2
        have hrB := hr1.mono s02
        have ttB := tt.mono s02
        -- the lap
        refine ⟨_, rfl, a, ys, zs, rfl, hrB, l1, l3, fun z hz => (fit z hz).l, ttB, fun G3 s3 => ?_⟩
        have s03 := Same.trans s02 s3
        have ttC := tt.mono s03
        have hrC := hr1.mono s03
        obtain ⟨lp, hlp⟩ : ∃ lp, lp = lapT zs := ⟨_, rfl⟩
        rw [← hlp] at pl fine many ⊢
        have hk : L + 2 * lp ≤ L ∨ 0 < lp := by omega
        have sm : ∀ z ∈ zs, Small z := fun z hz => (fit z hz).sm
        -- too many
        obtain ⟨p, hp⟩ : ∃ p, p = L + 2 * lp := ⟨_, rfl⟩
        have ep : (L : Int) + 2 * (lp : Int) = (p : Int) := by omega
        refine ⟨_, rfl, _, rfl, _, _, rfl, rfl, .inl (by decide), _, _, rfl, rfl, _, rfl, a, rfl, ?_⟩
        refine lc_row hrC (fun D j G => Same G3 G ∧ G D = some (.lst (vI ((List.range j).map fun i => valF zs i p)))) (fun D hD => ⟨NF.Same.new (Same.refl G3) hD, upd_same⟩) (fun D i G _ z => z.1) ?_ ?_
        · rintro D hD j v G hv ⟨sG, hG⟩
          have hj := (List.getElem?_eq_some_iff.mp hv).1
          rw [List.length_map] at hj
          obtain rfl : V.ref (ys[j]) = v := by
            rw [List.getElem?_map, List.getElem?_eq_getElem hj] at hv
            exact Option.some.inj hv
          have hjz : j < zs.length := by omega
          have tb := (ttC.2 j ys[j] zs[j] (List.getElem?_eq_getElem hj) (List.getElem?_eq_getElem hjz)).mono sG
          obtain ⟨dx, b1, b2, hy, _⟩ := id tb
          have ev := val_F (List.getElem?_eq_getElem hjz) (p := p) (by
            by_cases c : p = 0
            · exact .inl c
            · exact .inr (pl.def_ (List.getElem_mem hjz) (by omega) (by rw [hp]; exact hk)))
          refine ⟨rfl, _, rfl, ys[j], rfl, _, rfl, _, rfl, _, _, rfl, rfl, .inl (by decide), _, _, rfl, rfl, ⟨dx, _, hy⟩, ys[j], zs[j], some p, ?_, tb, sm _ (List.getElem_mem hjz), fun G4 s4 => ?_⟩
          · show [V.ref ys[j], V.int ((L : Int) + 2 * (lp : Int))] = [V.ref ys[j], V.int (p : Int)]
            rw [ep]
          rw [ev]
          refine ⟨_, s4 _ _ hG, by rw [vI_len, List.length_map, List.length_range]; exact Nat.lt_of_le_of_lt (show j ≤ 3 by omega) (by decide), NF.Same.mut (Same.trans sG s4) hD, ?_⟩
          rw [upd_same, List.range_succ, List.map_append, ← vI_app]
          rfl
        rintro D2 hD2 G4 ⟨s4, hG4⟩
        rw [List.length_map, yl] at hG4
        have s04 := Same.trans s03 s4
        have ttD := tt.mono s04
        have hrD := hr1.mono s04
        have etot : (L : Int) + 2 * (lp : Int) + ((List.range zs.length).map fun i => valF zs i p).sum = totT zs L lp := by
          unfold totT totF
          rw [hp]
        refine ⟨D2, _, rfl, SqL.of hG4, _, _, rfl, rfl, _, _, rfl, rfl, _, rfl, ?_⟩
        dsimp only
        rw [etot]
        by_cases big : 600 < totT zs L lp
        · refine iteT' (decide_eq_true big) ?_
          exact raise_done fun d H2 hd s5 hx => many big d H2 (Same.trans s04 s5) (L2.Same.free s04 hd) hx
        · refine iteF' (decide_eq_false big) ?_
          have small : totT zs L lp ≤ 600 := by omega
          have fine := fine small
          obtain ⟨bp, bv⟩ := pl.bnd small
          have gm := pl.good l1 l3 small
          have ned := pl.need
          have z0 : ∀ i, i < zs.length → valF zs i 0 = 0 := fun _ _ => rfl
          have stepOk : ∀ q, 1 ≤ q → (q ≤ L ∨ 0 < lp) → q ≤ L + 2 * lp → (∀ z ∈ zs, ∀ m, 1 ≤ m → m ≤ q → atY z m ≠ none) ∧ (∀ i, i < zs.length → valF zs i (q - 1) ≤ valF zs i q ∧ valF zs i q ≤ valF zs i (q - 1) + 2000) := fun q q1 q2 q3 =>
            ⟨fun z hz m m1 mq => pl.def_ hz m1 (by omega), fun i hi => ⟨pl.mono hi (by omega) q2, by have := bv i hi q q3; have := pl.nn hi (m := q - 1) (by omega); omega⟩⟩
          have slen : ∀ q, 1 ≤ q → (q ≤ L ∨ 0 < lp) → q ≤ L + 2 * lp → (stp (valF zs) zs.length q).length ≤ 600 := fun q q1 q2 q3 => by
            have h1 := stp_len (F := valF zs) (p := q) (n := zs.length) fun i hi => ((stepOk q q1 q2 q3).2 i hi).1
            have h2 := totF_mono (F := valF zs) (a := q) (b := L + 2 * lp) (n := zs.length) fun i hi => pl.mono hi q3 hk
            have h3 := (le_totF (F := valF zs) (p := q - 1) (n := zs.length) fun i hi => pl.nn hi (by omega)).1
            unfold totT at small
            omega
          have blen : ∀ j, j ≤ L → (begD (valF zs) zs.length j).length ≤ 600 := fun j hj => by
            have h1 := begD_len (F := valF zs) (n := zs.length) (L := j) z0 fun i hi q hq => pl.mono hi (by omega) (.inl (by omega))
            have h2 := totF_mono (F := valF zs) (a := j) (b := L + 2 * lp) (n := zs.length) fun i hi => pl.mono hi (by omega) hk
            unfold totT at small
            omega
          -- the beginning
          refine ⟨(by show 0 ≤ sizeLine; decide), fun B hB => ?_⟩
          have s5 := NF.Same.new (o := .lst []) (Same.refl G4) hB
          have hB5 := upd_same (H := G4) (a := B) (o := .lst [])
          generalize upd G4 B (.lst []) = G5 at s5 hB5
          obtain ⟨Hb, hHb⟩ : ∃ Hb, Hb = wo G5 B := ⟨_, rfl⟩
          have sb : Same G4 Hb := by
            rw [hHb]
            exact same_wo_of s5 hB
          have nb : Hb B = none := by rw [hHb]; exact wo_none
          have sb5 : Same Hb G5 := by rw [hHb]; exact wo_same'
          have s0b := Same.trans s04 sb
          have tb0 := tt.mono s0b
          have hr0 := hr1.mono s0b
          refine ⟨_, rfl, _, _, rfl, rfl, ?_⟩
          refine ⟨1, (L : Int) + 1, rfl, ⟨by decide, by decide, by omega, by omega⟩, ?_⟩
          rw [show ((L : Int) + 1 - 1).toNat = L by omega]
          refine for_range (lo := 1) (n := L) (fun j σ G => Same Hb G ∧ G B = some (.lst ((begD (valF zs) zs.length j).map dV)) ∧ ∃ v4 : Option V, σ = [some (.ref a), some (.int (L : Int)), some (.int (lp : Int)), some (.ref B), v4, none, none]) ⟨sb5, hB5, none, rfl⟩ ?_ ?_
          · rintro j σ G hj ⟨sG, hG, v4, rfl⟩
            obtain ⟨k1, k2⟩ := stepOk (j + 1) (by omega) (.inl (by omega)) (by omega)
            refine ⟨_, rfl, Or.inl ⟨rfl, _, SqL.of hG⟩, _, rfl, _, rfl, a, ys, zs, j + 1, ?_, hr0.mono sG, l3, tb0.mono sG, sm, by omega, k1, k2, fun q G6 s6 _ hq => ?_⟩
            · show [V.ref a, V.int ((1 : Int) + (j : Int))] = [V.ref a, V.int ((j + 1 : Nat) : Int)]
              rw [show (1 : Int) + (j : Int) = ((j + 1 : Nat) : Int) by omega]
            refine ⟨(by show 1 ≤ sizeLine; decide), fun l hl => ?_⟩
            have s7 := NF.Same.new (o := .lst [V.str "give"]) (Same.refl G6) hl
            have hl7 := upd_same (H := G6) (a := l) (o := .lst [V.str "give"])
            have hq7 := s7 _ _ hq
            have hG7 := s7 _ _ (s6 _ _ hG)
            have sG7 := Same.trans sG (Same.trans s6 s7)
            generalize upd G6 l (.lst [V.str "give"]) = G7 at s7 hl7 hq7 hG7 sG7
            have sl := slen (j + 1) (by omega) (.inl (by omega)) (by omega)
            have bl1 := blen j (by omega)
            refine ⟨q, l, _, _, rfl, rfl, hq7, hl7, by rw [dV_len]; exact Nat.le_trans (show _ + 1 ≤ 601 by omega) (by decide), fun c hc => ?_⟩
            have s8 := NF.Same.new (o := .lst ((stp (valF zs) zs.length (j + 1)).map dV ++ [V.str "give"])) (Same.refl G7) hc
            refine ⟨B, c, _, _, rfl, rfl, s8 _ _ hG7, upd_same, ?_, ?_⟩
            · rw [dV_len, List.length_append, dV_len]
              exact Nat.le_trans (show _ + (_ + 1) ≤ 2000 by omega) (by decide)
            · refine ⟨NF.Same.put (Same.trans sG7 s8) nb, ?_, _, rfl⟩
              rw [upd_same, begD_succ, List.map_append, List.map_append]
              rfl
          · rintro σ G ⟨sG, hG, v4, rfl⟩
            refine ⟨_, rfl, rfl, _, rfl, ?_⟩
            have bl1 := blen L (Nat.le_refl _)
            by_cases c0 : lp = 0
            · refine iteT' (by rw [c0]; rfl) ?_
              have eb : begM zs L lp = begD (valF zs) zs.length L := if_pos c0
              have ew : wayM zs L lp = [some 0] := if_pos c0
              rw [eb, ew] at gm ned
              refine ⟨_, rfl, a, _, rfl, hr0.mono sG, ?_⟩
              rw [List.length_map, yl]
              refine ⟨_, rfl, ?_⟩
              refine ⟨(by show 1 ≤ sizeLine; decide), fun u1 hu1 => ?_⟩
              have t1 := NF.Same.new (o := .tup [V.int 0]) (Same.refl G) hu1
              refine ⟨(by show 1 ≤ sizeLine; decide), fun u2 hu2 => ?_⟩
              have t2 := NF.Same.new (o := .tup [V.ref u1]) (Same.refl (upd G u1 (.tup [V.int 0]))) hu2
              have hu1' := t2 _ _ (upd_same (H := G) (a := u1) (o := .tup [V.int 0]))
              have hu2' := upd_same (H := upd G u1 (.tup [V.int 0])) (a := u2) (o := .tup [V.ref u1])
              have hBu := t2 _ _ (t1 _ _ hG)
              have sGu := Same.trans sG (Same.trans t1 t2)
              generalize upd (upd G u1 (.tup [V.int 0])) u2 (.tup [V.ref u1]) = Gu at hu1' hu2' hBu sGu
              intro x dx nx nd ne
              refine ⟨x, dx, B, u2, zs.length, begD (valF zs) zs.length L, [[some 0]], rfl, upd_same, .inl (SqL.of (same_woM nx nd _ _ hBu)), ⟨[u1], .inr (SqT.of (same_woM nx nd _ _ hu2')), rfl, fun j a w e1 e2 => ?_⟩, gm, fun G9 s9 mk9 => ⟨rfl, ?_⟩⟩
              · cases j with
                | zero =>
                  cases e1
                  cases e2
                  exact .inr (SqT.of (same_woM nx nd _ _ hu1'))
                | succ j => cases e1
              · exact fine x _ _ G9 (Same.trans s0b (Same.trans sGu (same_made nx nd s9))) mk9 gm ned
            · refine iteF' (decide_eq_false fun e => c0 (by injection e with e; omega)) ?_
              have eb : begM zs L lp = begD (valF zs) zs.length L ++ stp (valF zs) zs.length (L + 1) := if_neg c0
              have ew : wayM zs L lp = wayD (valF zs) zs.length L lp := if_neg c0
              rw [eb, ew] at gm ned
              have lp0 : 0 < lp := by omega
              obtain ⟨k1, k2⟩ := stepOk (L + 1) (by omega) (.inr lp0) (by omega)
              refine ⟨_, rfl, Or.inl ⟨rfl, _, SqL.of hG⟩, _, rfl, _, rfl, _, _, rfl, rfl, a, ys, zs, L + 1, rfl, hr0.mono sG, l3, tb0.mono sG, sm, by omega, k1, k2, fun q G6 s6 _ hq => ?_⟩
              have sl1 := slen (L + 1) (by omega) (.inr lp0) (by omega)
              refine ⟨B, q, _, _, rfl, rfl, s6 _ _ hG, hq, by rw [dV_len, dV_len]; exact Nat.le_trans (show _ + _ ≤ 1200 by omega) (by decide), ?_⟩
              have sB := NF.Same.put (o := .lst ((begD (valF zs) zs.length L).map dV ++ (stp (valF zs) zs.length (L + 1)).map dV)) (Same.trans sG s6) nb
              have hBB := upd_same (H := G6) (a := B) (o := .lst ((begD (valF zs) zs.length L).map dV ++ (stp (valF zs) zs.length (L + 1)).map dV))
              rw [← List.map_append] at sB hBB
              rw [← List.map_append]
              generalize upd G6 B (.lst ((begD (valF zs) zs.length L ++ stp (valF zs) zs.length (L + 1)).map dV)) = G7 at sB hBB
              -- the way
              refine ⟨(by show 0 ≤ sizeLine; decide), fun W hW => ?_⟩
              have s8 := NF.Same.new (o := .lst []) (Same.refl G7) hW
              have hW8 := upd_same (H := G7) (a := W) (o := .lst [])
              generalize upd G7 W (.lst []) = G8 at s8 hW8
              obtain ⟨Hw, hHw⟩ : ∃ Hw, Hw = wo G8 W := ⟨_, rfl⟩
              have sw : Same G7 Hw := by
                rw [hHw]
                exact same_wo_of s8 hW
              have nw : Hw W = none := by rw [hHw]; exact wo_none
              have sw8 : Same Hw G8 := by rw [hHw]; exact wo_same'
              have hBw := sw _ _ hBB
              have sbw := Same.trans sB sw
              have tbw := tb0.mono sbw
              have hrw := hr0.mono sbw
              have wlen : ∀ j, j ≤ lp → (wayD (valF zs) zs.length L j).length ≤ 600 := fun j hj => by
                have h1 := wayD_len (F := valF zs) (n := zs.length) (L := L) (m := j) fun i hi q _ => pl.mono hi (by omega) (.inr lp0)
                have h2 := totF_mono (F := valF zs) (a := L + 1 + j) (b := L + 2 * lp) (n := zs.length) fun i hi => pl.mono hi (by omega) hk
                have h3 := (le_totF (F := valF zs) (p := L + 1) (n := zs.length) fun i hi => pl.nn hi (.inr lp0)).1
                unfold totT at small
                omega
              refine ⟨_, rfl, _, _, rfl, rfl, _, rfl, _, rfl, _, _, rfl, rfl, _, _, rfl, rfl, ?_⟩
              refine ⟨(L : Int) + 1, (L : Int) + (lp : Int) + 1, rfl, ⟨by omega, by omega, by omega, by omega⟩, ?_⟩
              rw [show ((L : Int) + (lp : Int) + 1 - ((L : Int) + 1)).toNat = lp by omega]
              refine for_range (lo := (L : Int) + 1) (n := lp) (fun j σ G => Same Hw G ∧ G W = some (.lst ((wayD (valF zs) zs.length L j).map dV)) ∧ ∃ v4 : Option V, σ = [some (.ref a), some (.int (L : Int)), some (.int (lp : Int)), some (.ref B), v4, some (.ref W), none]) ⟨sw8, hW8, _, rfl⟩ ?_ ?_
              · rintro j σ G hj ⟨sG, hG, v4, rfl⟩
                obtain ⟨k1, k2⟩ := stepOk (L + j + 2) (by omega) (.inr lp0) (by omega)
                refine ⟨_, rfl, Or.inl ⟨rfl, _, SqL.of hG⟩, (by show 1 ≤ sizeLine; decide), fun l hl => ?_⟩
                have s9 := NF.Same.new (o := .lst [V.str "give"]) (Same.refl G) hl
                have hl9 := upd_same (H := G) (a := l) (o := .lst [V.str "give"])
                have hG9 := s9 _ _ hG
                have sG9 := Same.trans sG s9
                generalize upd G l (.lst [V.str "give"]) = G9 at s9 hl9 hG9 sG9
                refine ⟨_, rfl, _, rfl, _, _, rfl, rfl, a, ys, zs, L + j + 2, ?_, hrw.mono sG9, l3, tbw.mono sG9, sm, by omega, k1, k2, fun q GA sA _ hq => ?_⟩
                · show [V.ref a, V.int ((L : Int) + 1 + (j : Int) + 1)] = [V.ref a, V.int ((L + j + 2 : Nat) : Int)]
                  rw [show (L : Int) + 1 + (j : Int) + 1 = ((L + j + 2 : Nat) : Int) by omega]
                have sl := slen (L + j + 2) (by omega) (.inr lp0) (by omega)
                have wl1 := wlen j (by omega)
                refine ⟨l, q, _, _, rfl, rfl, sA _ _ hl9, hq, by rw [dV_len]; exact Nat.le_trans (show 1 + _ ≤ 601 by omega) (by decide), fun c hc => ?_⟩
                have sC := NF.Same.new (o := .lst ([V.str "give"] ++ (stp (valF zs) zs.length (L + j + 2)).map dV)) (Same.refl GA) hc
                refine ⟨W, c, _, _, rfl, rfl, sC _ _ (sA _ _ hG9), upd_same, ?_, ?_⟩
                · rw [dV_len, List.length_append, dV_len]
                  exact Nat.le_trans (show _ + (1 + _) ≤ 2000 by omega) (by decide)
                · refine ⟨NF.Same.put (Same.trans sG9 (Same.trans sA sC)) nw, ?_, _, rfl⟩
                  rw [upd_same, wayD_succ, List.map_append]
                  rfl
              · rintro σ G ⟨sG, hG, v4, rfl⟩
                refine ⟨_, rfl, a, _, rfl, hrw.mono sG, ?_⟩
                rw [List.length_map, yl]
                refine ⟨_, rfl, _, rfl, (by show 1 ≤ sizeLine; decide), fun u hu => ?_⟩
                have t2 := NF.Same.new (o := .tup [V.ref W]) (Same.refl G) hu
                have hu' := upd_same (H := G) (a := u) (o := .tup [V.ref W])
                have hBu := t2 _ _ (sG _ _ hBw)
                have hWu := t2 _ _ hG
                have sGu := Same.trans sbw (Same.trans sG t2)
                generalize upd G u (.tup [V.ref W]) = Gu at hu' hBu hWu sGu
                intro x dx nx nd ne
                refine ⟨x, dx, B, u, zs.length, begD (valF zs) zs.length L ++ stp (valF zs) zs.length (L + 1), [wayD (valF zs) zs.length L lp], rfl, upd_same, .inl (SqL.of (same_woM nx nd _ _ hBu)), ⟨[W], .inr (SqT.of (same_woM nx nd _ _ hu')), rfl, fun j a w e1 e2 => ?_⟩, gm, fun G9 s9 mk9 => ⟨rfl, ?_⟩⟩
                · cases j with
                  | zero =>
                    cases e1
                    cases e2
                    exact .inl (SqL.of (same_woM nx nd _ _ hWu))
                  | succ j => cases e1
                · exact fine x _ _ G9 (Same.trans s0b (Same.trans sGu (same_made nx nd s9))) mk9 gm ned
end
end K28
set_option Elab.async false
set_option linter.all false
set_option maxRecDepth 100000
set_option maxHeartbeats 4000000
/-! try with several clauses 'except C as n', asked one behind the other. -/
namespace NF
open PySem PySem.Spec PyProof.Rows L2 He RZ
/-- a clause: its class, the slot of its name, its suite -/
abbrev Cls3 := Value × Nat × (Addr → Value → Option Addr → TS)
/-- what the clauses wish of an exception, one behind the other -/
def wAsM (K : PySem.W.Frag) (Wo : WX) (Z : Ends) : List Cls3 → WX
  | [] => Wo
  | (c, i, ts) :: r => wAs K c i ts (wAsM K Wo Z r) Z
inductive ClsOk (Y : Cx) : List ExceptHandler → List Cls3 → Prop
  | nil : ClsOk Y [] []
  | cons {x n : Str} {i : Nat} {c : Value} {ts : Addr → Value → Option Addr → TS} {b : Stmt} {su : List Stmt} {p q : Pos} {hs : List ExceptHandler} {l : List Cls3} (hi : Y.N[i]? = some n) (hl : Y.env.kindOf n = some .local) (hc : Names Y x c)
      (su_ok : ∀ (a : Addr) (oe : Obj) (cls : Value) (d : Option Addr) (pn : List (Addr × Obj)), Zc cls d oe → (∃ vs, oe.data = .fields vs) → PSs (Y.suite a ((a, oe) :: pn)) (b :: su) (ts a cls d)) (r : ClsOk Y hs l) :
      ClsOk Y (.ExceptHandler (some (.Name x p)) (some n) (b :: su) q :: hs) ((c, i, ts) :: l)
section
variable {Y : Cx} {bd : List Stmt} {h0 : ExceptHandler} {hs : List ExceptHandler} {l : List Cls3} {ps : Pos} {tb : WX → TS} {Wo : WX}
theorem ps_try_asM (e1 : Y.stack = Y.env :: Y.outer) (e2 : Y.env.frame = some Y.env.locals) (nd : Y.N.Nodup) (tk : Takes Y Wo)
    (hb : ∀ (W : WX) (pn : List (Addr × Obj)) (xe : Value → Shared → Prop), Takes (Y.tr pn xe) W → PassesOwn (model Y.prog Y.w) Y.A Y.env xe → PSs (Y.tr pn xe) bd (tb W))
    (hh : ClsOk Y (h0 :: hs) l) : PS Y (.Try bd (h0 :: hs) [] [] ps) (fun Z τ G => tb (wAsM Y.K Wo Z l) Z τ G) := by
  refine ⟨fun pins s τ G Z I want => ?_⟩
  have okY := I.ok
  have frY : Y.A.frames = some (Y.env :: Y.outer) := by rw [okY.frames, e1]
  refine wpAny_Try_except ?_
  refine wpAny_mono ((hb (wAsM Y.K Wo Z l) (Y.pn ++ pins) (fun e z₁ => wpAny (model Y.prog Y.w) Y.A (noteFrame e Y.env) (fun _ z₂ => wpAny (model Y.prog Y.w) Y.A (setFlight e none) (fun _ z₃ =>
    wpAny (model Y.prog Y.w) Y.A (handleBy e Y.env (h0 :: hs)) (SP Y pins Z) Y.xe z₃) Y.xe z₂) Y.xe z₁) (fun u s' xx => ?_) PassesOwn.looking).run [] s τ G Z (I.toTry _) want) (fun fl z1 got => ?_) (fun e z1 he => he)
  · -- an exception came out of the body
    obtain ⟨a, B, sI, pi2, τ2, G2, cls, d, rfl, J0, nb, up, sky, nG, os, ag, w⟩ := xx
    have J : Inv Y pins τ2 G2 sI := J0.ofTry okY
    have sky2 : Sky B (Y.env :: Y.outer) a (Zc cls d) Y.env.locals s'.heap := by rw [← e1]; exact sky
    show wpAny (model Y.prog Y.w) Y.A (noteFrame (.ref a) Y.env) _ _ _
    refine Sky.land Zc.steady frY e2 sky2 fun hp3 fl3 up3 => ?_
    have J3 : Inv Y pins τ2 G2 { s' with heap := hp3 } := J.landed nb fl3.1 (up.trans up3) os ag
    obtain ⟨oe3, vs3, at3, zc3, dat3⟩ := fl3.there
    have noFr : ∀ {hp : Heap} {o : Obj} {vs : Array Value}, hp.FunFrames B (Y.env :: Y.outer) → hp.get? a = some o → o.data = .fields vs → a ∉ frs (Y.env :: Y.outer) := fun {hp o vs} ff e dd hm => by
      obtain ⟨_, o2, e', hnf⟩ := ff.mem hm
      rw [e] at e'
      cases e'
      exact hnf _ dd
    have nfr := noFr fl3.2.2.1 at3 dat3
    have nL : a ≠ Y.env.locals := fun z => nfr (List.mem_filterMap.mpr ⟨Y.env, List.mem_cons_self, by rw [e2, z]⟩)
    have nF : a ∉ Y.fs := fun hm => by
      obtain ⟨e, he, q⟩ := List.mem_filterMap.mp hm
      exact nfr (List.mem_filterMap.mpr ⟨e, List.mem_cons_of_mem _ he, q⟩)
    have S3 := J3.suite at3 dat3 nG nL nF
    have go : ∀ {hs2 : List ExceptHandler} {l2 : List Cls3}, ClsOk Y hs2 l2 → wAsM Y.K Wo Z l2 cls d τ2 G2 → wpAny (model Y.prog Y.w) Y.A (handleBy (.ref a) Y.env hs2) (SP Y pins Z) Y.xe { s' with heap := hp3 } := by
      intro hs2 l2 hk
      induction hk with
      | nil =>
        intro w
        refine wpAny_handleBy_nil ?_
        obtain ⟨k1, k2, k3, oe, vs, T, oT, ts2, he, hz, hd, h1, hr⟩ := id fl3
        unfold PySem.passOn
        refine wpAny_bind (wpAny_field he hd h1 ?_)
        rw [if_neg (show ¬ ((Value.ref T == Value.none) = true) by simp)]
        have fin : wpAny (model Y.prog Y.w) Y.A (setFlight (.ref a) Y.env.frame) (fun _ z4 => wpAny (model Y.prog Y.w) Y.A (throw (.ref a) : Sem Flow) (SP Y pins Z) Y.xe z4) Y.xe { s' with heap := hp3 } := by
          rw [e2]
          refine HandSPX.setFlight_upZ fl3 fun hp4 at4 up4 => wpAny_throw (tk _ _ ?_)
          exact ⟨a, B, sI, pins, τ2, G2, cls, d, rfl, J, nb, (up.trans up3).trans up4, .inr (.inr (by rw [e1]; exact at4)), nG, os, ag, w⟩
        first
          | exact wpAny_bind (wpAny_pure (wpAny_bind fin))
          | exact wpAny_bind fin
      | @cons x n i c ts b su p q hs3 l3 hi hl hc su_ok r ih =>
        intro w
        obtain ⟨v, hv, yes, no⟩ := w
        refine wpAny_handleBy_cons (codeAny_handlers_test ?_) (by intro q; cases q)
        have LT : PySem.W.Looks (model Y.prog Y.w) hp3 (typeOf (.ref a)) cls := fun A Q E s k q => wpAny_typeOf_ref (k _ _ at3) (by rw [zc3.1]; exact q)
        have LM := PySem.W.exm_one (M := model Y.prog Y.w) (J3.kIn) LT hv
        have asks : ∀ {Q : Value → Shared → Prop} {E : Value → Shared → Prop}, Q c { s' with heap := hp3 } → wpAny (model Y.prog Y.w) (Y.A.mark (some (.ref a))) (eval (.Name x p) Y.env) Q E { s' with heap := hp3 } := fun {Q E} q => by
          obtain ⟨hg, hdb, hm | ⟨hm, hb, hnn⟩⟩ := hc
          · exact ld_glob (X := Y.suite a ((a, oe3) :: (Y.pn ++ pins))) S3 hg hm q hdb
          · exact ld_blt (X := Y.suite a ((a, oe3) :: (Y.pn ++ pins))) S3 hg hm hb q hnn hdb
        refine asks (LM.here ?_)
        cases v with
        | true =>
          refine codeAny_handlers_suite_as ?_
          refine HandSPX.lands_againZ fl3 fun hp4 fl4 up4 => ?_
          have J4 : Inv Y pins τ2 G2 { s' with heap := hp4 } := J.landed nb fl4.1 ((up.trans up3).trans up4) os ag
          obtain ⟨oe4, vs4, at4, zc4, dat4⟩ := fl4.there
          have S4 := J4.suite at4 dat4 nG nL nF
          refine store_ok (X := Y.suite a ((a, oe4) :: (Y.pn ++ pins))) (v := .ref a) S4 nd hi (.inl hl) rfl (fun z5 S5 => ?_) (.inr hl)
          refine wpAny_mono ((su_ok a oe4 cls d (Y.pn ++ pins) zc4 ⟨_, dat4⟩).run [] z5 _ G2 _ S5 (yes rfl a nG)) (fun fl z6 got => ?_) (fun _ _ z => False.elim z)
          have ends : ∀ {τ6 : L2.St} {G6 : Hp} {Q : Shared → Prop}, Inv (Y.suite a ((a, oe4) :: (Y.pn ++ pins))) [] τ6 G6 z6 → (∀ z7, Inv Y pins (τ6.set i none) G6 z7 → Q z7) →
              wpAny (model Y.prog Y.w) Y.A (do bindName Y.env n .none; unbindBehindTheSuite Y.env n q) (fun _ z7 => Q z7) Y.xe z6 := fun {τ6 G6 Q} S6 hq => gone_ok (S6.unsuite okY) nd hi hl hq
          cases fl with
          | next =>
            obtain ⟨τ6, G6, S6, q6⟩ := got
            exact ends S6 fun z7 J7 => ⟨_, _, J7, q6⟩
          | brk =>
            obtain ⟨τ6, G6, S6, q6⟩ := got
            exact ends S6 fun z7 J7 => ⟨_, _, J7, q6⟩
          | cont =>
            obtain ⟨τ6, G6, S6, q6⟩ := got
            exact ends S6 fun z7 J7 => ⟨_, _, J7, q6⟩
          | ret u =>
            obtain ⟨v6, τ6, G6, S6, r6, q6⟩ := got
            exact ends S6 fun z7 J7 => ⟨_, _, _, J7, r6, q6⟩
        | false =>
          show wpAny _ Y.A (handleBy (.ref a) Y.env hs3) _ _ _
          exact ih (no rfl)
    exact go hh w
  · cases fl with
    | next =>
      obtain ⟨τ2, G2, J2, q⟩ := got
      exact wpAny_execs_nil ⟨τ2, G2, J2.ofTry okY, q⟩
    | brk =>
      obtain ⟨τ2, G2, J2, q⟩ := got
      exact ⟨τ2, G2, J2.ofTry okY, q⟩
    | cont =>
      obtain ⟨τ2, G2, J2, q⟩ := got
      exact ⟨τ2, G2, J2.ofTry okY, q⟩
    | ret u =>
      obtain ⟨v, τ2, G2, J2, r, q⟩ := got
      exact ⟨v, τ2, G2, J2.ofTry okY, r, q⟩
end
end NF
set_option Elab.async false
set_option linter.all false
set_option maxRecDepth 100000
set_option maxHeartbeats 4000000
namespace K28
open PySem PySem.Spec PyProof.Rows L2 He NF RZ NT
theorem NeedsIn.imp {K : PySem.W.Frag} {CT : Addr} {v : V} {H : Hp} {E E' : XK} {g g' : List Addr → List Y → Prop} (h : NeedsIn K CT v H E g) (e : ∀ k, BadN K H E k → BadN K H E' k) (gg : ∀ ys zs, g ys zs → g' ys zs) : NeedsIn K CT v H E' g' := by
  rcases h with ⟨h1, b⟩ | ⟨a, xs, os, k, h1, h2, h3, h4, h5, h6, h7, h8, b⟩ | ⟨a, ys, zs, h1, h2, h3, h4, h5, b, q⟩
  · exact .inl ⟨h1, e _ b⟩
  · exact .inr (.inl ⟨a, xs, os, k, h1, h2, h3, h4, h5, h6, h7, h8, e _ b⟩)
  · exact .inr (.inr ⟨a, ys, zs, h1, h2, h3, h4, h5, fun n => e _ (b n), fun al => gg _ _ (q al)⟩)
/-- the answer where tables are refused by a number -/
def EQn (K : PySem.W.Frag) (Q : VK) : XK := fun cls d G => ∃ dd k, cls = .ref (ga K "BadTables") ∧ d = some dd ∧ G dd = some (.xd [("number", .int k)]) ∧ Q (.int k) G
theorem EQn.of {K : PySem.W.Frag} {Q : VK} {H : Hp} {k : Int} (h : ∀ H', Same H H' → Q (.int k) H') : BadN K H (EQn K Q) k := fun d G s hd hx => ⟨d, k, rfl, rfl, hx, h G s⟩
theorem EQn.to {K : PySem.W.Frag} {Q : VK} {H : Hp} {k : Int} (h : BadN K H (EQn K Q) k) {d : Addr} {G : Hp} (s : Same H G) (hd : H d = none) (hx : G d = some (.xd [("number", .int k)])) : Q (.int k) G := by
  obtain ⟨dd, k', _, e, hx', q⟩ := h d G s hd hx
  obtain rfl : d = dd := Option.some.inj e
  rw [hx] at hx'
  injection hx' with hx'
  injection hx' with hx'
  injection hx' with hx'
  injection hx' with _ hx'
  injection hx' with hx'
  rw [hx']
  exact q
def spSeen (K : PySem.W.Frag) (CT : Addr) : Sp := fun vs H Q _ => ∃ v, vs = [v] ∧ NeedsIn K CT v H (EQn K Q) fun _ zs => (∀ z ∈ zs, Fit z) ∧ ∃ L, IsLead zs L ∧
  (totT zs L (lapT zs) ≤ 600 → ∀ H', Same H H' → Q .non H') ∧ (600 < totT zs L (lapT zs) → ∀ H', Same H H' → Q (.str "many") H')
theorem sc__law_seen : FnScope ["_law_tables_here", "error"] ["_law_tables_here"] (defScope s__law_seen) := ⟨rfl, rfl, rfl, by decide +kernel, rfl, by decide +kernel, by decide +kernel⟩
section
variable {P : Program} {w : World} {K : PySem.W.Frag} {mg : Str → Option Value} {base : Heap} {gs : List Str} {C CT CM : Addr} {tok : Tok}
theorem ok__law_seen {f : Addr} {fd : FuncData} (F : FunD K "_law_seen" "_law_seen" (defArgs s__law_seen) (defBody s__law_seen) (defScope s__law_seen) [] [] f fd) (T : Txt K mg gs FS)
    (m_BadTables : ExcI P w K mg base "BadTables" "number") (xf_BadTables : XfC K (ga K "BadTables")) (no_BadTables : PySem.W.findIn K (.ref (ga K "BadTables")) "number" = some none)
    (m_TooMany : ExcI P w K mg base "TooMany" "word") (xf_TooMany : XfC K (ga K "TooMany")) (no_TooMany : PySem.W.findIn K (.ref (ga K "TooMany")) "word" = some none)
    (ex1 : PySem.W.exmOne K (.ref (ga K "BadTables")) (.ref (ga K "BadTables")) = some true) (ex2 : PySem.W.exmOne K (.ref (ga K "TooMany")) (.ref (ga K "BadTables")) = some false) (ex3 : PySem.W.exmOne K (.ref (ga K "TooMany")) (.ref (ga K "TooMany")) = some true)
    (c_maker_of : CalX P w K mg base 9 "maker_of" (spMakerOf K CM CT)) : FnOk P w K mg base CX0 10 f fd ["_law_tables_here"] (spSeen K CT) := by
  refine F.ok sc__law_seen (fun vs H Q E h => ?_) (fun cdv A outer s H vs Q E hr h => ?_)
  · obtain ⟨v, rfl, _⟩ := h
    rfl
  · obtain ⟨v, rfl, h⟩ := h
    refine ⟨_, PSs.nox (pss_one (ps_try_asM rfl rfl sc__law_seen.nd takes0 (fun W pn xe tk _ => (pss_cons (ps_expr (pe_cX tk c_maker_of hr (by decide) rfl (pa_cons (pv 0) pa_nil))) (pss_one (ps_ret pe_non)))) (ClsOk.cons (i := 1) rfl rfl ⟨rfl, by decide, .inl m_BadTables.gm⟩ (fun a oe cls d pn hz hf => (pss_one (ps_ret (pe_xf xf_BadTables no_BadTables hz hf (pv 1))))) (ClsOk.cons (i := 1) rfl rfl ⟨rfl, by decide, .inl m_TooMany.gm⟩ (fun a oe cls d pn hz hf => (pss_one (ps_ret (pe_ifExp (pt_cmpR op_eq (pe_xf xf_TooMany no_TooMany hz hf (pv 1)) pe_str (nomark _)) pe_str pe_str)))) .nil)))), ?_⟩
    refine ⟨_, rfl, _, rfl, h.imp (fun k b d H' s1 hd hx => ⟨true, ex1, fun _ a ha => ?_, fun z => Bool.noConfusion z⟩) fun ys zs ⟨fit, L, ld, q1, q2⟩ => ⟨fit, L, ld, fun t x b w H' s1 _ _ _ => q1 t H' s1, fun t d H' s1 hd hx => ⟨false, ex2, (fun z => Bool.noConfusion z), fun _ => ⟨true, ex3, fun _ a ha => ?_, fun z => Bool.noConfusion z⟩⟩⟩⟩
    · exact ⟨_, rfl, rfl, rfl, d, _, _, rfl, hx, rfl, EQn.to b s1 hd hx⟩
    · refine ⟨_, rfl, rfl, rfl, d, _, _, rfl, hx, rfl, ?_⟩
      exact ⟨rfl, _, rfl, iteT' (by decide +kernel) (q2 t H' s1)⟩
end
end K28
set_option Elab.async false
set_option linter.all false
set_option maxRecDepth 100000
set_option maxHeartbeats 4000000
namespace K28
open PySem PySem.Spec PyProof.Rows L2 He NF RZ NT
def spPlain (K : PySem.W.Frag) : Sp := fun vs H Q _ => ∃ (a b : Addr) (h l : List Int) (r : Int), vs = [.ref a, .ref b, .int r] ∧ SqT K H a (vI h) ∧ SqT K H b (vI l) ∧ h.length ≤ 10000 ∧ l.length ≤ 10000 ∧ ∀ p x H', IsPlain h l r x → Same H H' → FormAt K H' p x → Q (.ref p) H'
section
variable {P : Program} {w : World} {K : PySem.W.Frag} {mg : Str → Option Value} {base : Heap} {gs : List Str}
theorem ok__law_plain {f : Addr} {fd : FuncData} (F : FunD K "_law_plain" "_law_plain" (defArgs s__law_plain) (defBody s__law_plain) (defScope s__law_plain) [] [] f fd) (T : Txt K mg gs FS) : FnOk P w K mg base CX0 1 f fd ["_law_head", "_law_loop", "_law_rise"] (spPlain K) := by
  refine F.ok sc__law_plain (fun vs H Q E h => ?_) (fun cdv A outer s H vs Q E hr h => ?_)
  · obtain ⟨a, b, h, l, r, rfl, _⟩ := h
    rfl
  · obtain ⟨a, b, h, l, r, rfl, ha, hb, hh, hll, q⟩ := h
    refine ⟨_, PSs.nox (pss_cons (ps_if (pt_cmpR op_eq (pe_callB call_len_seq rfl (T.fr _ (by decide +kernel)) boot_len (pa_cons (pv 1) pa_nil)) pe_int (nomark _)) (pss_one (ps_ret (pe_tup (pa_cons (pe_callTy cr_tup rfl (T.fr _ (by decide +kernel)) (by decide +kernel) (pa_cons (pv 0) pa_nil)) (pa_cons (pe_tup pa_nil) (pa_cons pe_int pa_nil)))))) pss_nil) (pss_cons (ps_set (i := 3) sc__law_plain.nd rfl (Or.inl rfl) (pe_callB call_len_seq rfl (T.fr _ (by decide +kernel)) boot_len (pa_cons (pv 1) pa_nil))) (pss_cons (ps_for PassesOwn.never rfl (pi_range3 rfl (T.fr _ (by decide +kernel)) (pa_cons (pe_callB call_len_seq rfl (T.fr _ (by decide +kernel)) boot_len (pa_cons (pv 1) pa_nil)) (pa_cons pe_int (pa_cons (pe_un un_neg pe_int) pa_nil)))) (pg_name (i := 4) sc__law_plain.nd rfl (Or.inr rfl)) (pss_cons (ps_set (i := 6) sc__law_plain.nd rfl (Or.inl rfl) (pe_op op_fdiv (pe_callB call_len_seq rfl (T.fr _ (by decide +kernel)) boot_len (pa_cons (pv 1) pa_nil)) (pv 4))) (pss_cons (ps_if (PW.pt (pw_or (pt_cmpR op_ne (pe_op op_mul (pv 6) (pv 4)) (pe_callB call_len_seq rfl (T.fr _ (by decide +kernel)) boot_len (pa_cons (pv 1) pa_nil)) (nomark _)) (pw_or1 (pt_cmpR op_ne (pe_op op_mod (pe_callTy call_int1 rfl (T.fr _ (by decide +kernel)) (by decide +kernel) (pa_cons (pv 2) pa_nil)) (pv 6)) pe_int (nomark _))))) (pss_one ps_continue) pss_nil) (pss_cons (ps_set (i := 7) sc__law_plain.nd rfl (Or.inr rfl) (pe_op op_fdiv (pv 2) (pv 6))) (pss_one (ps_if (pt_val (pe_callB (cr_all rfl) rfl (T.fr _ (by decide +kernel)) (by decide +kernel) (pa_cons (pe_lc (own := [("_law_k", 8)]) rfl sc__law_plain.nd (pi_range1 rfl (T.fr _ (by decide +kernel)) (pa_cons (pe_op op_sub (pe_callB call_len_seq rfl (T.fr _ (by decide +kernel)) boot_len (pa_cons (pv 1) pa_nil)) (pv 4)) pa_nil)) (blkOk_by (N := ["_law_head", "_law_loop", "_law_rise", "_law_size", "_law_many", "_law_row", "_law_turns", "_law_step", "_law_k"]) (sc := defScope s__law_plain) (by decide +kernel)) (fun _ _ _ _ _ => by exact (pg_name (i := 8) sc__law_plain.nd rfl (Or.inl rfl))) (fun _ _ _ _ _ => by exact pts_nil) (fun _ _ _ _ _ => by exact (pe_cmpR op_eq (pe_ix (ixt (K := K)) (pv 1) (pe_op op_add (pv 8) (pv 4)) fun _ _ => rfl) (pe_op op_add (pe_ix (ixt (K := K)) (pv 1) (pv 8) fun _ _ => rfl) (pv 7)) (nomark _)))) pa_nil))) (pss_one (ps_set (i := 3) sc__law_plain.nd rfl (Or.inl rfl) (pv 4))) pss_nil)))))) (pss_cons (ps_set (i := 2) sc__law_plain.nd rfl (Or.inl rfl) (pe_op op_fdiv (pv 2) (pe_op op_fdiv (pe_callB call_len_seq rfl (T.fr _ (by decide +kernel)) boot_len (pa_cons (pv 1) pa_nil)) (pv 3)))) (pss_cons (ps_set (i := 5) sc__law_plain.nd rfl (Or.inl rfl) (pe_op op_cat (pe_callTy call_list_of rfl (T.fr _ (by decide +kernel)) (by decide +kernel) (pa_cons (pv 0) pa_nil)) (pe_callTy call_list_of rfl (T.fr _ (by decide +kernel)) (by decide +kernel) (pa_cons (pe_slice sl_tupA (pv 1) po_none (po_some (pv 3))) pa_nil)))) (pss_cons (ps_while PassesOwn.never (PW.pt (pw_and (pt_cmpR op_gt (pe_callB call_len_seq rfl (T.fr _ (by decide +kernel)) boot_len (pa_cons (pv 5) pa_nil)) (pv 3) (nomark _)) (pw_and1 (pt_cmpR op_eq (pe_ix (ixl (K := K)) (pv 5) (pe_op op_sub (pe_un un_neg pe_int) (pv 3)) fun _ _ => rfl) (pe_op op_sub (pe_ix (ixl (K := K)) (pv 5) (pe_un un_neg pe_int) fun _ _ => rfl) (pv 2)) (nomark _))))) (pss_one (ps_set (i := 5) sc__law_plain.nd rfl (Or.inl rfl) (pe_slice sl_list (pv 5) po_none (po_some (pe_un un_neg pe_int)))))) (pss_one (ps_ret (pe_tup (pa_cons (pe_callTy cr_tup rfl (T.fr _ (by decide +kernel)) (by decide +kernel) (pa_cons (pe_slice sl_list (pv 5) po_none (po_some (pe_op op_sub (pe_callB call_len_seq rfl (T.fr _ (by decide +kernel)) boot_len (pa_cons (pv 5) pa_nil)) (pv 3)))) pa_nil)) (pa_cons (pe_callTy cr_tup rfl (T.fr _ (by decide +kernel)) (by decide +kernel) (pa_cons (pe_slice sl_list (pv 5) (po_some (pe_op op_sub (pe_callB call_len_seq rfl (T.fr _ (by decide +kernel)) boot_len (pa_cons (pv 5) pa_nil)) (pv 3))) po_none) pa_nil)) (pa_cons (pv 2) pa_nil)))))))))))), ?_⟩
    refine ⟨_, rfl, b, _, rfl, Or.inr hb, rfl, _, rfl, ?_⟩
    by_cases hl : l = []
    · refine (iteT' (decide_eq_true (by rw [hl]; rfl)) ?_)
      subst hl
      refine ⟨_, rfl, a, _, rfl, Or.inr ha, fun p1 G1 s1 t1 => ?_⟩
      refine ⟨(by show 0 ≤ sizeLine; decide), fun p2 hp2 => ?_⟩
      refine ⟨(by show 3 ≤ sizeLine; decide), fun p3 hp3 => ?_⟩
      have s6 := NF.Same.new (o := .tup []) (Same.refl G1) hp2
      have s7 := NF.Same.new (o := .tup [V.ref p1, V.ref p2, V.int 0]) s6 hp3
      exact q p3 (h, [], 0) _ (.inl ⟨rfl, rfl⟩) (Same.trans s1 s7) ⟨p1, p2, SqT.of upd_same, NF.Same.tup s7 t1, SqT.of (by rw [upd_ne (ne_of_none upd_same hp3)]; exact upd_same)⟩
    refine (iteF' (decide_eq_false (fun z => hl ?_)) ?_)
    · injection z with z
      rw [vI_len] at z
      exact List.eq_nil_of_length_eq_zero (by omega)
    have hp := len_pos hl
    refine ⟨_, rfl, b, _, rfl, Or.inr hb, ?_⟩
    refine ⟨_, rfl, b, _, rfl, Or.inr hb, _, rfl, _, _, _, l.length, rfl, ?_, ?_⟩
    · have := RgC.neg (i := ((vI l).length : Int)) (j := 0) (by rw [vI_len]; omega) (by rw [vI_len]; omega) (by omega) (by omega)
      rw [vI_len, Int.sub_zero, Int.toNat_natCast] at this
      rw [vI_len]
      exact this
    -- the shortest lap
    refine for_rangeC (n := l.length) (fun i σ G => Same H G ∧ ∃ s : Nat, (0 < s ∧ s ∣ l.length ∧ Per (walk l r) s ∧ ∀ m', l.length - i < m' → m' ∣ l.length → Per (walk l r) m' → s ≤ m') ∧ ∃ v1 v2 v3 : Option V, σ = [some (.ref a), some (.ref b), some (.int r), some (.int (s : Int)), v1, none, v2, v3, none])
      ⟨Same.refl _, l.length, ⟨hp, Nat.dvd_refl _, per_self hl, fun m' h1 _ _ => by omega⟩, none, none, none, ?_⟩ ?_ ?_
    · rw [vI_len]
      rfl
    · rintro i σ G hi ⟨s1, sz, ⟨z0, z1, z2, z3⟩, v1, v2, v3, rfl⟩
      have hb1 := NF.Same.tup s1 hb
      obtain ⟨m, hm⟩ : ∃ m : Nat, m = l.length - i := ⟨_, rfl⟩
      have m0 : 0 < m := by omega
      have mle : m ≤ l.length := by omega
      have e1 : ((vI l).length : Int) + (i : Int) * (-1) = (m : Int) := by rw [vI_len]; omega
      rw [e1]
      obtain ⟨t, htt⟩ : ∃ t : Nat, t = l.length / m := ⟨_, rfl⟩
      have t0 : 0 < t := by rw [htt]; exact Nat.div_pos mle m0
      have tle : t ≤ l.length := by rw [htt]; exact Nat.div_le_self _ _
      have e2 : ((vI l).length : Int) / (m : Int) = (t : Int) := by rw [vI_len, htt]; rfl
      refine ⟨_, rfl, b, _, rfl, Or.inr hb1, _, rfl, _, _, rfl, rfl, ⟨by omega, by omega⟩, ?_⟩
      show gName 6 (V.int (((vI l).length : Int) / (m : Int))) _ _ _
      rw [e2]
      have hnext : ∀ {v3' : Option V}, ¬ (m ∣ l.length ∧ Per (walk l r) m) → (fun σ G => Same H G ∧ ∃ s : Nat, (0 < s ∧ s ∣ l.length ∧ Per (walk l r) s ∧ ∀ m', l.length - (i + 1) < m' → m' ∣ l.length → Per (walk l r) m' → s ≤ m') ∧ ∃ v1 v2 v3 : Option V, σ = [some (.ref a), some (.ref b), some (.int r), some (.int (s : Int)), v1, none, v2, v3, none])
          [some (.ref a), some (.ref b), some (.int r), some (.int (sz : Int)), some (.int (m : Int)), none, some (.int (t : Int)), v3', none] G := fun hn => by
        refine ⟨s1, sz, ⟨z0, z1, z2, fun m' h1 h2 h3 => ?_⟩, _, _, _, rfl⟩
        by_cases c : m' = m
        · subst c
          exact absurd ⟨h2, h3⟩ hn
        · exact z3 m' (by omega) h2 h3
      refine ⟨_, rfl, _, rfl, _, _, rfl, rfl, Or.inr ⟨by omega, by omega⟩, _, rfl, b, _, rfl, Or.inr hb1, rfl, _, rfl, ?_⟩
      by_cases hd : ¬ m ∣ l.length
      · refine iteT' ?_ (iteT (hnext fun z => hd z.1))
        rw [decide_eq_false (fun z => hd ?_)]
        · rfl
        injection z with z
        rw [vI_len] at z
        have z' : t * m = l.length := Int.ofNat.inj (by rw [← Int.natCast_mul] at z; exact z)
        exact ⟨t, by rw [Nat.mul_comm]; exact z'.symm⟩
      have hd := Classical.not_not.mp hd
      have hmt : m * t = l.length := by rw [htt]; exact Nat.mul_div_cancel' hd
      refine iteF' ?_ ?_
      · rw [decide_eq_true]
        · rfl
        rw [vI_len, ← hmt, Int.natCast_mul, Int.mul_comm]
      have hiff := law_iff (r := r) hl m0 hmt
      refine ⟨_, rfl, Or.inl ⟨_, rfl, _, rfl, _, _, rfl, rfl, (by show (0 : Int) < (t : Int); omega), rfl, _, rfl, ?_⟩⟩
      by_cases hrt : ¬ r % (t : Int) = 0
      · refine iteT' ?_ (hnext fun z => hrt (hiff.mpr z.2).1)
        rw [decide_eq_false (fun z => hrt (by injection z))]
        rfl
      have hrt := Classical.not_not.mp hrt
      refine iteF' ?_ ?_
      · rw [decide_eq_true (congrArg V.int hrt)]
        rfl
      refine ⟨_, rfl, _, rfl, _, _, rfl, rfl, ⟨by omega, by omega⟩, ?_⟩
      -- all
      refine ⟨_, rfl, b, _, rfl, Or.inr hb1, _, rfl, _, _, rfl, rfl, _, rfl, ?_⟩
      rw [vI_len]
      refine ⟨by omega, by omega, fun D hD => ?_⟩
      have en : ((l.length : Int) - (m : Int)).toNat = l.length - m := by omega
      rw [en]
      refine lc_range (lo := 0) (n := l.length - m) (fun j G' => Same G G' ∧ G' D = some (.lst (((List.range j).map fun k => decide (V.int (l.getD (k + m) 0) = V.int (l.getD k 0 + r / (t : Int)))).map V.bl))) ⟨NF.Same.new (Same.refl G) hD, upd_same⟩ ?_ ?_
      · rintro j G' hj ⟨hG, hD2⟩
        have e1 : (0 : Int) + (j : Int) = (j : Int) := Int.zero_add _
        rw [e1]
        have hb2 := NF.Same.tup hG hb1
        refine ⟨rfl, _, rfl, _, rfl, _, rfl, _, _, rfl, rfl, b, _, _, _, rfl, rfl, hb2, at_int (k := j + m) (by omega) (by omega), ?_⟩
        refine ⟨_, rfl, _, rfl, b, _, _, _, rfl, rfl, hb2, at_int (k := j) rfl (by omega), _, rfl, _, _, rfl, rfl, rfl, ?_⟩
        refine ⟨_, hD2, by rw [List.length_map, List.length_map, List.length_range]; exact Nat.lt_of_lt_of_le (show j < 10000 by omega) (by decide), NF.Same.mut hG hD, ?_⟩
        rw [upd_same, List.range_succ, List.map_append, List.map_append]
        rfl
      · rintro G' ⟨hG, hD2⟩
        refine ⟨D, _, rfl, SqL.of hD2, _, rfl, ?_⟩
        have s2 := Same.trans s1 hG
        have hcond : ((List.range (l.length - m)).map fun k => decide (V.int (l.getD (k + m) 0) = V.int (l.getD k 0 + r / (t : Int)))).all id = true ↔ ∀ k, k + m < l.length → l.getD (k + m) 0 = l.getD k 0 + r / (t : Int) := by
          rw [all_range]
          constructor
          · intro hk k hk2
            have := of_decide_eq_true (hk k (by omega))
            injection this
          · intro hk k hk2
            exact decide_eq_true (congrArg V.int (hk k (by omega)))
        refine ite2 (fun hc => ?_) (fun hc => ?_)
        · have hper := hiff.mp ⟨hrt, hcond.mp hc⟩
          refine ⟨_, rfl, s2, m, ⟨m0, hd, hper, fun m' h1 _ _ => by omega⟩, _, _, _, rfl⟩
        · refine ⟨s2, sz, ⟨z0, z1, z2, fun m' h1 h2 h3 => ?_⟩, _, _, _, rfl⟩
          by_cases c : m' = m
          · subst c
            exact absurd (hcond.mpr (hiff.mpr h3).2) hc
          · exact z3 m' (by omega) h2 h3
    · rintro σ G ⟨s1, m, ⟨z0, z1, z2, z3⟩, v1, v2, v3, rfl⟩
      have hm : LapIs l r m := ⟨z0, z1, z2, fun m' h1 h2 h3 => z3 m' (by omega) h2 h3⟩
      have hle : m ≤ l.length := Nat.le_of_dvd hp z1
      obtain ⟨t, ht⟩ := z1
      have t0 : 0 < t := Nat.pos_of_ne_zero fun z => by rw [z, Nat.mul_zero] at ht; omega
      have hc := per_at hl z0 z2 ht.symm
      have ha1 := NF.Same.tup s1 ha
      have hb1 := NF.Same.tup s1 hb
      have e2 : ((vI l).length : Int) / (m : Int) = (t : Int) := by
        rw [vI_len, ht, Int.natCast_mul, Int.mul_ediv_cancel_left _ (by omega)]
      have tle : t ≤ l.length := by rw [ht]; exact Nat.le_mul_of_pos_left _ z0
      refine ⟨_, rfl, _, rfl, b, _, rfl, Or.inr hb1, _, rfl, _, _, rfl, rfl, ⟨by omega, by omega⟩, ?_⟩
      show rI CDiv _ (V.int r) (V.int (((vI l).length : Int) / (m : Int))) _ _
      rw [e2]
      refine ⟨_, _, rfl, rfl, ⟨by omega, by omega⟩, ?_⟩
      show gName 2 (V.int (r / (t : Int))) _ _ _
      generalize hcc : r / (t : Int) = cc at hc
      refine ⟨_, rfl, a, _, rfl, Or.inr ha1, fun q1 hq1 => ?_⟩
      have s2 := NF.Same.new (o := .lst (vI h)) s1 hq1
      refine ⟨_, rfl, _, rfl, _, rfl, ?_⟩
      refine slA_done (K := K) (NF.Same.tup (NF.Same.new (o := .lst (vI h)) (Same.refl G) hq1) hb1) fun p2 G2 s3 t2 => ?_
      rw [cut_to, vI_take] at t2
      refine ⟨p2, _, rfl, Or.inr t2, fun q2 hq2 => ?_⟩
      have hq1' : upd G2 q2 (.lst (vI (l.take m))) q1 = some (.lst (vI h)) := by
        have := s3 _ _ (upd_same (H := G) (a := q1) (o := .lst (vI h)))
        rw [upd_ne (ne_of_none this hq2)]
        exact this
      have hel : (h ++ l.take m).length = h.length + m := by rw [List.length_append, List.length_take, Nat.min_eq_left hle]
      refine ⟨q1, q2, _, _, rfl, rfl, hq1', upd_same, ?_, fun q3 hq3 => ?_⟩
      · rw [vI_len, vI_len, List.length_take]
        exact Nat.le_trans (show h.length + min m l.length ≤ 20000 by omega) (by decide)
      rw [vI_app]
      have s4 : Same H (upd (upd G2 q2 (.lst (vI (l.take m)))) q3 (.lst (vI (h ++ l.take m)))) := NF.Same.new (NF.Same.new (Same.trans s2 s3) hq2) hq3
      refine ⟨fun k σ G' => Same H G' ∧ k ≤ h.length ∧ cut (h ++ l.take m) m cc h.length = cut (h ++ l.take m) m cc k ∧ ∃ pr, G' pr = some (.lst (vI ((h ++ l.take m).take (k + m)))) ∧ σ = [some (.ref a), some (.ref b), some (.int cc), some (.int (m : Int)), v1, some (.ref pr), v2, v3, none],
        ⟨h.length, s4, Nat.le_refl _, rfl, q3, by rw [upd_same, show (h ++ l.take m).take (h.length + m) = h ++ l.take m from List.take_of_length_le (by omega)], rfl⟩, ?_⟩
      rintro k σ G' ⟨s5, hk, hcut, pr, hpr, rfl⟩
      have hlen : ((h ++ l.take m).take (k + m)).length = k + m := by rw [List.length_take, hel]; omega
      -- what is handed back
      have hdone : cut (h ++ l.take m) m cc k = k → (tRet (tTup (tCons (tCB (rTupOf K) (tCons (tSl (rSlL K) (tVar 5) tNoPart (tPart (tOp (rI0 fun i j => .int (i - j)) (tCB (fun xs H Q => ∃ a ys, xs = [.ref a] ∧ (SqL K H a ys ∨ SqT K H a ys) ∧ Q (.int (ys.length : Int)) H) (tCons (tVar 5) tNil)) (tVar 3)))) tNil))
          (tCons (tCB (rTupOf K) (tCons (tSl (rSlL K) (tVar 5) (tPart (tOp (rI0 fun i j => .int (i - j)) (tCB (fun xs H Q => ∃ a ys, xs = [.ref a] ∧ (SqL K H a ys ∨ SqT K H a ys) ∧ Q (.int (ys.length : Int)) H) (tCons (tVar 5) tNil)) (tVar 3))) tNoPart) tNil)) (tCons (tVar 2) tNil))))) { nx := fun _ H' => Q .non H', rt := Q }
          [some (.ref a), some (.ref b), some (.int cc), some (.int (m : Int)), v1, some (.ref pr), v2, v3, none] G' := fun hk2 => by
        have e5 : ((vI ((h ++ l.take m).take (k + m))).length : Int) - (m : Int) = (k : Int) := by rw [vI_len, hlen]; omega
        refine ⟨_, rfl, _, rfl, pr, _, rfl, Or.inl (SqL.of hpr), _, rfl, _, _, rfl, rfl, _, rfl, ?_⟩
        rw [e5]
        refine ⟨pr, _, rfl, SqL.of hpr, fun q1 hq1 => ?_⟩
        rw [cut_to, vI_take, List.take_take, Nat.min_eq_left (by omega)]
        refine ⟨q1, _, rfl, Or.inl (SqL.of upd_same), fun p1 G1 s6 t1 => ?_⟩
        have s06 : Same G' G1 := Same.trans (NF.Same.new (Same.refl G') hq1) s6
        have hpr1 := s06 _ _ hpr
        refine ⟨_, rfl, _, rfl, pr, _, rfl, Or.inl (SqL.of hpr1), _, rfl, _, _, rfl, rfl, _, rfl, ?_⟩
        rw [e5]
        refine ⟨pr, _, rfl, SqL.of hpr1, fun q2 hq2 => ?_⟩
        rw [cut_from, vI_drop]
        refine ⟨q2, _, rfl, Or.inl (SqL.of upd_same), fun p2 G2 s7 t2 => ?_⟩
        have s17 : Same G1 G2 := Same.trans (NF.Same.new (Same.refl G1) hq2) s7
        refine ⟨_, rfl, (by show 3 ≤ sizeLine; decide), fun p6 hp6 => ?_⟩
        have s8 := NF.Same.new (o := .tup [V.ref p1, V.ref p2, V.int cc]) (Same.refl G2) hp6
        have hx := plain_is (h := h) hl hm hc
        rw [hcut, hk2] at hx
        have ew : ((h ++ l.take m).take (k + m)).drop k = win (h ++ l.take m) k m := by
          unfold win
          rw [List.drop_take, Nat.add_sub_cancel_left]
        rw [ew] at t2
        exact q p6 _ _ hx (Same.trans s5 (Same.trans s06 (Same.trans s17 s8))) ⟨p1, p2, SqT.of upd_same, NF.Same.tup (Same.trans s17 s8) t1, NF.Same.tup s8 t2⟩
      refine ⟨_, rfl, pr, _, rfl, Or.inl (SqL.of hpr), _, rfl, _, _, rfl, rfl, _, rfl, ?_⟩
      refine ite2 (fun h1 => ?_) (fun h1 => ?_)
      · have k0 : 0 < k := by
          have := of_decide_eq_true h1
          rw [vI_len, hlen] at this
          omega
        obtain ⟨j, rfl⟩ : ∃ j, k = j + 1 := ⟨k - 1, by omega⟩
        have g1 : ((h ++ l.take m).take (j + 1 + m)).getD j 0 = (h ++ l.take m).getD j 0 := getD_take (by omega)
        have g2 : ((h ++ l.take m).take (j + 1 + m)).getD (j + m) 0 = (h ++ l.take m).getD (j + m) 0 := getD_take (by omega)
        refine ⟨_, rfl, _, rfl, _, rfl, _, _, rfl, rfl, pr, _, _, _, rfl, rfl, SqL.of hpr, at_neg (n := j) (by rw [hlen]; omega) (by omega) (by rw [hlen]; omega), ?_⟩
        refine ⟨_, rfl, _, rfl, pr, _, _, _, rfl, rfl, SqL.of hpr, at_neg (n := j + m) (by rw [hlen]; omega) (by omega) (by rw [hlen]; omega), _, rfl, _, _, rfl, rfl, rfl, _, rfl, ?_⟩
        rw [g1, g2]
        refine ite2 (fun h2 => ?_) (fun h2 => ?_)
        · have h2' : (h ++ l.take m).getD j 0 + cc = (h ++ l.take m).getD (j + m) 0 := by
            have := of_decide_eq_true h2
            injection this
            omega
          refine ⟨fun σ' G2 => Same H G2 ∧ ∃ pr', G2 pr' = some (.lst (vI ((h ++ l.take m).take (j + m)))) ∧ σ' = [some (.ref a), some (.ref b), some (.int cc), some (.int (m : Int)), v1, some (.ref pr'), v2, v3, none], fun σ' G2 ⟨z1, pr', z2, z3⟩ => ⟨j, Nat.lt_succ_self j, z1, by omega, ?_, pr', z2, z3⟩, ?_⟩
          · rw [hcut]
            show (if (h ++ l.take m).getD j 0 + cc = (h ++ l.take m).getD (j + m) 0 then _ else _) = _
            rw [if_pos h2']
          · refine ⟨_, rfl, _, rfl, _, rfl, pr, _, rfl, SqL.of hpr, fun q4 hq4 => ?_⟩
            refine ⟨NF.Same.new s5 hq4, q4, ?_, rfl⟩
            rw [upd_same]
            show some (HO.lst (cutV _ none (some (-((1 : Nat) : Int))))) = _
            rw [cut_toN (by decide), vI_len, hlen, vI_take, List.take_take, Nat.min_eq_left (by omega)]
            congr 4
            omega
        · refine hdone ?_
          show (if (h ++ l.take m).getD j 0 + cc = (h ++ l.take m).getD (j + m) 0 then _ else _) = _
          rw [if_neg fun z => h2 (decide_eq_true (congrArg V.int (by omega)))]
      · have k0 : k = 0 := by
          have : ¬ (m : Int) < ((vI ((h ++ l.take m).take (k + m))).length : Int) := fun z => h1 (decide_eq_true z)
          rw [vI_len, hlen] at this
          omega
        subst k0
        exact hdone rfl
end
end K28
set_option Elab.async false
set_option linter.all false
set_option maxRecDepth 100000
set_option maxHeartbeats 4000000
namespace NT
theorem rep_two {w : List Deed} : ∀ k : Nat, rep (w ++ w) k = rep w (2 * k)
  | 0 => rfl
  | k + 1 => by
    show (w ++ w) ++ rep (w ++ w) k = _
    rw [rep_two k, show 2 * (k + 1) = (2 * k + 1) + 1 by omega]
    show _ = w ++ (w ++ rep w (2 * k))
    rw [List.append_assoc]
theorem need_two {i : Nat} {b w : List Deed} {m : Nat} (hm : 1 ≤ m) : at_ (needT i b (w ++ w)).1 (needT i b (w ++ w)).2.1 (needT i b (w ++ w)).2.2 m = at_ (needT i b w).1 (needT i b w).2.1 (needT i b w).2.2 m := by
  rw [needT_at hm (Nat.le_refl m), needT_at hm (show m ≤ 2 * m by omega), rep_two]
theorem fold_dvd {α : Type} {f : α → Nat} {N : Nat} : ∀ {r : List α} {a : Nat}, a ∣ N → (∀ z ∈ r, f z ∣ N) → r.foldl (fun l z => Nat.lcm l (f z)) a ∣ N
  | [], _, h, _ => h
  | z :: r, _, h, k => fold_dvd (r := r) (Nat.lcm_dvd h (k z (List.mem_cons_self ..))) fun y hy => k y (List.mem_cons_of_mem _ hy)
theorem tot_le {F : Nat → Nat → Int} {p : Nat} {B : Int} : ∀ {n : Nat}, (∀ i, i < n → F i p ≤ B) → totF F n p ≤ (n : Int) * B
  | 0, _ => by
    show (0 : Int) ≤ _
    simp
  | n + 1, h => by
    have h1 := tot_le (n := n) fun i hi => h i (by omega)
    have h2 := h n (by omega)
    rw [totF_succ, Int.natCast_succ, Int.add_mul, Int.one_mul]
    omega
end NT
namespace K28
open PySem PySem.Spec PyProof.Rows L2 He NF RZ NT
theorem lead_ex : ∀ {zs : List Y}, zs ≠ [] → ∃ L, IsLead zs L
  | [], h => absurd rfl h
  | [z], _ => ⟨z.1.length, ⟨z, by simp, rfl⟩, fun w hw => by rw [List.mem_singleton.mp hw]; exact Nat.le_refl _⟩
  | z :: y :: r, _ => by
    obtain ⟨L, ⟨w, hw, e⟩, a⟩ := lead_ex (zs := y :: r) (by simp)
    by_cases c : z.1.length ≤ L
    · refine ⟨L, ⟨w, List.mem_cons_of_mem _ hw, e⟩, fun u hu => ?_⟩
      rcases List.mem_cons.mp hu with rfl | hu
      · exact c
      · exact a u hu
    · refine ⟨z.1.length, ⟨z, by simp, rfl⟩, fun u hu => ?_⟩
      rcases List.mem_cons.mp hu with rfl | hu
      · exact Nat.le_refl _
      · have := a u hu
        omega
theorem alike_all {zs : List Y} (h : ∀ z ∈ zs, z.2.1 ≠ []) : Alike zs := fun z hz => by
  have e : ∀ y ∈ zs, y.2.1.isEmpty = false := fun y hy => by
    cases c : y.2.1.isEmpty with
    | false => rfl
    | true => exact absurd (List.isEmpty_iff.mp c) (h y hy)
  cases zs with
  | nil => cases hz
  | cons z0 r =>
    show (decide (z.2.1.isEmpty = z0.2.1.isEmpty) && (!z.2.1.isEmpty || decide _)) = true
    rw [e z hz, e z0 (List.mem_cons_self ..)]
    simp
theorem alike_end {zs : List Y} {L : Nat} (h : ∀ z ∈ zs, z.2.1 = [] ∧ z.1.length = L) : Alike zs := fun z hz => by
  cases zs with
  | nil => cases hz
  | cons z0 r =>
    show (decide (z.2.1.isEmpty = z0.2.1.isEmpty) && (!z.2.1.isEmpty || decide (z.1.length = z0.1.length))) = true
    have a := h z hz
    have b := h z0 (List.mem_cons_self ..)
    rw [a.1, b.1, a.2, b.2]
    simp
/-- the plain forms of drawn tables: a maker can be made of them -/
theorem draw_fit {xs zs : List Y} (d : DrawT xs) (hl : zs.length = xs.length) (hp : ∀ (i : Nat) (x z : Y), xs[i]? = some x → zs[i]? = some z → IsPlain x.1 x.2.1 x.2.2 z) :
    (∀ z ∈ zs, Fit z ∧ Small z) ∧ Alike zs ∧ ∃ L, IsLead zs L ∧ totT zs L (lapT zs) ≤ 600 := by
  have d1 := d.n1
  have d3 := d.n3
  have get : ∀ z ∈ zs, ∃ x, x ∈ xs ∧ IsPlain x.1 x.2.1 x.2.2 z := fun z hz => by
    obtain ⟨i, hi, rfl⟩ := List.mem_iff_getElem.mp hz
    exact ⟨xs[i]'(by omega), List.getElem_mem _, hp i _ _ (List.getElem?_eq_getElem (by omega)) (List.getElem?_eq_getElem hi)⟩
  have nz : zs ≠ [] := fun e => by rw [e] at hl; simp at hl; omega
  have lap0 : lapT zs = (zs.drop 1).foldl (fun l z => Nat.lcm l z.2.1.length) (zs.headD ([], [], 0)).2.1.length := rfl
  have hd : zs.headD ([], [], 0) ∈ zs := by
    cases zs with
    | nil => exact absurd rfl nz
    | cons z r => exact List.mem_cons_self ..
  have tl : ∀ z ∈ zs.drop 1, z ∈ zs := fun z hz => List.mem_of_mem_drop hz
  rcases d.k with k | ⟨L, hL, k⟩
  · have f : ∀ z ∈ zs, Fit z ∧ z.2.1 ≠ [] ∧ z.1.length ≤ 4 ∧ z.2.1.length ≤ 4 := fun z hz => by
      obtain ⟨x, hx, p⟩ := get z hz
      have r1 := k x hx
      have q := plain_size p
      have q5 := q.2.2.2.2.1 r1.o.g.r0
      have o1 := r1.o.h
      have o2 := r1.o.l
      have o3 := r1.o.r
      exact ⟨⟨(plain_fin r1.o.g p).1, by omega, by omega, by omega⟩, q.2.2.1 r1.ne, by omega, by omega⟩
    obtain ⟨L, ld⟩ := lead_ex nz
    refine ⟨fun z hz => ⟨(f z hz).1, (f z hz).1.sm⟩, alike_all fun z hz => (f z hz).2.1, L, ld, ?_⟩
    have L4 : L ≤ 4 := by
      obtain ⟨⟨w, hw, e⟩, _⟩ := ld
      have := (f w hw).2.2.1
      omega
    have dv : ∀ z ∈ zs, z.2.1.length ∣ 12 := fun z hz => by
      have h1 := (f z hz).2.2.2
      have h2 := List.length_pos_iff.mpr (f z hz).2.1
      have : z.2.1.length = 1 ∨ z.2.1.length = 2 ∨ z.2.1.length = 3 ∨ z.2.1.length = 4 := by omega
      rcases this with e | e | e | e <;> rw [e] <;> decide
    have P12 : lapT zs ≤ 12 := Nat.le_of_dvd (by decide) (fold_dvd (dv _ hd) fun z hz => dv z (tl z hz))
    have v := tot_le (F := valF zs) (p := L + 2 * lapT zs) (B := 100) (n := zs.length) fun i hi => by
      unfold valF
      by_cases c : L + 2 * lapT zs = 0
      · rw [if_pos c]; decide
      · rw [if_neg c, List.getD_eq_getElem?_getD, List.getElem?_eq_getElem hi]
        show numF (atY zs[i]) _ ≤ 100
        have hx : i < xs.length := by omega
        have p := hp i xs[i] zs[i] (List.getElem?_eq_getElem hx) (List.getElem?_eq_getElem hi)
        have r1 := k xs[i] (List.getElem_mem hx)
        have e : atY zs[i] (L + 2 * lapT zs) = atY xs[i] (L + 2 * lapT zs) := plain_at p _ (by omega)
        have s := numF_some (raw1_some r1 (show 1 ≤ L + 2 * lapT zs by omega))
        have b := raw1_at r1 s
        unfold numF at b ⊢
        rw [e]
        omega
    unfold totT
    omega
  · have f : ∀ z ∈ zs, Fit z ∧ z.2.1 = [] ∧ z.1.length = L ∧ ∀ i, i < L → z.1.getD i 0 ≤ 31 := fun z hz => by
      obtain ⟨x, hx, p⟩ := get z hz
      obtain ⟨g, e1, e2, e3, b⟩ := k x hx
      have q := (plain_size p).2.2.2.2.2.2 e1
      subst q
      refine ⟨⟨⟨g.hd, trivial, fun _ z => absurd rfl z, Int.le_refl _, fun _ => rfl, fun z => absurd rfl z⟩, by show x.1.length ≤ 300; omega, by simp, by simp⟩, rfl, e2, b⟩
    have ld : IsLead zs L := by
      refine ⟨⟨_, hd, (f _ hd).2.2.1⟩, fun z hz => Nat.le_of_eq (f z hz).2.2.1⟩
    refine ⟨fun z hz => ⟨(f z hz).1, (f z hz).1.sm⟩, alike_end fun z hz => ⟨(f z hz).2.1, (f z hz).2.2.1⟩, L, ld, ?_⟩
    have P0 : lapT zs = 0 := (lcm_fold (f := fun z : Y => z.2.1.length) (r := zs.drop 1) (a := (zs.headD ([], [], 0)).2.1.length)).2.2.2 (by rw [(f _ hd).2.1]; rfl)
    have v := tot_le (F := valF zs) (p := L) (B := 31) (n := zs.length) fun i hi => by
      unfold valF
      by_cases c : L = 0
      · rw [if_pos c]; decide
      · rw [if_neg c, List.getD_eq_getElem?_getD, List.getElem?_eq_getElem hi]
        show numF (atY zs[i]) L ≤ 31
        obtain ⟨_, e1, e2, b⟩ := f zs[i] (List.getElem_mem hi)
        have : atY zs[i] L = some (zs[i].1.getD (L - 1) 0) := by
          show at_ _ _ _ _ = _
          unfold at_
          rw [if_pos (by omega)]
        unfold numF
        rw [this]
        exact b (L - 1) (by omega)
    unfold totT
    rw [P0]
    simp only [Nat.mul_zero, Nat.add_zero]
    omega
theorem deeds0 {w : List Deed} : deedsOf [w] [] = [] := rfl
theorem deeds1 {w : List Deed} : deedsOf [w] [0] = w := by simp [deedsOf]
theorem deeds2 {w : List Deed} : deedsOf [w] [0, 0] = w ++ w := by simp [deedsOf]
end K28
set_option Elab.async false
set_option linter.all false
set_option maxRecDepth 100000
set_option maxHeartbeats 4000000
namespace K28
open PySem PySem.Spec PyProof.Rows L2 He NF RZ NT
/-- an odd thing among tables -/
theorem items_ins {K : PySem.W.Frag} {CT : Addr} {H : Hp} {ys : List Addr} {zs : List Y} {v : V} {p : Nat} (tt : TabsT K CT H ys zs) (hb : ItemN K CT H v none) (hp : p ≤ ys.length) :
    ((zs.take p).map some ++ [none] ++ (zs.drop p).map some).length = ((ys.map V.ref).take p ++ [v] ++ (ys.map V.ref).drop p).length ∧
    (∀ (i : Nat) (u : V) (o : Option Y), ((ys.map V.ref).take p ++ [v] ++ (ys.map V.ref).drop p)[i]? = some u → ((zs.take p).map some ++ [none] ++ (zs.drop p).map some)[i]? = some o → ItemN K CT H u o) ∧
    ((zs.take p).map some ++ [none] ++ (zs.drop p).map some)[p]? = some none ∧ ∀ j, j < p → ∃ z, ((zs.take p).map some ++ [none] ++ (zs.drop p).map some)[j]? = some (some z) := by
  have yl := tt.1
  have l1 : ((ys.map V.ref).take p).length = p := by rw [List.length_take, List.length_map]; omega
  have l2 : ((zs.take p).map some).length = p := by rw [List.length_map, List.length_take]; omega
  refine ⟨by simp [yl], fun i u o e1 e2 => ?_, ?_, fun j hj => ?_⟩
  · rw [List.append_assoc] at e1 e2
    rcases Nat.lt_trichotomy i p with c | c | c
    · rw [List.getElem?_append_left (by omega), List.getElem?_take, if_pos c, List.getElem?_map] at e1
      rw [List.getElem?_append_left (by omega), List.getElem?_map, List.getElem?_take, if_pos c] at e2
      rw [List.getElem?_eq_getElem (show i < ys.length by omega)] at e1
      rw [List.getElem?_eq_getElem (show i < zs.length by omega)] at e2
      cases e1
      cases e2
      exact ⟨_, rfl, tt.2 i _ _ (List.getElem?_eq_getElem _) (List.getElem?_eq_getElem _)⟩
    · subst c
      rw [List.getElem?_append_right (by omega), l1, Nat.sub_self] at e1
      rw [List.getElem?_append_right (by omega), l2, Nat.sub_self] at e2
      cases e1
      cases e2
      exact hb
    · obtain ⟨j, hj⟩ : ∃ j, i = p + 1 + j := ⟨i - p - 1, by omega⟩
      subst hj
      rw [List.getElem?_append_right (by omega), l1, show p + 1 + j - p = j + 1 by omega] at e1
      rw [List.getElem?_append_right (by omega), l2, show p + 1 + j - p = j + 1 by omega] at e2
      have e1 : ((ys.map V.ref).drop p)[j]? = some u := e1
      have e2 : ((zs.drop p).map some)[j]? = some o := e2
      rw [List.getElem?_drop, List.getElem?_map] at e1
      rw [List.getElem?_map, List.getElem?_drop] at e2
      cases a : ys[p + j]? with
      | none => rw [a] at e1; cases e1
      | some y =>
        cases b : zs[p + j]? with
        | none => rw [b] at e2; cases e2
        | some z =>
          rw [a] at e1
          rw [b] at e2
          cases e1
          cases e2
          exact ⟨_, rfl, tt.2 _ _ _ a b⟩
  · rw [List.append_assoc, List.getElem?_append_right (by omega), l2, Nat.sub_self]
    rfl
  · rw [List.append_assoc, List.getElem?_append_left (by omega), List.getElem?_map, List.getElem?_take, if_pos hj, List.getElem?_eq_getElem (show j < zs.length by omega)]
    exact ⟨_, rfl⟩
/-- one table that is told by one entry -/
theorem single_tot {v r : Int} {z : Y} (hv : 0 ≤ v) (r0 : 0 ≤ r) (r1 : r ≤ 1000000) (p : IsPlain [] [v] r z) : Good [] [v] r ∧ Fit z ∧ IsLead [z] 0 ∧ totT [z] 0 (lapT [z]) = 2 + (v + r) ∧ z.2.1 ≠ [] := by
  have g : Good [] [v] r := ⟨trivial, ⟨hv, trivial⟩, fun h => absurd rfl h, r0, fun h => absurd h (by simp), fun _ => by simp; omega⟩
  have q := plain_size p
  have q5 := q.2.2.2.2.1 r0
  have ne := q.2.2.1 (by simp)
  have l1 : z.2.1.length ≤ 1 := q.2.1
  have h0 : z.1.length ≤ 0 := q.1
  have lp := List.length_pos_iff.mpr ne
  refine ⟨g, ⟨(plain_fin g p).1, by omega, by omega, by omega⟩, ⟨⟨z, by simp, by omega⟩, fun w hw => by rw [List.mem_singleton.mp hw]; exact h0⟩, ?_, ne⟩
  have e1 : lapT [z] = 1 := by
    show z.2.1.length = 1
    omega
  have e2 : valF [z] 0 2 = v + r := by
    show numF (atY z) 2 = _
    have : atY z 2 = at_ [] [v] r 2 := plain_at p 2 (by decide)
    have e : at_ [] [v] r 2 = some (v + r) := by
      rw [at_loop (by simp) (by simp)]
      show some (walk [v] r 1) = _
      unfold walk
      simp
    unfold numF
    rw [this, e]
    rfl
  rw [e1]
  unfold totT
  show (0 : Int) + 2 * 1 + (([0].map fun i => valF [z] i 2).sum) = _
  simp only [List.map_cons, List.map_nil, List.sum_cons, List.sum_nil, e2]
  omega
/-- two tables that end at the same place -/
theorem ended_tot : (∀ z ∈ [(([0, 1], [], 0) : Y), ([0, 1], [], 0)], Fit z) ∧ Alike [([0, 1], [], 0), ([0, 1], [], 0)] ∧ IsLead [([0, 1], [], 0), ([0, 1], [], 0)] 2 ∧ totT [([0, 1], [], 0), ([0, 1], [], 0)] 2 (lapT [([0, 1], [], 0), ([0, 1], [], 0)]) ≤ 600 := by
  refine ⟨fun z hz => ?_, ?_, ?_, by decide⟩
  · have e : z = ([0, 1], [], 0) := by
      rcases List.mem_cons.mp hz with e | hz
      · exact e
      · exact List.mem_singleton.mp hz
    subst e
    exact ⟨⟨⟨by decide, by decide, trivial⟩, trivial, fun _ h => absurd rfl h, Int.le_refl _, fun _ => rfl, fun h => absurd rfl h⟩, by simp, by simp, by simp⟩
  · exact alike_end (L := 2) fun z hz => by
      rcases List.mem_cons.mp hz with rfl | hz
      · exact ⟨rfl, rfl⟩
      · rw [List.mem_singleton.mp hz]; exact ⟨rfl, rfl⟩
  · refine ⟨⟨([0, 1], [], 0), by simp, rfl⟩, fun z hz => ?_⟩
    rcases List.mem_cons.mp hz with rfl | hz
    · exact Nat.le_refl _
    · rw [List.mem_singleton.mp hz]; exact Nat.le_refl _
end K28
set_option Elab.async false
set_option linter.all false
set_option maxRecDepth 100000
set_option maxHeartbeats 4000000
namespace K28
open PySem PySem.Spec PyProof.Rows L2 He NF RZ NT
theorem TabAt.put {K : PySem.W.Frag} {C : Addr} {H : Hp} {x D : Addr} {y : Y} {l : List V} {o : HO} (h : TabAt K C H x y) (hD : H D = some (.lst l)) : TabAt K C (upd H D o) x y := by
  obtain ⟨dx, a, b, h1, h2, h3⟩ := h
  refine ⟨dx, a, b, ?_, SqT.put h2 hD trivial, SqT.put h3 hD trivial⟩
  rw [upd_ne fun z => by rw [z, hD] at h1; cases h1]
  exact h1
theorem TabAt.woS {K : PySem.W.Frag} {C : Addr} {H : Hp} {x p : Addr} {y : Y} (h : TabAt K C H x y) (hs : Src H p) : TabAt K C (NF.wo H p) x y := by
  obtain ⟨dx, a, b, h1, h2, h3⟩ := h
  obtain ⟨_, _, _, e⟩ := hs
  refine ⟨dx, a, b, ?_, SqT.wo h2 e trivial, SqT.wo h3 e trivial⟩
  rw [wo_ne fun z => by rw [z, e] at h1; cases h1]
  exact h1
def KeepT (K : PySem.W.Frag) (CT : Addr) (H : Hp) (D : Addr) (ys : List Addr) (zs : List Y) : Prop := H D = some (.lst (ys.map V.ref)) ∧ TabsT K CT H ys zs
theorem KeepT.mono {K : PySem.W.Frag} {CT : Addr} {H H' : Hp} {D : Addr} {ys : List Addr} {zs : List Y} (h : KeepT K CT H D ys zs) (s : Same H H') : KeepT K CT H' D ys zs := ⟨s _ _ h.1, h.2.mono s⟩
theorem KeepT.woS {K : PySem.W.Frag} {CT : Addr} {H : Hp} {D p : Addr} {ys : List Addr} {zs : List Y} (h : KeepT K CT H D ys zs) (hs : Src H p) (ne : D ≠ p) : KeepT K CT (wo H p) D ys zs := ⟨(wo_ne ne).trans h.1, h.2.1, fun i x z e1 e2 => TabAt.woS (h.2.2 i x z e1 e2) hs⟩
theorem TabsT.snoc {K : PySem.W.Frag} {CT : Addr} {H : Hp} {ys : List Addr} {zs : List Y} {y : Addr} {z : Y} (h : TabsT K CT H ys zs) (t : TabAt K CT H y z) : TabsT K CT H (ys ++ [y]) (zs ++ [z]) := by
  have hl := h.1
  refine ⟨by rw [List.length_append, List.length_append, hl]; rfl, fun i q' x' e1 e2 => ?_⟩
  rcases Nat.lt_trichotomy i ys.length with c | c | c
  · rw [List.getElem?_append_left c] at e1
    rw [List.getElem?_append_left (by omega)] at e2
    exact h.2 i q' x' e1 e2
  · rw [List.getElem?_append_right (by omega), c, Nat.sub_self] at e1
    rw [List.getElem?_append_right (by omega), c, hl, Nat.sub_self] at e2
    cases e1
    cases e2
    exact t
  · rw [List.getElem?_eq_none (by rw [List.length_append]; show ys.length + 1 ≤ i; omega)] at e1
    cases e1
theorem draw_raw {xs : List Y} (d : DrawT xs) : ∀ x ∈ xs, RawOk x := fun x hx => by
  rcases d.k with k | ⟨L, hL, k⟩
  · exact (k x hx).o.ok
  · obtain ⟨g, e1, e2, e3, _⟩ := k x hx
    exact ⟨g, by omega, by rw [e1]; simp, by omega⟩
theorem climbs_memT : ∀ {l : List Int} {lo : Int}, climbs lo l → ∀ i ∈ l, lo ≤ i
  | [], _, _, _, h => nomatch h
  | x :: l, lo, c, i, h => by
    rcases List.mem_cons.mp h with rfl | h
    · exact c.1
    · exact Int.le_trans c.1 (climbs_memT c.2 i h)
theorem ext_is1 {i : Nat} {most : Bool} {b w : List Deed} {z : Y} (h : IsExt most i b [w] z) {m : Nat} (hm : 1 ≤ m) : atY z m = at_ (needT i b w).1 (needT i b w).2.1 (needT i b w).2.2 m := by
  obtain ⟨_, _, _, _, _, _, ha, p⟩ := h
  have e := ext_one (i := i) (b := b) (w := w) (most := most) hm
  rw [show dso [w] [] = [] from rfl, show dso [w] [0] = w by simp [dso], List.append_nil] at e
  show at_ z.1 z.2.1 z.2.2 m = _
  rw [plain_at p m hm, ha m hm, e]
theorem is_plain {h l : List Int} {r : Int} {z y : Y} (p : IsPlain h l r z) (q : IsPlain y.1 y.2.1 y.2.2 y) (e : ∀ m, 1 ≤ m → at_ h l r m = atY y m) : z = y := plain_one p q e
theorem Fit.ct {z : Y} (f : Fit z) : Counts z := ⟨fun x hx => (List.mem_append.mp hx).elim (climbs_memT f.g.hd x) (climbs_memT f.g.lp x), f.g.r0⟩
def formD (y : Y) : PyData := .tuple [.tuple (y.1.map PyData.int), .tuple (y.2.1.map PyData.int), .int y.2.2]
theorem formD_at {K : PySem.W.Frag} {H : Hp} {p : Addr} {y : Y} (h : FormAt K H p y) : Dp K H (.ref p) (formD y) := by
  obtain ⟨a, b, h1, h2, h3⟩ := h
  exact .tup h1 (.cons (.tup h2 (dp_ints _)) (.cons (.tup h3 (dp_ints _)) (.cons (.int _) .nil)))
theorem formD_shaped (y : Y) : SeqAt.shaped (formD y) = true := by
  show ((PyData.canLayAll0 (y.1.map PyData.int) && (PyData.canLayAll0 (y.2.1.map PyData.int) && true)) && decide (max (PyData.depthAll (y.1.map PyData.int) + 1) (max (PyData.depthAll (y.2.1.map PyData.int) + 1) (max 0 0)) + 1 ≤ 64)) = true
  rw [lay_ints, lay_ints, depth_ints, depth_ints]
  decide
theorem formD_eqv (y z : Y) : PyData.eqv (formD y) (formD z) = decide (y = z) := by
  show (PyData.eqvAll (y.1.map PyData.int) (z.1.map PyData.int) && (PyData.eqvAll (y.2.1.map PyData.int) (z.2.1.map PyData.int) && ((y.2.2 == z.2.2) && true))) = _
  rw [eqv_ints, eqv_ints]
  obtain ⟨a, b, c⟩ := y
  obtain ⟨a', b', c'⟩ := z
  by_cases h1 : a = a' <;> by_cases h2 : b = b' <;> by_cases h3 : c = c' <;> simp [h1, h2, h3]
theorem neF_done {K : PySem.W.Frag} {H : Hp} {a b : Addr} {x y : Y} {Q : VK} (hx : FormAt K H a x) (hy : FormAt K H b y) (q : Q (.bl (!decide (x = y))) H) : rNeD K (.ref a) (.ref b) H Q :=
  ⟨_, _, formD_at hx, formD_at hy, formD_shaped x, formD_shaped y, by rw [formD_eqv]; exact q⟩
def spLaw (K : PySem.W.Frag) : Sp := fun vs H Q _ => ∃ (l : Addr) (ns : List Int), vs = [.ref l] ∧ SqL K H l (ns.map V.int) ∧ ns.length ≤ 63 ∧ (∀ k ∈ ns, Builtin.Int.intBits k ≤ 1048576) ∧ ∀ H', Q (.bl true) H'
theorem sc_law : FnScope ["_law_script", "_law_source_here", "_law_raws", "_law_tables_here", "_law_made", "_law_maker", "_law_inlet", "_law_place", "_law_bad", "_law_row", "_law_plain_here", "_law_steady", "_law_ended_here", "_law_raw_here"] ["_law_script"] (defScope s_law) := ⟨rfl, rfl, rfl, by decide +kernel, rfl, by decide +kernel, by decide +kernel⟩
section
variable {P : Program} {w : World} {K : PySem.W.Frag} {mg : Str → Option Value} {base : Heap} {gs : List Str} {C CT : Addr}
theorem ok_law {f : Addr} {fd : FuncData} (F : FunD K "law" "law" (defArgs s_law) (defBody s_law) (defScope s_law) [] [] f fd) (T : Txt K mg gs FS) (hM : mg "Maker" = some (.ref C)) (mc : MakC K C) (tc : TabC K CT) (kS : PySem.W.kitOne K (.type "str") (.ref CT) = some false) (kB : PySem.W.kitOne K (.type "bool") (.ref CT) = some false) (c__law_source : Cal P w K mg base 1 "_law_source" (spSource K)) (c__law_pick : Cal P w K mg base 1 "_law_pick" spPick) (c__law_tables : Cal P w K mg base 4 "_law_tables" (spTables K)) (c__law_table : Cal P w K mg base 6 "_law_table" (spLTable K CT)) (c_maker_of : CalX P w K mg base 9 "maker_of" (spMakerOf K C CT)) (c__law_plain : Cal P w K mg base 1 "_law_plain" (spPlain K)) (c__law_on : Cal P w K mg base 2 "_law_on" (spLOn K)) (c__law_same : Cal P w K mg base 3 "_law_same" (spSame K CT)) (c_least : Cal P w K mg base 7 "least" (spExt K C CT false)) (c_greatest : Cal P w K mg base 7 "greatest" (spExt K C CT true)) (c__law_seen : Cal P w K mg base 10 "_law_seen" (spSeen K CT)) (m_Table : Mak P w K mg base 4 0 "Table" CT (spInit K CT) []) (o_need : MetC P w K mg base 6 C "need" (spNeed K CT C)) (o_eq : EqC P w K mg base 1 CT (spEq K CT)) : FnOk P w K mg base CX0 11 f fd ["_law_script"] (spLaw K) := by
  refine F.ok sc_law (fun vs H Q E h => ?_) (fun cdv A outer s H vs Q E hr h => ?_)
  · obtain ⟨l, ns, rfl, _⟩ := h
    rfl
  · obtain ⟨sl, ns, rfl, hsl, hlen, hbits, k⟩ := h
    have hu : (A.deeper (envOfC "law" (defScope s_law) s.heap.objs.size f cdv)).units + 64 < cLine := by
      have := hr.un
      omega
    refine ⟨_, PSs.nox (pss_cons (ps_set (i := 1) sc_law.nd rfl (Or.inl rfl) (pe_c c__law_source hr (by decide) rfl (pa_cons (pv 0) (pa_cons pe_int pa_nil)))) (pss_cons (ps_set (i := 2) sc_law.nd rfl (Or.inl rfl) (pe_c c__law_tables hr (by decide) rfl (pa_cons (pv 1) pa_nil))) (pss_cons (ps_setLc (i := 3) (own := [("_law_raw_here", 13)]) rfl sc_law.nd rfl rfl (sw_true rfl rfl rfl (by decide +kernel)) (pi_list (pv 2)) (blkOk_by (N := ["_law_script", "_law_source_here", "_law_raws", "_law_tables_here", "_law_made", "_law_maker", "_law_inlet", "_law_place", "_law_bad", "_law_row", "_law_plain_here", "_law_steady", "_law_ended_here", "_law_raw_here"]) (sc := defScope s_law) (by decide +kernel)) (fun _ _ _ _ _ => by exact (pg_name (i := 13) sc_law.nd rfl (Or.inl rfl))) (fun _ _ _ _ _ => by exact pts_nil) (fun _ _ _ _ _ => by exact (pe_c c__law_table hr (by decide) rfl (pa_cons (pv 13) pa_nil)))) (pss_cons (ps_set (i := 4) sc_law.nd rfl (Or.inl rfl) (pe_cX takes0 c_maker_of hr (by decide) rfl (pa_cons (pv 3) pa_nil))) (pss_cons (ps_if (PW.pt (pw_or (pt_not (pt_val (pe_callB call_isi rfl (T.fr _ (by decide +kernel)) (by decide +kernel) (pa_cons (pv 4) (pa_cons (pe_gl hM) pa_nil))))) (pw_or (pt_cmpR op_ne (pe_fld (pv 4) rfl) (pe_callB call_len_seq rfl (T.fr _ (by decide +kernel)) boot_len (pa_cons (pv 2) pa_nil)) (nomark _)) (pw_or1 (pt_cmpR op_ne (pe_callB call_len_seq rfl (T.fr _ (by decide +kernel)) boot_len (pa_cons (pe_fld (pv 4) rfl) pa_nil)) pe_int (nomark _)))))) (pss_one (ps_ret pe_bl)) pss_nil) (pss_cons (ps_set (i := 5) sc_law.nd rfl (Or.inl rfl) (pe_tup (pa_cons (pe_fld (pv 4) rfl) (pa_cons (pe_fld (pv 4) rfl) (pa_cons (pe_fld (pv 4) rfl) pa_nil))))) (pss_cons (ps_for PassesOwn.never rfl (pi_range1 rfl (T.fr _ (by decide +kernel)) (pa_cons (pe_callB call_len_seq rfl (T.fr _ (by decide +kernel)) boot_len (pa_cons (pv 2) pa_nil)) pa_nil)) (pg_name (i := 6) sc_law.nd rfl (Or.inl rfl)) (pss_cons (ps_set (i := 10) sc_law.nd rfl (Or.inl rfl) (pe_c c__law_plain hr (by decide) rfl (pa_cons (pe_ix (ixt (K := K)) (pe_ix (ixl (K := K)) (pv 2) (pv 6) fun _ _ => rfl) pe_int fun _ _ => rfl) (pa_cons (pe_ix (ixt (K := K)) (pe_ix (ixl (K := K)) (pv 2) (pv 6) fun _ _ => rfl) pe_int fun _ _ => rfl) (pa_cons (pe_ix (ixt (K := K)) (pe_ix (ixl (K := K)) (pv 2) (pv 6) fun _ _ => rfl) pe_int fun _ _ => rfl) pa_nil))))) (pss_cons (ps_if (PW.pt (pw_or (pt_cmpR (op_neD hu) (pe_c c__law_on hr (by decide) rfl (pa_cons (pv 5) (pa_cons (pv 6) (pa_cons (pe_tup (pa_cons (pe_tup pa_nil) (pa_cons (pe_tup (pa_cons pe_int pa_nil)) pa_nil))) pa_nil)))) (pv 10) (nomark _)) (pw_or1 (pt_not (pt_val (pe_c c__law_same hr (by decide) rfl (pa_cons (pe_mt (pv 4) o_need hr (by decide) (pa_cons (pv 6) (pa_cons (pe_tup (pa_cons (pe_tup pa_nil) (pa_cons (pe_tup (pa_cons pe_int pa_nil)) pa_nil))) pa_nil))) (pa_cons (pv 10) pa_nil)))))))) (pss_one (ps_ret pe_bl)) pss_nil) (pss_one (ps_if (PW.pt (pw_or (pt_not (pt_val (pe_c c__law_same hr (by decide) rfl (pa_cons (pe_c c_least hr (by decide) rfl (pa_cons (pv 4) (pa_cons (pv 6) pa_nil))) (pa_cons (pv 10) pa_nil))))) (pw_or1 (pt_not (pt_val (pe_c c__law_same hr (by decide) rfl (pa_cons (pe_c c_greatest hr (by decide) rfl (pa_cons (pv 4) (pa_cons (pv 6) pa_nil))) (pa_cons (pv 10) pa_nil)))))))) (pss_one (ps_ret pe_bl)) pss_nil))))) (pss_cons (ps_if (pt_not (pt_cmpR (op_eqO o_eq hr (by decide)) (pe_mt (pe_cX takes0 c_maker_of hr (by decide) rfl (pa_cons (pe_callTy cr_tup rfl (T.fr _ (by decide +kernel)) (by decide +kernel) (pa_cons (pv 3) pa_nil)) pa_nil)) o_need hr (by decide) (pa_cons pe_int (pa_cons (pe_tup (pa_cons (pe_tup pa_nil) (pa_cons (pe_tup (pa_cons pe_int (pa_cons pe_int pa_nil))) pa_nil))) pa_nil))) (pe_ix (ixl (K := K)) (pv 3) pe_int fun _ _ => rfl) (nomark _))) (pss_one (ps_ret pe_bl)) pss_nil) (pss_cons (ps_set (i := 7) sc_law.nd rfl (Or.inl rfl) (pe_c c__law_pick hr (by decide) rfl (pa_cons (pv 1) (pa_cons (pe_op op_add (pe_callB call_len_seq rfl (T.fr _ (by decide +kernel)) boot_len (pa_cons (pv 3) pa_nil)) pe_int) pa_nil)))) (pss_cons (ps_set (i := 8) sc_law.nd rfl (Or.inl rfl) (pe_ix (ixl (K := K)) (pe_lst (pa_cons pe_non (pa_cons pe_int (pa_cons (pe_tup (pa_cons pe_int (pa_cons pe_int pa_nil))) (pa_cons pe_str (pa_cons pe_bl pa_nil)))))) (pe_c c__law_pick hr (by decide) rfl (pa_cons (pv 1) (pa_cons pe_int pa_nil))) fun _ _ => rfl)) (pss_cons (ps_if (PW.pt (pw_and (pt_cmpR op_lt (pe_callB call_len_seq rfl (T.fr _ (by decide +kernel)) boot_len (pa_cons (pv 3) pa_nil)) pe_int (nomark _)) (pw_and1 (pt_cmpR op_ne (pe_c c__law_seen hr (by decide) rfl (pa_cons (pe_op op_cat (pe_op op_cat (pe_slice sl_list (pv 3) po_none (po_some (pv 7))) (pe_lst (pa_cons (pv 8) pa_nil))) (pe_slice sl_list (pv 3) (po_some (pv 7)) po_none)) pa_nil)) (pv 7) (nomark _))))) (pss_one (ps_ret pe_bl)) pss_nil) (pss_cons (ps_if (PW.pt (pw_or (pt_cmpR op_ne (pe_c c__law_seen hr (by decide) rfl (pa_cons (pe_tup pa_nil) pa_nil)) (pe_un un_neg pe_int) (nomark _)) (pw_or (pt_cmpR op_ne (pe_c c__law_seen hr (by decide) rfl (pa_cons (pe_op op_rep (pe_slice sl_list (pv 3) po_none (po_some pe_int)) pe_int) pa_nil)) (pe_un un_neg pe_int) (nomark _)) (pw_or1 (pt_cmpR op_ne (pe_c c__law_seen hr (by decide) rfl (pa_cons pe_non pa_nil)) (pe_un un_neg pe_int) (nomark _)))))) (pss_one (ps_ret pe_bl)) pss_nil) (pss_cons (ps_par (i := 11) (j := 12) (by rfl) sc_law.nd rfl rfl (by decide) rfl rfl (pa_cons (pe_c c__law_table hr (by decide) rfl (pa_cons (pe_tup (pa_cons (pe_tup pa_nil) (pa_cons (pe_tup (pa_cons pe_int pa_nil)) (pa_cons pe_int pa_nil)))) pa_nil)) (pa_cons (pe_c c__law_table hr (by decide) rfl (pa_cons (pe_tup (pa_cons (pe_tup (pa_cons pe_int (pa_cons pe_int pa_nil))) (pa_cons (pe_tup pa_nil) (pa_cons pe_int pa_nil)))) pa_nil)) pa_nil)) (by rfl)) (pss_cons (ps_for PassesOwn.never rfl (pi_list (pe_lst (pa_cons (pe_lst (pa_cons (pv 11) (pa_cons (pv 12) pa_nil))) (pa_cons (pe_lst (pa_cons (pv 12) (pa_cons (pe_c c__law_table hr (by decide) rfl (pa_cons (pe_tup (pa_cons (pe_tup (pa_cons pe_int pa_nil)) (pa_cons (pe_tup pa_nil) (pa_cons pe_int pa_nil)))) pa_nil)) pa_nil))) (pa_cons (pe_lst (pa_cons (pv 12) (pa_cons (pv 12) (pa_cons (pv 11) pa_nil)))) pa_nil))))) (pg_name (i := 9) sc_law.nd rfl (Or.inl rfl)) (pss_one (ps_if (pt_cmpR op_ne (pe_c c__law_seen hr (by decide) rfl (pa_cons (pv 9) pa_nil)) (pe_un un_neg pe_int) (nomark _)) (pss_one (ps_ret pe_bl)) pss_nil))) (pss_cons (ps_if (PW.pt (pw_or (pt_cmpR op_notN (pe_c c__law_seen hr (by decide) rfl (pa_cons (pe_lst (pa_cons (pv 12) (pa_cons (pv 12) pa_nil))) pa_nil)) pe_non (nomark _)) (pw_or1 (pt_cmpR op_ne (pe_c c__law_seen hr (by decide) rfl (pa_cons (pe_lst (pa_cons (pv 11) (pa_cons pe_non pa_nil))) pa_nil)) pe_int (nomark _))))) (pss_one (ps_ret pe_bl)) pss_nil) (pss_cons (ps_if (pt_cmpR op_notN (pe_c c__law_seen hr (by decide) rfl (pa_cons (pe_lst (pa_cons (pe_mk m_Table hr (by decide) rfl (pa_cons (pe_tup pa_nil) (pa_cons (pe_tup (pa_cons pe_int pa_nil)) (pa_cons pe_int pa_nil)))) pa_nil)) pa_nil)) pe_non (nomark _)) (pss_one (ps_ret pe_bl)) pss_nil) (pss_one (ps_ret (pe_cmpR op_eq (pe_c c__law_seen hr (by decide) rfl (pa_cons (pe_lst (pa_cons (pe_mk m_Table hr (by decide) rfl (pa_cons (pe_tup pa_nil) (pa_cons (pe_tup (pa_cons (pe_op op_add pe_int (pe_c c__law_pick hr (by decide) rfl (pa_cons (pv 1) (pa_cons pe_int pa_nil)))) pa_nil)) (pa_cons pe_int pa_nil)))) pa_nil)) pa_nil)) pe_str (nomark _)))))))))))))))))))), ?_⟩
    refine ⟨_, rfl, sl, ns, 0, rfl, hsl, hlen, hbits, by decide, fun p1 G1 s1 hp1 S1 => ?_⟩
    refine ⟨_, rfl, wo G1 p1, p1, rfl, wo_same', wo_none, S1, fun D qs xs G2 s2 S2 hD tf dr => ?_⟩
    have ql := tf.1
    have x3 := dr.n3
    have x1 := dr.n1
    have hDp : D ≠ p1 := fun z => by
      obtain ⟨_, _, _, e⟩ := S2
      rw [← z, hD] at e
      injection e with e
      injection e with e
      cases qs with
      | nil => cases e
      | cons _ _ => cases e
    have raw := draw_raw dr
    -- the tables
    refine ⟨_, rfl, D, rfl, ⟨_, SqL.of hD⟩, fun D3 hD3 => ?_⟩
    have hD3p := src_ne (o := .lst []) S2 hD3
    refine lc_list (xs := qs.map V.ref) (fun j G => Same G2 G ∧ ∃ (ys : List Addr) (zs : List Y), KeepT K CT G D3 ys zs ∧ zs.length = j ∧ ∀ (i : Nat) (x z : Y), xs[i]? = some x → zs[i]? = some z → IsPlain x.1 x.2.1 x.2.2 z) ⟨NF.Same.new (Same.refl G2) hD3, [], [], ⟨upd_same, rfl, fun i x z e => by simp at e⟩, rfl, fun i x z _ e => by simp at e⟩ (fun j G _ z => SqL.of (z.1 _ _ hD)) ?_ ?_
    · rintro j v G hv ⟨sG, ys, zs, ⟨hG, tt⟩, zl, pl⟩
      have hj := (List.getElem?_eq_some_iff.mp hv).1
      rw [List.length_map] at hj
      obtain rfl : V.ref (qs[j]) = v := by
        rw [List.getElem?_map, List.getElem?_eq_getElem hj] at hv
        exact Option.some.inj hv
      have hjx : j < xs.length := by omega
      have fo := (tf.2 j qs[j] xs[j] (List.getElem?_eq_getElem hj) (List.getElem?_eq_getElem hjx)).mono sG
      refine ⟨rfl, _, rfl, qs[j], xs[j], rfl, fo, raw _ (List.getElem_mem hjx), fun y z G3 hz s3 tb => ?_⟩
      have hG3 := s3 _ _ hG
      have yl := tt.1
      refine ⟨_, hG3, by rw [List.length_map]; exact Nat.lt_of_le_of_lt (show ys.length ≤ 3 by omega) (by decide), NF.Same.mut (Same.trans sG s3) hD3, ys ++ [y], zs ++ [z], ⟨?_, ?_⟩, by rw [List.length_append, zl]; rfl, fun i x z' e1 e2 => ?_⟩
      · rw [upd_same, List.map_append]
        rfl
      · have tn := (tt.mono s3).snoc tb
        exact ⟨tn.1, fun i x z' e1 e2 => TabAt.put (tn.2 i x z' e1 e2) hG3⟩
      · rcases Nat.lt_trichotomy i j with c | c | c
        · rw [List.getElem?_append_left (by omega)] at e2
          exact pl i x z' e1 e2
        · subst c
          rw [List.getElem?_append_right (by omega), zl, Nat.sub_self] at e2
          rw [List.getElem?_eq_getElem hjx] at e1
          cases e1
          cases e2
          exact hz
        · rw [List.getElem?_eq_none (by rw [List.length_append]; show zs.length + 1 ≤ i; omega)] at e2
          cases e2
    · rintro G3 ⟨s3, ys, zs, kt, zl, pl⟩
      rw [List.length_map, ql] at zl
      obtain ⟨hD3', tt⟩ := id kt
      have yl := tt.1
      obtain ⟨fit, al, L, ld, small⟩ := draw_fit dr zl pl
      have S3 := Src.mono S2 s3
      have hD' := s3 _ _ hD
      have tf3 := tf.mono s3
      -- the maker
      refine ⟨_, rfl, _, rfl, .inr (.inr ⟨D3, ys, zs, rfl, .inl (SqL.of hD3'), by omega, by omega, tt, fun na => absurd al na, fun _ => ⟨fun z hz => (fit z hz).1, L, ld, fun _ x b wy G4 s4 ma gm nd => ?_, fun big => absurd small (by omega)⟩⟩)⟩
      have kt4 := kt.mono s4
      have S4 := Src.mono S3 s4
      have hD4 := s4 _ _ hD'
      have tf4 := tf3.mono s4
      obtain ⟨dx, pb, pw, hx, hb, hw⟩ := id ma
      obtain ⟨wa, hwa, wl, _⟩ := id hw
      refine ⟨_, rfl, _, _, _, _, true, rfl, .own C, mc.ty hx, mc.self, true, rfl, iteF ?_⟩
      refine ⟨_, rfl, x, C, dx, _, _, rfl, hx, mc.cl, mc.ni, rfl, _, rfl, D, _, rfl, .inl (SqL.of hD4), ?_⟩
      rw [List.length_map, ql, ← zl]
      refine ⟨rfl, _, rfl, iteF' (by simp) ?_⟩
      refine ⟨_, rfl, x, C, dx, _, _, rfl, hx, mc.cl, mc.nw, rfl, pw, _, rfl, .inr hwa, ?_⟩
      rw [List.length_map, wl]
      refine ⟨rfl, _, rfl, iteF' rfl ?_⟩
      refine ⟨_, rfl, x, C, dx, _, _, rfl, hx, mc.cl, mc.ni, rfl, _, rfl, x, C, dx, _, _, rfl, hx, mc.cl, mc.nb, rfl, _, rfl, x, C, dx, _, _, rfl, hx, mc.cl, mc.nw, rfl, (by show 3 ≤ sizeLine; decide), fun q hq => ?_⟩
      have s5 := NF.Same.new (o := .tup [V.int (zs.length : Int), V.ref pb, V.ref pw]) (Same.refl G4) hq
      have hq5 := SqT.of (K := K) (upd_same (H := G4) (a := q) (o := .tup [V.int (zs.length : Int), V.ref pb, V.ref pw]))
      generalize upd G4 q (.tup [V.int (zs.length : Int), V.ref pb, V.ref pw]) = G5 at s5 hq5
      have mk5 : MkrT K G5 q zs.length b [wy] := ⟨pb, pw, hq5, NF.Same.tup s5 hb, hw.mono s5⟩
      have ma5 := ma.mono s5
      have kt5 := kt4.mono s5
      have S5 := Src.mono S4 s5
      have hD5 := s5 _ _ hD4
      have tf5 := tf4.mono s5
      have b600 := gm.bl
      have w600 : wy.length ≤ 600 := by
        have := (gm.wy wy (by simp)).2.1
        omega
      refine ⟨_, rfl, D, _, rfl, .inl (SqL.of hD5), ?_⟩
      rw [List.length_map, ql]
      refine ⟨(xs.length : Int), rfl, by omega, by omega, ?_⟩
      rw [show ((xs.length : Int)).toNat = xs.length by omega]
      refine for_range (lo := 0) (n := xs.length) (fun j σ G => Same G5 G ∧ ∃ v6 v7 v8 v9 v10 v11 v12 v13 : Option V, σ = [some (.ref sl), some (.ref p1), some (.ref D), some (.ref D3), some (.ref x), some (.ref q), v6, v7, v8, v9, v10, v11, v12, v13]) ⟨Same.refl _, none, none, none, none, none, none, none, none, rfl⟩ ?_ ?_
      · rintro j σ G hj ⟨sG, v6, v7, v8, v9, v10, v11, v12, v13, rfl⟩
        have hjq : j < qs.length := by omega
        have hjz : j < zs.length := by omega
        have ej : (0 : Int) + (j : Int) = (j : Int) := Int.zero_add _
        have hDG := sG _ _ hD5
        have fo := (tf5.2 j qs[j] xs[j] (List.getElem?_eq_getElem hjq) (List.getElem?_eq_getElem hj)).mono sG
        obtain ⟨ra, rb, hq0, hra, hrb⟩ := id fo
        have hix : atI (qs.map V.ref) ((0 : Int) + (j : Int)) = some (V.ref qs[j]) := by
          rw [ej]
          exact atI_nat (by rw [List.getElem?_map, List.getElem?_eq_getElem hjq]; rfl)
        have rw1 := raw xs[j] (List.getElem_mem hj)
        have rh := rw1.h
        have rl := rw1.l
        have mk := mk5.mono sG
        have ma := ma5.mono sG
        have zj : zs[j]? = some zs[j] := List.getElem?_eq_getElem hjz
        have plj := pl j xs[j] zs[j] (List.getElem?_eq_getElem hj) zj
        obtain ⟨fitj, smj⟩ := fit zs[j] (List.getElem_mem hjz)
        have ndj := nd j zs[j] zj
        -- the due form
        refine ⟨_, rfl, _, rfl, D, _, _, _, rfl, rfl, SqL.of hDG, hix, qs[j], _, _, _, rfl, rfl, hq0, at0, ?_⟩
        refine ⟨_, rfl, _, rfl, D, _, _, _, rfl, rfl, SqL.of hDG, hix, qs[j], _, _, _, rfl, rfl, hq0, at1, ?_⟩
        refine ⟨_, rfl, _, rfl, D, _, _, _, rfl, rfl, SqL.of hDG, hix, qs[j], _, _, _, rfl, rfl, hq0, at2, ?_⟩
        refine ⟨ra, rb, _, _, _, rfl, hra, hrb, by omega, by omega, fun p z' G6 hz' s6 fo6 => ?_⟩
        obtain rfl : zs[j] = z' := plain_one plj hz' fun n _ => rfl
        -- the law's own need
        refine ⟨_, rfl, _, rfl, (by show 0 ≤ sizeLine; decide), fun e1 he1 => ?_⟩
        have u1 := NF.Same.new (o := .tup []) (Same.refl G6) he1
        have t1 := SqT.of (K := K) (upd_same (H := G6) (a := e1) (o := .tup []))
        generalize upd G6 e1 (.tup []) = GB at u1 t1
        refine ⟨(by show 1 ≤ sizeLine; decide), fun e2 he2 => ?_⟩
        have u2 := NF.Same.new (o := .tup [V.int 0]) (Same.refl GB) he2
        have t2 := SqT.of (K := K) (upd_same (H := GB) (a := e2) (o := .tup [V.int 0]))
        generalize upd GB e2 (.tup [V.int 0]) = GC at u2 t2
        refine ⟨(by show 2 ≤ sizeLine; decide), fun e3 he3 => ?_⟩
        have u3 := NF.Same.new (o := .tup [V.ref e1, V.ref e2]) (Same.refl GC) he3
        have t3 := SqT.of (K := K) (upd_same (H := GC) (a := e3) (o := .tup [V.ref e1, V.ref e2]))
        generalize upd GC e3 (.tup [V.ref e1, V.ref e2]) = GD at u3 t3
        have u := Same.trans u1 (Same.trans u2 u3)
        have ok : CrsOk [wy].length [] [0] := ⟨fun k hk => by simp at hk, fun k hk => by rw [List.mem_singleton.mp hk]; show 0 < 1; decide, Nat.zero_le _, by decide, by decide⟩
        have cr : CrsT K GD e3 [] [0] := ⟨e1, e2, t3, NF.Same.tup (Same.trans u2 u3) t1, NF.Same.tup u3 t2⟩
        have lo : LonOk b [wy] [] [0] := ⟨b600, fun v hv => by rw [List.mem_singleton.mp hv]; exact w600, by decide, by decide⟩
        refine ⟨q, e3, zs.length, j, b, [wy], [], [0], by rw [Int.zero_add]; rfl, mk.mono (Same.trans s6 u), lo, cr, ok, fun p4 z4 GE hz4 sE fo4 => ?_⟩
        rw [deeds0, deeds1, List.append_nil] at hz4
        have pzj : ∀ m, 1 ≤ m → at_ (needT j b wy).1 (needT j b wy).2.1 (needT j b wy).2.2 m = at_ xs[j].1 xs[j].2.1 xs[j].2.2 m := fun m hm => by
          rw [ndj m hm]
          exact plain_at plj m hm
        obtain rfl : zs[j] = z4 := plain_one plj hz4 fun n hn => (pzj n hn).symm
        have s6E := Same.trans u sE
        refine ⟨_, rfl, neF_done (K := K) fo4 (fo6.mono s6E) ⟨_, rfl, iteF' (by simp) ?_⟩⟩
        have sGE := Same.trans s6 s6E
        have maE := ma.mono sGE
        have fo6 := fo6.mono s6E
        -- the maker's need
        obtain ⟨dx2, _, _, hx2, _, _⟩ := id maE
        refine ⟨_, rfl, x, dx2, _, rfl, hx2, rfl, ?_⟩
        refine ⟨_, rfl, (by show 0 ≤ sizeLine; decide), fun e1 he1 => ?_⟩
        have u1 := NF.Same.new (o := .tup []) (Same.refl GE) he1
        have t1 := SqT.of (K := K) (upd_same (H := GE) (a := e1) (o := .tup []))
        generalize upd GE e1 (.tup []) = GB at u1 t1
        refine ⟨(by show 1 ≤ sizeLine; decide), fun e2 he2 => ?_⟩
        have u2 := NF.Same.new (o := .tup [V.int 0]) (Same.refl GB) he2
        have t2 := SqT.of (K := K) (upd_same (H := GB) (a := e2) (o := .tup [V.int 0]))
        generalize upd GB e2 (.tup [V.int 0]) = GC at u2 t2
        refine ⟨(by show 2 ≤ sizeLine; decide), fun e3 he3 => ?_⟩
        have u3 := NF.Same.new (o := .tup [V.ref e1, V.ref e2]) (Same.refl GC) he3
        have t3 := SqT.of (K := K) (upd_same (H := GC) (a := e3) (o := .tup [V.ref e1, V.ref e2]))
        generalize upd GC e3 (.tup [V.ref e1, V.ref e2]) = GD at u3 t3
        have u := Same.trans u1 (Same.trans u2 u3)
        have cr : CrsT K GD e3 [] [0] := ⟨e1, e2, t3, NF.Same.tup (Same.trans u2 u3) t1, NF.Same.tup u3 t2⟩
        refine ⟨x, e3, zs.length, j, b, [wy], [], [0], by rw [Int.zero_add]; rfl, maE.mono u, gm, hjz, cr.r, ok, by rw [deeds0]; exact Nat.zero_le _, by rw [deeds1]; omega, fun y5 z5 GF hz5 sF tb5 => ?_⟩
        rw [deeds0, deeds1, List.append_nil] at hz5
        obtain rfl : zs[j] = z5 := plain_one plj hz5 fun n hn => (pzj n hn).symm
        have sEF := Same.trans u sF
        refine ⟨_, rfl, y5, p, zs[j], rfl, tb5, fo6.mono sEF, smj, fitj.ct, fun GG sG' => ⟨true, rfl, iteF ?_⟩⟩
        have sEG := Same.trans sEF sG'
        -- the least and the greatest
        refine ⟨_, rfl, _, rfl, x, zs.length, j, b, [wy], by rw [Int.zero_add]; rfl, maE.mono sEG, gm, hjz, fun y6 z6 GH he6 sH tb6 => ?_⟩
        obtain rfl : zs[j] = z6 := by
          obtain ⟨h6, l6, r6, g6, _, _, ha6, p6⟩ := id he6
          exact plain_one plj p6 fun n hn => by
            rw [← pzj n hn, ← ext_is1 he6 hn]
            exact plain_at p6 n hn
        have sEH := Same.trans sEG sH
        refine ⟨_, rfl, y6, p, zs[j], rfl, tb6, fo6.mono sEH, smj, fitj.ct, fun GI sI => ⟨true, rfl, iteF ?_⟩⟩
        have sEI := Same.trans sEH sI
        refine ⟨_, rfl, _, rfl, x, zs.length, j, b, [wy], by rw [Int.zero_add]; rfl, maE.mono sEI, gm, hjz, fun y7 z7 GJ he7 sJ tb7 => ?_⟩
        obtain rfl : zs[j] = z7 := by
          obtain ⟨h7, l7, r7, g7, _, _, ha7, p7⟩ := id he7
          exact plain_one plj p7 fun n hn => by
            rw [← pzj n hn, ← ext_is1 he7 hn]
            exact plain_at p7 n hn
        have sEJ := Same.trans sEI sJ
        refine ⟨_, rfl, y7, p, zs[j], rfl, tb7, fo6.mono sEJ, smj, fitj.ct, fun GK sK => ⟨true, rfl, iteF ?_⟩⟩
        exact ⟨Same.trans sG (Same.trans sGE (Same.trans sEJ sK)), _, _, _, _, _, _, _, _, rfl⟩
      · rintro σ G ⟨sG, v6', v7, v8, v9, v10, v11, v12, v13, rfl⟩
        have kt := kt5.mono sG
        have SG := Src.mono S5 sG
        have n1 : 1 ≤ zs.length := by omega
        have n3 : zs.length ≤ 3 := by omega
        have nfC : PySem.W.notFirst K CT (.ref CT) = true := by simp [PySem.W.notFirst]
        -- another maker, of a tuple
        refine ⟨_, rfl, D3, _, rfl, .inl (SqL.of kt.1), fun t3 G6 s6 tT => ?_⟩
        have kt6 := kt.mono s6
        refine ⟨_, rfl, .inr (.inr ⟨t3, ys, zs, rfl, .inr tT, n1, n3, kt6.2, fun na => absurd al na, fun _ => ⟨fun z hz => (fit z hz).1, L, ld, fun _ x2 b2 wy2 G7 s7 ma2 gm2 nd2 => ?_, fun big => absurd small (by omega)⟩⟩)⟩
        obtain ⟨dx2, _, _, hx2, _, _⟩ := id ma2
        refine ⟨x2, dx2, _, rfl, hx2, rfl, ?_⟩
        refine ⟨(by show 0 ≤ sizeLine; decide), fun e1 he1 => ?_⟩
        have u1 := NF.Same.new (o := .tup []) (Same.refl G7) he1
        have t1 := SqT.of (K := K) (upd_same (H := G7) (a := e1) (o := .tup []))
        generalize upd G7 e1 (.tup []) = GB at u1 t1
        refine ⟨(by show 2 ≤ sizeLine; decide), fun e2 he2 => ?_⟩
        have u2 := NF.Same.new (o := .tup [V.int 0, V.int 0]) (Same.refl GB) he2
        have t2 := SqT.of (K := K) (upd_same (H := GB) (a := e2) (o := .tup [V.int 0, V.int 0]))
        generalize upd GB e2 (.tup [V.int 0, V.int 0]) = GC at u2 t2
        refine ⟨(by show 2 ≤ sizeLine; decide), fun e3 he3 => ?_⟩
        have u3 := NF.Same.new (o := .tup [V.ref e1, V.ref e2]) (Same.refl GC) he3
        have t3' := SqT.of (K := K) (upd_same (H := GC) (a := e3) (o := .tup [V.ref e1, V.ref e2]))
        generalize upd GC e3 (.tup [V.ref e1, V.ref e2]) = GD at u3 t3'
        have u := Same.trans u1 (Same.trans u2 u3)
        have ok : CrsOk [wy2].length [] [0, 0] := ⟨fun k hk => by simp at hk, fun k hk => by
          have : k = 0 := by simpa using hk
          subst this
          show 0 < 1
          decide, Nat.zero_le _, by decide, by decide⟩
        have cr : CrsT K GD e3 [] [0, 0] := ⟨e1, e2, t3', NF.Same.tup (Same.trans u2 u3) t1, NF.Same.tup u3 t2⟩
        have w2l : wy2.length ≤ 600 := by
          have := (gm2.wy wy2 (by simp)).2.1
          omega
        refine ⟨x2, e3, zs.length, 0, b2, [wy2], [], [0, 0], rfl, ma2.mono u, gm2, n1, cr.r, ok, by rw [deeds0]; exact Nat.zero_le _, by rw [deeds2, List.length_append]; omega, fun y5 z5 GF hz5 sF tb5 => ?_⟩
        rw [deeds0, deeds2, List.append_nil] at hz5
        have z0 : zs[0]? = some (zs[0]'n1) := List.getElem?_eq_getElem n1
        obtain rfl : zs[0]'n1 = z5 := by
          have hx0 : 0 < xs.length := by omega
          refine plain_one (pl 0 (xs[0]'hx0) _ (List.getElem?_eq_getElem hx0) z0) hz5 fun n hn => ?_
          rw [need_two hn, nd2 0 _ z0 n hn]
          exact (plain_at (pl 0 (xs[0]'hx0) _ (List.getElem?_eq_getElem hx0) z0) n hn).symm
        have s6F := Same.trans s7 (Same.trans u sF)
        have ktF := kt6.mono s6F
        have y0l : 0 < ys.length := by omega
        have tb0 := ktF.2.2 0 (ys[0]'y0l) _ (List.getElem?_eq_getElem y0l) z0
        obtain ⟨dy5, _, _, hy5, _⟩ := id tb5
        obtain ⟨dy0, _, _, hy0, _⟩ := id tb0
        refine ⟨_, rfl, D3, _, _, V.ref (ys[0]'y0l), rfl, rfl, SqL.of ktF.1, atI_nat (j := 0) (by rw [List.getElem?_map, List.getElem?_eq_getElem y0l]; rfl), ?_⟩
        refine ⟨y5, dy5, _, _, rfl, hy5, tc.ty hy0, nfC, y5, _, .ref (ys[0]'y0l), rfl, tb5, .inl ⟨_, _, rfl, tb0, _, rfl, ?_⟩⟩
        rw [decide_eq_true rfl]
        refine iteF ?_
        have sGF := Same.trans s6 s6F
        have SF := Src.mono SG sGF
        -- a place, and something odd
        refine ⟨_, rfl, _, rfl, D3, _, rfl, .inl (SqL.of ktF.1), ?_⟩
        rw [List.length_map, yl]
        refine ⟨_, _, rfl, rfl, wo GF p1, p1, (zs.length : Int) + 1, rfl, wo_same', wo_none, SF, by omega, by omega, fun d G8 d0 d1 s8 S8 => ?_⟩
        have kt8 := (ktF.woS SF hD3p).mono s8
        obtain ⟨p, rfl⟩ : ∃ p : Nat, d = (p : Int) := ⟨d.toNat, by omega⟩
        refine ⟨(by show 2 ≤ sizeLine; decide), fun tt2 htt2 => ?_⟩
        have s9 := NF.Same.new (o := .tup [V.int 1, V.int 2]) (Same.refl G8) htt2
        have ht9 := SqT.of (K := K) (upd_same (H := G8) (a := tt2) (o := .tup [V.int 1, V.int 2]))
        generalize upd G8 tt2 (.tup [V.int 1, V.int 2]) = G9 at s9 ht9
        refine ⟨(by show 5 ≤ sizeLine; decide), fun Lb hLb => ?_⟩
        have s10 := NF.Same.new (o := .lst [V.non, V.int 5, V.ref tt2, V.str "never", V.bl true]) (Same.refl G9) hLb
        have hL10 := upd_same (H := G9) (a := Lb) (o := .lst [V.non, V.int 5, V.ref tt2, V.str "never", V.bl true])
        have nLb := src_ne (o := .lst []) (Src.mono S8 s9) hLb
        have S10 := Src.mono S8 (Same.trans s9 s10)
        have kt10 := kt8.mono (Same.trans s9 s10)
        have ht10 := NF.Same.tup s10 ht9
        generalize upd G9 Lb (.lst [V.non, V.int 5, V.ref tt2, V.str "never", V.bl true]) = G10 at s10 hL10 S10 kt10 ht10
        refine ⟨_, rfl, wo G10 p1, p1, 5, rfl, wo_same', wo_none, S10, by decide, by decide, fun e G11 e0 e1' s11 S11 => ?_⟩
        have kt11 := (kt10.woS S10 hD3p).mono s11
        have hL11 := s11 _ _ ((wo_ne nLb).trans hL10)
        have ht11 : SqT K G11 tt2 [V.int 1, V.int 2] := by
          obtain ⟨_, _, _, e⟩ := S10
          exact NF.Same.tup s11 (SqT.wo ht10 e trivial)
        obtain ⟨bv, hbv, hbad⟩ : ∃ bv, atI [V.non, V.int 5, V.ref tt2, V.str "never", V.bl true] e = some bv ∧ ItemN K CT G11 bv none := by
          have : e = 0 ∨ e = 1 ∨ e = 2 ∨ e = 3 ∨ e = 4 := by omega
          rcases this with rfl | rfl | rfl | rfl | rfl
          · exact ⟨_, rfl, _, fun _ _ => .base .non, tc.non⟩
          · exact ⟨_, rfl, _, fun _ _ => .base (.int 5), tc.int⟩
          · exact ⟨_, rfl, _, fun _ s => tyx_tup (NF.Same.tup s ht11), tc.tup⟩
          · exact ⟨_, rfl, _, fun _ _ => .base (.str _), kS⟩
          · exact ⟨_, rfl, _, fun _ _ => .base (.bl true), kB⟩
        refine ⟨Lb, _, _, bv, rfl, rfl, SqL.of hL11, hbv, ?_⟩
        have ylen : (ys.map V.ref).length = zs.length := by rw [List.length_map, yl]
        refine' @both1H _ _ (fun G9 : Hp => Src G9 p1 ∧ KeepT K CT G9 D3 ys zs) (fun kk => ?A) ?B
        case A =>
          refine ⟨_, rfl, D3, _, rfl, .inl (SqL.of kt11.1), ?_⟩
          rw [ylen]
          refine ⟨_, _, rfl, rfl, _, rfl, ?_⟩
          by_cases c : ¬ zs.length < 3
          · refine iteF' (decide_eq_false (by omega)) (iteF ?_)
            have h0 := kk G11 ⟨S11, kt11⟩
            revert h0
            generalize G11 = Gz
            intro h0
            exact h0
          · refine iteT' (decide_eq_true (by omega)) ?_
            have hp : p ≤ zs.length := by omega
            refine ⟨_, rfl, _, rfl, _, rfl, D3, _, rfl, SqL.of kt11.1, fun c1 hc1 => ?_⟩
            rw [cut_to]
            have r1 := NF.Same.new (o := .lst ((ys.map V.ref).take p)) (Same.refl G11) hc1
            have h1 := upd_same (H := G11) (a := c1) (o := .lst ((ys.map V.ref).take p))
            generalize upd G11 c1 (.lst ((ys.map V.ref).take p)) = Ga at r1 h1
            refine ⟨_, rfl, (by show 1 ≤ sizeLine; decide), fun c2 hc2 => ?_⟩
            have r2 := NF.Same.new (o := .lst [bv]) (Same.refl Ga) hc2
            have h2 := upd_same (H := Ga) (a := c2) (o := .lst [bv])
            have h12 := r2 _ _ h1
            generalize upd Ga c2 (.lst [bv]) = Gb at r2 h2 h12
            refine ⟨c1, c2, _, _, rfl, rfl, h12, h2, by rw [List.length_take, ylen]; exact Nat.le_trans (show _ + 1 ≤ 10 by omega) (by decide), fun c3 hc3 => ?_⟩
            have r3 := NF.Same.new (o := .lst ((ys.map V.ref).take p ++ [bv])) (Same.refl Gb) hc3
            have h3 := upd_same (H := Gb) (a := c3) (o := .lst ((ys.map V.ref).take p ++ [bv]))
            have rr := Same.trans r1 (Same.trans r2 r3)
            generalize upd Gb c3 (.lst ((ys.map V.ref).take p ++ [bv])) = Gc at r3 h3 rr
            refine ⟨_, rfl, _, rfl, _, rfl, D3, _, rfl, SqL.of (rr _ _ kt11.1), fun c4 hc4 => ?_⟩
            rw [cut_from]
            have r4 := NF.Same.new (o := .lst ((ys.map V.ref).drop p)) (Same.refl Gc) hc4
            have h4 := upd_same (H := Gc) (a := c4) (o := .lst ((ys.map V.ref).drop p))
            have h34 := r4 _ _ h3
            generalize upd Gc c4 (.lst ((ys.map V.ref).drop p)) = Gd at r4 h4 h34
            refine ⟨c3, c4, _, _, rfl, rfl, h34, h4, by rw [List.length_append, List.length_take, List.length_drop, ylen]; exact Nat.le_trans (show _ + 1 + _ ≤ 10 by omega) (by decide), fun c5 hc5 => ?_⟩
            have r5 := NF.Same.new (o := .lst ((ys.map V.ref).take p ++ [bv] ++ (ys.map V.ref).drop p)) (Same.refl Gd) hc5
            have h5 := upd_same (H := Gd) (a := c5) (o := .lst ((ys.map V.ref).take p ++ [bv] ++ (ys.map V.ref).drop p))
            have ra := Same.trans rr (Same.trans r4 r5)
            generalize upd Gd c5 (.lst ((ys.map V.ref).take p ++ [bv] ++ (ys.map V.ref).drop p)) = Ge at r5 h5 ra
            have kte := kt11.mono ra
            obtain ⟨i1, i2, i3, i4⟩ := items_ins kte.2 (hbad.mono ra) (p := p) (by omega)
            have ll : ((ys.map V.ref).take p ++ [bv] ++ (ys.map V.ref).drop p).length = zs.length + 1 := by
              rw [List.length_append, List.length_append, List.length_take, List.length_drop, ylen]
              simp only [List.length_singleton]
              omega
            refine ⟨_, rfl, .inr (.inl ⟨c5, _, _, p, rfl, .inl (SqL.of h5), by omega, by omega, i1, i2, i3, i4, EQn.of fun Gf sf => ?_⟩)⟩
            refine ⟨_, rfl, rfl, _, rfl, iteF' (by simp) ?_⟩
            have h0 := kk Gf ⟨Src.mono S11 (Same.trans ra sf), kte.mono sf⟩
            revert h0
            generalize Gf = Gz
            intro h0
            exact h0
        case B =>
          rintro G ⟨SG, kt⟩
          -- no tables, too many, nothing
          refine ⟨(by show 0 ≤ sizeLine; decide), fun e1 he1 => ?_⟩
          have u1 := NF.Same.new (o := .tup []) (Same.refl G) he1
          have t1 := SqT.of (K := K) (upd_same (H := G) (a := e1) (o := .tup []))
          generalize upd G e1 (.tup []) = Ga at u1 t1
          refine ⟨_, rfl, .inl ⟨.inr ⟨e1, [], rfl, .inr t1, .inl rfl⟩, EQn.of fun Gb sb => ?_⟩⟩
          have kb := kt.mono (Same.trans u1 sb)
          have Sb := Src.mono SG (Same.trans u1 sb)
          refine ⟨_, rfl, rfl, _, rfl, iteF' (by simp) ?_⟩
          refine ⟨_, rfl, _, rfl, D3, _, rfl, SqL.of kb.1, fun c1 hc1 => ?_⟩
          rw [show (1 : Int) = ((1 : Nat) : Int) from rfl, cut_to]
          have r1 := NF.Same.new (o := .lst ((ys.map V.ref).take 1)) (Same.refl Gb) hc1
          have h1 := upd_same (H := Gb) (a := c1) (o := .lst ((ys.map V.ref).take 1))
          generalize upd Gb c1 (.lst ((ys.map V.ref).take 1)) = Gc at r1 h1
          have l1 : ((ys.map V.ref).take 1).length = 1 := by rw [List.length_take, ylen]; omega
          refine ⟨c1, 4, _, rfl, rfl, h1, by decide, by decide, by rw [l1]; exact Nat.le_trans (show 1 * 4 ≤ 10 by decide) (by decide), fun c2 hc2 => ?_⟩
          have r2 := NF.Same.new (o := .lst (List.replicate (4 : Int).toNat ((ys.map V.ref).take 1)).flatten) (Same.refl Gc) hc2
          have h2 := upd_same (H := Gc) (a := c2) (o := .lst (List.replicate (4 : Int).toNat ((ys.map V.ref).take 1)).flatten)
          generalize upd Gc c2 (.lst (List.replicate (4 : Int).toNat ((ys.map V.ref).take 1)).flatten) = Gd at r2 h2
          refine ⟨_, rfl, .inl ⟨.inr ⟨c2, _, rfl, .inl (SqL.of h2), .inr ?_⟩, EQn.of fun Ge se => ?_⟩⟩
          · rw [show (4 : Int).toNat = 4 from rfl]
            simp only [List.replicate, List.flatten_cons, List.flatten_nil, List.append_nil, List.length_append, l1]
            decide
          have sbe := Same.trans r1 (Same.trans r2 se)
          have ke := kb.mono sbe
          have Se := Src.mono Sb sbe
          refine ⟨_, rfl, rfl, _, rfl, iteF' (by simp) ?_⟩
          refine ⟨_, rfl, .inl ⟨.inl rfl, EQn.of fun Gf sf => ?_⟩⟩
          have Sf := Src.mono Se sf
          refine ⟨_, rfl, rfl, _, rfl, iteF' (by simp) ?_⟩
          -- one that comes for ever
          refine ⟨(by show 0 ≤ sizeLine; decide), fun a1 ha1 => ?_⟩
          have u1 := NF.Same.new (o := .tup []) (Same.refl Gf) ha1
          have t1 := SqT.of (K := K) (upd_same (H := Gf) (a := a1) (o := .tup []))
          generalize upd Gf a1 (.tup []) = Gg at u1 t1
          refine ⟨(by show 1 ≤ sizeLine; decide), fun a2 ha2 => ?_⟩
          have u2 := NF.Same.new (o := .tup [V.int 1]) (Same.refl Gg) ha2
          have t2 := SqT.of (K := K) (upd_same (H := Gg) (a := a2) (o := .tup [V.int 1]))
          generalize upd Gg a2 (.tup [V.int 1]) = Gh at u2 t2
          refine ⟨(by show 3 ≤ sizeLine; decide), fun a3 ha3 => ?_⟩
          have u3 := NF.Same.new (o := .tup [V.ref a1, V.ref a2, V.int 1]) (Same.refl Gh) ha3
          have t3 := SqT.of (K := K) (upd_same (H := Gh) (a := a3) (o := .tup [V.ref a1, V.ref a2, V.int 1]))
          generalize upd Gh a3 (.tup [V.ref a1, V.ref a2, V.int 1]) = Gi at u3 t3
          refine ⟨a3, ([], [1], 1), rfl, ⟨a1, a2, t3, NF.Same.tup (Same.trans u2 u3) t1, NF.Same.tup u3 t2⟩, ⟨⟨trivial, ⟨by decide, trivial⟩, fun h => absurd rfl h, by decide, fun h => absurd h (by simp), fun _ => by simp⟩, by simp, by simp, by simp⟩, fun S zS Gj hzS sj tS => ?_⟩
          have neS : zS.2.1 ≠ [] := (plain_size hzS).2.2.1 (by simp)
          -- one that ends behind two
          refine ⟨(by show 2 ≤ sizeLine; decide), fun a4 ha4 => ?_⟩
          have u4 := NF.Same.new (o := .tup [V.int 0, V.int 1]) (Same.refl Gj) ha4
          have t4 := SqT.of (K := K) (upd_same (H := Gj) (a := a4) (o := .tup [V.int 0, V.int 1]))
          generalize upd Gj a4 (.tup [V.int 0, V.int 1]) = Gk at u4 t4
          refine ⟨(by show 0 ≤ sizeLine; decide), fun a5 ha5 => ?_⟩
          have u5 := NF.Same.new (o := .tup []) (Same.refl Gk) ha5
          have t5 := SqT.of (K := K) (upd_same (H := Gk) (a := a5) (o := .tup []))
          generalize upd Gk a5 (.tup []) = Gl at u5 t5
          refine ⟨(by show 3 ≤ sizeLine; decide), fun a6 ha6 => ?_⟩
          have u6 := NF.Same.new (o := .tup [V.ref a4, V.ref a5, V.int 0]) (Same.refl Gl) ha6
          have t6 := SqT.of (K := K) (upd_same (H := Gl) (a := a6) (o := .tup [V.ref a4, V.ref a5, V.int 0]))
          generalize upd Gl a6 (.tup [V.ref a4, V.ref a5, V.int 0]) = Gm at u6 t6
          refine ⟨a6, ([0, 1], [], 0), rfl, ⟨a4, a5, t6, NF.Same.tup (Same.trans u5 u6) t4, NF.Same.tup u6 t5⟩, ⟨⟨⟨by decide, by decide, trivial⟩, trivial, fun _ h => absurd rfl h, Int.le_refl _, fun _ => rfl, fun h => absurd rfl h⟩, by simp, by simp, by simp⟩, fun Ee zE Gn hzE sn tE => ?_⟩
          obtain rfl := (plain_size hzE).2.2.2.2.2.2 rfl
          have sfn := Same.trans u1 (Same.trans u2 (Same.trans u3 (Same.trans sj (Same.trans u4 (Same.trans u5 (Same.trans u6 sn))))))
          have Sn := Src.mono Sf sfn
          have tS := tS.mono (Same.trans u4 (Same.trans u5 (Same.trans u6 sn)))
          -- rows of such as end apart
          refine ⟨_, _, rfl, ?_⟩
          refine ⟨_, rfl, _, rfl, (by show 2 ≤ sizeLine; decide), fun r1 hr1 => ?_⟩
          have v1 := NF.Same.new (o := .lst [V.ref S, V.ref Ee]) (Same.refl Gn) hr1
          have w1 := upd_same (H := Gn) (a := r1) (o := .lst [V.ref S, V.ref Ee])
          generalize upd Gn r1 (.lst [V.ref S, V.ref Ee]) = Go at v1 w1
          refine ⟨_, rfl, (by show 1 ≤ sizeLine; decide), fun b1 hb1 => ?_⟩
          have v2 := NF.Same.new (o := .tup [V.int 0]) (Same.refl Go) hb1
          have w2 := SqT.of (K := K) (upd_same (H := Go) (a := b1) (o := .tup [V.int 0]))
          generalize upd Go b1 (.tup [V.int 0]) = Gp at v2 w2
          refine ⟨(by show 0 ≤ sizeLine; decide), fun b2 hb2 => ?_⟩
          have v3 := NF.Same.new (o := .tup []) (Same.refl Gp) hb2
          have w3 := SqT.of (K := K) (upd_same (H := Gp) (a := b2) (o := .tup []))
          generalize upd Gp b2 (.tup []) = Gq at v3 w3
          refine ⟨(by show 3 ≤ sizeLine; decide), fun b3 hb3 => ?_⟩
          have v4 := NF.Same.new (o := .tup [V.ref b1, V.ref b2, V.int 0]) (Same.refl Gq) hb3
          have w4 := SqT.of (K := K) (upd_same (H := Gq) (a := b3) (o := .tup [V.ref b1, V.ref b2, V.int 0]))
          generalize upd Gq b3 (.tup [V.ref b1, V.ref b2, V.int 0]) = Gr at v4 w4
          refine ⟨b3, ([0], [], 0), rfl, ⟨b1, b2, w4, NF.Same.tup (Same.trans v3 v4) w2, NF.Same.tup v4 w3⟩, ⟨⟨⟨by decide, trivial⟩, trivial, fun _ h => absurd rfl h, Int.le_refl _, fun _ => rfl, fun h => absurd rfl h⟩, by simp, by simp, by simp⟩, fun O zO Gs hzO ss tO => ?_⟩
          obtain rfl := (plain_size hzO).2.2.2.2.2.2 rfl
          refine ⟨(by show 2 ≤ sizeLine; decide), fun r2 hr2 => ?_⟩
          have v5 := NF.Same.new (o := .lst [V.ref Ee, V.ref O]) (Same.refl Gs) hr2
          have w5 := upd_same (H := Gs) (a := r2) (o := .lst [V.ref Ee, V.ref O])
          generalize upd Gs r2 (.lst [V.ref Ee, V.ref O]) = Gt at v5 w5
          refine ⟨_, rfl, _, rfl, _, rfl, (by show 3 ≤ sizeLine; decide), fun r3 hr3 => ?_⟩
          have v6 := NF.Same.new (o := .lst [V.ref Ee, V.ref Ee, V.ref S]) (Same.refl Gt) hr3
          have w6 := upd_same (H := Gt) (a := r3) (o := .lst [V.ref Ee, V.ref Ee, V.ref S])
          generalize upd Gt r3 (.lst [V.ref Ee, V.ref Ee, V.ref S]) = Gu at v6 w6
          refine ⟨(by show 3 ≤ sizeLine; decide), fun ro hro => ?_⟩
          have v7 := NF.Same.new (o := .lst [V.ref r1, V.ref r2, V.ref r3]) (Same.refl Gu) hro
          have w7 := upd_same (H := Gu) (a := ro) (o := .lst [V.ref r1, V.ref r2, V.ref r3])
          generalize upd Gu ro (.lst [V.ref r1, V.ref r2, V.ref r3]) = Gv at v7 w7
          have vsv := Same.trans v5 (Same.trans v6 v7)
          have v1s := Same.trans v2 (Same.trans v3 (Same.trans v4 ss))
          have vn := Same.trans v1 (Same.trans v1s vsv)
          have tSv := tS.mono vn
          have tEv := tE.mono vn
          have tOv := tO.mono vsv
          have w1v := vsv _ _ (v1s _ _ w1)
          have w5v := v7 _ _ (v6 _ _ w5)
          have w6v := v7 _ _ w6
          have Sv := Src.mono Sn vn
          have eS : zS.2.1.isEmpty = false := by
            cases c : zS.2.1.isEmpty with
            | false => rfl
            | true => exact absurd (List.isEmpty_iff.mp c) neS
          have rows : ∀ v ∈ [V.ref r1, V.ref r2, V.ref r3], ∃ r ys' zs', v = .ref r ∧ Gv r = some (.lst (ys'.map V.ref)) ∧ TabsT K CT Gv ys' zs' ∧ 1 ≤ zs'.length ∧ zs'.length ≤ 3 ∧ ¬ Alike zs' := fun v hv => by
            simp only [List.mem_cons, List.not_mem_nil, or_false] at hv
            rcases hv with rfl | rfl | rfl
            · refine ⟨r1, [S, Ee], [zS, ([0, 1], [], 0)], rfl, w1v, ⟨rfl, fun i x z e1 e2 => ?_⟩, by simp, by simp, fun al => ?_⟩
              · match i, e1, e2 with
                | 0, rfl, rfl => exact tSv
                | 1, rfl, rfl => exact tEv
                | n + 2, e, _ => cases e
              · have e := al ([0, 1], [], 0) (by simp)
                have e : (decide (true = zS.2.1.isEmpty) && _) = true := e
                rw [eS] at e
                cases e
            · refine ⟨r2, [Ee, O], [([0, 1], [], 0), ([0], [], 0)], rfl, w5v, ⟨rfl, fun i x z e1 e2 => ?_⟩, by simp, by simp, fun al => ?_⟩
              · match i, e1, e2 with
                | 0, rfl, rfl => exact tEv
                | 1, rfl, rfl => exact tOv
                | n + 2, e, _ => cases e
              · have e := al ([0], [], 0) (by simp)
                exact absurd e (by decide)
            · refine ⟨r3, [Ee, Ee, S], [([0, 1], [], 0), ([0, 1], [], 0), zS], rfl, w6v, ⟨rfl, fun i x z e1 e2 => ?_⟩, by simp, by simp, fun al => ?_⟩
              · match i, e1, e2 with
                | 0, rfl, rfl => exact tEv
                | 1, rfl, rfl => exact tEv
                | 2, rfl, rfl => exact tSv
                | n + 3, e, _ => cases e
              · have e := al zS (by simp)
                have e : (decide (zS.2.1.isEmpty = true) && _) = true := e
                rw [eS] at e
                cases e
          refine ⟨ro, rfl, ⟨_, SqL.of w7⟩, ?_⟩
          refine for_list (xs := [V.ref r1, V.ref r2, V.ref r3]) (fun t σ G => Same Gv G ∧ ∃ y9 y10 : Option V, σ = [some (.ref sl), some (.ref p1), some (.ref D), some (.ref D3), some (.ref x), some (.ref q), v6', some (.int (p : Int)), some bv, y9, y10, some (.ref S), some (.ref Ee), v13]) ⟨Same.refl _, _, _, rfl⟩ (fun t σ G _ z => SqL.of (z.1 _ _ w7)) ?_ ?_
          · rintro t v σ G hv ⟨sG, y9, y10, rfl⟩
            obtain ⟨r, ys', zs', rfl, hr', tt', z1, z3, na⟩ := rows v (List.mem_of_getElem? hv)
            refine ⟨_, rfl, _, rfl, .inr (.inr ⟨r, ys', zs', rfl, .inl (SqL.of (sG _ _ hr')), z1, z3, tt'.mono sG, fun _ => EQn.of fun Gw sw => ?_, fun al => absurd al na⟩)⟩
            refine ⟨_, rfl, rfl, _, rfl, iteF' (by simp) ?_⟩
            exact ⟨Same.trans sG sw, _, _, rfl⟩
          · rintro σ G ⟨sG, y9, y10, rfl⟩
            have tSG := tSv.mono sG
            have tEG := tEv.mono sG
            have SG := Src.mono Sv sG
            obtain ⟨et1, et2, et3, et4⟩ := ended_tot
            -- two that end alike
            refine ⟨_, rfl, _, rfl, (by show 2 ≤ sizeLine; decide), fun r4 hr4 => ?_⟩
            have x1' := NF.Same.new (o := .lst [V.ref Ee, V.ref Ee]) (Same.refl G) hr4
            have y1' := upd_same (H := G) (a := r4) (o := .lst [V.ref Ee, V.ref Ee])
            generalize upd G r4 (.lst [V.ref Ee, V.ref Ee]) = Ga at x1' y1'
            have tEa := tEG.mono x1'
            refine ⟨_, rfl, .inr (.inr ⟨r4, [Ee, Ee], [([0, 1], [], 0), ([0, 1], [], 0)], rfl, .inl (SqL.of y1'), by simp, by simp, ⟨rfl, fun i x z e1 e2 => ?_⟩, fun na => absurd et2 na, fun _ => ⟨et1, 2, et3, fun _ Gb sb => ?_, fun big => absurd et4 (by omega)⟩⟩)⟩
            · match i, e1, e2 with
              | 0, rfl, rfl => exact tEa
              | 1, rfl, rfl => exact tEa
              | n + 2, e, _ => cases e
            refine ⟨rfl, _, rfl, iteF' rfl ?_⟩
            have sGb := Same.trans x1' sb
            -- a table and none
            refine ⟨_, rfl, (by show 2 ≤ sizeLine; decide), fun r5 hr5 => ?_⟩
            have x2' := NF.Same.new (o := .lst [V.ref S, V.non]) (Same.refl Gb) hr5
            have y2' := upd_same (H := Gb) (a := r5) (o := .lst [V.ref S, V.non])
            generalize upd Gb r5 (.lst [V.ref S, V.non]) = Gc at x2' y2'
            have tSc := tSG.mono (Same.trans sGb x2')
            refine ⟨_, rfl, .inr (.inl ⟨r5, [V.ref S, V.non], [some zS, none], 1, rfl, .inl (SqL.of y2'), by simp, by simp, rfl, fun i u o e1 e2 => ?_, rfl, fun j hj => ?_, EQn.of fun Gd sd => ?_⟩)⟩
            · match i, e1, e2 with
              | 0, rfl, rfl => exact ⟨S, rfl, tSc⟩
              | 1, rfl, rfl => exact ⟨_, fun _ _ => .base .non, tc.non⟩
              | n + 2, e, _ => cases e
            · have : j = 0 := by omega
              subst this
              exact ⟨zS, rfl⟩
            refine ⟨rfl, _, rfl, iteF' rfl ?_⟩
            have sGd := Same.trans sGb (Same.trans x2' sd)
            -- just few enough
            refine ⟨(by show 0 ≤ sizeLine; decide), fun a7 ha7 => ?_⟩
            have u7 := NF.Same.new (o := .tup []) (Same.refl Gd) ha7
            have t7 := SqT.of (K := K) (upd_same (H := Gd) (a := a7) (o := .tup []))
            generalize upd Gd a7 (.tup []) = Ge at u7 t7
            refine ⟨(by show 1 ≤ sizeLine; decide), fun a8 ha8 => ?_⟩
            have u8 := NF.Same.new (o := .tup [V.int 597]) (Same.refl Ge) ha8
            have t8 := SqT.of (K := K) (upd_same (H := Ge) (a := a8) (o := .tup [V.int 597]))
            generalize upd Ge a8 (.tup [V.int 597]) = Gg at u8 t8
            have t7 := NF.Same.tup u8 t7
            intro y dy ny nd' ne'
            refine ⟨y, dy, a7, a8, [], [597], 1, rfl, upd_same, row_made ny nd' (.inr t7), row_made ny nd' (.inr t8), ⟨trivial, ⟨by decide, trivial⟩, fun h => absurd rfl h, by decide, fun h => absurd h (by simp), fun _ => by simp⟩, by decide, fun z7 Gh hz7 s7 tb7 => ⟨rfl, ?_⟩⟩
            obtain ⟨_, f7, l7, m7, n7⟩ := single_tot (by decide) (by decide) (by decide) hz7
            have sh := same_made ny nd' s7
            refine ⟨(by show 1 ≤ sizeLine; decide), fun r6 hr6 => ?_⟩
            have x3' := NF.Same.new (o := .lst [V.ref y]) (Same.refl Gh) hr6
            have y3' := upd_same (H := Gh) (a := r6) (o := .lst [V.ref y])
            generalize upd Gh r6 (.lst [V.ref y]) = Gi at x3' y3'
            have tb7 := tb7.mono x3'
            refine ⟨_, rfl, .inr (.inr ⟨r6, [y], [z7], rfl, .inl (SqL.of y3'), by simp, by simp, ⟨rfl, fun i x z e1 e2 => ?_⟩, fun na => absurd (alike_all fun z hz => by rw [List.mem_singleton.mp hz]; exact n7) na, fun _ => ⟨fun z hz => by rw [List.mem_singleton.mp hz]; exact f7, 0, l7, fun _ Gj sj => ?_, fun big => absurd m7 (by omega)⟩⟩)⟩
            · match i, e1, e2 with
              | 0, rfl, rfl => exact tb7
              | n + 1, e, _ => cases e
            refine ⟨rfl, _, rfl, iteF' rfl ?_⟩
            have sGj := Same.trans sGd (Same.trans u7 (Same.trans u8 (Same.trans sh (Same.trans x3' sj))))
            have Sj := Src.mono SG sGj
            -- too many
            refine ⟨(by show 0 ≤ sizeLine; decide), fun a9 ha9 => ?_⟩
            have u9 := NF.Same.new (o := .tup []) (Same.refl Gj) ha9
            have t9 := SqT.of (K := K) (upd_same (H := Gj) (a := a9) (o := .tup []))
            generalize upd Gj a9 (.tup []) = Gk at u9 t9
            have Sk := Src.mono Sj u9
            refine ⟨_, rfl, wo Gk p1, p1, 9, rfl, wo_same', wo_none, Sk, by decide, by decide, fun d9 Gl d90 d91 sl9 Sl => ?_⟩
            have t9 : SqT K Gl a9 [] := by
              obtain ⟨_, _, _, e⟩ := Sk
              exact NF.Same.tup sl9 (SqT.wo t9 e trivial)
            refine ⟨_, _, rfl, rfl, (by show 1 ≤ sizeLine; decide), fun b8 hb8 => ?_⟩
            have u8 := NF.Same.new (o := .tup [V.int (700 + d9)]) (Same.refl Gl) hb8
            have t8 := SqT.of (K := K) (upd_same (H := Gl) (a := b8) (o := .tup [V.int (700 + d9)]))
            generalize upd Gl b8 (.tup [V.int (700 + d9)]) = Gm at u8 t8
            have t9 := NF.Same.tup u8 t9
            intro y dy ny nd' ne'
            refine ⟨y, dy, a9, b8, [], [700 + d9], 701, rfl, upd_same, row_made ny nd' (.inr t9), row_made ny nd' (.inr t8), ⟨trivial, ⟨by omega, trivial⟩, fun h => absurd rfl h, by decide, fun h => absurd h (by simp), fun _ => by show 700 + d9 ≤ 700 + d9 + 701; omega⟩, by show 0 + 1 ≤ 10000; decide, fun z7 Gn hz7 s7 tb7 => ⟨rfl, ?_⟩⟩
            obtain ⟨_, f7, l7, m7, n7⟩ := single_tot (by omega) (by decide) (by decide) hz7
            refine ⟨(by show 1 ≤ sizeLine; decide), fun r6 hr6 => ?_⟩
            have x3' := NF.Same.new (o := .lst [V.ref y]) (Same.refl Gn) hr6
            have y3' := upd_same (H := Gn) (a := r6) (o := .lst [V.ref y])
            generalize upd Gn r6 (.lst [V.ref y]) = Go at x3' y3'
            have tb7 := tb7.mono x3'
            refine ⟨_, rfl, .inr (.inr ⟨r6, [y], [z7], rfl, .inl (SqL.of y3'), by simp, by simp, ⟨rfl, fun i x z e1 e2 => ?_⟩, fun na => absurd (alike_all fun z hz => by rw [List.mem_singleton.mp hz]; exact n7) na, fun _ => ⟨fun z hz => by rw [List.mem_singleton.mp hz]; exact f7, 0, l7, fun le => absurd m7 (by omega), fun _ Gp sp => ?_⟩⟩)⟩
            · match i, e1, e2 with
              | 0, rfl, rfl => exact tb7
              | n + 1, e, _ => cases e
            refine ⟨rfl, ?_⟩
            rw [decide_eq_true rfl]
            exact k _
end
end K28
set_option Elab.async false
set_option linter.all false
set_option maxRecDepth 100000
set_option maxHeartbeats 4000000
namespace K28
open PySem PySem.Spec PyProof.Rows L2 He NF RZ NT
theorem all_ok {P : Program} {w : World} {K : PySem.W.Frag} {h : Heap} {mg : Str → Option Value} {f : Addr} (X : K.In h) (G : h.Ns mainGlobals mg) (hfa : mg ("law" : Str) = some (.ref f)) (c : SaysP exB fn K) :
    ∃ fd : FuncData, (∀ (s : Shared) (v : Value), BindsTo s fd ⟨[v], []⟩ [("_law_script", v)]) ∧ ∀ base : Heap, K.In base → base.Ns mainGlobals mg → FnOk P w K mg base CX0 11 f fd ["_law_script"] (spLaw K) := by
  have ht : ∀ f ∈ exL, f K = true := fun f hf => List.all_eq_true.mp c.truth f hf
  have b_nam : (namB gs FS) K = true := ht _ (List.mem_of_getElem? (i := 0) rfl)
  have b_blt_lcm : (bltB "lcm" "math.lcm") K = true := ht _ (List.mem_of_getElem? (i := 1) rfl)
  have b_int_MOST_INLETS : (intB "MOST_INLETS" 3) K = true := ht _ (List.mem_of_getElem? (i := 2) rfl)
  have b_int_MOST_WAYS : (intB "MOST_WAYS" 4) K = true := ht _ (List.mem_of_getElem? (i := 3) rfl)
  have b_int_MOST_DEEDS : (intB "MOST_DEEDS" 600) K = true := ht _ (List.mem_of_getElem? (i := 4) rfl)
  have b_int_MOST_DEEDS_OF_SEVERAL : (intB "MOST_DEEDS_OF_SEVERAL" 24) K = true := ht _ (List.mem_of_getElem? (i := 5) rfl)
  have b_int_MOST_FIRST : (intB "MOST_FIRST" 200) K = true := ht _ (List.mem_of_getElem? (i := 6) rfl)
  have b_int_MOST_THEN : (intB "MOST_THEN" 40) K = true := ht _ (List.mem_of_getElem? (i := 7) rfl)
  have b_exc_BadTables : (excKB "BadTables" "number") K = true := ht _ (List.mem_of_getElem? (i := 8) rfl)
  have b_exc_TooMany : (excKB "TooMany" "word") K = true := ht _ (List.mem_of_getElem? (i := 9) rfl)
  have b_exm : (exmPB exms) K = true := ht _ (List.mem_of_getElem? (i := 10) rfl)
  have b_cls : (clsB "Table") K = true := ht _ (List.mem_of_getElem? (i := 11) rfl)
  have b_fld : (fldsB "Table" ["head", "loop", "rise"]) K = true := ht _ (List.mem_of_getElem? (i := 12) rfl)
  have b_ty : (tyB "Table") K = true := ht _ (List.mem_of_getElem? (i := 13) rfl)
  have b_mk_Table : (mkB "Table") K = true := ht _ (List.mem_of_getElem? (i := 14) rfl)
  have b_call : (callB "Table") K = true := ht _ (List.mem_of_getElem? (i := 15) rfl)
  have b_clsM : (clsB "Maker") K = true := ht _ (List.mem_of_getElem? (i := 16) rfl)
  have b_fldM : (fldsB "Maker" ["inlets", "begin", "ways"]) K = true := ht _ (List.mem_of_getElem? (i := 17) rfl)
  have b_tyM : (tyB "Maker") K = true := ht _ (List.mem_of_getElem? (i := 18) rfl)
  have b_mk_Maker : (mkB "Maker") K = true := ht _ (List.mem_of_getElem? (i := 19) rfl)
  have b_met_need : (metB "Maker" "need") K = true := ht _ (List.mem_of_getElem? (i := 20) rfl)
  have b_eq : (eqB "Table") K = true := ht _ (List.mem_of_getElem? (i := 21) rfl)
  have b_kty : (kTyB "Table") K = true := ht _ (List.mem_of_getElem? (i := 22) rfl)
  have b_clsR : (clsB "Round") K = true := ht _ (List.mem_of_getElem? (i := 23) rfl)
  have b_fldR : (fldsB "Round" ["taken", "marks"]) K = true := ht _ (List.mem_of_getElem? (i := 24) rfl)
  have b_mk_Round : (mkB "Round") K = true := ht _ (List.mem_of_getElem? (i := 25) rfl)
  have b_clsO : (clsB "Outlook") K = true := ht _ (List.mem_of_getElem? (i := 26) rfl)
  have b_fldO : (fldsB "Outlook" ["most", "begin", "rounds", "giving", "shares", "taken", "lasts"]) K = true := ht _ (List.mem_of_getElem? (i := 27) rfl)
  have b_mk_Outlook : (mkB "Outlook") K = true := ht _ (List.mem_of_getElem? (i := 28) rfl)
  have b_met_better : (metB "Outlook" "better") K = true := ht _ (List.mem_of_getElem? (i := 29) rfl)
  have b_met_stopping : (metB "Outlook" "stopping") K = true := ht _ (List.mem_of_getElem? (i := 30) rfl)
  have b_met_look : (metB "Outlook" "look") K = true := ht _ (List.mem_of_getElem? (i := 31) rfl)
  have b_met_best_way : (metB "Outlook" "best_way") K = true := ht _ (List.mem_of_getElem? (i := 32) rfl)
  have b_met_values_up_to : (metB "Outlook" "values_up_to") K = true := ht _ (List.mem_of_getElem? (i := 33) rfl)
  have b_met_form : (metB "Outlook" "form") K = true := ht _ (List.mem_of_getElem? (i := 34) rfl)
  have T : Txt K mg gs FS := nam_ok b_nam X G
  have h_lcm := blt_ok b_blt_lcm X G
  obtain ⟨tok_MOST_INLETS, h_MOST_INLETS⟩ := int_ok b_int_MOST_INLETS X G
  obtain ⟨tok_MOST_WAYS, h_MOST_WAYS⟩ := int_ok b_int_MOST_WAYS X G
  obtain ⟨tok_MOST_DEEDS, h_MOST_DEEDS⟩ := int_ok b_int_MOST_DEEDS X G
  obtain ⟨tok_MOST_DEEDS_OF_SEVERAL, h_MOST_DEEDS_OF_SEVERAL⟩ := int_ok b_int_MOST_DEEDS_OF_SEVERAL X G
  obtain ⟨tok_MOST_FIRST, h_MOST_FIRST⟩ := int_ok b_int_MOST_FIRST X G
  obtain ⟨tok_MOST_THEN, h_MOST_THEN⟩ := int_ok b_int_MOST_THEN X G
  have x_BadTables := excK_ok b_exc_BadTables
  have x_TooMany := excK_ok b_exc_TooMany
  have kSB := of_decide_eq_true (ba b_kty).1
  have kBB := of_decide_eq_true (ba b_kty).2
  have tcl := cls_ok b_cls
  have ty := ty_ok b_ty
  have tc : TabC K (ga K "Table") := ⟨tcl, flds_ok b_fld (by decide +kernel), flds_ok b_fld (by decide +kernel), flds_ok b_fld (by decide +kernel), ty.ac, ty.ag, ty.at_, ty.am, ty.self, ty.tup, ty.int, ty.non⟩
  have tyM := ty_ok b_tyM
  have mc : MakC K (ga K "Maker") := ⟨cls_ok b_clsM, flds_ok b_fldM (by decide +kernel), flds_ok b_fldM (by decide +kernel), flds_ok b_fldM (by decide +kernel), tyM.ac, tyM.ag, tyM.at_, tyM.am, tyM.self, tyM.tup, tyM.int⟩
  have rc : RouC K (ga K "Round") := ⟨cls_ok b_clsR, flds_ok b_fldR (by decide +kernel), flds_ok b_fldR (by decide +kernel)⟩
  have oc : OutC K (ga K "Outlook") := ⟨cls_ok b_clsO, flds_ok b_fldO (by decide +kernel), flds_ok b_fldO (by decide +kernel), flds_ok b_fldO (by decide +kernel), flds_ok b_fldO (by decide +kernel), flds_ok b_fldO (by decide +kernel), flds_ok b_fldO (by decide +kernel), flds_ok b_fldO (by decide +kernel)⟩
  obtain ⟨f0, F0⟩ := c.def_ 0 (d := dG "shortest_lap" s_shortest_lap) rfl
  obtain ⟨f1, F1⟩ := c.def_ 1 (d := dG "plain_form" s_plain_form) rfl
  obtain ⟨f2, F2⟩ := c.def_ 2 (d := dG "is_integer" s_is_integer) rfl
  obtain ⟨f3, F3⟩ := c.def_ 3 (d := dG "is_count" s_is_count) rfl
  obtain ⟨f4, F4⟩ := c.def_ 4 (d := dG "is_row" s_is_row) rfl
  obtain ⟨f5, F5⟩ := c.def_ 5 (d := dG "is_climb" s_is_climb) rfl
  obtain ⟨f6, F6⟩ := c.def_ 6 (d := dG "check_table" s_check_table) rfl
  obtain ⟨f7, F7⟩ := c.def_ 7 (d := dM "Table" "__init__" "Table.__init__" s_Table_init [.adr e0, .int 0]) rfl
  obtain ⟨f8, F8⟩ := c.def_ 8 (d := dG "end_of" s_end_of) rfl
  obtain ⟨f9, F9⟩ := c.def_ 9 (d := dG "value_at" s_value_at) rfl
  obtain ⟨f10, F10⟩ := c.def_ 10 (d := dM "Table" "__call__" "Table.__call__" s_Table_call []) rfl
  obtain ⟨f11, F11⟩ := c.def_ 11 (d := dM "Table" "__eq__" "Table.__eq__" s_Table_eq []) rfl
  obtain ⟨f12, F12⟩ := c.def_ 12 (d := dG "is_deed" s_is_deed) rfl
  obtain ⟨f13, F13⟩ := c.def_ 13 (d := dG "are_deeds" s_are_deeds) rfl
  obtain ⟨f14, F14⟩ := c.def_ 14 (d := dG "are_ways" s_are_ways) rfl
  obtain ⟨f15, F15⟩ := c.def_ 15 (d := dG "check_maker" s_check_maker) rfl
  obtain ⟨f16, F16⟩ := c.def_ 16 (d := dM "Maker" "__init__" "Maker.__init__" s_Maker_init []) rfl
  obtain ⟨f17, F17⟩ := c.def_ 17 (d := dM "Round" "__init__" "Round.__init__" s_Round_init []) rfl
  obtain ⟨f18, F18⟩ := c.def_ 18 (d := dG "is_pair" s_is_pair) rfl
  obtain ⟨f19, F19⟩ := c.def_ 19 (d := dG "are_numbers" s_are_numbers) rfl
  obtain ⟨f20, F20⟩ := c.def_ 20 (d := dG "is_course" s_is_course) rfl
  obtain ⟨f21, F21⟩ := c.def_ 21 (d := dG "check_inlet" s_check_inlet) rfl
  obtain ⟨f22, F22⟩ := c.def_ 22 (d := dG "marks_along" s_marks_along) rfl
  obtain ⟨f23, F23⟩ := c.def_ 23 (d := dM "Maker" "need" "Maker.need" s_Maker_need []) rfl
  obtain ⟨f24, F24⟩ := c.def_ 24 (d := dG "_law_pick" s__law_pick) rfl
  obtain ⟨f25, F25⟩ := c.def_ 25 (d := dG "_law_source" s__law_source) rfl
  obtain ⟨f26, F26⟩ := c.def_ 26 (d := dG "_law_plain" s__law_plain) rfl
  obtain ⟨f27, F27⟩ := c.def_ 27 (d := dG "_law_ahead" s__law_ahead) rfl
  obtain ⟨f28, F28⟩ := c.def_ 28 (d := dG "_law_on" s__law_on) rfl
  obtain ⟨f29, F29⟩ := c.def_ 29 (d := dG "_law_is_integer" s__law_is_integer) rfl
  obtain ⟨f30, F30⟩ := c.def_ 30 (d := dG "_law_is_count" s__law_is_count) rfl
  obtain ⟨f31, F31⟩ := c.def_ 31 (d := dG "_law_same" s__law_same) rfl
  obtain ⟨f32, F32⟩ := c.def_ 32 (d := dG "_law_end" s__law_end) rfl
  obtain ⟨f33, F33⟩ := c.def_ 33 (d := dG "_law_at" s__law_at) rfl
  obtain ⟨f34, F34⟩ := c.def_ 34 (d := dM "Outlook" "better" "Outlook.better" s_Outlook_better []) rfl
  obtain ⟨f35, F35⟩ := c.def_ 35 (d := dM "Outlook" "stopping" "Outlook.stopping" s_Outlook_stopping []) rfl
  obtain ⟨f36, F36⟩ := c.def_ 36 (d := dM "Outlook" "__init__" "Outlook.__init__" s_Outlook_init []) rfl
  obtain ⟨f37, F37⟩ := c.def_ 37 (d := dM "Outlook" "look" "Outlook.look" s_Outlook_look []) rfl
  obtain ⟨f38, F38⟩ := c.def_ 38 (d := dM "Outlook" "best_way" "Outlook.best_way" s_Outlook_best_way []) rfl
  obtain ⟨f39, F39⟩ := c.def_ 39 (d := dM "Outlook" "values_up_to" "Outlook.values_up_to" s_Outlook_values_up_to []) rfl
  obtain ⟨f40, F40⟩ := c.def_ 40 (d := dM "Outlook" "form" "Outlook.form" s_Outlook_form []) rfl
  obtain ⟨f41, F41⟩ := c.def_ 41 (d := dG "least" s_least) rfl
  obtain ⟨f42, F42⟩ := c.def_ 42 (d := dG "greatest" s_greatest) rfl
  obtain ⟨f43, F43⟩ := c.def_ 43 (d := dG "_law_rising" s__law_rising) rfl
  obtain ⟨f44, F44⟩ := c.def_ 44 (d := dG "_law_raw" s__law_raw) rfl
  obtain ⟨f45, F45⟩ := c.def_ 45 (d := dG "_law_counts" s__law_counts) rfl
  obtain ⟨f46, F46⟩ := c.def_ 46 (d := dG "_law_table" s__law_table) rfl
  obtain ⟨f47, F47⟩ := c.def_ 47 (d := dG "_law_ended" s__law_ended) rfl
  obtain ⟨f48, F48⟩ := c.def_ 48 (d := dG "_law_tables" s__law_tables) rfl
  obtain ⟨f49, F49⟩ := c.def_ 49 (d := dG "check_needs" s_check_needs) rfl
  obtain ⟨f50, F50⟩ := c.def_ 50 (d := dG "shared_lap" s_shared_lap) rfl
  obtain ⟨f51, F51⟩ := c.def_ 51 (d := dG "steps_to" s_steps_to) rfl
  obtain ⟨f52, F52⟩ := c.def_ 52 (d := dG "maker_of" s_maker_of) rfl
  obtain ⟨f53, F53⟩ := c.def_ 53 (d := dG "_law_seen" s__law_seen) rfl
  obtain ⟨f54, F54⟩ := c.def_ 54 (d := dG "law" s_law) rfl
  obtain ⟨f55, F55⟩ := c.def_ 55 (d := dM "BadTables" "__init__" "BadTables.__init__" s_BadTables_init []) rfl
  obtain ⟨f56, F56⟩ := c.def_ 56 (d := dM "TooMany" "__init__" "TooMany.__init__" s_TooMany_init []) rfl
  have e := hfa.symm.trans (T.gl "law" (by decide +kernel))
  cases e
  have bl := FunD.bindsA (ps := ["_law_script"]) F54 fun _ _ _ _ _ _ us hl => match us, hl with | [_], _ => rfl
  refine ⟨f54, fun s v => bl s [v] rfl, fun base _ _ => ?_⟩
  have m_BadTables : ExcI P w K mg base "BadTables" "number" := x_BadTables.excI T (by decide +kernel) F55 rfl ⟨rfl, rfl, rfl, by decide +kernel, rfl, by decide +kernel, by decide +kernel⟩ (Or.inl rfl) (Or.inl rfl) (by decide) (by decide) (F55.bindsN fun _ _ _ _ _ _ us hl => match us, hl with | [_, _], _ => rfl)
  have m_TooMany : ExcI P w K mg base "TooMany" "word" := x_TooMany.excI T (by decide +kernel) F56 rfl ⟨rfl, rfl, rfl, by decide +kernel, rfl, by decide +kernel, by decide +kernel⟩ (Or.inl rfl) (Or.inl rfl) (by decide) (by decide) (F56.bindsN fun _ _ _ _ _ _ us hl => match us, hl with | [_, _], _ => rfl)
  have c_shortest_lap : Cal P w K mg base 1 "shortest_lap" (spLap K) := Cal.mk' F0 (ok_shortest_lap F0 T rfl) (T.gl _ (by decide +kernel)) (F0.bindsN fun _ _ _ _ _ _ us hl => match us, hl with | [_, _], _ => rfl)
  have c_plain_form : Cal P w K mg base 2 "plain_form" (spForm K) := Cal.mk' F1 (ok_plain_form F1 T rfl c_shortest_lap) (T.gl _ (by decide +kernel)) (F1.bindsN fun _ _ _ _ _ _ us hl => match us, hl with | [_, _, _], _ => rfl)
  have c_is_integer : Cal P w K mg base 1 "is_integer" spIsInt := Cal.mk' F2 (ok_is_integer F2 T) (T.gl _ (by decide +kernel)) (F2.bindsN fun _ _ _ _ _ _ us hl => match us, hl with | [_], _ => rfl)
  have c_is_count : Cal P w K mg base 2 "is_count" spIsCount := Cal.mk' F3 (ok_is_count F3 T c_is_integer) (T.gl _ (by decide +kernel)) (F3.bindsN fun _ _ _ _ _ _ us hl => match us, hl with | [_], _ => rfl)
  have c_is_row : Cal P w K mg base 1 "is_row" (spIsRow K) := Cal.mk' F4 (ok_is_row F4 T) (T.gl _ (by decide +kernel)) (F4.bindsN fun _ _ _ _ _ _ us hl => match us, hl with | [_], _ => rfl)
  have c_is_climb : Cal P w K mg base 2 "is_climb" (spIsClimb K) := Cal.mk' F5 (ok_is_climb F5 T c_is_row c_is_integer) (T.gl _ (by decide +kernel)) (F5.bindsN fun _ _ _ _ _ _ us hl => match us, hl with | [_], _ => rfl)
  have c_check_table : Cal P w K mg base 3 "check_table" (spCheck K) := Cal.mk' F6 (ok_check_table F6 T c_is_climb c_is_count) (T.gl _ (by decide +kernel)) (F6.bindsN fun _ _ _ _ _ _ us hl => match us, hl with | [_, _, _], _ => rfl)
  have oi_Table : FnOk P w K mg base CX0 4 _ f7 ["self", "head", "loop", "rise"] (spInit K (ga K "Table")) := (ok_Table_init F7 T tcl tc.hd tc.lp tc.ri c_check_table c_plain_form)
  obtain ⟨dd_m_Table, vv_m_Table, bb_m_Table⟩ := F7.binds1 (ps := ["self", "head", "loop", "rise"]) 4 2 (List.cons_ne_nil _ _) rfl fun T kV doc pm an cdv ct us its hl hd => match us, hl, its, hd with | [_, _, _, _], _, [_, _], _ => ⟨_, rfl, rfl⟩
  have m_Table : Mak P w K mg base 4 0 "Table" (ga K "Table") (spInit K (ga K "Table")) [] := ⟨_, _, _, _, mk_ok b_mk_Table, oi_Table, T.gl "Table" (by decide +kernel), bb_m_Table, vv_m_Table⟩
  have c_end_of : Cal P w K mg base 1 "end_of" (spEnd K (ga K "Table")) := Cal.mk' F8 (ok_end_of F8 T tc) (T.gl _ (by decide +kernel)) (F8.bindsN fun _ _ _ _ _ _ us hl => match us, hl with | [_], _ => rfl)
  have c_value_at : Cal P w K mg base 2 "value_at" (spAt K (ga K "Table")) := Cal.mk' F9 (ok_value_at F9 T tc c_end_of) (T.gl _ (by decide +kernel)) (F9.bindsN fun _ _ _ _ _ _ us hl => match us, hl with | [_, _], _ => rfl)
  have o_call : CalO P w K mg base 3 (ga K "Table") (spAt K (ga K "Table")) := ⟨_, f10, _, call_ok b_call, (ok_Table_call F10 T c_is_count c_value_at), (F10.bindsN fun _ _ _ _ _ _ us hl => match us, hl with | [_, _], _ => rfl)⟩
  have o_eq : EqC P w K mg base 1 (ga K "Table") (spEq K (ga K "Table")) := ⟨_, f11, _, (ok_Table_eq F11 T (T.gl "Table" (by decide +kernel)) tc), (eq_ok b_eq).e1, (eq_ok b_eq).e2, (eq_ok b_eq).e3, (F11.bindsN fun _ _ _ _ _ _ us hl => match us, hl with | [_, _], _ => rfl)⟩
  have c_is_deed : Cal P w K mg base 3 "is_deed" spDeed := Cal.mk' F12 (ok_is_deed F12 T c_is_count) (T.gl _ (by decide +kernel)) (F12.bindsN fun _ _ _ _ _ _ us hl => match us, hl with | [_, _], _ => rfl)
  have c_are_deeds : Cal P w K mg base 4 "are_deeds" (spDeeds K) := Cal.mk' F13 (ok_are_deeds F13 T c_is_row c_is_deed) (T.gl _ (by decide +kernel)) (F13.bindsN fun _ _ _ _ _ _ us hl => match us, hl with | [_, _], _ => rfl)
  have c_are_ways : Cal P w K mg base 5 "are_ways" (spWays K) := Cal.mk' F14 (ok_are_ways F14 T h_MOST_WAYS c_is_row c_are_deeds) (T.gl _ (by decide +kernel)) (F14.bindsN fun _ _ _ _ _ _ us hl => match us, hl with | [_, _], _ => rfl)
  have c_check_maker : Cal P w K mg base 6 "check_maker" (spCheckM K) := Cal.mk' F15 (ok_check_maker F15 T h_MOST_INLETS h_MOST_DEEDS h_MOST_DEEDS_OF_SEVERAL c_is_integer c_are_deeds c_are_ways) (T.gl _ (by decide +kernel)) (F15.bindsN fun _ _ _ _ _ _ us hl => match us, hl with | [_, _, _], _ => rfl)
  have oi_Maker : FnOk P w K mg base CX0 7 _ f16 ["self", "inlets", "begin", "ways"] (spMkInit K (ga K "Maker")) := (ok_Maker_init F16 T mc c_check_maker)
  have m_Maker : Mak P w K mg base 7 0 "Maker" (ga K "Maker") (spMkInit K (ga K "Maker")) [] := ⟨_, _, _, _, mk_ok b_mk_Maker, oi_Maker, T.gl "Maker" (by decide +kernel), (F16.bindsN fun _ _ _ _ _ _ us hl => match us, hl with | [_, _, _, _], _ => rfl), .nil⟩
  have oi_Round : FnOk P w K mg base CX0 1 _ f17 ["self", "deeds", "inlet"] (spRoInit K (ga K "Round")) := (ok_Round_init F17 T rc)
  have m_Round2 : Mak P w K mg base 1 0 "Round" (ga K "Round") (spRoInit K (ga K "Round")) [] := ⟨_, _, _, _, mk_ok b_mk_Round, oi_Round, T.gl "Round" (by decide +kernel), (F17.bindsN fun _ _ _ _ _ _ us hl => match us, hl with | [_, _, _], _ => rfl), .nil⟩
  have c_is_pair : Cal P w K mg base 2 "is_pair" (spPair K) := Cal.mk' F18 (ok_is_pair F18 T c_is_row) (T.gl _ (by decide +kernel)) (F18.bindsN fun _ _ _ _ _ _ us hl => match us, hl with | [_], _ => rfl)
  have c_are_numbers : Cal P w K mg base 3 "are_numbers" (spNums K) := Cal.mk' F19 (ok_are_numbers F19 T c_is_row c_is_count) (T.gl _ (by decide +kernel)) (F19.bindsN fun _ _ _ _ _ _ us hl => match us, hl with | [_, _, _, _], _ => rfl)
  have c_is_course : Cal P w K mg base 4 "is_course" (spCrs K (ga K "Maker")) := Cal.mk' F20 (ok_is_course F20 T mc h_MOST_FIRST h_MOST_THEN c_is_pair c_are_numbers) (T.gl _ (by decide +kernel)) (F20.bindsN fun _ _ _ _ _ _ us hl => match us, hl with | [_, _], _ => rfl)
  have c_check_inlet : Cal P w K mg base 3 "check_inlet" (spChkI K (ga K "Maker")) := Cal.mk' F21 (ok_check_inlet F21 T mc c_is_count) (T.gl _ (by decide +kernel)) (F21.bindsN fun _ _ _ _ _ _ us hl => match us, hl with | [_, _], _ => rfl)
  have c_marks_along : Cal P w K mg base 1 "marks_along" (spMarks K (ga K "Round")) := Cal.mk' F22 (ok_marks_along F22 T rc) (T.gl _ (by decide +kernel)) (F22.bindsN fun _ _ _ _ _ _ us hl => match us, hl with | [_, _], _ => rfl)
  have o_need : MetC P w K mg base 6 (ga K "Maker") "need" (spNeed K (ga K "Table") (ga K "Maker")) := ⟨mc.cl, _, f23, _, met_ok b_met_need, (ok_Maker_need F23 T mc rc c_check_inlet c_is_course c_marks_along m_Round2 m_Table), (F23.bindsN fun _ _ _ _ _ _ us hl => match us, hl with | [_, _, _], _ => rfl)⟩
  have c__law_pick : Cal P w K mg base 1 "_law_pick" spPick := Cal.mk' F24 (ok_pick F24 T (by decide +kernel)) (T.gl _ (by decide +kernel)) (F24.bindsN fun _ _ _ _ _ _ us hl => match us, hl with | [_, _], _ => rfl)
  have c__law_source : Cal P w K mg base 1 "_law_source" (spSource K) := Cal.mk' F25 (ok_source F25 T (by decide +kernel) (by decide +kernel) (by decide +kernel)) (T.gl _ (by decide +kernel)) (F25.bindsN fun _ _ _ _ _ _ us hl => match us, hl with | [_, _], _ => rfl)
  have c__law_plainL : Cal P w K mg base 1 "_law_plain" (spPlainL K) := Cal.mk' F26 (ok__law_plainL F26 T) (T.gl _ (by decide +kernel)) (F26.bindsN fun _ _ _ _ _ _ us hl => match us, hl with | [_, _, _], _ => rfl)
  have c__law_plain : Cal P w K mg base 1 "_law_plain" (spPlain K) := Cal.mk' F26 (ok__law_plain F26 T) (T.gl _ (by decide +kernel)) (F26.bindsN fun _ _ _ _ _ _ us hl => match us, hl with | [_, _, _], _ => rfl)
  have c__law_ahead : Cal P w K mg base 1 "_law_ahead" (spLAhead K) := Cal.mk' F27 (ok__law_ahead F27 T) (T.gl _ (by decide +kernel)) (F27.bindsN fun _ _ _ _ _ _ us hl => match us, hl with | [_, _], _ => rfl)
  have c__law_on : Cal P w K mg base 2 "_law_on" (spLOn K) := Cal.mk' F28 (ok__law_on F28 T c__law_ahead c__law_plainL) (T.gl _ (by decide +kernel)) (F28.bindsN fun _ _ _ _ _ _ us hl => match us, hl with | [_, _, _], _ => rfl)
  have c__law_is_integer : Cal P w K mg base 1 "_law_is_integer" spIsInt := Cal.mk' F29 (ok__law_is_integer F29 T) (T.gl _ (by decide +kernel)) (F29.bindsN fun _ _ _ _ _ _ us hl => match us, hl with | [_], _ => rfl)
  have c__law_is_count : Cal P w K mg base 2 "_law_is_count" spIsCount := Cal.mk' F30 (ok__law_is_count F30 T c__law_is_integer) (T.gl _ (by decide +kernel)) (F30.bindsN fun _ _ _ _ _ _ us hl => match us, hl with | [_], _ => rfl)
  have c__law_same : Cal P w K mg base 3 "_law_same" (spSame K (ga K "Table")) := Cal.mk' F31 (ok__law_same F31 T (T.gl "Table" (by decide +kernel)) tc c__law_is_count) (T.gl _ (by decide +kernel)) (F31.bindsN fun _ _ _ _ _ _ us hl => match us, hl with | [_, _], _ => rfl)
  have c__law_end : Cal P w K mg base 1 "_law_end" (spLEnd K) := Cal.mk' F32 (ok__law_end F32 T) (T.gl _ (by decide +kernel)) (F32.bindsN fun _ _ _ _ _ _ us hl => match us, hl with | [_], _ => rfl)
  have c__law_at : Cal P w K mg base 2 "_law_at" (spLAt K) := Cal.mk' F33 (ok__law_at F33 T c__law_end) (T.gl _ (by decide +kernel)) (F33.bindsN fun _ _ _ _ _ _ us hl => match us, hl with | [_, _], _ => rfl)
  have o_better : MetC P w K mg base 1 (ga K "Outlook") "better" (spBet K (ga K "Outlook")) := ⟨oc.cl, _, f34, _, met_ok b_met_better, (ok_Outlook_better F34 T oc), (F34.bindsN fun _ _ _ _ _ _ us hl => match us, hl with | [_, _, _], _ => rfl)⟩
  have o_stopping : MetC P w K mg base 1 (ga K "Outlook") "stopping" (spStop K (ga K "Outlook") (ga K "Round")) := ⟨oc.cl, _, f35, _, met_ok b_met_stopping, (ok_Outlook_stopping F35 T oc rc), (F35.bindsN fun _ _ _ _ _ _ us hl => match us, hl with | [_], _ => rfl)⟩
  have oi_Outlook : FnOk P w K mg base CX0 3 _ f36 ["self", "maker", "inlet", "most"] (spOInit K (ga K "Outlook") (ga K "Maker") (ga K "Round")) := (ok_Outlook_init F36 T oc mc rc m_Round2)
  have m_Outlook : Mak P w K mg base 3 0 "Outlook" (ga K "Outlook") (spOInit K (ga K "Outlook") (ga K "Maker") (ga K "Round")) [] := ⟨_, _, _, _, mk_ok b_mk_Outlook, oi_Outlook, T.gl "Outlook" (by decide +kernel), (F36.bindsN fun _ _ _ _ _ _ us hl => match us, hl with | [_, _, _, _], _ => rfl), .nil⟩
  have o_look : MetC P w K mg base 3 (ga K "Outlook") "look" (spLook K (ga K "Outlook") (ga K "Round")) := ⟨oc.cl, _, f37, _, met_ok b_met_look, (ok_Outlook_look F37 T oc rc o_better), (F37.bindsN fun _ _ _ _ _ _ us hl => match us, hl with | [_, _, _], _ => rfl)⟩
  have o_best_way : MetC P w K mg base 3 (ga K "Outlook") "best_way" (spBestW K (ga K "Outlook") (ga K "Round")) := ⟨oc.cl, _, f38, _, met_ok b_met_best_way, (ok_Outlook_best_way F38 T oc rc o_better), (F38.bindsN fun _ _ _ _ _ _ us hl => match us, hl with | [_], _ => rfl)⟩
  have o_values_up_to : MetC P w K mg base 3 (ga K "Outlook") "values_up_to" (spVals K (ga K "Outlook") (ga K "Round")) := ⟨oc.cl, _, f39, _, met_ok b_met_values_up_to, (ok_Outlook_values_up_to F39 T oc rc o_better), (F39.bindsN fun _ _ _ _ _ _ us hl => match us, hl with | [_, _], _ => rfl)⟩
  have o_form : MetC P w K mg base 5 (ga K "Outlook") "form" (spForm2 K (ga K "Outlook") (ga K "Round")) := ⟨oc.cl, _, f40, _, met_ok b_met_form, (ok_Outlook_form F40 T oc rc o_stopping o_best_way o_look o_values_up_to), (F40.bindsN fun _ _ _ _ _ _ us hl => match us, hl with | [_], _ => rfl)⟩
  have c_least : Cal P w K mg base 7 "least" (spExt K (ga K "Maker") (ga K "Table") false) := Cal.mk' F41 (ok_least F41 T c_check_inlet m_Outlook o_form m_Table) (T.gl _ (by decide +kernel)) (F41.bindsN fun _ _ _ _ _ _ us hl => match us, hl with | [_, _], _ => rfl)
  have c_greatest : Cal P w K mg base 7 "greatest" (spExt K (ga K "Maker") (ga K "Table") true) := Cal.mk' F42 (ok_greatest F42 T c_check_inlet m_Outlook o_form m_Table) (T.gl _ (by decide +kernel)) (F42.bindsN fun _ _ _ _ _ _ us hl => match us, hl with | [_, _], _ => rfl)
  have c__law_rising : Cal P w K mg base 2 "_law_rising" spRising := Cal.mk' F43 (ok__law_rising F43 T c__law_pick) (T.gl _ (by decide +kernel)) (F43.bindsN fun _ _ _ _ _ _ us hl => match us, hl with | [_, _, _, _], _ => rfl)
  have c__law_raw : Cal P w K mg base 3 "_law_raw" (spRaw K) := Cal.mk' F44 (ok__law_raw F44 T c__law_pick c__law_rising) (T.gl _ (by decide +kernel)) (F44.bindsN fun _ _ _ _ _ _ us hl => match us, hl with | [_, _], _ => rfl)
  have c__law_counts : Cal P w K mg base 1 "_law_counts" (spCounts K) := Cal.mk' F45 (ok__law_counts F45 T) (T.gl _ (by decide +kernel)) (F45.bindsN fun _ _ _ _ _ _ us hl => match us, hl with | [_], _ => rfl)
  have c__law_table : Cal P w K mg base 6 "_law_table" (spLTable K (ga K "Table")) := Cal.mk' F46 (ok__law_table F46 T m_Table) (T.gl _ (by decide +kernel)) (F46.bindsN fun _ _ _ _ _ _ us hl => match us, hl with | [_], _ => rfl)
  have c__law_ended : Cal P w K mg base 3 "_law_ended" (spEnded K) := Cal.mk' F47 (ok__law_ended F47 T c__law_at c__law_counts) (T.gl _ (by decide +kernel)) (F47.bindsN fun _ _ _ _ _ _ us hl => match us, hl with | [_, _, _], _ => rfl)
  have c__law_tables : Cal P w K mg base 4 "_law_tables" (spTables K) := Cal.mk' F48 (ok__law_tables F48 T c__law_pick c__law_raw c__law_ended) (T.gl _ (by decide +kernel)) (F48.bindsN fun _ _ _ _ _ _ us hl => match us, hl with | [_], _ => rfl)
  have c_is_rowN : Cal P w K mg base 1 "is_row" (spIsRowN K) := Cal.mk' F4 (ok_is_rowN F4 T) (T.gl _ (by decide +kernel)) (F4.bindsN fun _ _ _ _ _ _ us hl => match us, hl with | [_], _ => rfl)
  have c_check_needs : CalX P w K mg base 3 "check_needs" (spCheckN K (ga K "Table")) := ⟨_, f49, _, (ok_check_needs F49 T (T.gl "Table" (by decide +kernel)) tc h_MOST_INLETS m_BadTables c_is_rowN), T.gl _ (by decide +kernel), F49.kp, (F49.bindsN fun _ _ _ _ _ _ us hl => match us, hl with | [_], _ => rfl)⟩
  have c_shared_lap : Cal P w K mg base 1 "shared_lap" (spLapT K (ga K "Table")) := Cal.mk' F50 (ok_shared_lap F50 T tc h_lcm) (T.gl _ (by decide +kernel)) (F50.bindsN fun _ _ _ _ _ _ us hl => match us, hl with | [_], _ => rfl)
  have c_steps_to : Cal P w K mg base 4 "steps_to" (spSteps K (ga K "Table")) := Cal.mk' F51 (ok_steps_to F51 T tc o_call) (T.gl _ (by decide +kernel)) (F51.bindsN fun _ _ _ _ _ _ us hl => match us, hl with | [_, _], _ => rfl)
  have c_maker_of : CalX P w K mg base 9 "maker_of" (spMakerOf K (ga K "Maker") (ga K "Table")) := ⟨_, f52, _, (ok_maker_of F52 T tc h_MOST_DEEDS m_TooMany c_check_needs c_shared_lap c_steps_to o_call m_Maker), T.gl _ (by decide +kernel), F52.kp, (F52.bindsN fun _ _ _ _ _ _ us hl => match us, hl with | [_], _ => rfl)⟩
  have c__law_seen : Cal P w K mg base 10 "_law_seen" (spSeen K (ga K "Table")) := Cal.mk' F53 (ok__law_seen F53 T m_BadTables x_BadTables.xf x_BadTables.no m_TooMany x_TooMany.xf x_TooMany.no (exmP_ok b_exm (by decide +kernel)) (exmP_ok b_exm (by decide +kernel)) (exmP_ok b_exm (by decide +kernel)) c_maker_of) (T.gl _ (by decide +kernel)) (F53.bindsN fun _ _ _ _ _ _ us hl => match us, hl with | [_], _ => rfl)
  exact ok_law F54 T (T.gl "Maker" (by decide +kernel)) mc tc kSB kBB c__law_source c__law_pick c__law_tables c__law_table c_maker_of c__law_plain c__law_on c__law_same c_least c_greatest c__law_seen m_Table o_need o_eq
end K28
set_option Elab.async false
set_option linter.all false
set_option maxRecDepth 100000
set_option maxHeartbeats 4000000
open PySem PySem.W PySem.Calls PyProof.Rows
theorem PySem.Challenge.cw_needforth_k28_whole_makers_of_tables_holds : PySem.Challenge.rw_needforth_k28_whole_makers_of_tables.Holds := by
  w_on; o_law
  refine HandSHeadRun.head_imp (r := OpenLaw.row PySem.Challenge.rw_needforth_k28_whole_makers_of_tables) (q := view (OpenLaw.row PySem.Challenge.rw_needforth_k28_whole_makers_of_tables).prog [0, 92]) (H := K28.hk) (ob := K28.ob) (M := 12000) (loose := K28.loose) (d := HandSHeadRun.topDef (OpenLaw.row PySem.Challenge.rw_needforth_k28_whole_makers_of_tables).prog 92) (kwd := []) K28.ob_eq
    K28.run (by kernel_rfl) (by kernel_rfl) (by kernel_rfl) (by rfl) (by first | assumption | decide +kernel) (by decide +kernel) ⟨rfl, rfl, rfl, rfl, rfl, by decide +kernel⟩ ?hw ?hc
  case hw => w_witness2
  case hc =>
    refine NF.walk_ofEB (l := PySem.Challenge.rw_needforth_k28_whole_makers_of_tables) (n := 63) (k := 11) (x := "_law_script") (CX := L2.CX0) rfl (by decide) (by kernel_rfl) ⟨rfl, by decide, by decide⟩ ?F (fun _ _ _ _ z => z)
    intro w mg fa h Y G hmg0
    obtain ⟨K, KX, c⟩ := Y
    have hmg : mg ("law" : PySem.Str) = some (.ref fa) := by
      have e : (HandSHeadRun.topDef (OpenLaw.row PySem.Challenge.rw_needforth_k28_whole_makers_of_tables).prog 92).name = ("law" : PySem.Str) := by kernel_rfl
      rw [← e]
      exact hmg0
    obtain ⟨fd, hb, hF⟩ := K28.all_ok (P := (PySem.Challenge.rw_needforth_k28_whole_makers_of_tables).prog) (w := w) KX G hmg c
    exact ⟨K, fd, K28.spLaw K, KX, hb, fun H a ns hl hbits _ hS => ⟨a, ns, rfl, hS, hl, hbits, fun _ => rfl⟩, hF⟩
