import PyProof.Rows.All
import Wide.All
import OpenK.AllK
import Wide.FinOn
import PyProof.EqAt
import PyProof.EqKinds
import PyProof.TupleCall
import KE.KStateDown
import KE.KIsAll
import KE.KTryMore
import KE.KFromBytes
import HandS.ForMost
import HandS.ForExc
import HandS.IsInst
import HandS.Flow
import HandS.WideBits
import HandS.ExcInit
import HandS.ExcIs
import HandS.Head0
import HandS.Head1
import HandS.Head2
import HandS.HeadEnd
import HandS.HeadHook1
import HandS.HeadHook2
import HandS.ExcField
import HandS.ExcValue
import KE.KExcIs
import HandS.EndBits
import HandS.TupAny
import HandS.Zip
import HandS.TupMul
import HandS.Gcd
import HandS.Property
import HandS.Conv
import KE.KAssignIn
import HandS.Star
import HandS.WordsList
import PyProof.InstNe
import HandS.Head3
import OpenK.KMeth
import HandS.ClsMeth
import PyProof.Rows.Range3
import HandS.Small
import PySem.Challenge.RW_needforth_k05_whole_behind
import HandS.Walk
import HandS.Call
import HandS.Style
import KE.DataMinMax
import HandS.SortKw
import KE.GoesMore
import KE.GoesEnum
import KE.KMathG
import HandS.GenList
import HandS.Keys
import KE.KDictZip
import KE.GoesEnumKw
import HandS.TupLe
set_option Elab.async false
set_option linter.all false
set_option maxRecDepth 100000
set_option maxHeartbeats 4000000
/-! Facts of the top as one truth of the written part, and the head that hands them on. -/
namespace NF
open PySem PySem.Spec PyProof.Rows L2 He
def obsM (ex : PySem.W.Frag → Bool) (fn : List DefD) (K : PySem.W.Frag) : AlD := (ex K && fn.all fun d => d.ok K, fn.map fun d => fnW K d.at_)
def SaysM (ex : PySem.W.Frag → Bool) (fn : List DefD) (K : PySem.W.Frag) : Prop := obsM ex fn K = valD fn
def obsMG (n : Nat) (ex : PySem.W.Frag → Bool) (fn : List DefD) (g : Addr → Option Obj) : AlD := obsM ex fn (frG g (asD g n))
def hookM (n : Nat) (ex : PySem.W.Frag → Bool) (fn : List DefD) : PySem.W.Hook where
  α := AlD
  obs := fun s => obsMG n ex fn s.heap.get?
  val := fun _ => valD fn
  says := fun _ h => ∃ K : PySem.W.Frag, K.In h ∧ SaysM ex fn K
  of := fun _ _ e => ⟨_, frG_in, e⟩
  keeps := fun _ _ _ ⟨K, hK, c⟩ k => ⟨K, PySem.W.Frag.In.keeps hK k, c⟩
theorem obsMG_eq {n : Nat} {ex : PySem.W.Frag → Bool} {fn : List DefD} {g : Addr → Option Obj} {s : Shared} (h : ∀ a, g a = s.heap.get? a) : obsMG n ex fn g = (hookM n ex fn).obs s := by
  have e : g = s.heap.get? := funext h
  rw [e] <;> rfl
section
variable {ex : PySem.W.Frag → Bool} {fn : List DefD} {K : PySem.W.Frag}
theorem SaysM.truth (c : SaysM ex fn K) : ex K = true :=
  (ba (show (ex K && fn.all fun d => d.ok K) = true from congrArg (fun z : AlD => z.1) c)).1
theorem SaysM.def_ (c : SaysM ex fn K) (i : Nat) {d : DefD} (h : fn[i]? = some d := by rfl) : ∃ fd, FunD K d.name d.qual d.params d.body d.scope (d.dvs K) (d.kws K) (fAd K d.at_) fd := by
  have c2 := (ba (show (ex K && fn.all fun d => d.ok K) = true from congrArg (fun z : AlD => z.1) c)).2
  have e : fn.map (fun d => fnW K d.at_) = fn.map DefD.val := congrArg (fun z : AlD => z.2) c
  have e2 : (fn.map fun d => fnW K d.at_)[i]? = (fn.map DefD.val)[i]? := by rw [e]
  rw [List.getElem?_map, List.getElem?_map, h] at e2
  exact DefD.funD (Option.some.inj e2) (List.all_eq_true.mp c2 d (List.mem_of_getElem? h))
end
/-! ### an exception class of the program's own, over ValueError, by truths of the written part -/
/-- the class's own object -/
def exObjB (K : PySem.W.Frag) (C : Addr) : Bool := match K.lookup C with
  | some ⟨.type t, _, .cls cd, sl⟩ => t == "type" && (match cd.mro with
    | .ref C' :: bm => C' == C && PySem.HandSPX.refsVE bm
    | _ => false) && (cd.hasDict && !cd.hasDel) && (match sl.toList with
    | [_, _, _, _, some (.builtin n), _] => n == "ValueError.__new__"
    | _ => false)
  | _ => false
theorem exObjB_ok {K : PySem.W.Frag} {C : Addr} (h : exObjB K C = true) :
    ∃ nm q N bs bm sn sub ab col dd k0 k1 k2 k3 k5, K.lookup C = some (excClassObj nm q C N bs bm true sn sub ab col dd k0 k1 k2 k3 k5 "ValueError.__new__") ∧ PySem.HandSPX.refsVE bm = true := by
  unfold exObjB at h
  split at h
  · rename_i t dd cd sl hl
    obtain ⟨h, h4⟩ := ba h
    obtain ⟨h, h3⟩ := ba h
    obtain ⟨h1, h2⟩ := ba h
    split at h2
    · rename_i C' bm hm
      obtain ⟨h5, h6⟩ := ba h2
      split at h4
      · rename_i k0 k1 k2 k3 n k5 hs
        obtain ⟨h7, h8⟩ := ba h3
        have e1 : t = "type" := eq_of_beq h1
        have e5 : C' = C := eq_of_beq h5
        have e9 : n = "ValueError.__new__" := eq_of_beq h4
        subst e1 e5 e9
        obtain ⟨nm, bs, mro, N, q, hd, sn, sub, ab, col, hdel⟩ := cd
        dsimp only at hm h7 h8
        subst hm h7
        have hdel' : hdel = false := by
          cases hdel with
          | false => rfl
          | true => cases h8
        subst hdel'
        have hsl : sl = #[k0, k1, k2, k3, some (.builtin "ValueError.__new__"), k5] := by
          have := congrArg List.toArray hs
          simpa using this
        subst hsl
        exact ⟨nm, q, N, bs, bm, sn, sub, ab, col, dd, k0, k1, k2, k3, k5, hl, h6⟩
      · cases h4
    · cases h2
  · cases h
/-- all that making one, storing to it and raising it ask of the class -/
def oexB (K : PySem.W.Frag) (C : Addr) : Bool :=
  exObjB K C && eqO (PySem.W.findIn K (.ref C) "__setattr__") (some (some (.builtin "object.__setattr__"))) && decide (PySem.W.subIn K (.ref C) (.type "BaseException") = some true) &&
    decide (PySem.W.typeIn K (.ref C) = some (.type "type")) && PySem.W.keepIn K (.ref C)
theorem oexB_ok {K : PySem.W.Frag} {C : Addr} (h : oexB K C = true) : OexC K C := by
  obtain ⟨h, h5⟩ := ba h
  obtain ⟨h, h4⟩ := ba h
  obtain ⟨h, h3⟩ := ba h
  obtain ⟨h1, h2⟩ := ba h
  exact ⟨exObjB_ok h1, eqO_ok h2, of_decide_eq_true h3, of_decide_eq_true h4, h5⟩
/-- all that isinstance asks of an instance's class -/
def excB (K : PySem.W.Frag) (D : Addr) : Bool :=
  eqO (PySem.W.findIn K (.ref D) "__getattribute__") (some (some (.builtin "BaseException.__getattribute__"))) && eqO (PySem.W.findIn K (.ref D) "__getattr__") (some none) &&
    decide (PySem.W.subIn K (.ref D) (.type "BaseException") = some true) && PySem.W.hasDictIn K D && eqO (PySem.W.findIn K (.ref D) "__class__") (some (some (.builtin "object.__class__"))) &&
    eqO (PySem.W.specialIn K (.builtin "object.__class__") "__get__") (some (some (.builtin "getset_descriptor.__get__"))) && decide (PySem.W.takesIn K (.builtin "object.__class__") = some true) && decide (PySem.W.mroIn K D (.type "object") = some true)
theorem excB_ok {K : PySem.W.Frag} {D : Addr} (h : excB K D = true) : ExcC K D := by
  obtain ⟨h, h8⟩ := ba h
  obtain ⟨h, h7⟩ := ba h
  obtain ⟨h, h6⟩ := ba h
  obtain ⟨h, h5⟩ := ba h
  obtain ⟨h, h4⟩ := ba h
  obtain ⟨h, h3⟩ := ba h
  obtain ⟨h1, h2⟩ := ba h
  exact ⟨eqO_ok h1, eqO_ok h2, of_decide_eq_true h3, h4, eqO_ok h5, eqO_ok h6, of_decide_eq_true h7, of_decide_eq_true h8⟩
end NF
set_option Elab.async false
set_option linter.all false
set_option maxRecDepth 100000
set_option maxHeartbeats 4000000
/-! Own exceptions as values: made, asked for their class, read. -/
namespace NF
open PySem PySem.Spec PyProof.Rows L2 He
/-! ### C(e, ..) as a value: the class's own __init__ keeps sp -/
def tMkV (C : Addr) (sp : Sp) (ta : TA) : TE := fun σ H Q => ta σ H fun vs H1 => vs.length ≤ 1000 ∧ ∀ a, H1 a = none → sp (.ref a :: vs) (upd H1 a (exo a C none))
  (fun v H2 => v = .non ∧ Q (.ref a) H2) (fun _ _ _ => False)
section
variable {X : Cx} {e : Expr} {es : List Expr} {ta : TA} {p pos : Pos}
theorem pe_oex {CX : CXT} {x : Str} {C fI : Addr} {k : Nat} {fd : FuncData} {ps : List Str} {sp : Sp} (T : OexC X.K C) (iC : PySem.W.findIn X.K (.ref C) "__init__" = some (some (.ref fI))) (tI : PySem.W.typeIn X.K (.ref fI) = some (.type "function"))
    (F1 : FnOk X.prog X.w X.K X.mg X.base CX k fI fd ps sp) (hr : Room (k + 1) X.A) (hb : Binds X.K fd ps []) (hx : Passes CX X (fun _ _ _ => False)) (hg : Gl X x) (hm : X.mg x = some (.ref C)) (ha : PA X (e :: es) ta)
    (hdb : (x == ("__debug__" : Str)) = false := by decide) (he : starEach (e :: es) X.env = (false, eval e X.env) :: starEach es X.env := by rfl) (hpl : (backTo pos (starEach es X.env)).any (·.1) = false := by rfl) :
    PE X (.Call (.Name x p) (e :: es) [] pos) (tMkV C sp ta) := by
  refine ⟨fun pins s σ H Q I h => ?_⟩
  obtain ⟨nm, q, N, bs, bm, sn, sub, ab, col, dd, k0, k1, k2, k3, k5, hC, hbm⟩ := T.cls
  refine wpAny_Call_Name_kw (ld_glob I hg hm ?_ hdb)
  refine PySem.W.callWith_K (h₀ := X.base) I.ok.mod.kin T.kC (thn (ha.run pos pins s σ H _ I h) fun us s1 ⟨vs, H1, I1, r1, hz, q1⟩ => ⟨I1.kIn, ?_⟩) he hpl
  show wpAny _ _ (call (.ref C) us) _ _ _
  obtain ⟨hp, g, dr, tk, os⟩ := s1
  have hsz : hp.objs.size ≤ hp.objs.size + 1 := Nat.le_succ _
  have hn : H1 (hp.objs.size + 1) = none := I1.hok.fresh hsz
  have hq := q1 (hp.objs.size + 1) hn
  have kk : ∀ b o, hp.get? b = some o → ((hp.push (PySem.W.kdv_tup us)).push (PySem.HandSPX.excO C hp.objs.size)).get? b = some o := fun b o e => Heap.get?_push_of_some _ (Heap.get?_push_of_some _ e)
  have hget : ((hp.push (PySem.W.kdv_tup us)).push (PySem.HandSPX.excO C hp.objs.size)).get? (hp.objs.size + 1) = some (PySem.HandSPX.excO C hp.objs.size) := by heap_get
  have I2 : Inv X pins σ (upd H1 (hp.objs.size + 1) (exo (hp.objs.size + 1) C none)) ⟨(hp.push (PySem.W.kdv_tup us)).push (PySem.HandSPX.excO C hp.objs.size), g, dr, tk, os⟩ :=
    I1.laid (t' := tk) (a := hp.objs.size + 1) (o := exo (hp.objs.size + 1) C none) (h' := (hp.push (PySem.W.kdv_tup us)).push (PySem.HandSPX.excO C hp.objs.size)) kk hsz (exo_ok hget)
  have r2 : Vals (V.ref (hp.objs.size + 1) :: vs) (Value.ref (hp.objs.size + 1) :: us) := .cons rfl r1
  have hl : (Value.ref (hp.objs.size + 1) :: us ++ []).length = ps.length := by
    have e := r2.length
    rw [F1.len _ _ _ _ hq] at e
    rw [List.append_nil]
    exact e.symm
  have hus : us.length ≤ sizeLine := by
    rw [← Paired.length r1, sizeLine_eq]
    omega
  have hb' : BindsTo (⟨(hp.push (PySem.W.kdv_tup us)).push (PySem.HandSPX.excO C hp.objs.size), g, dr, tk, os⟩ : Shared) fd ⟨Value.ref (hp.objs.size + 1) :: us, []⟩ (ps.zip (Value.ref (hp.objs.size + 1) :: us)) := by
    have := hb ⟨(hp.push (PySem.W.kdv_tup us)).push (PySem.HandSPX.excO C hp.objs.size), g, dr, tk, os⟩ (Value.ref (hp.objs.size + 1) :: us) I2.kIn hl
    rw [List.append_nil] at this
    exact this
  refine wpAny_call (PySem.HandSPX.call_own F.excBase_ValueError (fun Y => PySem.HandSPX.refsVE_contains Y bm hbm) (I1.kIn _ _ hC) (PySem.W.looks_findIn I1.kIn iC) (fun self => PySem.W.bind_fn I1.kIn self tI) hus
    (codeAny_mono (F1.run _ X.stack _ _ ⟨Value.ref (hp.objs.size + 1) :: us, []⟩ (Value.ref (hp.objs.size + 1) :: us) _ _ (fun _ _ _ => False) (hr.make C us []) (I2.env0.make C us []) hb' r2 hq) fun r s' hq' => ?_))
  cases r with
  | error er => exact hx pins σ _ _ er s' I2 hq'
  | ok fl =>
    cases fl with
    | ret u =>
      obtain ⟨v, H2, os2, bare2, un2, hok2, rv, ev, q2⟩ := hq'
      subst ev
      obtain ⟨h2, g2, d2, t2, os'⟩ := s'
      exact ⟨rv, V.ref (hp.objs.size + 1), H2, I2.call' (ch := []) os2 un2 hok2 bare2 (fun b z => absurd z (by simp)), rfl, q2⟩
    | next => exact False.elim hq'
    | brk => exact False.elim hq'
    | cont => exact False.elim hq'
/-- C(), an own exception class without own __init__, as a value -/
def tMk0 (C : Addr) : TE := fun _ H Q => ∀ a, H a = none → Q (.ref a) (upd H a (exo a C none))
theorem pe_exc0 {C : Addr} {x : Str} (q : PySem.W.excIn X.K C He.veBase "ValueError.__new__" = true) (gC : X.mg x = some (.ref C)) (kC : PySem.W.keepIn X.K (.ref C) = true) (hg : Gl X x)
    (hdb : (x == ("__debug__" : Str)) = false := by decide) :
    PE X (.Call (.Name x p) [] [] pos) (tMk0 C) := by
  refine ⟨fun pins s σ H Q I h => ?_⟩
  refine wpAny_Call_Name_kw (ld_glob I hg gC ?_ hdb)
  refine PySem.W.callWith_K0 I.kIn kC ?_
  show wpAny _ _ (call (.ref C) []) _ _ _
  obtain ⟨bm, N, nm, qn, bs, hdct, sn, sub, ab, col, dd, k0, k1, k2, k3, k5, mN, hC, hN, hni, T⟩ := exc_obj I.kIn q
  obtain ⟨hp, g, dr, tk, os⟩ := s
  refine wpAny_call_exc_subT F.excBase_ValueError T hC hN hni (fun h' a hm => ?_) (Nat.zero_le _)
  have hn : H a = none := I.hok.gone hm.new
  obtain ⟨t, ht, _, _⟩ := hm.there
  exact ⟨.ref a, upd H a (exo a C none), I.laidN hm.keeps hm.new hn (exo_ok ht), rfl, h a hn⟩
/-! ### isinstance of such a value -/
def rIsV (K : PySem.W.Frag) : List V → Hp → VK → Prop := fun xs H Q => ∃ (a C : Addr) (od : Option Addr) (c : V) (u : Value) (b : Bool), xs = [.ref a, c] ∧ ClsV c u ∧ ExcC K C ∧ H a = some (exo a C od) ∧
  (∀ d, od = some d → ∃ fs, H d = some (exd d fs)) ∧ PySem.W.kitOne K (.ref C) u = some b ∧ Q (.bl b) H
theorem inst_exo {pins : List (Addr × Obj)} {σ : L2.St} {H : Hp} {s : Shared} {a C : Addr} {od : Option Addr} (I : Inv X pins σ H s) (e : H a = some (exo a C od)) (hd : ∀ d, od = some d → ∃ fs, H d = some (exd d fs)) :
    ∃ ox o, PySem.W.InstAt s.heap a ox C o := by
  obtain ⟨t1, h1⟩ := exo_at I.hok e
  cases od with
  | none => exact ⟨_, none, h1, rfl, rfl, trivial⟩
  | some d =>
    obtain ⟨fs, h2⟩ := hd d rfl
    obtain ⟨mA, hns, _⟩ := exd_at I.hok h2
    obtain ⟨o, ho, _⟩ := lookIn_ns hns
    exact ⟨_, some o, h1, rfl, rfl, ho⟩
theorem call_isV : CallR X (.builtin "isinstance") (rIsV X.K) := by
  intro pins s σ H xs us Q I r h
  obtain ⟨a, C, od, c, u, b, rfl, k, T, e, hd, hk, q⟩ := h
  obtain ⟨u1, u2, rfl, r1, r2⟩ := vals2 r
  have e2 := k.eq r2
  subst e2
  cases (show u1 = Value.ref a from r1)
  obtain ⟨ox, o, J⟩ := inst_exo I e hd
  have hcl : (PySem.W.clsIn X.K C).isSome = true := by
    obtain ⟨cd, hc, _⟩ := PySem.W.any_some T.hd
    rw [hc] <;> rfl
  exact PySem.W.kia_one (PySem.W.kitx_exc (ox := ox) (od := o) hcl T.hg T.hk T.hs T.ha T.hn T.ht T.hm) I.kIn J hk (fun z => nomatch z) fun tk => ⟨.bl b, H, I.tok tk, rfl, q⟩
/-! ### its field -/
def tXv (K : PySem.W.Frag) (f : Str) (te : TE) : TE := fun σ H Q => te σ H fun x H1 => ∃ (a C d : Addr) (fs : List (Str × V)) (v : V), x = .ref a ∧ XfC K C ∧ PySem.W.findIn K (.ref C) f = some none ∧ H1 a = some (exo a C (some d)) ∧ H1 d = some (exd d fs) ∧ fs.lookup f = some v ∧ Q v H1
theorem pe_xv {n : Str} {te : TE} (he : PE X e te) (hb : attributeBase e n X.env (eval e X.env) = eval e X.env := by rfl) : PE X (.Attribute e n pos) (tXv X.K n te) := by
  refine ⟨fun pins s σ H Q I h => ?_⟩
  refine attr_of hb (thn (he.run pins s σ H _ I h) fun u s1 hh => ?_)
  obtain ⟨x, H1, I1, rx, a, C, d, fs, v, ex, T, hno, ea, ed, l, q⟩ := hh
  subst ex
  obtain rfl : u = Value.ref a := rx
  obtain ⟨t1, h1⟩ := exo_at I1.hok ea
  obtain ⟨mA, hns, hr⟩ := exd_at I1.hok ed
  obtain ⟨od, ho, hl⟩ := lookIn_ns hns
  obtain ⟨u, hu, ru⟩ := RelO.some_of (v := v) (o := mA n) (by rw [← l]; exact hr n)
  have J : PySem.W.InstAt s1.heap a _ C (some od) := ⟨h1, rfl, rfl, ho⟩
  exact HandSPX.exc_get I1.kIn J T.ga T.gg T.exC (PySem.W.findObj_own T.hdC hno rfl (by rw [hl, hu])) (handed_of ru) ⟨v, H1, I1.tok _, ru, q⟩
end
end NF
set_option Elab.async false
set_option linter.all false
set_option maxRecDepth 100000
set_option maxHeartbeats 4000000
/-! What each law's own helpers keep: the source of draws. -/
namespace NF
open PySem PySem.Spec PyProof.Rows L2 He
/-- the names that a def reads off the module: those that stand for an object of the written part, those that are still Python's own -/
structure Txt (K : PySem.W.Frag) (mg : Str → Option Value) (gs fs : List Str) : Prop where
  gl : ∀ x, x ∈ gs → mg x = some (.ref (ga K x))
  fr : ∀ x, x ∈ fs → mg x = none
/-- a source of draws at p: three ints -/
def Src (H : Hp) (p : Addr) : Prop := ∃ a s c : Int, H p = some (.lst [.int a, .int s, .int c])
/-- a draw: some number from 0 below m; all but the source stands (H0: what the caller wants to stand) -/
def spPick : Sp := fun vs H Q _ => ∃ (H0 : Hp) (p : Addr) (m : Int), vs = [.ref p, .int m] ∧ Same H0 H ∧ H0 p = none ∧ Src H p ∧ 0 < m ∧ m < 1073741824 ∧
  ∀ d H', 0 ≤ d → d < m → Same H0 H' → Src H' p → Q (.int d) H'
/-- a new source of the script -/
def spSource (K : PySem.W.Frag) : Sp := fun vs H Q _ => ∃ (l : Addr) (ns : List Int) (i : Nat), vs = [.ref l, .int (i : Int)] ∧ SqL K H l (ns.map V.int) ∧ ns.length ≤ 63 ∧ (∀ k ∈ ns, Builtin.Int.intBits k ≤ 1048576) ∧ i < 1000 ∧
  ∀ p H', Same H H' → H p = none → Src H' p → Q (.ref p) H'
theorem Same.put {H0 H : Hp} {p : Addr} {o : HO} (h : Same H0 H) (n : H0 p = none) : Same H0 (upd H p o) := fun b u e => by
  rw [upd_ne (ne_of_none e n)]
  exact h b u e
theorem Same.new {H0 H : Hp} {p : Addr} {o : HO} (h : Same H0 H) (n : H p = none) : Same H0 (upd H p o) := NF.Same.put h (L2.Same.free h n)
/-- a def that may be called by its name; it lets nothing out -/
structure Cal (P : Program) (w : World) (K : PySem.W.Frag) (mg : Str → Option Value) (base : Heap) (k : Nat) (x : Str) (sp : Sp) : Prop where
  ex : ∃ (f : Addr) (fd : FuncData) (ps : List Str), FnOk P w K mg base CX0 k f fd ps sp ∧ mg x = some (.ref f) ∧ PySem.W.keepIn K (.ref f) = true ∧ Binds K fd ps []
theorem pe_c {X : Cx} {k j : Nat} {x : Str} {sp : Sp} {e : Expr} {es : List Expr} {t : TA} {p pos : Pos} (c : Cal X.prog X.w X.K X.mg X.base k x sp) (hr : Room j X.A) (hk : k ≤ j) (hg : Gl X x) (ha : PA X (e :: es) t)
    (hdb : (x == ("__debug__" : Str)) = false := by decide) (he : starEach (e :: es) X.env = (false, eval e X.env) :: starEach es X.env := by rfl) (hpl : (backTo pos (starEach es X.env)).any (·.1) = false := by rfl) :
    PE X (.Call (.Name x p) (e :: es) [] pos) (tCall sp [] E0 t) := by
  obtain ⟨f, fd, ps, F, hm, kp, b⟩ := c.ex
  exact pe_call F (hr.mono hk) hg hm kp b .nil pass0 ha hdb he hpl
theorem Cal.mk' {P : Program} {w : World} {K : PySem.W.Frag} {mg : Str → Option Value} {base : Heap} {k : Nat} {x q : Str} {pa : Arguments} {bd : List Stmt} {sc : Scope} {sp : Sp} {f : Addr} {fd : FuncData} {ps : List Str}
    (F : FunD K x q pa bd sc [] [] f fd) (ok : FnOk P w K mg base CX0 k f fd ps sp) (hm : mg x = some (.ref f)) (b : Binds K fd ps []) : Cal P w K mg base k x sp := ⟨f, fd, ps, ok, hm, F.kp, b⟩
theorem at0 {x y z : V} : atI [x, y, z] 0 = some x := rfl
theorem at1 {x y z : V} : atI [x, y, z] 1 = some y := rfl
theorem at2 {x y z : V} : atI [x, y, z] 2 = some z := rfl
end NF
namespace NF
open PySem PySem.Spec PyProof.Rows L2 He
/-- the heap without p -/
def wo (H : Hp) (p : Addr) : Hp := fun a => if a = p then none else H a
theorem wo_none {H : Hp} {p : Addr} : wo H p p = none := if_pos rfl
theorem wo_ne {H : Hp} {p a : Addr} (h : a ≠ p) : wo H p a = H a := if_neg h
theorem wo_same' {H : Hp} {p : Addr} : Same (wo H p) H := fun a o e => by
  by_cases h : a = p
  · rw [h, wo_none] at e
    cases e
  · rw [wo_ne h] at e
    exact e
theorem wo_same {H0 H H' : Hp} {p : Addr} (s : Same H0 H) (n : H0 p = none) (s' : Same (wo H p) H') : Same H0 H' := fun a o e =>
  s' a o ((wo_ne (ne_of_none e n)).trans (s a o e))
theorem Same.mut {H0 H : Hp} {p : Addr} {o : HO} (h : Same H0 H) (n : H0 p = none) : Same H0 (upd H p o) := NF.Same.put h n
theorem Src.mono {H H' : Hp} {p : Addr} (h : Src H p) (s : Same H H') : Src H' p := by
  obtain ⟨x, y, z, h⟩ := h
  exact ⟨x, y, z, s _ _ h⟩
end NF
namespace NF
open PySem PySem.Spec PyProof.Rows L2 He
theorem walk_ofEB {l : PySem.W.OpenLaw} {n k : Nat} {q : Program} {loose : List Str} {XP : (Str → Option Value) → Heap → Prop} {YP : World → Heap → Prop} {d : DefRec} {CX : CXT} {x : Str}
    (hn : l.most = some n) (hn2 : n ≤ sizeLine) (hdf : d.params.defaults = []) (hr : Room k callerA)
    (F : ∀ (w : World) (mg : Str → Option Value) (fa : Addr) (h : Heap), YP w h → h.Ns mainGlobals mg → mg d.name = some (.ref fa) →
      ∃ (K : PySem.W.Frag) (fd : FuncData) (sp : Sp), K.In h ∧ (∀ (s : Shared) (u : Value), BindsTo s fd ⟨[u], []⟩ [(x, u)]) ∧
        (∀ (H : Hp) (a : Addr) (ns : List Int), ns.length ≤ n → (∀ z ∈ ns, Builtin.Int.intBits z ≤ 1048576) → Only H → SqL K H a (ns.map V.int) → sp [.ref a] H (fun v _ => v = .bl true) fun _ _ _ => False) ∧
        ∀ base : Heap, K.In base → base.Ns mainGlobals mg → FnOk l.prog w K mg base CX k fa fd [x] sp)
    (hCX : ∀ (H : Hp) (s : Shared) (e : Value) (s' : Shared), CX [] H s (fun _ _ _ => False) e s' → False) :
    PySem.W.WalkO q loose XP YP l.row.toRowW d [] (fun f vs => PySem.call f vs) := by
  refine Att.attach_callB hn hdf fun w s₀ s₁ mg mb fa o pm cd doc a vs ns G Y ho hd hcd hmg hobj hints hlen hbits hg => ?_
  obtain ⟨K, fd, sp, KX, hb, hsp, hF⟩ := F w mg fa _ Y G.T.g hmg
  exact law_call KX G.T.g G.T.b G.T.builtins G.T.nolimit hg hobj hints (Nat.le_trans hlen hn2) hr hF hb (fun H hO hS => hsp H a ns hlen hbits hO hS) fun H e s' => hCX H s₁ e s'
end NF
set_option linter.all false
/-! Tables as plain Lean: head, loop, rise; the plain form is the only one. -/
namespace NT
/-- what a loop tells, from its first place on -/
def walk (l : List Int) (r : Int) (k : Nat) : Int := l.getD (k % l.length) 0 + r * ((k / l.length : Nat) : Int)
/-- the value at n, from 1 on; none: never -/
def at_ (h l : List Int) (r : Int) (n : Nat) : Option Int :=
  if n ≤ h.length then some (h.getD (n - 1) 0) else if l = [] then none else some (walk l r (n - h.length - 1))
/-- m steps on the values are a fixed number more -/
def Per (f : Nat → Int) (m : Nat) : Prop := ∃ c, ∀ k, f (k + m) = f k + c
def LoopMin (l : List Int) (r : Int) : Prop := ∀ m, 0 < m → m ∣ l.length → Per (walk l r) m → m = l.length
def HeadMin (h l : List Int) (r : Int) : Prop := ∀ k, h.length = k + 1 → h.getD k 0 + r ≠ l.getD (l.length - 1) 0

theorem walk_add {l : List Int} {r : Int} (hl : 0 < l.length) (k : Nat) : walk l r (k + l.length) = walk l r k + r := by
  unfold walk
  rw [Nat.add_mod_right, Nat.add_div_right _ hl]
  rw [Int.natCast_add, Int.mul_add]
  omega
theorem walk_add_mul {l : List Int} {r : Int} (hl : 0 < l.length) (k j : Nat) : walk l r (k + l.length * j) = walk l r k + r * (j : Int) := by
  induction j with
  | zero => simp
  | succ j ih =>
    rw [Nat.mul_succ, ← Nat.add_assoc, walk_add hl, ih, Int.natCast_add, Int.mul_add]
    omega
theorem walk_lt {l : List Int} {r : Int} {k : Nat} (h : k < l.length) : walk l r k = l.getD k 0 := by
  unfold walk
  rw [Nat.mod_eq_of_lt h, Nat.div_eq_of_lt h]
  simp
/-- periods, further on alone -/
def PerF (f : Nat → Int) (N m : Nat) : Prop := ∃ c, ∀ k, N ≤ k → f (k + m) = f k + c
theorem PerF.sub {f : Nat → Int} {N a b : Nat} (ha : PerF f N (a + b)) (hb : PerF f N b) : PerF f N a := by
  obtain ⟨c, hc⟩ := ha
  obtain ⟨d, hd⟩ := hb
  refine ⟨c - d, fun k hk => ?_⟩
  have h1 := hc k hk
  have h2 := hd (k + a) (by omega)
  rw [show k + a + b = k + (a + b) by omega, h1] at h2
  omega
theorem PerF.mul {f : Nat → Int} {N a : Nat} (ha : PerF f N a) (j : Nat) : PerF f N (a * j) := by
  obtain ⟨c, hc⟩ := ha
  refine ⟨c * (j : Int), ?_⟩
  induction j with
  | zero => intro k _; simp
  | succ j ih =>
    intro k hk
    have h1 := ih k hk
    have h2 := hc (k + a * j) (by omega)
    rw [Nat.mul_succ, ← Nat.add_assoc, h2, h1, Int.natCast_add, Int.mul_add]
    omega
theorem PerF.gcd {f : Nat → Int} {N : Nat} : ∀ (a b : Nat), PerF f N a → PerF f N b → PerF f N (Nat.gcd a b) := by
  intro a
  induction a using Nat.strongRecOn with
  | _ a ih =>
    intro b ha hb
    cases a with
    | zero => rw [Nat.gcd_zero_left]; exact hb
    | succ a =>
      rw [Nat.gcd_rec]
      have hlt : b % (a + 1) < a + 1 := Nat.mod_lt _ (Nat.succ_pos a)
      have hm : PerF f N (b % (a + 1)) := by
        have h1 : b = b % (a + 1) + (a + 1) * (b / (a + 1)) := (Nat.mod_add_div b (a + 1)).symm
        exact PerF.sub (b := (a + 1) * (b / (a + 1))) (by rw [← h1]; exact hb) (ha.mul _)
      exact ih _ hlt (a + 1) hm ha
theorem at_loop {h l : List Int} {r : Int} {n : Nat} (hl : l ≠ []) (hn : h.length < n) : at_ h l r n = some (walk l r (n - h.length - 1)) := by
  unfold at_
  rw [if_neg (by omega), if_neg hl]
theorem len_pos {l : List Int} (h : l ≠ []) : 0 < l.length := List.length_pos_iff.mpr h

section
variable {h1 l1 h2 l2 : List Int} {r1 r2 : Int}
theorem walk_eq (n1 : l1 ≠ []) (n2 : l2 ≠ []) (e : ∀ n, 1 ≤ n → at_ h1 l1 r1 n = at_ h2 l2 r2 n) {n : Nat} (g1 : h1.length < n) (g2 : h2.length < n) : walk l1 r1 (n - h1.length - 1) = walk l2 r2 (n - h2.length - 1) := by
  have q := e n (by omega)
  rw [at_loop n1 g1, at_loop n2 g2] at q
  exact Option.some.inj q
theorem one_loop_le (n1 : l1 ≠ []) (n2 : l2 ≠ []) (m1 : LoopMin l1 r1) (e : ∀ n, 1 ≤ n → at_ h1 l1 r1 n = at_ h2 l2 r2 n) : l1.length ∣ l2.length := by
  have p1 := len_pos n1
  have p2 := len_pos n2
  -- l1's walk is, further on, of both periods
  have hA : PerF (walk l1 r1) (h1.length + h2.length) l1.length := ⟨r1, fun k _ => walk_add p1 k⟩
  have hB : PerF (walk l1 r1) (h1.length + h2.length) l2.length := by
    refine ⟨r2, fun k hk => ?_⟩
    have q1 := walk_eq n1 n2 e (n := k + h1.length + 1) (by omega) (by omega)
    have q2 := walk_eq n1 n2 e (n := k + l2.length + h1.length + 1) (by omega) (by omega)
    rw [show k + h1.length + 1 - h1.length - 1 = k by omega] at q1
    rw [show k + l2.length + h1.length + 1 - h1.length - 1 = k + l2.length by omega, show k + l2.length + h1.length + 1 - h2.length - 1 = (k + h1.length + 1 - h2.length - 1) + l2.length by omega, walk_add p2, ← q1] at q2
    exact q2
  have hG := PerF.gcd _ _ hA hB
  obtain ⟨c, hc⟩ := hG
  have hP : Per (walk l1 r1) (Nat.gcd l1.length l2.length) := by
    refine ⟨c, fun k => ?_⟩
    have q := hc (k + l1.length * (h1.length + h2.length)) (by
      have : h1.length + h2.length ≤ l1.length * (h1.length + h2.length) := Nat.le_mul_of_pos_left _ p1
      omega)
    rw [show k + l1.length * (h1.length + h2.length) + Nat.gcd l1.length l2.length = (k + Nat.gcd l1.length l2.length) + l1.length * (h1.length + h2.length) by omega, walk_add_mul p1, walk_add_mul p1] at q
    omega
  have := m1 _ (Nat.gcd_pos_of_pos_left _ p1) (Nat.gcd_dvd_left _ _) hP
  rw [← this]
  exact Nat.gcd_dvd_right _ _
theorem one_head_le (n1 : l1 ≠ []) (n2 : l2 ≠ []) (el : l1.length = l2.length) (m2 : HeadMin h2 l2 r2) (er : r1 = r2) (e : ∀ n, 1 ≤ n → at_ h1 l1 r1 n = at_ h2 l2 r2 n) : h2.length ≤ h1.length := by
  have p1 := len_pos n1
  have p2 := len_pos n2
  refine Nat.le_of_not_lt fun hlt => ?_
  obtain ⟨k, hk⟩ : ∃ k, h2.length = k + 1 := ⟨h2.length - 1, by omega⟩
  have q1 := e (k + 1) (by omega)
  have q2 := e (k + 1 + l2.length) (by omega)
  rw [at_loop n1 (by omega), at_loop n2 (by omega)] at q2
  rw [at_loop n1 (by omega)] at q1
  unfold at_ at q1
  rw [if_pos (by omega)] at q1
  have q1 := Option.some.inj q1
  have q2 := Option.some.inj q2
  rw [show k + 1 + l2.length - h1.length - 1 = (k + 1 - h1.length - 1) + l1.length by omega, walk_add p1, q1] at q2
  rw [walk_lt (by omega), show k + 1 + l2.length - h2.length - 1 = l2.length - 1 by omega, show k + 1 - 1 = k by omega] at q2
  exact m2 k hk (by rw [← q2, er])
/-- two forms that can't be made smaller and tell the same are the same -/
theorem one_form (n1 : l1 ≠ []) (n2 : l2 ≠ []) (a1 : LoopMin l1 r1) (a2 : LoopMin l2 r2) (b1 : HeadMin h1 l1 r1) (b2 : HeadMin h2 l2 r2) (e : ∀ n, 1 ≤ n → at_ h1 l1 r1 n = at_ h2 l2 r2 n) : h1 = h2 ∧ l1 = l2 ∧ r1 = r2 := by
  have p1 := len_pos n1
  have p2 := len_pos n2
  have el : l1.length = l2.length := Nat.dvd_antisymm (one_loop_le n1 n2 a1 e) (one_loop_le n2 n1 a2 fun n hn => (e n hn).symm)
  have er : r1 = r2 := by
    have q1 := walk_eq n1 n2 e (n := h1.length + h2.length + 1) (by omega) (by omega)
    have q2 := walk_eq n1 n2 e (n := h1.length + h2.length + 1 + l1.length) (by omega) (by omega)
    rw [show h1.length + h2.length + 1 + l1.length - h1.length - 1 = (h1.length + h2.length + 1 - h1.length - 1) + l1.length by omega, walk_add p1,
      show h1.length + h2.length + 1 + l1.length - h2.length - 1 = (h1.length + h2.length + 1 - h2.length - 1) + l2.length by omega, walk_add p2, q1] at q2
    omega
  have eh : h1.length = h2.length := Nat.le_antisymm (one_head_le n2 n1 el.symm b1 er.symm fun n hn => (e n hn).symm) (one_head_le n1 n2 el b2 er e)
  refine ⟨List.ext_getElem eh fun i i1 i2 => ?_, List.ext_getElem el fun i i1 i2 => ?_, er⟩
  · have q := e (i + 1) (by omega)
    unfold at_ at q
    rw [if_pos (by omega), if_pos (by omega)] at q
    have q := Option.some.inj q
    rw [show i + 1 - 1 = i by omega, List.getD_eq_getElem?_getD, List.getD_eq_getElem?_getD, List.getElem?_eq_getElem i1, List.getElem?_eq_getElem i2] at q
    exact q
  · have q := walk_eq n1 n2 e (n := h1.length + 1 + i) (by omega) (by omega)
    rw [show h1.length + 1 + i - h1.length - 1 = i by omega, show h1.length + 1 + i - h2.length - 1 = i by omega, walk_lt i1, walk_lt i2,
      List.getD_eq_getElem?_getD, List.getD_eq_getElem?_getD, List.getElem?_eq_getElem i1, List.getElem?_eq_getElem i2] at q
    exact q
theorem one_never (e : ∀ n, 1 ≤ n → at_ h1 [] r1 n = at_ h2 [] r2 n) : h1 = h2 := by
  have el : h1.length = h2.length := by
    have q1 := e (h1.length + 1) (by omega)
    have q2 := e (h2.length + 1) (by omega)
    unfold at_ at q1 q2
    rw [if_neg (by omega), if_pos rfl] at q1
    rw [if_neg (show ¬ h2.length + 1 ≤ h2.length by omega), if_pos rfl] at q2
    by_cases c1 : h1.length + 1 ≤ h2.length
    · rw [if_pos c1] at q1
      cases q1
    · by_cases c2 : h2.length + 1 ≤ h1.length
      · rw [if_pos c2] at q2
        cases q2
      · omega
  refine List.ext_getElem el fun i i1 i2 => ?_
  have q := e (i + 1) (by omega)
  unfold at_ at q
  rw [if_pos (by omega), if_pos (by omega)] at q
  have q := Option.some.inj q
  rw [show i + 1 - 1 = i by omega, List.getD_eq_getElem?_getD, List.getD_eq_getElem?_getD, List.getElem?_eq_getElem i1, List.getElem?_eq_getElem i2] at q
  exact q
end
end NT
set_option linter.all false
namespace NT
structure LapIs (l : List Int) (r : Int) (m : Nat) : Prop where
  pos : 0 < m
  dvd : m ∣ l.length
  per : Per (walk l r) m
  least : ∀ m', 0 < m' → m' ∣ l.length → Per (walk l r) m' → m ≤ m'
theorem LapIs.one {l : List Int} {r : Int} {m m' : Nat} (a : LapIs l r m) (b : LapIs l r m') : m = m' := Nat.le_antisymm (a.least _ b.pos b.dvd b.per) (b.least _ a.pos a.dvd a.per)
theorem per_mul {f : Nat → Int} {m : Nat} {c : Int} (h : ∀ k, f (k + m) = f k + c) (k j : Nat) : f (k + m * j) = f k + c * (j : Int) := by
  induction j with
  | zero => simp
  | succ j ih =>
    rw [Nat.mul_succ, ← Nat.add_assoc, h, ih, Int.natCast_add, Int.mul_add]
    omega
/-- the rise of a part that comes round -/
theorem per_rise {l : List Int} {r c : Int} {m : Nat} (hl : l ≠ []) (h : ∀ k, walk l r (k + m) = walk l r k + c) {t : Nat} (ht : m * t = l.length) : r = c * (t : Int) := by
  have q := per_mul h 0 t
  rw [ht, walk_add (len_pos hl)] at q
  omega
theorem per_self {l : List Int} {r : Int} (hl : l ≠ []) : Per (walk l r) l.length := ⟨r, walk_add (len_pos hl)⟩
theorem getD_take {l : List Int} {m i : Nat} (h : i < m) : (l.take m).getD i 0 = l.getD i 0 := by
  rw [List.getD_eq_getElem?_getD, List.getD_eq_getElem?_getD, List.getElem?_take, if_pos h]
theorem getD_drop {l : List Int} {m i : Nat} : (l.drop m).getD i 0 = l.getD (m + i) 0 := by
  rw [List.getD_eq_getElem?_getD, List.getD_eq_getElem?_getD, List.getElem?_drop]
theorem getD_app1 {h l : List Int} {i : Nat} (q : i < h.length) : (h ++ l).getD i 0 = h.getD i 0 := by
  rw [List.getD_eq_getElem?_getD, List.getD_eq_getElem?_getD, List.getElem?_append_left q]
theorem getD_app2 {h l : List Int} {i : Nat} (q : h.length ≤ i) : (h ++ l).getD i 0 = l.getD (i - h.length) 0 := by
  rw [List.getD_eq_getElem?_getD, List.getD_eq_getElem?_getD, List.getElem?_append_right q]
/-- the shorter loop tells the same -/
theorem walk_short {l : List Int} {r c : Int} {m : Nat} (hm : 0 < m) (hle : m ≤ l.length) (h : ∀ k, walk l r (k + m) = walk l r k + c) (k : Nat) : walk (l.take m) c k = walk l r k := by
  have e : k = k % m + m * (k / m) := (Nat.mod_add_div k m).symm
  have hlt : k % m < m := Nat.mod_lt _ hm
  have q := per_mul h (k % m) (k / m)
  rw [← e] at q
  have w1 : walk l r (k % m) = l.getD (k % m) 0 := walk_lt (by omega)
  rw [q, w1]
  show (l.take m).getD (k % (l.take m).length) 0 + c * ((k / (l.take m).length : Nat) : Int) = _
  rw [List.length_take, Nat.min_eq_left hle, getD_take hlt]
theorem short_min {l : List Int} {r c : Int} {m : Nat} (hl : l ≠ []) (a : LapIs l r m) (h : ∀ k, walk l r (k + m) = walk l r k + c) : LoopMin (l.take m) c := by
  have hle : m ≤ l.length := Nat.le_of_dvd (len_pos hl) a.dvd
  intro m' p d q
  rw [List.length_take, Nat.min_eq_left hle] at d ⊢
  have e : walk (l.take m) c = walk l r := funext fun k => walk_short a.pos hle h k
  rw [e] at q
  exact Nat.le_antisymm (Nat.le_of_dvd a.pos d) (a.least _ p (Nat.dvd_trans d a.dvd) q)
/-! ### the head is cut -/
def cut (e : List Int) (p : Nat) (r : Int) : Nat → Nat
  | 0 => 0
  | k + 1 => if e.getD k 0 + r = e.getD (k + p) 0 then cut e p r k else k + 1
/-- the window of p entries behind the first `left` ones -/
def win (e : List Int) (left p : Nat) : List Int := (e.drop left).take p
theorem win_len {e : List Int} {left p : Nat} (h : left + p ≤ e.length) : (win e left p).length = p := by
  unfold win
  rw [List.length_take, List.length_drop]
  omega
theorem win_get {e : List Int} {left p i : Nat} (hi : i < p) : (win e left p).getD i 0 = e.getD (left + i) 0 := by
  unfold win
  rw [getD_take hi, getD_drop]
theorem win_step {e : List Int} {left p : Nat} {r : Int} (hp : 0 < p) (hle : left + 1 + p ≤ e.length) (hs : e.getD left 0 + r = e.getD (left + p) 0) (k : Nat) : walk (win e (left + 1) p) r k = walk (win e left p) r (k + 1) := by
  unfold walk
  rw [win_len (by omega), win_len (by omega)]
  have hlt : k % p < p := Nat.mod_lt _ hp
  rw [win_get hlt]
  by_cases c : k % p + 1 < p
  · have e1 : (k + 1) % p = k % p + 1 := by
      rw [Nat.add_mod, Nat.mod_eq_of_lt (show 1 < p by omega), Nat.mod_eq_of_lt c]
    have e2 : (k + 1) / p = k / p := by
      have q1 := Nat.div_add_mod (k + 1) p
      have q2 := Nat.div_add_mod k p
      rw [e1] at q1
      have : p * ((k + 1) / p) = p * (k / p) := by omega
      exact Nat.eq_of_mul_eq_mul_left hp this
    rw [e1, e2, win_get c]
    congr 2
    omega
  · have cp : k % p + 1 = p := by omega
    have hk : k + 1 = p * (k / p + 1) := by
      have q2 := Nat.div_add_mod k p
      rw [Nat.mul_add, Nat.mul_one]
      omega
    have e1 : (k + 1) % p = 0 := by rw [hk]; exact Nat.mul_mod_right _ _
    have e2 : (k + 1) / p = k / p + 1 := by rw [hk]; exact Nat.mul_div_cancel_left _ hp
    rw [e1, e2, win_get hp, Int.natCast_add, Int.mul_add, show left + 1 + k % p = left + p by omega, ← hs, show left + 0 = left from rfl]
    omega
theorem at_step {e : List Int} {left p : Nat} {r : Int} (hp : 0 < p) (hle : left + 1 + p ≤ e.length) (hs : e.getD left 0 + r = e.getD (left + p) 0) (n : Nat) (hn : 1 ≤ n) :
    at_ (e.take left) (win e left p) r n = at_ (e.take (left + 1)) (win e (left + 1) p) r n := by
  have n1 : win e left p ≠ [] := fun z => by
    have := win_len (e := e) (left := left) (p := p) (by omega)
    rw [z] at this
    simp at this
    omega
  have n2 : win e (left + 1) p ≠ [] := fun z => by
    have := win_len (e := e) (left := left + 1) (p := p) (by omega)
    rw [z] at this
    simp at this
    omega
  unfold at_
  rw [List.length_take, List.length_take, Nat.min_eq_left (by omega), Nat.min_eq_left (by omega), if_neg n1, if_neg n2]
  by_cases c1 : n ≤ left
  · rw [if_pos c1, if_pos (by omega), getD_take (by omega), getD_take (by omega)]
  · by_cases c2 : n ≤ left + 1
    · rw [if_neg c1, if_pos c2, getD_take (by omega), show n - left - 1 = 0 by omega, walk_lt (by rw [win_len (by omega)]; exact hp), win_get hp, show n - 1 = left + 0 by omega]
    · rw [if_neg c1, if_neg c2, win_step hp hle hs, show n - (left + 1) - 1 + 1 = n - left - 1 by omega]
theorem min_step {e : List Int} {left p : Nat} {r : Int} (hp : 0 < p) (hle : left + 1 + p ≤ e.length) (hs : e.getD left 0 + r = e.getD (left + p) 0) (h : LoopMin (win e (left + 1) p) r) : LoopMin (win e left p) r := by
  have l0 := win_len (e := e) (left := left) (p := p) (by omega)
  have l1 := win_len (e := e) (left := left + 1) (p := p) (by omega)
  intro m hm hd hq
  rw [l0] at hd ⊢
  have := h m hm (by rw [l1]; exact hd) (by
    obtain ⟨c, hc⟩ := hq
    refine ⟨c, fun k => ?_⟩
    rw [win_step hp hle hs, win_step hp hle hs, show k + m + 1 = k + 1 + m by omega, hc])
  rw [l1] at this
  exact this
theorem cut_le {e : List Int} {p : Nat} {r : Int} : ∀ k, cut e p r k ≤ k
  | 0 => Nat.le_refl _
  | k + 1 => by
    unfold cut
    split
    · exact Nat.le_succ_of_le (cut_le k)
    · exact Nat.le_refl _
theorem cut_at {e : List Int} {p : Nat} {r : Int} (hp : 0 < p) : ∀ k, k + p ≤ e.length → ∀ n, 1 ≤ n → at_ (e.take (cut e p r k)) (win e (cut e p r k) p) r n = at_ (e.take k) (win e k p) r n
  | 0, _, _, _ => rfl
  | k + 1, h, n, hn => by
    unfold cut
    split
    · rename_i c
      rw [cut_at hp k (by omega) n hn]
      exact at_step hp h c n hn
    · rfl
theorem cut_min {e : List Int} {p : Nat} {r : Int} (hp : 0 < p) : ∀ k, k + p ≤ e.length → LoopMin (win e k p) r → LoopMin (win e (cut e p r k) p) r
  | 0, _, h => h
  | k + 1, hk, h => by
    unfold cut
    split
    · rename_i c
      exact cut_min hp k (by omega) (min_step hp hk c h)
    · exact h
theorem cut_head {e : List Int} {p : Nat} {r : Int} (hp : 0 < p) : ∀ k, k + p ≤ e.length → HeadMin (e.take (cut e p r k)) (win e (cut e p r k) p) r
  | 0, h => fun k hk => by
    unfold cut at hk
    simp at hk
  | k + 1, h => by
    unfold cut
    split
    · exact cut_head hp k (by omega)
    · rename_i c
      intro j hj
      rw [List.length_take, Nat.min_eq_left (by omega)] at hj
      have ej : j = k := by omega
      subst ej
      rw [getD_take (by omega), win_len (by omega), win_get (by omega)]
      intro z
      exact c (by rw [z]; congr 1; omega)
/-! ### the plain form -/
def IsPlain (h l : List Int) (r : Int) (x : List Int × List Int × Int) : Prop :=
  (l = [] ∧ x = (h, [], 0)) ∨ (l ≠ [] ∧ x.2.1 ≠ [] ∧ LoopMin x.2.1 x.2.2 ∧ HeadMin x.1 x.2.1 x.2.2 ∧ ∀ n, 1 ≤ n → at_ x.1 x.2.1 x.2.2 n = at_ h l r n)
theorem plain_one {h1 l1 h2 l2 : List Int} {r1 r2 : Int} {x y : List Int × List Int × Int} (a : IsPlain h1 l1 r1 x) (b : IsPlain h2 l2 r2 y) (e : ∀ n, 1 ≤ n → at_ h1 l1 r1 n = at_ h2 l2 r2 n) : x = y := by
  rcases a with ⟨rfl, rfl⟩ | ⟨n1, n1', m1, k1, e1⟩
  · rcases b with ⟨rfl, rfl⟩ | ⟨n2, n2', m2, k2, e2⟩
    · rw [one_never e]
    · have q := e (h1.length + h2.length + 1) (by omega)
      rw [at_loop n2 (by omega)] at q
      unfold at_ at q
      rw [if_neg (by omega), if_pos rfl] at q
      cases q
  · rcases b with ⟨rfl, rfl⟩ | ⟨n2, n2', m2, k2, e2⟩
    · have q := e (h1.length + h2.length + 1) (by omega)
      rw [at_loop n1 (by omega)] at q
      unfold at_ at q
      rw [if_neg (by omega), if_pos rfl] at q
      cases q
    · obtain ⟨q1, q2, q3⟩ := one_form n1' n2' m1 m2 k1 k2 fun n hn => by rw [e1 n hn, e n hn, e2 n hn]
      obtain ⟨x1, x2, x3⟩ := x
      obtain ⟨y1, y2, y3⟩ := y
      dsimp only at q1 q2 q3
      rw [q1, q2, q3]
theorem plain_is {h l : List Int} {r : Int} {m : Nat} (hl : l ≠ []) (a : LapIs l r m) {c : Int} (hc : ∀ k, walk l r (k + m) = walk l r k + c) :
    IsPlain h l r ((h ++ l.take m).take (cut (h ++ l.take m) m c h.length), win (h ++ l.take m) (cut (h ++ l.take m) m c h.length) m, c) := by
  have hle : m ≤ l.length := Nat.le_of_dvd (len_pos hl) a.dvd
  have hlen : (h ++ l.take m).length = h.length + m := by rw [List.length_append, List.length_take, Nat.min_eq_left hle]
  have hcut := cut_le (e := h ++ l.take m) (p := m) (r := c) h.length
  have hw : win (h ++ l.take m) h.length m = l.take m := by
    unfold win
    rw [List.drop_left, List.take_of_length_le (by rw [List.length_take]; omega)]
  have ht : (h ++ l.take m).take h.length = h := List.take_left
  refine .inr ⟨hl, fun z => ?_, ?_, ?_, fun n hn => ?_⟩
  · have q := win_len (e := h ++ l.take m) (left := cut (h ++ l.take m) m c h.length) (p := m) (by rw [hlen]; omega)
    have z' : win (h ++ l.take m) (cut (h ++ l.take m) m c h.length) m = [] := z
    rw [z'] at q
    have := a.pos
    simp at q
    omega
  · exact cut_min a.pos _ (by rw [hlen]; exact Nat.le_refl _) (by rw [hw]; exact short_min hl a hc)
  · exact cut_head a.pos _ (by rw [hlen]; exact Nat.le_refl _)
  · show at_ ((h ++ l.take m).take (cut (h ++ l.take m) m c h.length)) (win (h ++ l.take m) (cut (h ++ l.take m) m c h.length) m) c n = _
    rw [cut_at a.pos _ (by rw [hlen]; exact Nat.le_refl _) n hn, hw, ht]
    unfold at_
    have n1 : l.take m ≠ [] := fun z => by
      have q := congrArg List.length z
      rw [List.length_take, Nat.min_eq_left hle] at q
      have := a.pos
      simp at q
      omega
    rw [if_neg hl, if_neg n1, walk_short a.pos hle hc]
end NT
set_option linter.all false
namespace NT
def sk (l : List Int) (r : Int) (k : Nat) : Int := walk l r (k + 1) - walk l r k
def steps (l : List Int) (r : Int) : List Int := (List.range l.length).map (sk l r)
section
variable {l : List Int} {r : Int} {m : Nat}
theorem sk_add (hl : l ≠ []) (k q : Nat) : sk l r (k + l.length * q) = sk l r k := by
  unfold sk
  rw [show k + l.length * q + 1 = (k + 1) + l.length * q by omega, walk_add_mul (len_pos hl), walk_add_mul (len_pos hl)]
  omega
theorem per_of_sk (h : ∀ k, sk l r (k + m) = sk l r k) : Per (walk l r) m := by
  refine ⟨walk l r m - walk l r 0, fun k => ?_⟩
  induction k with
  | zero => rw [Nat.zero_add]; omega
  | succ k ih =>
    have q := h k
    unfold sk at q
    rw [show k + 1 + m = k + m + 1 by omega]
    omega
theorem sk_of_per (h : Per (walk l r) m) (k : Nat) : sk l r (k + m) = sk l r k := by
  obtain ⟨c, hc⟩ := h
  unfold sk
  rw [show k + m + 1 = (k + 1) + m by omega, hc, hc]
  omega
theorem chain_up {f : Nat → Int} {n : Nat} {c : Int} (h : ∀ k, k + m < n → f (k + m) = f k + c) (j : Nat) : ∀ u, j + m * u < n → f (j + m * u) = f j + c * (u : Int)
  | 0, _ => by simp
  | u + 1, hu => by
    have e : j + m * (u + 1) = j + m * u + m := by rw [Nat.mul_succ]; omega
    have ih := chain_up h j u (by omega)
    rw [e, h _ (by omega), ih, Int.natCast_add, Int.mul_add]
    omega
/-- a place in the last part of a loop -/
theorem last_part {n i t : Nat} (hm : 0 < m) (ht : m * t = n) (hi : i < n) (hg : ¬ i + m < n) : ∃ j, j < m ∧ i + m = n + j ∧ i = j + m * (t - 1) ∧ 0 < t := by
  have t0 : 0 < t := Nat.pos_of_ne_zero fun z => by rw [z, Nat.mul_zero] at ht; omega
  obtain ⟨t', rfl⟩ : ∃ t', t = t' + 1 := ⟨t - 1, by omega⟩
  rw [Nat.mul_succ] at ht
  refine ⟨i + m - n, by omega, by omega, ?_, t0⟩
  rw [show t' + 1 - 1 = t' by omega]
  omega
theorem cond_iff (hl : l ≠ []) (hm : 0 < m) (hd : m ∣ l.length) : ((steps l r).drop m = (steps l r).take (l.length - m)) ↔ Per (walk l r) m := by
  obtain ⟨t, ht⟩ := hd
  have hle : m ≤ l.length := by rw [ht]; exact Nat.le_mul_of_pos_right _ (Nat.pos_of_ne_zero fun z => by rw [z, Nat.mul_zero] at ht; exact absurd ht (Nat.ne_of_gt (len_pos hl)))
  constructor
  · intro h
    have h0 : ∀ k, k + m < l.length → sk l r (k + m) = sk l r k + 0 := fun k hk => by
      have q := congrArg (fun z : List Int => z[k]?) h
      simp only [steps, List.getElem?_drop, List.getElem?_take, if_pos (show k < l.length - m by omega), List.getElem?_map, List.getElem?_range (show m + k < l.length by omega), List.getElem?_range (show k < l.length by omega), Option.map_some, Option.some.injEq] at q
      rw [show k + m = m + k by omega, q]
      omega
    refine per_of_sk fun k => ?_
    have hp := len_pos hl
    have e : k = k % l.length + l.length * (k / l.length) := (Nat.mod_add_div k _).symm
    have hi : k % l.length < l.length := Nat.mod_lt _ hp
    have e1 : sk l r k = sk l r (k % l.length) := by
      have := sk_add (r := r) hl (k % l.length) (k / l.length)
      rw [← e] at this
      exact this
    have e2 : sk l r (k + m) = sk l r (k % l.length + m) := by
      have := sk_add (r := r) hl (k % l.length + m) (k / l.length)
      rw [show k % l.length + m + l.length * (k / l.length) = k + m by omega] at this
      exact this
    rw [e1, e2]
    by_cases c : k % l.length + m < l.length
    · rw [h0 _ c]; omega
    · obtain ⟨j, j1, j2, j3, t0⟩ := last_part hm ht.symm hi c
      have q := chain_up (f := sk l r) (n := l.length) h0 j (t - 1) (by omega)
      rw [j2, show l.length + j = j + l.length * 1 by omega, sk_add hl, j3, q]
      omega
  · intro h
    refine List.ext_getElem? fun k => ?_
    simp only [steps, List.getElem?_drop, List.getElem?_take, List.getElem?_map]
    by_cases c : k < l.length - m
    · rw [if_pos c, List.getElem?_range (by omega), List.getElem?_range (by omega)]
      simp only [Option.map_some]
      rw [show m + k = k + m by omega, sk_of_per h]
    · rw [if_neg c, List.getElem?_eq_none (by rw [List.length_range]; omega)]
      rfl
theorem walk_i {i : Nat} (h : i < l.length) : walk l r i = l.getD i 0 := walk_lt h
/-- the law's own look at a part of a loop -/
theorem law_iff (hl : l ≠ []) (hm : 0 < m) {t : Nat} (ht : m * t = l.length) : (r % (t : Int) = 0 ∧ ∀ k, k + m < l.length → l.getD (k + m) 0 = l.getD k 0 + r / (t : Int)) ↔ Per (walk l r) m := by
  have hp := len_pos hl
  have t0 : 0 < t := Nat.pos_of_ne_zero fun z => by rw [z, Nat.mul_zero] at ht; omega
  constructor
  · rintro ⟨h1, h2⟩
    have hr : r = r / (t : Int) * (t : Int) := (Int.ediv_mul_cancel (Int.dvd_of_emod_eq_zero h1)).symm
    refine ⟨r / (t : Int), fun k => ?_⟩
    have e : k = k % l.length + l.length * (k / l.length) := (Nat.mod_add_div k _).symm
    have hi : k % l.length < l.length := Nat.mod_lt _ hp
    have e1 : walk l r k = walk l r (k % l.length) + r * ((k / l.length : Nat) : Int) := by
      have := walk_add_mul (r := r) hp (k % l.length) (k / l.length)
      rw [← e] at this
      exact this
    have e2 : walk l r (k + m) = walk l r (k % l.length + m) + r * ((k / l.length : Nat) : Int) := by
      have := walk_add_mul (r := r) hp (k % l.length + m) (k / l.length)
      rw [show k % l.length + m + l.length * (k / l.length) = k + m by omega] at this
      exact this
    rw [e1, e2, walk_i hi]
    by_cases c : k % l.length + m < l.length
    · rw [walk_i c, h2 _ c]; omega
    · obtain ⟨j, j1, j2, j3, _⟩ := last_part hm ht hi c
      have q := chain_up (f := fun i => l.getD i 0) (n := l.length) h2 j (t - 1) (by omega)
      have q' : l.getD (k % l.length) 0 = l.getD j 0 + r / (t : Int) * ((t - 1 : Nat) : Int) := by rw [← q]; exact congrArg (fun i => l.getD i 0) j3
      have hjl : j < l.length := by omega
      rw [j2, show l.length + j = j + l.length by omega, walk_add hp, walk_i hjl, q']
      have e3 : r / (t : Int) * (t : Int) = r / (t : Int) * ((t - 1 : Nat) : Int) + r / (t : Int) := by
        rw [show (t : Int) = ((t - 1 : Nat) : Int) + 1 by omega, Int.mul_add, Int.mul_one]
      omega
  · rintro ⟨c, hc⟩
    have hr := per_rise hl hc ht
    have hd : r / (t : Int) = c := by
      rw [hr]
      exact Int.mul_ediv_cancel _ (by omega)
    refine ⟨by rw [hr]; exact Int.mul_emod_left _ _, fun k hk => ?_⟩
    have q := hc k
    rw [walk_i hk, walk_i (by omega)] at q
    rw [q, hd]
/-- what goes on by a part goes on so by its rise -/
theorem per_at (hl : l ≠ []) (hm : 0 < m) (h : Per (walk l r) m) {t : Nat} (ht : m * t = l.length) : ∀ k, walk l r (k + m) = walk l r k + r / (t : Int) := by
  obtain ⟨c, hc⟩ := h
  have hr := per_rise hl hc ht
  have t0 : 0 < t := Nat.pos_of_ne_zero fun z => by rw [z, Nat.mul_zero] at ht; exact absurd ht.symm (Nat.ne_of_gt (len_pos hl))
  have hd : r / (t : Int) = c := by
    rw [hr]
    exact Int.mul_ediv_cancel _ (by omega)
  rw [hd]
  exact hc
/-- the program's search -/
theorem lap_prog (hl : l ≠ []) (hm : 0 < m) (hle : m ≤ l.length / 2) (hd : m ∣ l.length) (hp : Per (walk l r) m) (hno : ∀ m', 0 < m' → m' < m → m' ∣ l.length → ¬ Per (walk l r) m') : LapIs l r m :=
  ⟨hm, hd, hp, fun m' p d q => Nat.le_of_not_lt fun c => hno m' p c d q⟩
theorem lap_whole (hl : l ≠ []) (hno : ∀ m', 0 < m' → m' ≤ l.length / 2 → m' ∣ l.length → ¬ Per (walk l r) m') : LapIs l r l.length :=
  ⟨len_pos hl, Nat.dvd_refl _, per_self hl, fun m' p d q => Nat.le_of_not_lt fun c => hno m' p (by
    obtain ⟨t, ht⟩ := d
    have t2 : 2 ≤ t := Nat.le_of_not_lt fun z => by
      have : t = 0 ∨ t = 1 := by omega
      rcases this with rfl | rfl
      · rw [Nat.mul_zero] at ht; omega
      · rw [Nat.mul_one] at ht; omega
    have : m' * 2 ≤ l.length := by rw [ht]; exact Nat.mul_le_mul_left _ t2
    omega) d q⟩
end
end NT
set_option Elab.async false
set_option linter.all false
set_option maxRecDepth 100000
set_option maxHeartbeats 4000000
namespace NF
open PySem PySem.Spec PyProof.Rows L2 He RZ
theorem Same.tup {K : PySem.W.Frag} {H H' : Hp} {a : Addr} {xs : List V} (e : Same H H') (h : SqT K H a xs) : SqT K H' a xs := by
  rcases h with (h | ⟨o, h⟩) | h
  · exact .inl (.inl (e _ _ h))
  · exact .inl (.inr ⟨o, e _ _ h⟩)
  · exact .inr h
abbrev vI (l : List Int) : List V := l.map V.int
/-! ### o.f = v as one of several targets -/
def gFld (K : PySem.W.Frag) (ta : TE) (f : Str) : TG := fun v σ H Q => ta σ H fun x H1 => ∃ a C dx fs, x = .ref a ∧ H1 a = some (.ins C dx fs) ∧ Cls K C ∧ NoAttr K C f ∧ fs.length < 1000 ∧ Q σ (upd H1 a (.ins C dx (putF f v fs)))
theorem pg_fld {X : Cx} {o : Expr} {f : Str} {pos : Pos} {ta : TE} (ha : PE X o ta) : PG X (.Attribute o f pos) (gFld X.K ta f) := by
  refine ⟨fun pins s σ H v u Q I r h => ?_⟩
  refine PySem.W.kas_attr (thn (ha.run pins s σ H _ I h) fun ov s1 ⟨x, H1, I1, rx, a, C, dx, fs, ex, ea, c, n, l, q⟩ => ?_)
  subst ex
  obtain rfl : ov = Value.ref a := rx
  exact setattr_ok I1 ea c n l r fun s2 I2 => ⟨σ, _, I2, q⟩
/-! ### a name of the module that is a function of Python's own -/
theorem pe_gl {X : Cx} {x : Str} {a : Addr} {pos : Pos} (hm : X.mg x = some (.ref a)) (hg : Gl X x := by rfl) (hd : (x == ("__debug__" : Str)) = false := by decide) : PE X (.Name x pos) (tC (.ref a)) := pe_glob (v := .ref a) hg hm rfl hd
theorem ixl {X : Cx} {K : PySem.W.Frag} (h : X.K = K := by rfl) : IxR X (rIxL K) := h ▸ ix_list
theorem pgt {X : Cx} {K : PySem.W.Frag} {es : List Expr} {k : Nat} {pos : Pos} {t : TGs} {n : Nat} (hK : X.K = K) (hc : X.calm = true) (h : PGs X es t)
    (hn : (assignEach es X.env).length = n := by rfl) (hst : (assignEach es X.env).findIdx? (·.1) = none := by rfl) : PG X (.Tuple es k pos) (gTup K n t) := hK ▸ pg_tup hc h hn hst
theorem ixt {X : Cx} {K : PySem.W.Frag} (h : X.K = K := by rfl) : IxR X (rIxT K) := h ▸ ix_tup
/-! ### slices and sums of tuples: whatever object they give -/
theorem sIx_negN {n d k : Nat} (hk : 0 < k) : HT.sIx n d (some (-(k : Int))) = n - k := by
  show (if -(k : Int) < 0 then (-(k : Int) + (n : Int)).toNat else min (-(k : Int)).toNat n) = n - k
  rw [if_pos (by omega)]
  omega
theorem cut_whole {xs : List V} {lo hi : Option Int} (h : HT.sIx xs.length 0 lo = 0 ∧ HT.sIx xs.length xs.length hi = xs.length) : cutV xs lo hi = xs := by
  unfold cutV
  rw [h.1, h.2]
  simp
theorem slA_done {K : PySem.W.Frag} {H : Hp} {a : Addr} {xs : List V} {lo hi : Option Int} {Q : VK} (hx : SqT K H a xs) (q : ∀ p H', Same H H' → SqT K H' p (cutV xs lo hi) → Q (.ref p) H') : rSlA K (.ref a) lo hi H Q := by
  refine ⟨a, xs, rfl, hx, fun w => q a H (Same.refl H) (by rw [cut_whole w]; exact hx), fun _ p hp => q p _ (NF.Same.new (Same.refl H) hp) (SqT.of upd_same)⟩
theorem slA_from {K : PySem.W.Frag} {H : Hp} {a : Addr} {xs : List V} {lo : Option Int} {Q : VK} {σ : L2.St} (hx : SqT K H a xs) (q : ∀ p H', Same H H' → SqT K H' p (cutV xs lo none) → Q (.ref p) H') : tNoPart σ H fun u H3 => rSlA K (.ref a) lo u H3 Q := by
  show rSlA K (.ref a) lo none H Q
  exact slA_done hx q
theorem catA_done {K : PySem.W.Frag} {H : Hp} {a b : Addr} {xs ys : List V} {Q : VK} (hx : SqT K H a xs) (hy : SqT K H b ys) (hz : xs.length + ys.length ≤ sizeLine) (q : ∀ p H', Same H H' → SqT K H' p (xs ++ ys) → Q (.ref p) H') : rCatA K (.ref a) (.ref b) H Q := by
  refine ⟨a, b, xs, ys, rfl, rfl, hx, hy, hz, fun e => q b H (Same.refl H) (by rw [e]; exact hy), fun _ e => q a H (Same.refl H) (by rw [e, List.append_nil]; exact hx), fun _ _ p hp => q p _ (NF.Same.new (Same.refl H) hp) (SqT.of upd_same)⟩
theorem cut_from {xs : List V} {n : Nat} : cutV xs (some (n : Int)) none = xs.drop n := by
  unfold cutV
  rw [HT.sIx_nat]
  show (xs.drop (min n xs.length)).take (xs.length - min n xs.length) = xs.drop n
  by_cases h : n ≤ xs.length
  · rw [Nat.min_eq_left h, List.take_of_length_le (by rw [List.length_drop]; exact Nat.le_refl _)]
  · rw [Nat.min_eq_right (by omega), List.drop_of_length_le (Nat.le_refl _), List.drop_of_length_le (by omega)]
    simp
theorem cut_to {xs : List V} {n : Nat} : cutV xs none (some (n : Int)) = xs.take n := by
  unfold cutV
  rw [HT.sIx_nat]
  show (xs.drop 0).take (min n xs.length - 0) = xs.take n
  rw [List.drop_zero, Nat.sub_zero]
  by_cases h : n ≤ xs.length
  · rw [Nat.min_eq_left h]
  · rw [Nat.min_eq_right (by omega), List.take_of_length_le (Nat.le_refl _), List.take_of_length_le (by omega)]
theorem cut_toN {xs : List V} {n : Nat} (h : 0 < n) : cutV xs none (some (-(n : Int))) = xs.take (xs.length - n) := by
  unfold cutV
  rw [sIx_negN h]
  show (xs.drop 0).take (xs.length - n - 0) = _
  rw [List.drop_zero, Nat.sub_zero]
theorem cut_mid {xs : List V} {a b : Nat} (h : a ≤ b) (hb : b ≤ xs.length) : cutV xs (some (a : Int)) (some (b : Int)) = (xs.drop a).take (b - a) := by
  unfold cutV
  rw [HT.sIx_nat, HT.sIx_nat, Nat.min_eq_left hb, Nat.min_eq_left (by omega)]
theorem map_cut {l : List Int} {lo hi : Option Int} : ∃ m : List Int, cutV (vI l) lo hi = vI m := ⟨(l.drop (HT.sIx (vI l).length 0 lo)).take (HT.sIx (vI l).length (vI l).length hi - HT.sIx (vI l).length 0 lo), by unfold cutV; simp only [vI, List.map_take, List.map_drop]⟩
theorem at_int {l : List Int} {i : Int} {k : Nat} (e : i = (k : Int)) (h : k < l.length) : atI (vI l) i = some (V.int (l.getD k 0)) := by
  rw [e]
  exact atI_nat (by rw [List.getElem?_map, List.getElem?_eq_getElem h, List.getD_eq_getElem?_getD, List.getElem?_eq_getElem h] <;> rfl)
theorem at_last {l : List Int} (h : 0 < l.length) : atI (vI l) (-1) = some (V.int (l.getD (l.length - 1) 0)) := by
  unfold atI ixN
  rw [if_neg (by omega), List.length_map, if_pos (by omega)]
  show (vI l)[((-1 : Int) + (l.length : Int)).toNat]? = _
  rw [show ((-1 : Int) + (l.length : Int)).toNat = l.length - 1 by omega, List.getElem?_map, List.getElem?_eq_getElem (by omega), List.getD_eq_getElem?_getD, List.getElem?_eq_getElem (by omega)] <;> rfl
/-! ### [.. for a, b in zip(t, u)] of two tuples of one length -/
theorem lc_zipT {K : PySem.W.Frag} {a b : Addr} {xs ys : List V} {g : TG} {tt : TT} {te : TE} {vs : List Nat} {σ : L2.St} {H1 : Hp} {D : Addr} {Qd : Hp → Prop} (hl : xs.length = ys.length) (Pv : Nat → Hp → Prop) (h0 : Pv 0 (upd H1 D (.lst []))) (hq : ∀ i H, Pv i H → SqT K H a xs ∧ SqT K H b ys)
    (hs : ∀ i x y T H, xs[i]? = some x → ys[i]? = some y → Pv i H → H T = none → g (.ref T) (wipe σ vs) (upd H T (.tup [x, y])) fun σ2 H2 => wipe σ2 vs = wipe σ vs ∧ tt σ2 H2 fun b H3 =>
      if b = true then te σ2 H3 fun y H4 => ∃ acc, H4 D = some (.lst acc) ∧ acc.length < sizeLine ∧ Pv (i + 1) (upd H4 D (.lst (acc ++ [y]))) else Pv (i + 1) H3) (hd : ∀ H, Pv xs.length H → Qd H) :
    ∃ W : Nat → Nat → Hp → Prop, (∃ m, W 0 m (upd H1 D (.lst []))) ∧ ∀ i m H, W i m H →
      ((ItzT K a b).stop i H ∧ Qd H) ∨ ((ItzT K a b).go i H ∧ ∃ Nx : Hp → Prop, (∀ H', Nx H' → ∃ m', m' < m ∧ W (i + 1) m' H') ∧ ∀ x H', (ItzT K a b).yld i H x H' → g x (wipe σ vs) H' fun σ2 H2 => wipe σ2 vs = wipe σ vs ∧ tt σ2 H2 fun b H3 =>
        if b = true then te σ2 H3 fun y H4 => ∃ acc, H4 D = some (.lst acc) ∧ acc.length < sizeLine ∧ Nx (upd H4 D (.lst (acc ++ [y]))) else Nx H3) := by
  refine ⟨fun i m H => m = xs.length - i ∧ i ≤ xs.length ∧ Pv i H, ⟨xs.length, rfl, Nat.zero_le _, h0⟩, ?_⟩
  rintro i m H ⟨rfl, hi, p⟩
  obtain ⟨qx, qy⟩ := hq i H p
  by_cases hlt : i < xs.length
  · have hx : xs[i]? = some xs[i] := List.getElem?_eq_getElem hlt
    have hlt2 : i < ys.length := by omega
    have hy : ys[i]? = some ys[i] := List.getElem?_eq_getElem hlt2
    refine .inr ⟨⟨xs, ys, _, _, qx, qy, hx, hy⟩, Pv (i + 1), fun H' p' => ⟨xs.length - (i + 1), by omega, rfl, hlt, p'⟩, fun v H' y => ?_⟩
    obtain ⟨T, x', y', rfl, hT, rfl, f1, f2⟩ := y
    exact hs i x' y' T H (f1 xs qx) (f2 ys qy) p hT
  · have e : i = xs.length := by omega
    subst e
    exact .inl ⟨⟨xs, ys, qx, qy, Or.inl (Nat.le_refl _)⟩, hd H p⟩
theorem tru_tup {K : PySem.W.Frag} {H : Hp} {a : Addr} {l : List Int} (h : SqT K H a (vI l)) : TruV K (.ref a) H (!l.isEmpty) := Or.inr (Or.inl ⟨_, h, by cases l <;> rfl⟩)
theorem tru_int {K : PySem.W.Frag} {H : Hp} {i : Int} : TruV K (.int i) H (i != 0) := rfl
/-! ### deep == of lists and tuples of vI -/
theorem dp_ints {K : PySem.W.Frag} {H : Hp} : ∀ l : List Int, DpAll K H (vI l) (l.map PyData.int)
  | [] => .nil
  | i :: l => .cons (.int i) (dp_ints l)
theorem eqv_ints : ∀ a b : List Int, PyData.eqvAll (a.map PyData.int) (b.map PyData.int) = decide (a = b)
  | [], [] => rfl
  | [], _ :: _ => rfl
  | _ :: _, [] => rfl
  | x :: a, y :: b => by
    show (PyData.eqv (.int x) (.int y) && PyData.eqvAll (a.map PyData.int) (b.map PyData.int)) = _
    rw [eqv_ints a b]
    show ((x == y) && decide (a = b)) = _
    by_cases h : x = y <;> by_cases g : a = b <;> simp [h, g]
end NF
namespace NF
open PySem PySem.Spec PyProof.Rows L2 He RZ
theorem lay_ints : ∀ l : List Int, PyData.canLayAll0 (l.map PyData.int) = true
  | [] => rfl
  | _ :: l => lay_ints l
theorem depth_ints : ∀ l : List Int, PyData.depthAll (l.map PyData.int) = 0
  | [] => rfl
  | i :: l => by
    show max (PyData.depth (.int i)) (PyData.depthAll (l.map PyData.int)) = 0
    rw [depth_ints l]
    rfl
theorem shaped_L (l : List Int) : SeqAt.shaped (.list (l.map PyData.int)) = true := by
  show (PyData.canLayAll0 (l.map PyData.int) && decide (PyData.depthAll (l.map PyData.int) + 1 ≤ 64)) = true
  rw [lay_ints, depth_ints]
  rfl
theorem shaped_T (l : List Int) : SeqAt.shaped (.tuple (l.map PyData.int)) = true := by
  show (PyData.canLayAll0 (l.map PyData.int) && decide (PyData.depthAll (l.map PyData.int) + 1 ≤ 64)) = true
  rw [lay_ints, depth_ints]
  rfl
theorem eqL_done {K : PySem.W.Frag} {H : Hp} {a b : Addr} {x y : List Int} {Q : VK} (hx : SqL K H a (vI x)) (hy : SqL K H b (vI y)) (q : Q (.bl (decide (x = y))) H) : rEqD K (.ref a) (.ref b) H Q :=
  ⟨_, _, .lst hx (dp_ints x), .lst hy (dp_ints y), shaped_L x, shaped_L y, by rw [show PyData.eqv (.list (x.map PyData.int)) (.list (y.map PyData.int)) = decide (x = y) from eqv_ints x y]; exact q⟩
theorem eqT_done {K : PySem.W.Frag} {H : Hp} {a b : Addr} {x y : List Int} {Q : VK} (hx : SqT K H a (vI x)) (hy : SqT K H b (vI y)) (q : Q (.bl (decide (x = y))) H) : rEqD K (.ref a) (.ref b) H Q :=
  ⟨_, _, .tup hx (dp_ints x), .tup hy (dp_ints y), shaped_T x, shaped_T y, by rw [show PyData.eqv (.tuple (x.map PyData.int)) (.tuple (y.map PyData.int)) = decide (x = y) from eqv_ints x y]; exact q⟩
theorem neT_done {K : PySem.W.Frag} {H : Hp} {a b : Addr} {x y : List Int} {Q : VK} (hx : SqT K H a (vI x)) (hy : SqT K H b (vI y)) (q : Q (.bl (!decide (x = y))) H) : rNeD K (.ref a) (.ref b) H Q :=
  ⟨_, _, .tup hx (dp_ints x), .tup hy (dp_ints y), shaped_T x, shaped_T y, by rw [show PyData.eqv (.tuple (x.map PyData.int)) (.tuple (y.map PyData.int)) = decide (x = y) from eqv_ints x y]; exact q⟩
end NF
namespace NF
open PySem
theorem vI_drop {l : List Int} {n : Nat} : (vI l).drop n = vI (l.drop n) := by simp [vI, List.map_drop]
theorem vI_take {l : List Int} {n : Nat} : (vI l).take n = vI (l.take n) := by simp [vI, List.map_take]
theorem vI_app {l m : List Int} : vI l ++ vI m = vI (l ++ m) := by simp [vI]
theorem vI_len {l : List Int} : (vI l).length = l.length := by simp [vI]
end NF
namespace NF
open PySem PySem.Spec PyProof.Rows L2 He RZ
/-- a list or a tuple -/
def Row (K : PySem.W.Frag) (H : Hp) (a : Addr) (xs : List V) : Prop := SqL K H a xs ∨ SqT K H a xs
theorem Row.mono {K : PySem.W.Frag} {H H' : Hp} {a : Addr} {xs : List V} (h : Row K H a xs) (s : Same H H') : Row K H' a xs := h.elim (fun h => .inl (L2.Same.seq s h)) (fun h => .inr (NF.Same.tup s h))
def iRow (K : PySem.W.Frag) (tl : TE) : TI := fun σ H R => tl σ H fun x H1 => ∃ a, x = .ref a ∧ (((∃ xs, SqL K H1 a xs) ∧ R (Itl K a) H1) ∨ ((∃ xs, SqT K H1 a xs) ∧ R (Itt K a) H1))
theorem pi_row {X : Cx} {tg l : Expr} {tl : TE} (hl : PE X l tl) : PI X tg l (iRow X.K tl) := by
  refine ⟨fun pins s σ H R I h => ?_⟩
  refine thn (hl.run pins s σ H _ I h) fun v s1 ⟨x, H1, I1, r1, q1⟩ => ?_
  obtain ⟨a, e, q⟩ := q1
  subst e
  cases r1
  rcases q with ⟨⟨xs, hq⟩, q⟩ | ⟨⟨xs, hq⟩, q⟩
  · obtain ⟨its, rv, p, hz⟩ := I1.list hq
    refine wpAny_pyIter_list p.isList ?_
    refine ⟨s1.heap.objs.size, [s1.heap.objs.size], _, _, H1, rfl, I1.kept (t' := s1.toks) fun b o e => Heap.get?_push_of_some _ e, turn_list a _, ⟨_, Heap.get?_push_size _ rfl, rfl, rfl⟩, fun b hb => ?_, q⟩
    have e : b = s1.heap.objs.size := by simpa using hb
    subst e
    exact I1.fpOk (Nat.le_refl _) (I1.hok.fresh (Nat.le_refl _))
  · obtain ⟨its, rv, p, hz⟩ := I1.tuple hq
    refine wpAny_pyIter_tuple (show s1.heap.IsTuple a its.toArray from p) ?_
    refine ⟨s1.heap.objs.size, [s1.heap.objs.size], _, _, H1, rfl, I1.kept (t' := s1.toks) fun b o e => Heap.get?_push_of_some _ e, turn_tuple a _, ⟨_, Heap.get?_push_size _ rfl, rfl, rfl⟩, fun b hb => ?_, q⟩
    have e : b = s1.heap.objs.size := by simpa using hb
    subst e
    exact I1.fpOk (Nat.le_refl _) (I1.hok.fresh (Nat.le_refl _))
theorem for_row {K : PySem.W.Frag} {a : Addr} {xs : List V} {g : TG} {tb : TS} {D : Ends} {σ : L2.St} {H : Hp} (hr : Row K H a xs) (Pv : Nat → L2.St → Hp → Prop) (h0 : Pv 0 σ H) (hm : ∀ i σ H', Pv i σ H' → Same H H')
    (hs : ∀ i x σ H, xs[i]? = some x → Pv i σ H → g x σ H fun σ2 H2 => tb { D with nx := Pv (i + 1), ct := Pv (i + 1), bk := D.nx } σ2 H2) (hd : ∀ σ H, Pv xs.length σ H → D.nx σ H) :
    ((∃ xs, SqL K H a xs) ∧ (∃ W : Nat → Nat → L2.St → Hp → Prop, (∃ m, W 0 m σ H) ∧ ∀ i m σ H, W i m σ H →
      ((Itl K a).stop i H ∧ D.nx σ H) ∨ ((Itl K a).go i H ∧ ∃ N : L2.St → Hp → Prop, (∀ σ' H', N σ' H' → ∃ m', m' < m ∧ W (i + 1) m' σ' H') ∧ ∀ x H', (Itl K a).yld i H x H' → g x σ H' fun σ2 H2 => tb { D with nx := N, ct := N, bk := D.nx } σ2 H2))) ∨
    ((∃ xs, SqT K H a xs) ∧ (∃ W : Nat → Nat → L2.St → Hp → Prop, (∃ m, W 0 m σ H) ∧ ∀ i m σ H, W i m σ H →
      ((Itt K a).stop i H ∧ D.nx σ H) ∨ ((Itt K a).go i H ∧ ∃ N : L2.St → Hp → Prop, (∀ σ' H', N σ' H' → ∃ m', m' < m ∧ W (i + 1) m' σ' H') ∧ ∀ x H', (Itt K a).yld i H x H' → g x σ H' fun σ2 H2 => tb { D with nx := N, ct := N, bk := D.nx } σ2 H2))) := by
  rcases hr with hr | hr
  · exact .inl ⟨⟨_, hr⟩, for_list Pv h0 (fun i σ H' _ p => L2.Same.seq (hm i σ H' p) hr) hs hd⟩
  · exact .inr ⟨⟨_, hr⟩, for_tup Pv h0 (fun i σ H' _ p => NF.Same.tup (hm i σ H' p) hr) hs hd⟩
theorem ixs {X : Cx} {K : PySem.W.Frag} (h : X.K = K := by rfl) : IxR X (rIx K) := h ▸ ix_seq
theorem ix_done {K : PySem.W.Frag} {H : Hp} {a : Addr} {xs : List V} {i : Int} {v : V} {Q : VK} (hr : Row K H a xs) (hv : atI xs i = some v) (q : Q v H) : rIx K (.ref a) (.int i) H Q :=
  hr.elim (fun h => .inl ⟨a, xs, i, v, rfl, rfl, h, hv, q⟩) fun h => .inr (.inl ⟨a, xs, i, v, rfl, rfl, h, hv, q⟩)
theorem tru_row {K : PySem.W.Frag} {H : Hp} {a : Addr} {l : List Int} (h : Row K H a (vI l)) : TruV K (.ref a) H (!l.isEmpty) := h.elim (fun h => Or.inl ⟨_, h, by cases l <;> rfl⟩) tru_tup
theorem tyx_tup {K : PySem.W.Frag} {H : Hp} {a : Addr} {xs : List V} (h : SqT K H a xs) : TyX K H (.ref a) (.type "tuple") := by
  rcases h with (h | ⟨o, h⟩) | ⟨o, its, n, h1, h2, _⟩
  · exact .base (.tup h)
  · exact .fTuple h
  · exact .kTuple h1 h2
theorem tyx_lst {K : PySem.W.Frag} {H : Hp} {a : Addr} {xs : List V} (h : SqL K H a xs) : TyX K H (.ref a) (.type "list") := by
  rcases h with (h | ⟨o, h⟩) | ⟨o, its, n, h1, h2, _⟩
  · exact .base (.lst h)
  · exact .base (.frz h)
  · exact .kList h1 h2
theorem kit_i_i (K : PySem.W.Frag) : PySem.W.kitOne K (.type "int") (.type "int") = some true := if_pos (by decide +kernel)
theorem kit_i_b (K : PySem.W.Frag) : PySem.W.kitOne K (.type "int") (.type "bool") = some false := by kernel_rfl
theorem kit_b_b (K : PySem.W.Frag) : PySem.W.kitOne K (.type "bool") (.type "bool") = some true := if_pos (by decide +kernel)
theorem kit_t_t (K : PySem.W.Frag) : PySem.W.kitOne K (.type "tuple") (.type "tuple") = some true := if_pos (by decide +kernel)
theorem kit_t_tl (K : PySem.W.Frag) : PySem.W.kitAny K (.type "tuple") [.type "tuple", .type "list"] = some true := by kernel_rfl
theorem kit_l_tl (K : PySem.W.Frag) : PySem.W.kitAny K (.type "list") [.type "tuple", .type "list"] = some true := by kernel_rfl
end NF
namespace NT
def climbs : Int → List Int → Prop
  | _, [] => True
  | lo, x :: xs => lo ≤ x ∧ climbs x xs
structure Good (h l : List Int) (r : Int) : Prop where
  hd : climbs 0 h
  lp : climbs 0 l
  join : h ≠ [] → l ≠ [] → h.getD (h.length - 1) 0 ≤ l.getD 0 0
  r0 : 0 ≤ r
  rl : l = [] → r = 0
  last : l ≠ [] → l.getD (l.length - 1) 0 ≤ l.getD 0 0 + r
end NT
set_option Elab.async false
set_option linter.all false
set_option maxRecDepth 100000
set_option maxHeartbeats 4000000
namespace NT
theorem least_of {p : Nat → Prop} : ∀ n, p n → ∃ m, p m ∧ m ≤ n ∧ ∀ k, p k → m ≤ k := by
  intro n
  induction n using Nat.strongRecOn with
  | _ n ih =>
    intro hn
    by_cases h : ∃ k, p k ∧ k < n
    · obtain ⟨k, hk, hlt⟩ := h
      obtain ⟨m, h1, h2, h3⟩ := ih k hlt hk
      exact ⟨m, h1, by omega, h3⟩
    · exact ⟨n, hn, Nat.le_refl _, fun k hk => Nat.le_of_not_lt fun hlt => h ⟨k, hk, hlt⟩⟩
theorem lap_ex {l : List Int} {r : Int} (hl : l ≠ []) : ∃ m, LapIs l r m := by
  obtain ⟨m, ⟨h1, h2, h3⟩, _, hm⟩ := least_of (p := fun m => 0 < m ∧ m ∣ l.length ∧ Per (walk l r) m) l.length ⟨len_pos hl, Nat.dvd_refl _, per_self hl⟩
  exact ⟨m, h1, h2, h3, fun k a b c => hm k ⟨a, b, c⟩⟩
/-- the plain form is no longer than what it was told by -/
theorem plain_size {h l : List Int} {r : Int} {x : List Int × List Int × Int} (hx : IsPlain h l r x) : x.1.length ≤ h.length ∧ x.2.1.length ≤ l.length ∧ (l ≠ [] → x.2.1 ≠ []) ∧ (l = [] → x.2.1 = []) ∧ (0 ≤ r → 0 ≤ x.2.2 ∧ x.2.2 ≤ r) ∧ (l ≠ [] → (0 < r ↔ 0 < x.2.2)) ∧ (l = [] → x = (h, [], 0)) := by
  by_cases hl : l = []
  · subst hl
    rcases hx with ⟨_, rfl⟩ | ⟨z, _⟩
    · exact ⟨Nat.le_refl _, Nat.le_refl _, fun z => absurd rfl z, fun _ => rfl, fun h => ⟨Int.le_refl _, h⟩, fun z => absurd rfl z, fun _ => rfl⟩
    · exact absurd rfl z
  · obtain ⟨m, a⟩ := lap_ex (r := r) hl
    obtain ⟨t, ht⟩ := a.dvd
    have hc := per_at hl a.pos a.per ht.symm
    have hr := per_rise hl hc ht.symm
    have t0 : 0 < t := Nat.pos_of_ne_zero fun z => by rw [z, Nat.mul_zero] at ht; have := len_pos hl; omega
    have b := plain_is (h := h) hl a hc
    have e := plain_one hx b fun n _ => rfl
    have hle : m ≤ l.length := Nat.le_of_dvd (len_pos hl) a.dvd
    have hlen : (h ++ l.take m).length = h.length + m := by rw [List.length_append, List.length_take, Nat.min_eq_left hle]
    have hcut := cut_le (e := h ++ l.take m) (p := m) (r := r / (t : Int)) h.length
    have hw := win_len (e := h ++ l.take m) (left := cut (h ++ l.take m) m (r / (t : Int)) h.length) (p := m) (by rw [hlen]; omega)
    subst e
    have hm := a.pos
    refine ⟨?_, ?_, fun _ z => ?_, fun z => absurd z hl, fun h0 => ?_, fun _ => ?_, fun z => absurd z hl⟩
    · show ((h ++ l.take m).take _).length ≤ _
      rw [List.length_take]
      omega
    · show (win _ _ _).length ≤ _
      rw [hw]
      exact hle
    · have z' : win (h ++ l.take m) (cut (h ++ l.take m) m (r / (t : Int)) h.length) m = [] := z
      rw [z'] at hw
      simp at hw
      omega
    · show 0 ≤ r / (t : Int) ∧ r / (t : Int) ≤ r
      exact ⟨Int.ediv_nonneg h0 (by omega), Int.ediv_le_self _ h0⟩
    · show 0 < r ↔ 0 < r / (t : Int)
      have t1 : (0 : Int) < (t : Int) := by omega
      constructor
      · intro h0
        rcases Int.lt_or_le 0 (r / (t : Int)) with q | q
        · exact q
        · have := Int.mul_le_mul_of_nonneg_right q (Int.le_of_lt t1)
          omega
      · intro h0
        have := Int.mul_pos h0 t1
        omega
/-- the end of a table -/
def fin_ (l : List Int) (r : Int) : Option Int := if l = [] ∨ 0 < r then none else some (l.getD (l.length - 1) 0)
/-- the value at a count, or at never -/
def val_ (h l : List Int) (r : Int) : Option Nat → Option Int
  | none => fin_ l r
  | some n => if n = 0 then some 0 else at_ h l r n
end NT
namespace NF
open PySem PySem.Spec PyProof.Rows L2 He RZ NT
def vO : Option Int → V
  | none => .non
  | some i => .int i
def vN : Option Nat → V
  | none => .non
  | some n => .int (n : Int)
def tf (a b : Addr) (r : Int) : List (Str × V) := [("head", .ref a), ("loop", .ref b), ("rise", .int r)]
/-- a table with these three -/
def TabAt (K : PySem.W.Frag) (C : Addr) (H : Hp) (x : Addr) (y : List Int × List Int × Int) : Prop := ∃ dx a b, H x = some (.ins C dx (tf a b y.2.2)) ∧ SqT K H a (vI y.1) ∧ SqT K H b (vI y.2.1)
theorem TabAt.mono {K : PySem.W.Frag} {C : Addr} {H H' : Hp} {x : Addr} {y : List Int × List Int × Int} (h : TabAt K C H x y) (s : Same H H') : TabAt K C H' x y := by
  obtain ⟨dx, a, b, h1, h2, h3⟩ := h
  exact ⟨dx, a, b, s _ _ h1, NF.Same.tup s h2, NF.Same.tup s h3⟩
/-- what stands at p is no tuple -/
def NoTup : HO → Prop
  | .tup _ => False
  | .frz _ _ => False
  | _ => True
theorem SqT.put {K : PySem.W.Frag} {H : Hp} {a p : Addr} {o u : HO} {xs : List V} (h : SqT K H a xs) (hp : H p = some u) (n : match u with | .lst _ => True | .ins _ _ _ => True | _ => False) : SqT K (upd H p o) a xs := by
  rcases h with (h | ⟨w, h⟩) | h
  · refine .inl (.inl ?_)
    rw [upd_ne (fun z => by subst z; rw [h] at hp; cases hp; exact n)]
    exact h
  · refine .inl (.inr ⟨w, ?_⟩)
    rw [upd_ne (fun z => by subst z; rw [h] at hp; cases hp; exact n)]
    exact h
  · exact .inr h
theorem SqT.wo {K : PySem.W.Frag} {H : Hp} {a p : Addr} {u : HO} {xs : List V} (h : SqT K H a xs) (hp : H p = some u) (n : match u with | .lst _ => True | .ins _ _ _ => True | _ => False) : SqT K (wo H p) a xs := by
  rcases h with (h | ⟨w, h⟩) | h
  · refine .inl (.inl ?_)
    rw [wo_ne (fun z => by subst z; rw [h] at hp; cases hp; exact n)]
    exact h
  · refine .inl (.inr ⟨w, ?_⟩)
    rw [wo_ne (fun z => by subst z; rw [h] at hp; cases hp; exact n)]
    exact h
  · exact .inr h
theorem TabAt.wo {K : PySem.W.Frag} {C : Addr} {H : Hp} {x p : Addr} {y : List Int × List Int × Int} {l : List V} (h : TabAt K C H x y) (hp : H p = some (.lst l)) : TabAt K C (NF.wo H p) x y := by
  obtain ⟨dx, a, b, h1, h2, h3⟩ := h
  refine ⟨dx, a, b, ?_, SqT.wo h2 hp trivial, SqT.wo h3 hp trivial⟩
  rw [wo_ne (fun z => by subst z; rw [h1] at hp; cases hp)]
  exact h1
/-- a class that may be made by its name; sp: its __init__ -/
structure Mak (P : Program) (w : World) (K : PySem.W.Frag) (mg : Str → Option Value) (base : Heap) (k n : Nat) (x : Str) (C : Addr) (sp : Sp) (dvs : List V) : Prop where
  ex : ∃ (f : Addr) (fd : FuncData) (ps : List Str) (ds : List Value), Mk K C f ∧ FnOk P w K mg base CX0 k f fd ps sp ∧ mg x = some (.ref C) ∧ Binds K fd ps ds ∧ Vals dvs ds
theorem pe_mk {X : Cx} {k j n : Nat} {C : Addr} {x : Str} {sp : Sp} {dvs : List V} {p pos : Pos} {e : Expr} {es : List Expr} {t : TA} (c : Mak X.prog X.w X.K X.mg X.base k n x C sp dvs) (hr : Room j X.A) (hk : k + 1 ≤ j) (hg : Gl X x) (ha : PA X (e :: es) t)
    (hdb : (x == ("__debug__" : Str)) = false := by decide) (he : starEach (e :: es) X.env = (false, eval e X.env) :: starEach es X.env := by rfl) (hpl : (backTo pos (starEach es X.env)).any (·.1) = false := by rfl) :
    PE X (.Call (.Name x p) (e :: es) [] pos) (tMake C sp dvs E0 t) := by
  obtain ⟨f, fd, ps, ds, M, F, hm, b, d⟩ := c.ex
  exact pe_make M F (hr.mono hk) hg hm b d pass0 ha hdb he hpl
end NF
namespace NF
open PySem PySem.Spec PyProof.Rows L2 He RZ NT
/-- tuple(..) of a list or a tuple -/
def rTupOf (K : PySem.W.Frag) : List V → Hp → VK → Prop := fun xs H Q => ∃ a ys, xs = [.ref a] ∧ Row K H a ys ∧ ∀ p H', Same H H' → SqT K H' p ys → Q (.ref p) H'
theorem cr_tup {X : Cx} : CallR X (.type "tuple") (rTupOf X.K) := by
  intro pins s σ H xs us Q I r h
  obtain ⟨a, ys, rfl, hr, q⟩ := h
  refine call_tuple_of pins s σ H _ us Q I r ⟨a, ys, rfl, ?_⟩
  exact hr.elim (fun h => .inl ⟨h, fun l hl => q l _ (NF.Same.new (Same.refl H) hl) (SqT.of upd_same)⟩) fun h => .inr ⟨h, q a H (Same.refl H) h⟩
end NF
set_option Elab.async false
set_option linter.all false
set_option maxRecDepth 100000
set_option maxHeartbeats 4000000
/-! Instances of a plain class with an own __eq__: ==, !=, isinstance, calls, properties. -/
namespace NF
open PySem PySem.Spec PyProof.Rows L2 He RZ NT
theorem ns_some_of {K : PySem.W.Frag} {h : Heap} {N : Addr} {mg : Str → Option Value} {n : Str} {v : Value} (X : K.In h) (G : h.Ns N mg) (e : PySem.W.nsIn K N n = some (some v)) : mg n = some v := by
  rcases G with ⟨ob, rows, cnt, at_, isD, rest⟩
  have val := rest.2 n
  rcases hk : K.lookup N with _ | ⟨c0, d0, dt, sl⟩
  · simp only [PySem.W.nsIn, hk] at e
    cases e
  · have same := (X N _ hk).symm.trans at_
    injection same with same
    subst same
    dsimp only at isD
    subst isD
    simp only [PySem.W.nsIn, hk] at e
    rw [← val]
    unfold nsFind findBy
    rw [← Array.find?_toList]
    revert e
    cases rows.toList.find? _ with
    | some en => exact fun e => by simpa using e
    | none =>
      intro e
      by_cases hany : (rows.toList.any fun x => x.refKey) = true
      · simp [hany] at e
      · simp [hany] at e
/-- the class's own object: nothing above it but object, an own __eq__ at f, no own __ne__ -/
def plObjB (K : PySem.W.Frag) (C f : Addr) : Bool := match K.lookup C with
  | some ⟨.type t, _, .cls cd, sl⟩ => t == "type" && (match cd.mro with
    | .ref C' :: bm => C' == C && bm == [.type "object"]
    | _ => false) && (cd.hasDict && !cd.hasDel) && (PySem.W.nsOkIn K cd.ns && eqO (PySem.W.nsIn K cd.ns "__eq__") (some (some (.ref f))) && eqO (PySem.W.nsIn K cd.ns "__ne__") (some none)) && (match sl.toList with
    | [_, _, _, _, some (.builtin n), _] => n == "object.__new__"
    | _ => false)
  | _ => false
theorem plObjB_ok {K : PySem.W.Frag} {C f : Addr} (h : plObjB K C f = true) :
    ∃ nm q N bs sn sub ab col dd k0 k1 k2 k3 k5, K.lookup C = some (excClassObj nm q C N bs [.type "object"] true sn sub ab col dd k0 k1 k2 k3 k5 "object.__new__") ∧ PySem.W.nsOkIn K N = true ∧ PySem.W.nsIn K N "__eq__" = some (some (.ref f)) ∧ PySem.W.nsIn K N "__ne__" = some none := by
  unfold plObjB at h
  split at h
  · rename_i t dd cd sl hl
    obtain ⟨h, h4⟩ := ba h
    obtain ⟨h, h9⟩ := ba h
    obtain ⟨h, h3⟩ := ba h
    obtain ⟨h1, h2⟩ := ba h
    obtain ⟨h12, h11⟩ := ba h9
    obtain ⟨h13, h10⟩ := ba h12
    split at h2
    · rename_i C' bm hm
      obtain ⟨h5, h6⟩ := ba h2
      split at h4
      · rename_i k0 k1 k2 k3 n k5 hs
        obtain ⟨h7, h8⟩ := ba h3
        have e1 : t = "type" := eq_of_beq h1
        have e5 : C' = C := eq_of_beq h5
        have e6 : bm = [.type "object"] := eq_of_beq h6
        have e9 : n = "object.__new__" := eq_of_beq h4
        subst e1 e5 e6 e9
        obtain ⟨nm, bs, mro, N, q, hd, sn, sub, ab, col, hdel⟩ := cd
        dsimp only at hm h7 h8 h13 h10 h11
        subst hm h7
        have hdel' : hdel = false := by
          cases hdel with
          | false => rfl
          | true => cases h8
        subst hdel'
        have hsl : sl = #[k0, k1, k2, k3, some (.builtin "object.__new__"), k5] := by
          have := congrArg List.toArray hs
          simpa using this
        subst hsl
        exact ⟨nm, q, N, bs, sn, sub, ab, col, dd, k0, k1, k2, k3, k5, hl, h13, eqO_ok h10, eqO_ok h11⟩
      · cases h4
    · cases h2
  · cases h
/-- x == y, x an instance of C -/
def rEqO (K : PySem.W.Frag) (C : Addr) (sp : Sp) : R2 := fun x y H Q => ∃ a dx fs tb, x = .ref a ∧ H a = some (.ins C dx fs) ∧ TyX K H y tb ∧ PySem.W.notFirst K C tb = true ∧ sp [.ref a, y] H Q E0
/-- x != y, both instances of C -/
def rNeO (K : PySem.W.Frag) (C : Addr) (sp : Sp) : R2 := fun x y H Q => ∃ a dx fs b dy gs, x = .ref a ∧ H a = some (.ins C dx fs) ∧ y = .ref b ∧ H b = some (.ins C dy gs) ∧ sp [.ref a, .ref b] H (fun v H' => ∃ t, v = .bl t ∧ Q (.bl (!t)) H') E0
/-- a class with an own == at f -/
structure EqC (P : Program) (w : World) (K : PySem.W.Frag) (mg : Str → Option Value) (base : Heap) (k : Nat) (C : Addr) (sp : Sp) : Prop where
  ex : ∃ (f : Addr) (fd : FuncData) (ps : List Str), FnOk P w K mg base CX0 k f fd ps sp ∧ PySem.W.findIn K (.ref C) "__eq__" = some (some (.ref f)) ∧ PySem.W.isFn K (.ref f) = true ∧ plObjB K C f = true ∧ Binds K fd ps []
theorem op_eqO {X : Cx} {k j : Nat} {C : Addr} {sp : Sp} (c : EqC X.prog X.w X.K X.mg X.base k C sp) (hr : Room j X.A) (hk : k ≤ j) : OpR X (compareOp .Eq) (rEqO X.K C sp) := by
  obtain ⟨f, fd, ps, F, hs, hf, _, hb⟩ := c.ex
  intro pins s σ H x y v u Q I rx ry h
  obtain ⟨a, dx, fs, tb, rfl, ha, ty, hn, q⟩ := h
  cases rx
  obtain ⟨mA, O, _⟩ := ins_get I.hok ha
  obtain ⟨od, J, _⟩ := O.look
  obtain ⟨m, hF⟩ := I.fr
  obtain ⟨P, Z, p, _⟩ := kit_of I ry ty
  show wpAny (model X.prog X.w) X.A (richCompare .Eq (.ref a) u) (EP X pins σ Q) X.xe s
  refine PySem.W.cmp_K (op := .Eq) (tb := tb) hr.units0 hF I.ok.mod.kin J (Z.ty _ _ I.kIn p) hn hs hf ?_
  have r2 : Vals [V.ref a, y] [Value.ref a, u] := .cons rfl (.cons ry .nil)
  refine wpAny_mono (run_fn (us := [.ref a, u]) (vs := [.ref a, y]) F (hr.mono hk) hb .nil pass0 I r2 q) (fun r s' z => ?_) fun _ _ e => e
  obtain ⟨z, H', I', rz, q'⟩ := z
  have hni : r ≠ .notImplemented := fun e => by
    subst e
    cases z with
    | int i => obtain ⟨t, e⟩ := (show ∃ t, Value.notImplemented = Value.int i t from rz); cases e
    | str i => obtain ⟨t, e⟩ := (show ∃ t, Value.notImplemented = Value.str i t from rz); cases e
    | byt i => obtain ⟨t, e⟩ := (show ∃ t, Value.notImplemented = Value.bytes i t from rz); cases e
    | flt i => obtain ⟨t, e⟩ := (show ∃ t, Value.notImplemented = Value.float i t from rz); cases e
    | _ => cases rz
  unfold PySem.W.CmpBack
  split
  · exact hni rfl
  · exact ⟨z, H', I', rz, q'⟩
theorem op_neO {X : Cx} {k j : Nat} {C : Addr} {sp : Sp} (c : EqC X.prog X.w X.K X.mg X.base k C sp) (hr : Room j X.A) (hk : k + 1 ≤ j) : OpR X (compareOp .NotEq) (rNeO X.K C sp) := by
  obtain ⟨f, fd, ps, F, hs, hf, hp, hb⟩ := c.ex
  intro pins s σ H x y v u Q I rx ry h
  obtain ⟨a, dx, fs, b, dy, gs, rfl, ha, rfl, hb', q⟩ := h
  cases rx
  cases ry
  obtain ⟨mA, O, _⟩ := ins_get I.hok ha
  obtain ⟨od, J, _⟩ := O.look
  obtain ⟨mB, O', _⟩ := ins_get I.hok hb'
  obtain ⟨od', J', _⟩ := O'.look
  obtain ⟨nm, qn, N, bs, sn, sub, ab, col, dd, k0, k1, k2, k3, k5, hl, hok, he, hne⟩ := plObjB_ok hp
  have G : s.heap.Ns N (s.heap.nsMap N) := .of_isNs (PySem.W.isNs_of_in I.kIn hok)
  have hr1 := hr.mono hk
  have r2 : Vals [V.ref a, .ref b] [Value.ref a, .ref b] := .cons rfl (.cons rfl .nil)
  have hlen := F.len _ _ _ _ q
  have run : wpAny (model X.prog X.w) X.A.in1 (call (.ref f) [.ref a, .ref b]) (fun v s' => ∃ t, v = .bool t ∧ EP X pins σ Q (.bool (!t)) s') X.xe s := by
    refine wpAny_call (codeAny_mono (F.run X.A.in1 X.stack s H ⟨[.ref a, .ref b], []⟩ [.ref a, .ref b] [.ref a, .ref b] _ E0 hr1.in1 I.env0.in1 (by
      have := hb s [.ref a, .ref b] I.kIn (by simpa using hlen)
      simpa using this) r2 q) fun r s' hq => ?_)
    cases r with
    | error e => exact False.elim hq
    | ok fl =>
      cases fl with
      | ret w =>
        obtain ⟨z, H', I', rz, t, ez, q3⟩ := I.after hq
        subst ez
        cases rz
        exact ⟨t, rfl, .bl (!t), H', I', rfl, q3⟩
      | next => exact False.elim hq
      | brk => exact False.elim hq
      | cont => exact False.elim hq
  obtain ⟨j1, j2, _⟩ := J
  obtain ⟨j3, j4, _⟩ := J'
  obtain ⟨of, hfo, hfc⟩ : ∃ of, s.heap.get? f = some of ∧ of.cls = .type "function" := by
    have e : (K0 : PySem.W.Frag) → K0.In s.heap → PySem.W.isFn K0 (.ref f) = true → ∃ of, s.heap.get? f = some of ∧ of.cls = .type "function" := fun K0 hK h0 => by
      have e1 : (K0.lookup f).map (·.cls) = some (.type "function") := beq_iff_eq.mp h0
      obtain ⟨o, ho, hc⟩ := Option.map_eq_some_iff.mp e1
      exact ⟨o, hK _ _ ho, hc⟩
    exact e X.K I.kIn hf
  obtain ⟨hp', g, d, tk, os⟩ := s
  exact PySem.compareOp_ne_ownEq (B := "object") (bm := [.type "object"]) PySem.F.cmp_object ⟨_, of, nm, qn, N, bs, true, sn, sub, ab, col, dd, k0, k1, k2, k3, k5, "object.__new__", _, _, j1, j2, I.kIn _ _ hl, G, ns_some_of I.kIn G he, hfo, hfc, PySem.F.cmp_object.mro, PySem.F.cmp_object.eq.lookup, PySem.W.ns_none_of I.kIn G hne⟩ j3 j4 (by have := hr.un; omega) run
/-- an instance of C may be called -/
structure CalO (P : Program) (w : World) (K : PySem.W.Frag) (mg : Str → Option Value) (base : Heap) (k : Nat) (C : Addr) (sp : Sp) : Prop where
  ex : ∃ (g : Addr) (fd : FuncData) (ps : List Str), StX.CallO K C g ∧ FnOk P w K mg base CX0 k g fd ps sp ∧ Binds K fd ps []
theorem pe_co {X : Cx} {k j : Nat} {C : Addr} {sp : Sp} {fe e : Expr} {es : List Expr} {t : TA} {tf : TE} {pos : Pos} (hf : PE X fe tf) (c : CalO X.prog X.w X.K X.mg X.base k C sp) (hr : Room j X.A) (hk : k ≤ j) (ha : PA X (e :: es) t)
    (ht : eval (.Call fe (e :: es) [] pos) X.env = (do callWith pos (← eval fe X.env) [] (backTo pos (starEach (e :: es) X.env)) (backToKw pos (keywordEach [] X.env))) := by rfl)
    (he : starEach (e :: es) X.env = (false, eval e X.env) :: starEach es X.env := by rfl) (hpl : (backTo pos (starEach es X.env)).any (·.1) = false := by rfl) :
    PE X (.Call fe (e :: es) [] pos) (StX.tCallO X C (fun vs H Q E => sp (vs ++ []) H Q E) E0 tf t) := by
  obtain ⟨g, fd, ps, c, F, b⟩ := c.ex
  exact StX.pe_callO hf c (F.raw b .nil) (hr.mono hk) pass0 ha ht he hpl
/-- a property of C -/
structure PropC (P : Program) (w : World) (K : PySem.W.Frag) (mg : Str → Option Value) (base : Heap) (k : Nat) (C : Addr) (f : Str) (sp : Sp) : Prop where
  cl : Cls K C
  ex : ∃ (p g : Addr) (fd : FuncData) (ps : List Str), PropOf K C f p g ∧ FnOk P w K mg base CX0 k g fd ps sp ∧ Binds K fd ps []
theorem pe_pr {X : Cx} {k j : Nat} {C : Addr} {f : Str} {sp : Sp} {e : Expr} {ta : TE} {pos : Pos} (he : PE X e ta) (c : PropC X.prog X.w X.K X.mg X.base k C f sp) (hr : Room j X.A) (hk : k + 1 ≤ j) (hab : attributeBase e f X.env (eval e X.env) = eval e X.env := by rfl) :
    PE X (.Attribute e f pos) (tProp C sp [] E0 ta) := by
  obtain ⟨p, g, fd, ps, c2, F, b⟩ := c.ex
  exact pe_prop he c.cl c2 F (hr.mono hk) b .nil pass0 hab
end NF
set_option Elab.async false
set_option linter.all false
set_option maxRecDepth 100000
set_option maxHeartbeats 4000000
/-! The hook with getters: defs at addresses told by the written part. -/
namespace NF
open PySem PySem.Spec PyProof.Rows L2 He
def fnWa (K : PySem.W.Frag) (a : Addr) : FnW := match K.lookup a with
  | some ⟨_, _, .func fd, _⟩ => some (fd.name, fd.qualname, fd.params, fd.body, fd.scope, fd.globals, fd.closure, fd.builtins)
  | _ => none
def okA (K : PySem.W.Frag) (a : Addr) (d : DefD) : Bool := PySem.W.keepIn K (.ref a) && (match K.lookup a with
  | some ⟨_, _, .func fd, _⟩ => PySem.W.codeIn K fd.code d.qual && (dflB K fd.defaults (d.dvs K) && kwdB K fd.kwdefaults (d.kws K))
  | _ => false)
theorem funA {K : PySem.W.Frag} {a : Addr} {d : DefD} (e : fnWa K a = d.val) (c : okA K a d = true) : ∃ fd, FunD K d.name d.qual d.params d.body d.scope (d.dvs K) (d.kws K) a fd := by
  have hkp := (ba c).1
  have hrec := (ba c).2
  rcases hl : K.lookup a with _ | ⟨c0, d0, dt, sl⟩
  · simp only [hl] at hrec
    exact absurd hrec (by decide)
  · cases dt
    case func g =>
      simp only [fnWa, hl, DefD.val, Option.some.injEq, Prod.mk.injEq] at e
      rcases g with ⟨m1, m2, m3, m4, m5, m6, m7, m8, m9, m10, m11, m12, m13, m14, m15⟩
      simp only at e
      rcases e with ⟨z1, z2, z3, z4, z5, z6, z7, z8⟩
      simp only [hl] at hrec
      have hcode := (ba hrec).1
      have hdfl := dflB_ok (ba (ba hrec).2).1
      have hkwd := kwdB_ok (ba (ba hrec).2).2
      refine ⟨PySem.W.fnOf d.name d.qual d.params d.body d.scope m8 m9 m10 m11 m12 m13 m14, ⟨c0, d0, m8, m9, m10, m11, m12, m13, m14, sl, rfl, ?_, hcode, hdfl, hkwd⟩, hkp⟩
      subst z1 z2 z3 z4 z5 z6 z7 z8
      exact hl
    all_goals
      simp only [hl] at hrec
      exact absurd hrec (by decide)
abbrev Adr := (PySem.W.Frag → Addr) × DefD
def obsP (ex : PySem.W.Frag → Bool) (fn : List Adr) (K : PySem.W.Frag) : AlD := (ex K && fn.all fun d => okA K (d.1 K) d.2, fn.map fun d => fnWa K (d.1 K))
def valP (fn : List Adr) : AlD := (true, fn.map fun d => d.2.val)
def SaysP (ex : PySem.W.Frag → Bool) (fn : List Adr) (K : PySem.W.Frag) : Prop := obsP ex fn K = valP fn
def obsPG (n : Nat) (ex : PySem.W.Frag → Bool) (fn : List Adr) (g : Addr → Option Obj) : AlD := obsP ex fn (frG g (asD g n))
def hookP (n : Nat) (ex : PySem.W.Frag → Bool) (fn : List Adr) : PySem.W.Hook where
  α := AlD
  obs := fun s => obsPG n ex fn s.heap.get?
  val := fun _ => valP fn
  says := fun _ h => ∃ K : PySem.W.Frag, K.In h ∧ SaysP ex fn K
  of := fun _ _ e => ⟨_, frG_in, e⟩
  keeps := fun _ _ _ ⟨K, hK, c⟩ k => ⟨K, PySem.W.Frag.In.keeps hK k, c⟩
theorem obsPG_eq {n : Nat} {ex : PySem.W.Frag → Bool} {fn : List Adr} {g : Addr → Option Obj} {s : Shared} (h : ∀ a, g a = s.heap.get? a) : obsPG n ex fn g = (hookP n ex fn).obs s := by
  have e : g = s.heap.get? := funext h
  rw [e] <;> rfl
section
variable {ex : PySem.W.Frag → Bool} {fn : List Adr} {K : PySem.W.Frag}
theorem SaysP.truth (c : SaysP ex fn K) : ex K = true :=
  (ba (show (ex K && fn.all fun d => okA K (d.1 K) d.2) = true from congrArg (fun z : AlD => z.1) c)).1
theorem SaysP.def_ (c : SaysP ex fn K) (i : Nat) {d : Adr} (h : fn[i]? = some d := by rfl) : ∃ fd, FunD K d.2.name d.2.qual d.2.params d.2.body d.2.scope (d.2.dvs K) (d.2.kws K) (d.1 K) fd := by
  have c2 := (ba (show (ex K && fn.all fun d => okA K (d.1 K) d.2) = true from congrArg (fun z : AlD => z.1) c)).2
  have e : fn.map (fun d => fnWa K (d.1 K)) = fn.map fun d => d.2.val := congrArg (fun z : AlD => z.2) c
  have e2 : (fn.map fun d => fnWa K (d.1 K))[i]? = (fn.map fun d => d.2.val)[i]? := by rw [e]
  rw [List.getElem?_map, List.getElem?_map, h] at e2
  exact funA (Option.some.inj e2) (List.all_eq_true.mp c2 d (List.mem_of_getElem? h))
end
end NF
set_option Elab.async false
set_option linter.all false
set_option maxRecDepth 100000
set_option maxHeartbeats 4000000
/-! Makers and instances whose defs let an exception out. -/
namespace NF
open PySem PySem.Spec PyProof.Rows L2 He RZ NT
/-- a def's answer handed on, or its exception let through -/
theorem handS {X : Cx} {CX : CXT} {E : L2.St → XK} {σ : L2.St} {pins : List (Addr × Obj)} {H : Hp} {s : Shared} {Q : VK} (hx : PassesAt CX X σ (E σ)) (I : Inv X pins σ H s) {r : Result} {s' : Shared} (h : CR CX X.stack X.prog X.w H s Q (E σ) r s') :
    (∃ u, r = .ok (.ret u) ∧ EP X pins σ Q u s') ∨ ∃ e, r = .error e ∧ X.xe e s' := by
  cases r with
  | error e => exact .inr ⟨e, rfl, hx pins H s e s' I h⟩
  | ok fl => cases fl with
    | ret u => exact .inl ⟨u, rfl, I.after h⟩
    | next => exact h.elim
    | brk => exact h.elim
    | cont => exact h.elim
def tMakeS (C : Addr) (sp : Sp) (dvs : List V) (E : L2.St → XK) (t : TA) : TE := fun σ H Q => t σ H fun vs H1 => ∀ x dx, H1 x = none → H1 dx = none → dx ≠ x →
  sp (.ref x :: (vs ++ dvs)) (upd (upd H1 dx (.own x)) x (.ins C dx [])) (fun v H2 => v = .non ∧ Q (.ref x) H2) (E σ)
theorem make_runs {X : Cx} {CX : CXT} {k : Nat} {C f : Addr} {fd : FuncData} {ps : List Str} {sp : Sp} {dvs : List V} {ds : List Value} {E : L2.St → XK} {pins : List (Addr × Obj)} {σ : L2.St} {H : Hp} {s : Shared} {Q : VK} {us : List Value} {vs : List V}
    (M : Mk X.K C f) (F : FnOk X.prog X.w X.K X.mg X.base CX k f fd ps sp) (hr : Room (k + 1) X.A) (hb : Binds X.K fd ps ds) (hd : Vals dvs ds) (hx : PassesAt CX X σ (E σ)) (I : Inv X pins σ H s) (r : Vals vs us)
    (h : ∀ x dx, H x = none → H dx = none → dx ≠ x → sp (.ref x :: (vs ++ dvs)) (upd (upd H dx (.own x)) x (.ins C dx [])) (fun v H2 => v = .non ∧ Q (.ref x) H2) (E σ)) :
    wpAny (model X.prog X.w) X.A (call (.ref C) us) (EP X pins σ Q) X.xe s := by
  have want := h (s.heap.objs.size + 1) s.heap.objs.size (I.hok.fresh (Nat.le_succ _)) (I.hok.fresh (Nat.le_refl _)) (Nat.ne_of_lt (Nat.lt_succ_self _))
  have J := Inv.made (C := C) I
  have rr : Vals (V.ref (s.heap.objs.size + 1) :: (vs ++ dvs)) (Value.ref (s.heap.objs.size + 1) :: (us ++ ds)) := .cons rfl (r.append hd)
  have len : (Value.ref (s.heap.objs.size + 1) :: us ++ ds).length = ps.length := rr.length.symm.trans (F.len _ _ _ _ want)
  have body := F.run _ X.stack _ _ ⟨Value.ref (s.heap.objs.size + 1) :: us, []⟩ (Value.ref (s.heap.objs.size + 1) :: (us ++ ds)) _ _ (E σ) (hr.make C us []) (J.env0.make C us []) (hb _ (Value.ref (s.heap.objs.size + 1) :: us) J.kIn len) rr want
  refine wpAny_call (make_map (f := f) I.kIn M.makes M.init (beq_iff_eq.mp M.fn) (codeAny_mono body fun q s' hq => ?_))
  rcases handS hx J hq with ⟨u, rfl, v, H', J', rv, ev, q3⟩ | ⟨e, rfl, hz⟩
  · subst ev
    exact ⟨rv, V.ref (s.heap.objs.size + 1), H', J', rfl, q3⟩
  · exact hz
/-- a class whose __init__ may let an exception out -/
structure MakX (P : Program) (w : World) (K : PySem.W.Frag) (mg : Str → Option Value) (base : Heap) (k n : Nat) (x : Str) (C : Addr) (sp : Sp) (dvs : List V) : Prop where
  ex : ∃ (f : Addr) (fd : FuncData) (ps : List Str) (ds : List Value), Mk K C f ∧ FnOk P w K mg base (L2.CX P w) k f fd ps sp ∧ mg x = some (.ref C) ∧ Binds K fd ps ds ∧ Vals dvs ds
theorem pe_mkX {X : Cx} {k j n : Nat} {C : Addr} {x : Str} {sp : Sp} {dvs : List V} {W : WX} {p pos : Pos} {e : Expr} {es : List Expr} {t : TA} (tk : Takes X W) (c : MakX X.prog X.w X.K X.mg X.base k n x C sp dvs) (hr : Room j X.A) (hk : k + 1 ≤ j) (hg : Gl X x) (ha : PA X (e :: es) t)
    (hdb : (x == ("__debug__" : Str)) = false := by decide) (he : starEach (e :: es) X.env = (false, eval e X.env) :: starEach es X.env := by rfl) (hpl : (backTo pos (starEach es X.env)).any (·.1) = false := by rfl) :
    PE X (.Call (.Name x p) (e :: es) [] pos) (tMakeS C sp dvs (WE W) t) := by
  obtain ⟨f, fd, ps, ds, M, F, hm, b, d⟩ := c.ex
  refine ⟨fun pins s σ H Q I h => ?_⟩
  refine wpAny_Call_Name_kw (ld_glob I hg hm ?_ hdb)
  refine PySem.W.callWith_K (h₀ := X.base) I.ok.mod.kin M.kp (thn (ha.run pos pins s σ H _ I h) fun us s1 ⟨vs, H1, I1, r, q⟩ => ⟨I1.kIn, ?_⟩) he hpl
  exact make_runs (E := WE W) M F (hr.mono hk) b d (passAt tk σ) I1 r q
/-- a def that may let an exception out, by its name -/
structure CalX (P : Program) (w : World) (K : PySem.W.Frag) (mg : Str → Option Value) (base : Heap) (k : Nat) (x : Str) (sp : Sp) : Prop where
  ex : ∃ (f : Addr) (fd : FuncData) (ps : List Str), FnOk P w K mg base (L2.CX P w) k f fd ps sp ∧ mg x = some (.ref f) ∧ PySem.W.keepIn K (.ref f) = true ∧ Binds K fd ps []
theorem pe_cX {X : Cx} {k j : Nat} {x : Str} {sp : Sp} {W : WX} {e : Expr} {es : List Expr} {t : TA} {p pos : Pos} (tk : Takes X W) (c : CalX X.prog X.w X.K X.mg X.base k x sp) (hr : Room j X.A) (hk : k ≤ j) (hg : Gl X x) (ha : PA X (e :: es) t)
    (hdb : (x == ("__debug__" : Str)) = false := by decide) (he : starEach (e :: es) X.env = (false, eval e X.env) :: starEach es X.env := by rfl) (hpl : (backTo pos (starEach es X.env)).any (·.1) = false := by rfl) :
    PE X (.Call (.Name x p) (e :: es) [] pos) (tCallS sp (WE W) t) := by
  obtain ⟨f, fd, ps, F, hm, kp, b⟩ := c.ex
  exact pe_callS F (hr.mono hk) hg hm kp b (fun σ => passAt tk σ) ha hdb he hpl
/-- an instance that may be called, and may let an exception out -/
structure CalOX (P : Program) (w : World) (K : PySem.W.Frag) (mg : Str → Option Value) (base : Heap) (k : Nat) (C : Addr) (sp : Sp) : Prop where
  ex : ∃ (g : Addr) (fd : FuncData) (ps : List Str), StX.CallO K C g ∧ FnOk P w K mg base (L2.CX P w) k g fd ps sp ∧ Binds K fd ps []
def tCallOS (C : Addr) (sp : Sp) (E : L2.St → XK) (tf : TE) (t : TA) : TE := fun σ H Q => tf σ H fun y H1 => ∃ a, y = V.ref a ∧ t σ H1 fun vs H2 => (∃ dx fs, H2 a = some (.ins C dx fs)) ∧ sp (V.ref a :: vs) H2 Q (E σ)
theorem pe_coX {X : Cx} {k j : Nat} {C : Addr} {sp : Sp} {W : WX} {fe e : Expr} {es : List Expr} {t : TA} {tf : TE} {pos : Pos} (tk : Takes X W) (hf : PE X fe tf) (c : CalOX X.prog X.w X.K X.mg X.base k C sp) (hr : Room j X.A) (hk : k ≤ j) (ha : PA X (e :: es) t)
    (ht : eval (.Call fe (e :: es) [] pos) X.env = (do callWith pos (← eval fe X.env) [] (backTo pos (starEach (e :: es) X.env)) (backToKw pos (keywordEach [] X.env))) := by rfl)
    (he : starEach (e :: es) X.env = (false, eval e X.env) :: starEach es X.env := by rfl) (hpl : (backTo pos (starEach es X.env)).any (·.1) = false := by rfl) :
    PE X (.Call fe (e :: es) [] pos) (tCallOS C sp (WE W) tf t) := by
  obtain ⟨g, fd, ps, co, F, b⟩ := c.ex
  refine ⟨fun pins s σ H Q I h => ?_⟩
  refine Call_ (thn (hf.run pins s σ H _ I h) fun u s1 ⟨y, H1, I1, ry, a, ey, q⟩ => ?_) ht
  subst ey
  cases ry
  refine StX.callO_with (thn (ha.run pos pins s1 σ H1 _ I1 q) fun us s2 ⟨vs, H2, I2, r, hi0, q2⟩ => ?_) he hpl
  have hi : StX.InsC X H2 a C := .inr hi0
  obtain ⟨ox, od, J, hd⟩ := StX.insC_at I2 hi
  refine ⟨⟨C, ox, od, J, hd⟩, ?_⟩
  have rr : Vals (V.ref a :: vs) (Value.ref a :: us) := .cons rfl r
  have len : (Value.ref a :: us).length = ps.length := rr.length.symm.trans (F.len _ _ _ _ q2)
  have bb := b s2 (Value.ref a :: us) I2.kIn (by rw [List.append_nil]; exact len)
  rw [List.append_nil] at bb
  refine wpAny_call (PySem.W.kco_code I2.kIn J hd co.at_ co.fn co.fi (codeAny_mono (F.run X.A X.stack s2 H2 ⟨Value.ref a :: us, []⟩ (Value.ref a :: us) (V.ref a :: vs) Q (WE W σ) (hr.mono hk) I2.env0 bb rr q2) fun z s' hq => ?_))
  rcases handS (E := WE W) (passAt tk σ) I2 hq with ⟨u, rfl, hz⟩ | ⟨e, rfl, hz⟩
  · exact hz
  · exact hz
/-! ### own exceptions that keep their one argument -/
/-- what __init__ of a class whose errors bear f does -/
def spExc (C : Addr) (f : Str) : Sp := fun vs H Q _ => ∃ (a : Addr) (v : V), vs = [.ref a, v] ∧ H a = some (exo a C none) ∧ ∀ d, H d = none → d ≠ a → Q .non (upd (upd H d (exd d [(f, v)])) a (exo a C (some d)))
structure ExcI (P : Program) (w : World) (K : PySem.W.Frag) (mg : Str → Option Value) (base : Heap) (x f : Str) : Prop where
  T : OexC K (ga K x)
  ex : ∃ (fI : Addr) (fd : FuncData), PySem.W.findIn K (.ref (ga K x)) "__init__" = some (some (.ref fI)) ∧ PySem.W.typeIn K (.ref fI) = some (.type "function") ∧ FnOk P w K mg base CX0 1 fI fd ["self", f] (spExc (ga K x) f) ∧ Binds K fd ["self", f] []
  gm : mg x = some (.ref (ga K x))
abbrev bodyE (f : Str) (q1 q2 q3 q4 : Pos) : List Stmt := [.Assign [.Attribute (.Name "self" q1) f q2] (.Name f q3) q4]
theorem ok_exc {P : Program} {w : World} {K : PySem.W.Frag} {mg : Str → Option Value} {base : Heap} {x q f : Str} {pa : Arguments} {bd : List Stmt} {sc : Scope} {fI : Addr} {fd : FuncData} {q1 q2 q3 q4 : Pos} (F : FunD K "__init__" q pa bd sc [] [] fI fd) (hb : bd = bodyE f q1 q2 q3 q4) (S : FnScope ["self", f] ["self", f] sc)
    (T : OexC K (ga K x)) (hno : PySem.W.findIn K (.ref (ga K x)) f = some none) (hv0 : Vis sc "self") (hv1 : Vis sc f) (hd : (f == ("__debug__" : Str)) = false) (hcd : (f == ("__classdict__" : Str)) = false) :
    FnOk P w K mg base CX0 1 fI fd ["self", f] (spExc (ga K x) f) := by
  subst hb
  refine F.ok S (fun vs H Q E h => ?_) (fun cdv A outer s H vs Q E hr h => ?_)
  · obtain ⟨a, v, rfl, _⟩ := h
    rfl
  · obtain ⟨a, v, rfl, ha, k⟩ := h
    refine ⟨_, PSs.nox (pss_one (ps_ost (pe_var (i := 0) rfl hv0) (pe_var (i := 1) rfl hv1 hd hcd))), ?_⟩
    exact ⟨_, rfl, _, rfl, a, ga K x, rfl, T, hno, Or.inl ⟨ha, fun d hd hda => k d hd hda⟩⟩
/-- raise X(e) -/
theorem ps_rz {X : Cx} {W : WX} {x f : Str} {e : Expr} {te : TE} {p pos pos' : Pos} {j : Nat} (hc : X.calm = true) (tk : Takes X W) (M : ExcI X.prog X.w X.K X.mg X.base x f) (hr : Room j X.A) (hj : 2 ≤ j) (hg : Gl X x) (he : PE X e te) (hdb : (x == ("__debug__" : Str)) = false := by decide)
    (hs : starEach (e :: []) X.env = (false, eval e X.env) :: starEach [] X.env := by rfl) : PS X (.Raise (some (.Call (.Name x p) [e] [] pos)) none pos') (fun _ σ H => tMkO (ga X.K x) (spExc (ga X.K x) f) [] (tCons te tNil) σ H fun cls d H' => W cls d σ H') := by
  obtain ⟨fI, fd, h1, h2, h3, h4⟩ := M.ex
  exact ps_raise hc tk (pmk_oex M.T h1 h2 h3 (hr.mono hj) h4 .nil pass0 hg M.gm (pa_cons he pa_nil hs) hdb hs)
theorem raise_done {C : Addr} {f : Str} {v : V} {H1 : Hp} {Q : XK} (k : ∀ d H2, H1 d = none → Same H1 H2 → H2 d = some (.xd [(f, v)]) → Q (.ref C) (some d) H2) :
    ([v] : List V).length ≤ 1000 ∧ ∀ a, H1 a = none → spExc C f (.ref a :: ([v] ++ [])) (upd H1 a (exo a C none)) (fun u H2 => u = .non ∧ ∃ (d : Addr) (fs : List (Str × V)), H2 a = some (exo a C (some d)) ∧ H2 d = some (exd d fs) ∧ H1 d = none ∧ Q (.ref C) (some d) (upd (del H2 a) d (.xd fs))) (fun _ _ _ => False) := by
  refine ⟨by show 1 ≤ 1000; decide, fun a ha => ⟨a, v, rfl, upd_same, fun d hd hda => ?_⟩⟩
  have hd0 : H1 d = none := by
    rw [upd_ne hda] at hd
    exact hd
  refine ⟨rfl, d, [(f, v)], upd_same, by rw [upd_ne hda, upd_same], hd0, k d _ hd0 ?_ upd_same⟩
  intro b u e
  have hb : b ≠ d := ne_of_none e hd0
  have hba : b ≠ a := ne_of_none e ha
  rw [upd_ne hb, del_ne hba, upd_ne hba, upd_ne hb, upd_ne hba]
  exact e
end NF
set_option Elab.async false
set_option linter.all false
set_option maxRecDepth 100000
set_option maxHeartbeats 4000000
/-! tuple * int for any int that is not too great. -/
namespace NF
open PySem PySem.Spec PyProof.Rows L2 He RZ
theorem rep_none (l : Addr) (items : Array Value) (n : Nat) (dd : Option Addr) (sl : Array (Option Value)) (x : Int) (u : Tok) (c0 : (decide (x < -(2 ^ 63)) || decide (x ≥ 2 ^ 63)) = false) (c1 : (items.isEmpty || x == 1) = false) (c2 : (decide (x ≤ 0) || items.isEmpty) = true) :
    Meets (Builtin.«tuple.__mul__» ⟨[.ref l, .int x u], []⟩) (fun _ R s => s.heap.get? l = some { cls := .type "tuple", dict := dd, data := .seq items n, slots := sl } ∧
      R (.ok (.ret (Value.ref s.heap.objs.size))) { s with heap := s.heap.push { cls := Value.type "tuple", data := Data.seq #[] } }) :=
  .of_wp fun prog w A R s h => by
    obtain ⟨hp, g, d, tk, os⟩ := s
    obtain ⟨hl, h⟩ := h
    have f1 := AutoSeq1.idx_int
    wp_walk using wpAny_loadPart' hl
    repeat (first
      | (refine wpAny_ite_false (decide_eq_false (by rw [c0]; exact Bool.false_ne_true)) ?_; wp_walk using wpAny_loadPart' hl)
      | (refine wpAny_ite_false (decide_eq_false (by rw [c1]; exact Bool.false_ne_true)) ?_; wp_walk using wpAny_loadPart' hl)
      | (refine wpAny_ite_true (decide_eq_true (by rw [c2])) ?_; wp_walk using wpAny_loadPart' hl))
    exact ⟨_, rfl, h⟩
theorem rep_one (l : Addr) (items : Array Value) (n : Nat) (dd : Option Addr) (sl : Array (Option Value)) (x : Int) (u : Tok) (c0 : (decide (x < -(2 ^ 63)) || decide (x ≥ 2 ^ 63)) = false) (c1 : (items.isEmpty || x == 1) = true) :
    Meets (Builtin.«tuple.__mul__» ⟨[.ref l, .int x u], []⟩) (fun _ R s => s.heap.get? l = some { cls := .type "tuple", dict := dd, data := .seq items n, slots := sl } ∧ R (.ok (.ret (Value.ref l))) s) :=
  .of_wp fun prog w A R s h => by
    obtain ⟨hp, g, d, tk, os⟩ := s
    obtain ⟨hl, h⟩ := h
    have f1 := AutoSeq1.idx_int
    wp_walk using wpAny_loadPart' hl
    repeat (first
      | (refine wpAny_ite_false (decide_eq_false (by rw [c0]; exact Bool.false_ne_true)) ?_; wp_walk using wpAny_loadPart' hl)
      | (refine wpAny_ite_true (decide_eq_true (by rw [c1])) ?_; wp_walk using wpAny_loadPart' hl))
    exact ⟨_, rfl, h⟩
def rRepA (K : PySem.W.Frag) : R2 := fun x y H Q => ∃ l k xs, x = .ref l ∧ y = .int k ∧ SqT K H l xs ∧ xs ≠ [] ∧ xs.length ≤ 100 ∧ -10000 ≤ k ∧ k ≤ 10000 ∧ ∀ p H', Same H H' → SqT K H' p (List.replicate k.toNat xs).flatten → Q (.ref p) H'
/-- t * k -/
theorem op_repA {X : Cx} : OpR X (binaryOp .Mult) (rRepA X.K) := by
  intro pins s σ H x y v u Q I rx ry h
  obtain ⟨l, k, xs, rfl, rfl, hT, hne, hz, k1, k2, q⟩ := h
  cases rx
  obtain ⟨t, rfl⟩ := ry
  obtain ⟨its, r, ⟨⟨cls, dd, data, sl⟩, ho, hc, n, hd⟩, hs⟩ := I.tuple hT
  simp only at hc hd
  subst hc hd
  have hle : its.length = xs.length := r.length.symm
  have hpos : 0 < its.length := by
    rw [hle]
    exact List.length_pos_iff.mpr hne
  have hfull : its.toArray.isEmpty = false := by
    cases hi : its with
    | nil => rw [hi] at hpos; simp at hpos
    | cons _ _ => rfl
  have small : (decide (k < -(2 ^ 63)) || decide (k ≥ 2 ^ 63)) = false := by
    rw [decide_eq_false (show ¬ k < -(2 ^ 63) by omega), decide_eq_false (show ¬ k ≥ 2 ^ 63 by omega)]
    rfl
  have ty : s.TypeIs (.ref l) "tuple" := ⟨_, ho, rfl⟩
  have road : ∀ {W : Value → Shared → Prop}, wpAny (model X.prog X.w) X.A (call (.builtin "tuple.__mul__") [.ref l, .int k t]) W X.xe s → wpAny (model X.prog X.w) X.A (binaryOp .Mult (.ref l) (.int k t)) W X.xe s := fun {W} z =>
    wpAny_binaryOp_repeat_ref (T := "tuple") (U := "int") (by decide) ty (fun s' => typeIs_int s' k t) noFill_tuple_mul F.fills_int_mul F.slot_int_rmul repeat_tuple F.slot_int_index.lookup
      (call_meets F.slot_int_rmul (typeIs_int s k t) F.entry_int_rmul (F.args_int_rmul_2 _ _) (int_rmul_tuple k t l its.toArray n dd sl) ⟨ho, rfl, ty, z⟩)
  refine road ?_
  by_cases c1 : k = 1
  · subst c1
    refine call_meets F.slot_tuple_mul ty F.entry_tuple_mul (F.args_tuple_mul_2 _ _) (rep_one l its.toArray n dd sl 1 t small (by rw [hfull]; rfl)) ⟨ho, ?_⟩
    refine ⟨.ref l, H, I, rfl, q l H (Same.refl H) ?_⟩
    rw [show (List.replicate (1 : Int).toNat xs).flatten = xs by simp]
    exact hT
  · have not1 : (its.toArray.isEmpty || k == 1) = false := by
      rw [hfull, Bool.false_or]
      exact beq_eq_false_iff_ne.mpr c1
    by_cases c0 : k ≤ 0
    · refine call_meets F.slot_tuple_mul ty F.entry_tuple_mul (F.args_tuple_mul_2 _ _) (rep_none l its.toArray n dd sl k t small not1 (by rw [decide_eq_true c0]; rfl)) ⟨ho, ?_⟩
      have hn := I.hok.fresh (Nat.le_refl s.heap.objs.size)
      have e0 : (List.replicate k.toNat xs).flatten = [] := by
        rw [show k.toNat = 0 by omega]
        rfl
      refine ⟨.ref s.heap.objs.size, _, I.laid (t' := s.toks) (o := .tup []) (fun b ob q => Heap.get?_push_of_some _ q) (Nat.le_refl _) ?_, rfl, q _ _ (NF.Same.new (Same.refl H) hn) (by rw [e0]; exact SqT.of upd_same)⟩
      exact ⟨Nat.zero_le _, [], .nil, IsTup.new _ _⟩
    · have many : its.toArray.size = xs.length := by rw [List.size_toArray, hle]
      have prod : ((its.toArray.size : Nat) : Int) * k ≤ 100 * 10000 := by
        rw [many]
        exact Int.mul_le_mul (by omega) k2 (by omega) (by decide)
      have flat : (List.replicate k.toNat xs).flatten.length ≤ 1000000 := by
        rw [PyProof.Rows.lm_len_rep_flat]
        exact Nat.le_trans (Nat.mul_le_mul (show k.toNat ≤ 10000 by omega) hz) (by decide)
      have flat2 : (List.replicate k.toNat its).flatten.length ≤ 1000000 := by
        rw [PyProof.Rows.lm_len_rep_flat, hle]
        exact Nat.le_trans (Nat.mul_le_mul (show k.toNat ≤ 10000 by omega) hz) (by decide)
      refine call_meets F.slot_tuple_mul ty F.entry_tuple_mul (F.args_tuple_mul_2 _ _) (tuple_mulW l its.toArray n dd sl k t small not1 (by rw [hfull, Bool.or_false]; exact decide_eq_false c0) (by omega) ?_ ?_) ⟨ho, ?_⟩
      · unfold Builtin.Tuple.tupleTooMany
        rw [sizeLine_eq]
        exact decide_eq_false (by omega)
      · rw [size_rep, List.size_toArray, sizeLine_eq]
        omega
      · rw [size_rep]
        have hn := I.hok.fresh (Nat.le_refl s.heap.objs.size)
        refine ⟨.ref s.heap.objs.size, _, I.laid (t' := s.toks) (o := .tup (List.replicate k.toNat xs).flatten) (fun b ob q => Heap.get?_push_of_some _ q) (Nat.le_refl _) ?_, rfl, q _ _ (NF.Same.new (Same.refl H) hn) (SqT.of upd_same)⟩
        exact ⟨by rw [sizeLine_eq]; omega, _, r.rep k.toNat, IsTup.new _ _⟩
end NF
set_option Elab.async false
set_option linter.all false
set_option maxRecDepth 100000
set_option maxHeartbeats 4000000
/-! C.m(..), m a static method that may let an exception out. -/
namespace NF
open PySem PySem.Spec PyProof.Rows L2 He RZ
structure SMet (K : PySem.W.Frag) (C : Addr) (mc : Value) (m : Str) (p g : Addr) : Prop where
  ty : PySem.W.typeIn K (.ref C) = some mc
  rd : PySem.W.readsIn K C mc = true
  ga : PySem.W.specialIn K (.ref C) "__getattribute__" = some (some (.builtin "type.__getattribute__"))
  at_ : PySem.W.findCls K (.ref C) mc m = some (.get (.builtin "staticmethod.__get__") (.ref p) .none (.ref C))
  rc : ∃ rest, PySem.W.recIn K p "staticmethod" = some (.ref g :: rest)
  kp : PySem.W.keepIn K (.ref g) = true
structure StaX (P : Program) (w : World) (K : PySem.W.Frag) (mg : Str → Option Value) (base : Heap) (k : Nat) (C : Addr) (m : Str) (sp : Sp) : Prop where
  ex : ∃ (mc : Value) (p g : Addr) (fd : FuncData) (ps : List Str), SMet K C mc m p g ∧ FnOk P w K mg base (L2.CX P w) k g fd ps sp ∧ Binds K fd ps []
def tStaS (C : Addr) (sp : Sp) (E : L2.St → XK) (ta : TE) (t : TA) : TE := fun σ H Q => ta σ H fun x H1 => x = .ref C ∧ t σ H1 fun vs H2 => sp vs H2 Q (E σ)
theorem pe_smX {X : Cx} {k j : Nat} {C : Addr} {m : Str} {sp : Sp} {W : WX} {o e : Expr} {es : List Expr} {ta : TE} {t : TA} {pos apos : Pos} {pl : Sem Bool} (tk : Takes X W) (he : PE X o ta) (c : StaX X.prog X.w X.K X.mg X.base k C m sp) (hr : Room j X.A) (hk : k ≤ j) (ha : PA X (e :: es) t)
    (hst : starEach (e :: es) X.env = (false, eval e X.env) :: starEach es X.env := by rfl) (hpl : (backTo pos (starEach es X.env)).any (·.1) = false := by rfl)
    (ht : eval (.Call (.Attribute o m apos) (e :: es) [] pos) X.env = (do
      let ov ← eval o X.env
      standAt apos.atName
      let (f, first) ← holding [ov] (getMethod ov m pl)
      callWith pos f first (backTo pos (starEach (e :: es) X.env)) (backToKw pos (keywordEach [] X.env))) := by rfl) :
    PE X (.Call (.Attribute o m apos) (e :: es) [] pos) (tStaS C sp (WE W) ta t) := by
  obtain ⟨mc, p, g, fd, ps, S, F, hb⟩ := c.ex
  obtain ⟨rest, hp⟩ := S.rc
  refine ⟨fun pins s σ H Q I h => ?_⟩
  refine PySem.W.methodCall_KW (pl := pl) (thn (he.run pins s σ H _ I h) fun u s1 ⟨x, H1, I1, rx, ex, q⟩ => ?_) ht
  subst ex
  cases rx
  obtain ⟨fm, hF⟩ := I1.fr
  refine PySem.W.method_cls I1.kIn S.ga (PySem.W.cls_sm hF I1.ok.mod.kin S.ty S.rd S.at_ hp rfl ?_)
  have I2 := I1.tok (s1.toks + 1)
  show wpAny _ _ (callWith pos (.ref g) [] (backTo pos (starEach (e :: es) X.env)) []) _ _ _
  refine PySem.W.callWith_K (h₀ := X.base) I2.ok.mod.kin S.kp (thn (ha.run pos pins _ σ H1 _ I2 q) fun us s3 ⟨vs, H2, I3, r, q2⟩ => ⟨I3.kIn, ?_⟩) hst hpl
  exact run_fnS (E := WE W) F (hr.mono hk) hb (passAt tk σ) I3 r q2
end NF
set_option Elab.async false
set_option linter.all false
set_option maxRecDepth 100000
set_option maxHeartbeats 4000000
/-! Facts of a top, each as one Bool of the written part, with what it says. -/
namespace NF
open PySem PySem.Spec PyProof.Rows L2 He RZ
def dG (x : Str) (st : Stmt) : Adr := (fun K => ga K x, ⟨(x, none), x, x, defArgs st, defBody st, defScope st, [], []⟩)
def dGd (x : Str) (st : Stmt) (dfl : List He.Dv) : Adr := (fun K => ga K x, ⟨(x, none), x, x, defArgs st, defBody st, defScope st, dfl, []⟩)
def dM (c m q : Str) (st : Stmt) (dfl : List He.Dv) : Adr := (fun K => ma K (ga K c) m, ⟨(c, some m), m, q, defArgs st, defBody st, defScope st, dfl, []⟩)
def getW (t : String) (c f : Str) (K : PySem.W.Frag) : Addr := match PySem.W.recIn K (ma K (ga K c) f) t with
  | some (.ref g :: _) => g
  | _ => 0
def dP (c m q : Str) (st : Stmt) : Adr := (getW "property" c m, ⟨(c, some m), m, q, defArgs st, defBody st, defScope st, [], []⟩)
def dS (c m q : Str) (st : Stmt) : Adr := (getW "staticmethod" c m, ⟨(c, some m), m, q, defArgs st, defBody st, defScope st, [], []⟩)
def recB (t : String) (c f : Str) (K : PySem.W.Frag) : Bool := match PySem.W.recIn K (ma K (ga K c) f) t with
  | some (.ref _ :: _) => true
  | _ => false
theorem rec_ok {t : String} {c f : Str} {K : PySem.W.Frag} (h : recB t c f K = true) : ∃ rest, PySem.W.recIn K (ma K (ga K c) f) t = some (.ref (getW t c f K) :: rest) := by
  unfold recB at h
  unfold getW
  cases q : PySem.W.recIn K (ma K (ga K c) f) t with
  | none =>
    rw [q] at h
    cases h
  | some l =>
    rw [q] at h
    match l, h with
    | .ref g' :: rest, _ => exact ⟨rest, rfl⟩
/-! ### names -/
def namB (gs fs : List Str) (K : PySem.W.Frag) : Bool := (gs.all fun x => eqO (PySem.W.nsIn K mainGlobals x) (some (some (.ref (ga K x))))) && fs.all fun x => eqO (PySem.W.nsIn K mainGlobals x) (some none)
theorem nam_ok {gs fs : List Str} {K : PySem.W.Frag} {mg : Str → Option Value} {h : Heap} (c : namB gs fs K = true) (X : K.In h) (G : h.Ns mainGlobals mg) : Txt K mg gs fs := by
  obtain ⟨h1, h2⟩ := ba c
  exact ⟨fun x hx => PySem.W.mg_of X G (eqO_ok (List.all_eq_true.mp h1 x hx)), fun x hx => PySem.W.mg_none_of X G (eqO_ok (List.all_eq_true.mp h2 x hx))⟩
def bltB (x : Str) (b : String) (K : PySem.W.Frag) : Bool := eqO (PySem.W.nsIn K mainGlobals x) (some (some (.builtin b)))
theorem blt_ok {x : Str} {b : String} {K : PySem.W.Frag} {mg : Str → Option Value} {h : Heap} (c : bltB x b K = true) (X : K.In h) (G : h.Ns mainGlobals mg) : mg x = some (.builtin b) := PySem.W.mg_of X G (eqO_ok c)
def intB (x : Str) (n : Int) (K : PySem.W.Frag) : Bool := match PySem.W.nsIn K mainGlobals x with
  | some (some (.int m _)) => decide (m = n)
  | _ => false
theorem int_ok {x : Str} {n : Int} {K : PySem.W.Frag} {mg : Str → Option Value} {h : Heap} (c : intB x n K = true) (X : K.In h) (G : h.Ns mainGlobals mg) : ∃ tok, mg x = some (.int n tok) := by
  unfold intB at c
  split at c
  · rename_i m tok q
    have e : m = n := of_decide_eq_true c
    subst e
    exact ⟨tok, PySem.W.mg_of X G q⟩
  · cases c
def strB (x s : Str) (K : PySem.W.Frag) : Bool := match PySem.W.nsIn K mainGlobals x with
  | some (some (.str m _)) => decide (m = s)
  | _ => false
theorem str_ok {x s : Str} {K : PySem.W.Frag} {mg : Str → Option Value} {h : Heap} (c : strB x s K = true) (X : K.In h) (G : h.Ns mainGlobals mg) : ∃ tok, mg x = some (.str s tok) := by
  unfold strB at c
  split at c
  · rename_i m tok q
    have e : m = s := of_decide_eq_true c
    subst e
    exact ⟨tok, PySem.W.mg_of X G q⟩
  · cases c
/-! ### an own exception that keeps its one argument under f -/
structure ExcK (K : PySem.W.Frag) (x f : Str) : Prop where
  xc : ExcC K (ga K x)
  T : OexC K (ga K x)
  i : PySem.W.findIn K (.ref (ga K x)) "__init__" = some (some (.ref (ma K (ga K x) "__init__")))
  t : PySem.W.typeIn K (.ref (ma K (ga K x) "__init__")) = some (.type "function")
  no : PySem.W.findIn K (.ref (ga K x)) f = some none
  xf : XfC K (ga K x)
def excKB (x f : Str) (K : PySem.W.Frag) : Bool := (excB K (ga K x) && (oexB K (ga K x) && eqO (PySem.W.findIn K (.ref (ga K x)) "__init__") (some (some (.ref (ma K (ga K x) "__init__")))))) &&
  (decide (PySem.W.typeIn K (.ref (ma K (ga K x) "__init__")) = some (.type "function")) && (eqO (PySem.W.findIn K (.ref (ga K x)) f) (some none) && xfB K (ga K x)))
theorem excK_ok {x f : Str} {K : PySem.W.Frag} (h : excKB x f K = true) : ExcK K x f := by
  obtain ⟨h1, h2⟩ := ba h
  obtain ⟨a1, h1⟩ := ba h1
  obtain ⟨a2, a3⟩ := ba h1
  obtain ⟨a4, h2⟩ := ba h2
  obtain ⟨a5, a6⟩ := ba h2
  exact ⟨excB_ok a1, oexB_ok a2, eqO_ok a3, of_decide_eq_true a4, eqO_ok a5, xfB_ok a6⟩
theorem ExcK.excI {P : Program} {w : World} {K : PySem.W.Frag} {mg : Str → Option Value} {base : Heap} {x f q : Str} {gs fs : List Str} {pa : Arguments} {bd : List Stmt} {sc : Scope} {fd : FuncData} {q1 q2 q3 q4 : Pos} (e : ExcK K x f) (T : Txt K mg gs fs) (hx : x ∈ gs)
    (F : FunD K "__init__" q pa bd sc [] [] (ma K (ga K x) "__init__") fd) (hb : bd = bodyE f q1 q2 q3 q4) (S : FnScope ["self", f] ["self", f] sc)
    (hv0 : Vis sc "self") (hv1 : Vis sc f) (hd : (f == ("__debug__" : Str)) = false) (hcd : (f == ("__classdict__" : Str)) = false) (b : Binds K fd ["self", f] []) : ExcI P w K mg base x f :=
  ⟨e.T, ⟨_, fd, e.i, e.t, ok_exc (x := x) F hb S e.T e.no hv0 hv1 hd hcd, b⟩, T.gl x hx⟩
/-! ### which class is under which -/
def kitPB (ps : List (Str × Str × Bool)) (K : PySem.W.Frag) : Bool := ps.all fun p => decide (PySem.W.kitOne K (.ref (ga K p.1)) (.ref (ga K p.2.1)) = some p.2.2)
theorem kitP_ok {ps : List (Str × Str × Bool)} {K : PySem.W.Frag} (h : kitPB ps K = true) {x y : Str} {b : Bool} (m : (x, y, b) ∈ ps) : PySem.W.kitOne K (.ref (ga K x)) (.ref (ga K y)) = some b := of_decide_eq_true (List.all_eq_true.mp h _ m)
def exmPB (ps : List (Str × Str × Bool)) (K : PySem.W.Frag) : Bool := ps.all fun p => decide (PySem.W.exmOne K (.ref (ga K p.1)) (.ref (ga K p.2.1)) = some p.2.2)
theorem exmP_ok {ps : List (Str × Str × Bool)} {K : PySem.W.Frag} (h : exmPB ps K = true) {x y : Str} {b : Bool} (m : (x, y, b) ∈ ps) : PySem.W.exmOne K (.ref (ga K x)) (.ref (ga K y)) = some b := of_decide_eq_true (List.all_eq_true.mp h _ m)
/-! ### an own class -/
def clsB (c : Str) (K : PySem.W.Frag) : Bool := (PySem.W.plainGet K (ga K c) Str.empty && PySem.W.hasDictIn K (ga K c)) && (PySem.W.plainOver K (ga K c) && eqO (PySem.W.findIn K (.ref (ga K c)) "__setattr__") (some (some (.builtin "object.__setattr__"))))
theorem cls_ok {c : Str} {K : PySem.W.Frag} (h : clsB c K = true) : Cls K (ga K c) := by
  obtain ⟨h1, h2⟩ := ba h
  obtain ⟨a1, a2⟩ := ba h1
  obtain ⟨a3, a4⟩ := ba h2
  exact ⟨a1, a2, a3, eqO_ok a4⟩
def fldsB (c : Str) (fs : List Str) (K : PySem.W.Frag) : Bool := fs.all fun f => eqO (PySem.W.findIn K (.ref (ga K c)) f) (some none)
theorem flds_ok {c : Str} {fs : List Str} {K : PySem.W.Frag} (h : fldsB c fs K = true) {f : Str} (m : f ∈ fs) : PySem.W.findIn K (.ref (ga K c)) f = some none := eqO_ok (List.all_eq_true.mp h f m)
structure TyC (K : PySem.W.Frag) (C : Addr) : Prop where
  ac : PySem.W.findIn K (.ref C) "__class__" = some (some (.builtin "object.__class__"))
  ag : PySem.W.specialIn K (.builtin "object.__class__") "__get__" = some (some (.builtin "getset_descriptor.__get__"))
  at_ : PySem.W.takesIn K (.builtin "object.__class__") = some true
  am : PySem.W.mroIn K C (.type "object") = some true
  self : PySem.W.kitOne K (.ref C) (.ref C) = some true
  tup : PySem.W.kitOne K (.type "tuple") (.ref C) = some false
  int : PySem.W.kitOne K (.type "int") (.ref C) = some false
  non : PySem.W.kitOne K (.type "NoneType") (.ref C) = some false
def tyB (c : Str) (K : PySem.W.Frag) : Bool := ((eqO (PySem.W.findIn K (.ref (ga K c)) "__class__") (some (some (.builtin "object.__class__"))) && eqO (PySem.W.specialIn K (.builtin "object.__class__") "__get__") (some (some (.builtin "getset_descriptor.__get__")))) &&
  (decide (PySem.W.takesIn K (.builtin "object.__class__") = some true) && decide (PySem.W.mroIn K (ga K c) (.type "object") = some true))) &&
  ((decide (PySem.W.kitOne K (.ref (ga K c)) (.ref (ga K c)) = some true) && decide (PySem.W.kitOne K (.type "tuple") (.ref (ga K c)) = some false)) && (decide (PySem.W.kitOne K (.type "int") (.ref (ga K c)) = some false) && decide (PySem.W.kitOne K (.type "NoneType") (.ref (ga K c)) = some false)))
theorem ty_ok {c : Str} {K : PySem.W.Frag} (h : tyB c K = true) : TyC K (ga K c) := by
  obtain ⟨h1, h2⟩ := ba h
  obtain ⟨t1, t2⟩ := ba h1
  obtain ⟨t1, t3⟩ := ba t1
  obtain ⟨t2, t4⟩ := ba t2
  obtain ⟨k1, k2⟩ := ba h2
  obtain ⟨k1, k3⟩ := ba k1
  obtain ⟨k2, k4⟩ := ba k2
  exact ⟨eqO_ok t1, eqO_ok t3, of_decide_eq_true t2, of_decide_eq_true t4, of_decide_eq_true k1, of_decide_eq_true k3, of_decide_eq_true k2, of_decide_eq_true k4⟩
def nfB (c : Str) (ts : List String) (K : PySem.W.Frag) : Bool := ts.all fun t => PySem.W.notFirst K (ga K c) (.type t)
theorem nf_ok {c : Str} {ts : List String} {K : PySem.W.Frag} (h : nfB c ts K = true) {t : String} (m : t ∈ ts) : PySem.W.notFirst K (ga K c) (.type t) = true := List.all_eq_true.mp h t m
def mkB (c : Str) (K : PySem.W.Frag) : Bool := (PySem.W.makesIn K (ga K c) && eqO (PySem.W.findIn K (.ref (ga K c)) "__init__") (some (some (.ref (ma K (ga K c) "__init__"))))) && (PySem.W.isFn K (.ref (ma K (ga K c) "__init__")) && PySem.W.keepIn K (.ref (ga K c)))
theorem mk_ok {c : Str} {K : PySem.W.Frag} (h : mkB c K = true) : Mk K (ga K c) (ma K (ga K c) "__init__") := by
  obtain ⟨m1, m2⟩ := ba h
  obtain ⟨m1, m3⟩ := ba m1
  obtain ⟨m2, m4⟩ := ba m2
  exact ⟨m1, eqO_ok m3, m2, m4⟩
def callB (c : Str) (K : PySem.W.Frag) : Bool := eqO (PySem.W.findIn K (.ref (ga K c)) "__call__") (some (some (.ref (ma K (ga K c) "__call__")))) && (PySem.W.isFn K (.ref (ma K (ga K c) "__call__")) && PySem.W.fnIn K (ma K (ga K c) "__call__"))
theorem call_ok {c : Str} {K : PySem.W.Frag} (h : callB c K = true) : StX.CallO K (ga K c) (ma K (ga K c) "__call__") := by
  obtain ⟨g1, g2⟩ := ba h
  obtain ⟨g2, g3⟩ := ba g2
  exact ⟨eqO_ok g1, g2, g3⟩
structure EqM (K : PySem.W.Frag) (C : Addr) : Prop where
  e1 : PySem.W.findIn K (.ref C) "__eq__" = some (some (.ref (ma K C "__eq__")))
  e2 : PySem.W.isFn K (.ref (ma K C "__eq__")) = true
  e3 : plObjB K C (ma K C "__eq__") = true
def eqB (c : Str) (K : PySem.W.Frag) : Bool := (eqO (PySem.W.findIn K (.ref (ga K c)) "__eq__") (some (some (.ref (ma K (ga K c) "__eq__")))) && PySem.W.isFn K (.ref (ma K (ga K c) "__eq__"))) && plObjB K (ga K c) (ma K (ga K c) "__eq__")
theorem eq_ok {c : Str} {K : PySem.W.Frag} (h : eqB c K = true) : EqM K (ga K c) := by
  obtain ⟨e1, e2⟩ := ba h
  obtain ⟨e1, e3⟩ := ba e1
  exact ⟨eqO_ok e1, e3, e2⟩
def propB (c f : Str) (K : PySem.W.Frag) : Bool := (eqO (PySem.W.findIn K (.ref (ga K c)) f) (some (some (.ref (ma K (ga K c) f)))) && eqO (PySem.W.specialIn K (.ref (ma K (ga K c) f)) "__get__") (some (some (.builtin "property.__get__")))) &&
  (decide (PySem.W.takesIn K (.ref (ma K (ga K c) f)) = some true) && recB "property" c f K)
theorem prop_ok {c f : Str} {K : PySem.W.Frag} (h : propB c f K = true) : PropOf K (ga K c) f (ma K (ga K c) f) (getW "property" c f K) := by
  obtain ⟨h1, h2⟩ := ba h
  obtain ⟨h1, h3⟩ := ba h1
  obtain ⟨h2, h4⟩ := ba h2
  exact ⟨eqO_ok h1, eqO_ok h3, of_decide_eq_true h2, rec_ok h4⟩
def staB (c m : Str) (K : PySem.W.Frag) : Bool := (decide (PySem.W.typeIn K (.ref (ga K c)) = some (.type "type")) && (PySem.W.readsIn K (ga K c) (.type "type") && eqO (PySem.W.specialIn K (.ref (ga K c)) "__getattribute__") (some (some (.builtin "type.__getattribute__"))))) &&
  ((match PySem.W.findCls K (.ref (ga K c)) (.type "type") m with
    | some (.get g a o t) => decide (g = .builtin "staticmethod.__get__") && (decide (a = .ref (ma K (ga K c) m)) && (decide (o = .none) && decide (t = .ref (ga K c))))
    | _ => false) && (recB "staticmethod" c m K && PySem.W.keepIn K (.ref (getW "staticmethod" c m K))))
theorem sta_ok {c m : Str} {K : PySem.W.Frag} (h : staB c m K = true) : SMet K (ga K c) (.type "type") m (ma K (ga K c) m) (getW "staticmethod" c m K) := by
  obtain ⟨h1, h2⟩ := ba h
  obtain ⟨a1, h1⟩ := ba h1
  obtain ⟨a2, a3⟩ := ba h1
  obtain ⟨a4, h2⟩ := ba h2
  obtain ⟨a5, a6⟩ := ba h2
  refine ⟨of_decide_eq_true a1, a2, eqO_ok a3, ?_, rec_ok a5, a6⟩
  split at a4
  · rename_i g a o t q
    obtain ⟨b1, a4⟩ := ba a4
    obtain ⟨b2, a4⟩ := ba a4
    obtain ⟨b3, b4⟩ := ba a4
    rw [q, of_decide_eq_true b1, of_decide_eq_true b2, of_decide_eq_true b3, of_decide_eq_true b4]
  · cases a4
/-! ### a default that is an empty tuple -/
def e0B (e0 : PySem.W.Frag → Addr) (K : PySem.W.Frag) : Bool := match K.lookup (e0 K) with
  | some ⟨.type c, _, .seq its _, _⟩ => decide (c = "tuple") && decide (its.toList = [])
  | _ => false
theorem e0_ok {e0 : PySem.W.Frag → Addr} {K : PySem.W.Frag} (h : e0B e0 K = true) (H : Hp) : SqT K H (e0 K) [] := by
  unfold e0B at h
  split at h
  · rename_i c dd its n sl q
    obtain ⟨h1, h2⟩ := ba h
    have e : its.toList = [] := of_decide_eq_true h2
    refine .inr ⟨_, its, n, q, congrArg Value.type (of_decide_eq_true h1), rfl, ?_, ?_⟩
    · rw [← Array.length_toList, e]
      exact Nat.zero_le _
    · rw [e]
      exact .nil
  · cases h
/-! ### what the module's names reach, each address once (seen ones are bits of a number) -/
def newB : List Addr → Nat → List Addr → List Addr × Nat
  | [], seen, acc => (acc, seen)
  | a :: r, seen, acc => match Nat.beq (Nat.land (Nat.shiftRight seen a) 1) 0 with
    | true => newB r (Nat.lor seen (Nat.shiftLeft 1 a)) (a :: acc)
    | false => newB r seen acc
def asB (g : Addr → Option Obj) : Nat → List Addr → Nat → List Addr → List Addr
  | 0, fr, _, all => fr ++ all
  | n + 1, fr, seen, all => match newB (fr.flatMap fun a => match g a with
      | some o => refsD o
      | none => []) seen [] with
    | (fr', seen') => asB g n fr' seen' (fr ++ all)
/-! ### the hook, with the classes' statics beside -/
def obsQG (n : Nat) (ex : PySem.W.Frag → Bool) (fn : List Adr) (g : Addr → Option Obj) : AlD := obsP ex fn (frG g (asB g n [mainGlobals] (Nat.shiftLeft 1 mainGlobals) [] ++ [cStatics]))
def hookQ (n : Nat) (ex : PySem.W.Frag → Bool) (fn : List Adr) : PySem.W.Hook where
  α := AlD
  obs := fun s => obsQG n ex fn s.heap.get?
  val := fun _ => valP fn
  says := fun _ h => ∃ K : PySem.W.Frag, K.In h ∧ SaysP ex fn K
  of := fun _ _ e => ⟨_, frG_in, e⟩
  keeps := fun _ _ _ ⟨K, hK, c⟩ k => ⟨K, PySem.W.Frag.In.keeps hK k, c⟩
theorem obsQG_eq {n : Nat} {ex : PySem.W.Frag → Bool} {fn : List Adr} {g : Addr → Option Obj} {s : Shared} (h : ∀ a, g a = s.heap.get? a) : obsQG n ex fn g = (hookQ n ex fn).obs s := by
  have e : g = s.heap.get? := funext h
  rw [e] <;> rfl
end NF
set_option Elab.async false
set_option linter.all false
set_option maxRecDepth 100000
set_option maxHeartbeats 4000000
/-! Own binary operators of a class: x * y, x & y, x | y, both instances of it. -/
namespace NF
open PySem PySem.Spec PyProof.Rows L2 He RZ NT
def rBinO (C : Addr) (sp : Sp) : R2 := fun x y H Q => ∃ a dx fs b dy gs, x = .ref a ∧ H a = some (.ins C dx fs) ∧ y = .ref b ∧ H b = some (.ins C dy gs) ∧ sp [.ref a, .ref b] H Q E0
structure OpM (K : PySem.W.Frag) (C f : Addr) (nm : Str) : Prop where
  o1 : PySem.W.findIn K (.ref C) nm = some (some (.ref f))
  o2 : PySem.W.isFn K (.ref f) = true
  o3 : PySem.W.selfFirst K C = true
/-- a class with an own operator, and how its instances' type is read -/
structure OpC (P : Program) (w : World) (K : PySem.W.Frag) (mg : Str → Option Value) (base : Heap) (k : Nat) (C : Addr) (nm : Str) (sp : Sp) : Prop where
  cl : Cls K C
  ac : PySem.W.findIn K (.ref C) "__class__" = some (some (.builtin "object.__class__"))
  ag : PySem.W.specialIn K (.builtin "object.__class__") "__get__" = some (some (.builtin "getset_descriptor.__get__"))
  at_ : PySem.W.takesIn K (.builtin "object.__class__") = some true
  am : PySem.W.mroIn K C (.type "object") = some true
  ex : ∃ (f : Addr) (fd : FuncData) (ps : List Str), FnOk P w K mg base CX0 k f fd ps sp ∧ OpM K C f nm ∧ Binds K fd ps []
theorem op_bin {X : Cx} {k j : Nat} {C : Addr} {sp : Sp} {op : Operator} {nm : Str} (c : OpC X.prog X.w X.K X.mg X.base k C nm sp) (hr : Room j X.A) (hk : k ≤ j) (hnm : PySem.dunder op.info.2 = nm := by rfl) : OpR X (binaryOp op) (rBinO C sp) := by
  obtain ⟨f, fd, ps, F, ⟨hs, hf, hc⟩, hb⟩ := c.ex
  intro pins s σ H x y v u Q I rx ry h
  obtain ⟨a, dx, fs, b, dy, gs, rfl, ha, rfl, hb2, q⟩ := h
  cases rx
  obtain ⟨mA, O, _⟩ := ins_get I.hok ha
  obtain ⟨od, J, _⟩ := O.look
  obtain ⟨m, hF⟩ := I.fr
  obtain ⟨P, Z, p, _⟩ := kit_of I ry (.base (.ins hb2 c.cl c.ac c.ag c.at_ c.am))
  cases ry
  show wpAny (model X.prog X.w) X.A (binaryOp op (.ref a) (.ref b)) (EP X pins σ Q) X.xe s
  refine PySem.W.binop_K hF I.ok.mod.kin J (Z.ty _ _ I.kIn p) hc (by rw [hnm]; exact hs) hf ?_
  have r2 : Vals [V.ref a, V.ref b] [Value.ref a, Value.ref b] := .cons rfl (.cons rfl .nil)
  refine wpAny_mono (run_fn (us := [.ref a, .ref b]) (vs := [.ref a, .ref b]) F (hr.mono hk) hb .nil pass0 I r2 q) (fun r s' z => ?_) fun _ _ e => e
  obtain ⟨z, H', I', rz, q'⟩ := z
  have hni : r ≠ .notImplemented := fun e => by
    subst e
    cases z with
    | int i => obtain ⟨t, e⟩ := (show ∃ t, Value.notImplemented = Value.int i t from rz); cases e
    | str i => obtain ⟨t, e⟩ := (show ∃ t, Value.notImplemented = Value.str i t from rz); cases e
    | byt i => obtain ⟨t, e⟩ := (show ∃ t, Value.notImplemented = Value.bytes i t from rz); cases e
    | flt i => obtain ⟨t, e⟩ := (show ∃ t, Value.notImplemented = Value.float i t from rz); cases e
    | _ => cases rz
  unfold PySem.W.CmpBack
  split
  · exact hni rfl
  · exact ⟨z, H', I', rz, q'⟩
end NF
set_option Elab.async false
set_option linter.all false
set_option maxRecDepth 100000
set_option maxHeartbeats 4000000
namespace NF
open PySem PySem.Spec PyProof.Rows L2 He RZ NT
def binB (c m : Str) (K : PySem.W.Frag) : Bool := eqO (PySem.W.findIn K (.ref (ga K c)) m) (some (some (.ref (ma K (ga K c) m)))) && (PySem.W.isFn K (.ref (ma K (ga K c) m)) && PySem.W.selfFirst K (ga K c))
theorem bin_ok {c m : Str} {K : PySem.W.Frag} (h : binB c m K = true) : OpM K (ga K c) (ma K (ga K c) m) m := by
  obtain ⟨h1, h2⟩ := ba h
  obtain ⟨h2, h3⟩ := ba h2
  exact ⟨eqO_ok h1, h2, h3⟩
end NF
set_option Elab.async false
set_option linter.all false
set_option maxRecDepth 100000
set_option maxHeartbeats 4000000
/-! o.m(..): a method of a class of one's own. -/
namespace NF
open PySem PySem.Spec PyProof.Rows L2 He RZ NT
structure MetC (P : Program) (w : World) (K : PySem.W.Frag) (mg : Str → Option Value) (base : Heap) (k : Nat) (C : Addr) (m : Str) (sp : Sp) : Prop where
  cl : Cls K C
  ex : ∃ (f : Addr) (fd : FuncData) (ps : List Str), Meth K C m f ∧ FnOk P w K mg base CX0 k f fd ps sp ∧ Binds K fd ps []
theorem pe_mt {X : Cx} {k j : Nat} {C : Addr} {m : Str} {sp : Sp} {o e : Expr} {es : List Expr} {ta : TE} {t : TA} {pl : Sem Bool} {pos apos : Pos} (he : PE X o ta) (c : MetC X.prog X.w X.K X.mg X.base k C m sp) (hr : Room j X.A) (hk : k ≤ j) (ha : PA X (e :: es) t)
    (hst : starEach (e :: es) X.env = (false, eval e X.env) :: starEach es X.env := by rfl) (hpl : (backTo pos (starEach es X.env)).any (·.1) = false := by rfl)
    (ht : eval (.Call (.Attribute o m apos) (e :: es) [] pos) X.env = (do
      let ov ← eval o X.env
      standAt apos.atName
      let (f, first) ← holding [ov] (getMethod ov m pl)
      callWith pos f first (backTo pos (starEach (e :: es) X.env)) (backToKw pos (keywordEach [] X.env))) := by rfl) :
    PE X (.Call (.Attribute o m apos) (e :: es) [] pos) (tMeth C m sp [] E0 ta t) := by
  obtain ⟨f, fd, ps, hm, F, b⟩ := c.ex
  exact pe_meth he c.cl hm F (hr.mono hk) b .nil pass0 ha hst hpl ht
/-- o.m() -/
theorem pe_mt0 {X : Cx} {k j : Nat} {C : Addr} {m : Str} {sp : Sp} {o : Expr} {ta : TE} {pl : Sem Bool} {pos apos : Pos} (he : PE X o ta) (c : MetC X.prog X.w X.K X.mg X.base k C m sp) (hr : Room j X.A) (hk : k ≤ j)
    (ht : eval (.Call (.Attribute o m apos) [] [] pos) X.env = (do
      let ov ← eval o X.env
      standAt apos.atName
      let (f, first) ← holding [ov] (getMethod ov m pl)
      callWith pos f first (backTo pos (starEach [] X.env)) (backToKw pos (keywordEach [] X.env))) := by rfl) :
    PE X (.Call (.Attribute o m apos) [] [] pos) (tMeth C m sp [] E0 ta tNil) := by
  obtain ⟨f, fd, ps, hm, F, b⟩ := c.ex
  exact pe_meth0 he c.cl hm F (hr.mono hk) b .nil pass0 ht
end NF
set_option linter.all false
namespace NF
open PySem PySem.Spec PyProof.Rows L2 He RZ
/-- o.m(..): a plain method, as the head's run finds it -/
def metB (c m : Str) (K : PySem.W.Frag) : Bool := eqO (PySem.W.findIn K (.ref (ga K c)) m) (some (some (.ref (ma K (ga K c) m)))) && (PySem.W.isFn K (.ref (ma K (ga K c) m)) && PySem.W.keepIn K (.ref (ma K (ga K c) m)))
theorem met_ok {c m : Str} {K : PySem.W.Frag} (h : metB c m K = true) : Meth K (ga K c) m (ma K (ga K c) m) := by
  obtain ⟨h1, h2⟩ := ba h
  obtain ⟨h2, h3⟩ := ba h2
  exact ⟨eqO_ok h1, h2, h3⟩
end NF
set_option Elab.async false
set_option linter.all false
set_option maxRecDepth 100000
set_option maxHeartbeats 4000000
/-! C.m(x, ..): a plain method, read off its class by name. -/
namespace NF
open PySem PySem.Spec PyProof.Rows L2 He RZ
structure FMet (K : PySem.W.Frag) (C : Addr) (mc : Value) (m : Str) (f : Addr) : Prop where
  rd : PySem.W.readsIn K C mc = true
  ga : PySem.W.specialIn K (.ref C) "__getattribute__" = some (some (.builtin "type.__getattribute__"))
  at_ : PySem.W.findCls K (.ref C) mc m = some (.val (.ref f))
  kp : PySem.W.keepIn K (.ref f) = true
structure FunC (P : Program) (w : World) (K : PySem.W.Frag) (mg : Str → Option Value) (base : Heap) (k : Nat) (C : Addr) (m : Str) (sp : Sp) : Prop where
  ex : ∃ (mc : Value) (f : Addr) (fd : FuncData) (ps : List Str), FMet K C mc m f ∧ FnOk P w K mg base CX0 k f fd ps sp ∧ Binds K fd ps []
def tCfn (C : Addr) (sp : Sp) (ta : TE) (t : TA) : TE := fun σ H Q => ta σ H fun x H1 => x = .ref C ∧ t σ H1 fun vs H2 => sp (vs ++ []) H2 Q E0
theorem pe_cf {X : Cx} {k j : Nat} {C : Addr} {m : Str} {sp : Sp} {o e : Expr} {es : List Expr} {ta : TE} {t : TA} {pos apos : Pos} {pl : Sem Bool} (he : PE X o ta) (c : FunC X.prog X.w X.K X.mg X.base k C m sp) (hr : Room j X.A) (hk : k ≤ j) (ha : PA X (e :: es) t)
    (hst : starEach (e :: es) X.env = (false, eval e X.env) :: starEach es X.env := by rfl) (hpl : (backTo pos (starEach es X.env)).any (·.1) = false := by rfl)
    (ht : eval (.Call (.Attribute o m apos) (e :: es) [] pos) X.env = (do
      let ov ← eval o X.env
      standAt apos.atName
      let (f, first) ← holding [ov] (getMethod ov m pl)
      callWith pos f first (backTo pos (starEach (e :: es) X.env)) (backToKw pos (keywordEach [] X.env))) := by rfl) :
    PE X (.Call (.Attribute o m apos) (e :: es) [] pos) (tCfn C sp ta t) := by
  obtain ⟨mc, f, fd, ps, S, F, hb⟩ := c.ex
  constructor
  intro pins s σ H Q I h
  refine PySem.W.methodCall_KW (pl := pl) (thn (he.run pins s σ H _ I h) ?_) ht
  rintro u s1 ⟨x, H1, I1, rx, ex, q⟩
  subst ex
  cases rx
  refine PySem.W.method_cls I1.kIn S.ga (PySem.W.cls_value I1.kIn S.rd S.at_ rfl ?_)
  have I2 := I1.tok (s1.toks + 1)
  refine PySem.W.callWith_K (h₀ := X.base) (first := []) I2.ok.mod.kin S.kp (thn (ha.run pos pins _ σ H1 _ I2 q) ?_) hst hpl
  rintro us s3 ⟨vs, H2, I3, r, q2⟩
  exact ⟨I3.kIn, run_fn F (hr.mono hk) hb .nil pass0 I3 r q2⟩
/-- .. as the head's run finds it; c: the class that has the def -/
def funB (c m : Str) (K : PySem.W.Frag) : Bool := (decide (PySem.W.typeIn K (.ref (ga K c)) = some (.type "type")) && (PySem.W.readsIn K (ga K c) (.type "type") && eqO (PySem.W.specialIn K (.ref (ga K c)) "__getattribute__") (some (some (.builtin "type.__getattribute__"))))) &&
  ((match PySem.W.findCls K (.ref (ga K c)) (.type "type") m with
    | some (.val v) => decide (v = .ref (ma K (ga K c) m))
    | _ => false) && PySem.W.keepIn K (.ref (ma K (ga K c) m)))
theorem fun_ok {c m : Str} {K : PySem.W.Frag} (h : funB c m K = true) : FMet K (ga K c) (.type "type") m (ma K (ga K c) m) := by
  obtain ⟨h1, h2⟩ := ba h
  obtain ⟨_, h1⟩ := ba h1
  obtain ⟨a2, a3⟩ := ba h1
  obtain ⟨a4, a5⟩ := ba h2
  refine ⟨a2, eqO_ok a3, ?_, a5⟩
  split at a4
  · rename_i v q
    rw [q, of_decide_eq_true a4]
  · cases a4
end NF
set_option Elab.async false
set_option linter.all false
set_option maxRecDepth 100000
set_option maxHeartbeats 4000000
/-! bool(x) of an instance whose class has its own __bool__. -/
namespace NF
open PySem PySem.Spec PyProof.Rows L2 He RZ NT
theorem new_boolO {prog : Program} {w : World} {A0 : Around} {s0 : Shared} {a : Addr} :
    MeetsIn prog w (Builtin.«bool.__new__» ⟨[.type "bool", .ref a], []⟩) (fun A R s => A = A0 ∧ s = s0 ∧ wpAny (model prog w) A.in1 (truthy (.ref a)) (fun b s' => R (.ok (.ret (.bool b))) s') (fun e s' => R (.error e) s') s) :=
  MeetsIn.of_wp fun A R s hs => by
    obtain ⟨_, _, hs⟩ := hs
    have f1 := F.conv_sub_bool
    obtain ⟨hp, g, d, tk, os⟩ := s
    repeat (any_goals (first | assumption | (refine wpAny_bind (wpAny_mono hs (fun b s' h => ?_) fun _ _ e => e)) | wp_step))
    all_goals first | exact ⟨_, rfl, h⟩ | exact hs | skip
structure BlM (K : PySem.W.Frag) (C f : Addr) : Prop where
  o1 : PySem.W.findIn K (.ref C) "__bool__" = some (some (.ref f))
  o2 : PySem.W.isFn K (.ref f) = true
structure BlC (P : Program) (w : World) (K : PySem.W.Frag) (mg : Str → Option Value) (base : Heap) (k : Nat) (C : Addr) (sp : Sp) : Prop where
  ex : ∃ (f : Addr) (fd : FuncData) (ps : List Str), FnOk P w K mg base CX0 k f fd ps sp ∧ BlM K C f ∧ Binds K fd ps []
section
variable {X : Cx} {k j : Nat} {C : Addr} {sp : Sp}
theorem run_fn2 {pins : List (Addr × Obj)} {σ : L2.St} {H : Hp} {s : Shared} {Q : VK} {us : List Value} {vs : List V} {f : Addr} {fd : FuncData} {ps : List Str} (F : FnOk X.prog X.w X.K X.mg X.base CX0 k f fd ps sp) (hr : Room (k + 2) X.A) (hb : Binds X.K fd ps [])
    (I : Inv X pins σ H s) (r : Vals vs us) (h : sp (vs ++ []) H Q E0) : wpAny (model X.prog X.w) X.A.in1.in1 (call (.ref f) us) (EP X pins σ Q) X.xe s := by
  have r2 : Vals (vs ++ []) (us ++ []) := r.append .nil
  have hl : (us ++ []).length = ps.length := by rw [← r2.length]; exact F.len _ _ _ _ h
  refine wpAny_call (codeAny_mono (F.run X.A.in1.in1 X.stack s H ⟨us, []⟩ (us ++ []) (vs ++ []) Q E0 hr.in1.in1 I.env0.in1.in1 (hb s us I.kIn hl) r2 h) fun r s' hq => ?_)
  cases r with
  | error e => exact pass0 pins σ H s e s' I hq
  | ok fl =>
    cases fl with
    | ret u => exact I.after hq
    | next => exact False.elim hq
    | brk => exact False.elim hq
    | cont => exact False.elim hq
def rBoolO (C : Addr) (sp : Sp) : List V → Hp → VK → Prop := fun xs H Q => ∃ a dx fs, xs = [.ref a] ∧ H a = some (.ins C dx fs) ∧ sp [.ref a] H (fun r H' => ∃ b, r = .bl b ∧ Q (.bl b) H') E0
theorem call_boolO (c : BlC X.prog X.w X.K X.mg X.base k C sp) (hr : Room j X.A) (hk : k + 2 ≤ j) : CallR X (.type "bool") (rBoolO C sp) := by
  obtain ⟨f, fd, ps, Fk, ⟨hs, hf⟩, hb⟩ := c.ex
  intro pins s σ H xs us Q I r h
  obtain ⟨a, dx, fs, rfl, ha, q⟩ := h
  obtain rfl := Vals.ref1 r
  obtain ⟨mA, O, _⟩ := ins_get I.hok ha
  obtain ⟨od, J, _⟩ := O.look
  obtain ⟨m, hF⟩ := I.fr
  refine callType_newIn F.called_bool F.newNe_bool (F.typeCall_bool_1 _) (F.newCall_bool_1 _) (fun obj => F.args_object_init_2 obj _) F.entry_bool_new (new_boolO (A0 := X.A.in1) (s0 := s)) ⟨rfl, rfl, ?_⟩
  refine PySem.W.truthy_K hF I.ok.mod.kin J hs hf ?_
  refine wpAny_mono (run_fn2 (us := [.ref a]) (vs := [.ref a]) Fk (hr.mono hk) hb I (.cons rfl .nil) q) (fun u s' z => ?_) fun _ _ e => e
  obtain ⟨z, H', I', rz, b, rfl, q'⟩ := z
  obtain rfl : u = Value.bool b := rz
  exact ⟨rfl, .bl b, H', I', rfl, q'⟩
end
/-- .. as the head's run finds it; d: the class that has the def -/
def blB (c d : Str) (K : PySem.W.Frag) : Bool := eqO (PySem.W.findIn K (.ref (ga K c)) "__bool__") (some (some (.ref (ma K (ga K d) "__bool__")))) && PySem.W.isFn K (.ref (ma K (ga K d) "__bool__"))
theorem bl_ok {c d : Str} {K : PySem.W.Frag} (h : blB c d K = true) : BlM K (ga K c) (ma K (ga K d) "__bool__") := by
  obtain ⟨h1, h2⟩ := ba h
  exact ⟨eqO_ok h1, h2⟩
end NF
set_option Elab.async false
set_option linter.all false
set_option maxRecDepth 100000
set_option maxHeartbeats 0
namespace K05
open PySem PySem.Spec PyProof.Rows L2 He NF RZ
def top (i : Nat) : Stmt := PySem.Challenge.pw_needforth_k05_whole_behind.main.body.getD i (.Pass ⟨0, 0, 0, 0⟩)
abbrev s__wall : Stmt := top 1
abbrev s_end_of : Stmt := top 3
abbrev s_value_at : Stmt := top 4
abbrev s_values_from : Stmt := top 5
abbrev s_many_at_most : Stmt := top 6
abbrev s_last_at_most : Stmt := top 7
abbrev s_shortest_lap : Stmt := top 8
abbrev s_plain_form : Stmt := top 9
abbrev s_settled_form : Stmt := top 10
abbrev s_spread : Stmt := top 11
abbrev s_ladder_of : Stmt := top 13
abbrev s_least_in : Stmt := top 14
abbrev s_first_under : Stmt := top 15
abbrev s_last_under : Stmt := top 16
abbrev s_Chase_init : Stmt := inClass (top 17) 0
abbrev s_Chase_ladder_from : Stmt := inClass (top 17) 1
abbrev s_Chase_runners_of : Stmt := inClass (top 17) 2
abbrev s_Chase_greatest_lead : Stmt := inClass (top 17) 3
abbrev s_Chase_first_lead : Stmt := inClass (top 17) 4
abbrev s_Chase_last_lead : Stmt := inClass (top 17) 5
abbrev s_Chase_place_of : Stmt := inClass (top 17) 6
abbrev s_drift_of : Stmt := top 18
abbrev s_longest_head : Stmt := top 19
abbrev s_first_excess_in : Stmt := top 20
abbrev s_first_excess : Stmt := top 21
abbrev s_BadCount_init : Stmt := inClass (top 24) 0
abbrev s_BadTable_init : Stmt := inClass (top 25) 0
abbrev s_is_integer : Stmt := top 27
abbrev s_is_count : Stmt := top 28
abbrev s_is_row : Stmt := top 29
abbrev s_is_climb : Stmt := top 30
abbrev s_Verdict_init : Stmt := inClass (top 32) 0
abbrev s_Verdict_bool : Stmt := inClass (top 32) 1
abbrev s_Below_init : Stmt := inClass (top 34) 0
abbrev s_below : Stmt := top 35
abbrev s_values_behind : Stmt := top 37
abbrev s_behind_form : Stmt := top 38
abbrev s_chosen : Stmt := top 39
abbrev s_settling : Stmt := top 40
abbrev s_joined_form : Stmt := top 41
abbrev s_both_form : Stmt := top 42
abbrev s_either_form : Stmt := top 43
abbrev s_turn_form : Stmt := top 44
abbrev s_check_table : Stmt := top 47
abbrev s_Table_init : Stmt := inClass (top 48) 0
abbrev s_Table_eq : Stmt := inClass (top 48) 1
abbrev s_Table_call : Stmt := inClass (top 48) 2
abbrev s_Table_end : Stmt := inClass (top 48) 3
abbrev s_Table_rate : Stmt := inClass (top 48) 4
abbrev s_Table_steady : Stmt := inClass (top 48) 5
abbrev s_Table_shift : Stmt := inClass (top 48) 6
abbrev s_Table_mul : Stmt := inClass (top 48) 7
abbrev s_Table_and : Stmt := inClass (top 48) 8
abbrev s_Table_or : Stmt := inClass (top 48) 9
abbrev s_Table_invert : Stmt := inClass (top 48) 10
abbrev s__law_source : Stmt := top 50
abbrev s__law_pick : Stmt := top 51
abbrev s__law_is_integer : Stmt := top 52
abbrev s__law_is_count : Stmt := top 53
abbrev s__law_rising : Stmt := top 54
abbrev s__law_raw : Stmt := top 55
abbrev s__law_end : Stmt := top 56
abbrev s__law_at : Stmt := top 57
abbrev s__law_gcd : Stmt := top 58
abbrev s__law_plain : Stmt := top 59
abbrev s__law_fit : Stmt := top 60
abbrev s__law_counts : Stmt := top 61
abbrev s__law_behind : Stmt := top 62
abbrev s__law_shift : Stmt := top 63
abbrev s__law_same : Stmt := top 64
abbrev s__law_table : Stmt := top 65
abbrev s__law_put : Stmt := top 66
abbrev s_law : Stmt := top 67
def FS : List Str := ["len", "int", "abs", "range", "isinstance", "all", "bool", "tuple", "list", "zip", "divmod", "max", "min", "enumerate", "str", "sum", "sorted", "dict", "set"]
end K05
set_option Elab.async false
set_option linter.all false
set_option maxRecDepth 100000
set_option maxHeartbeats 0
namespace K05
open PySem PySem.Spec PyProof.Rows L2 He NF RZ
def e0 (K : PySem.W.Frag) : Addr := He.dflAt ("Table", some "__init__") 0 K
def fn : List Adr := ([dG "shortest_lap" s_shortest_lap, dG "plain_form" s_plain_form, dG "is_integer" s_is_integer, dG "is_count" s_is_count, dG "is_row" s_is_row, dG "is_climb" s_is_climb, dG "check_table" s_check_table, dM "Table" "__init__" "Table.__init__" s_Table_init [.adr e0, .int 0], dG "end_of" s_end_of, dG "value_at" s_value_at, dM "Table" "__call__" "Table.__call__" s_Table_call [], dM "Table" "__eq__" "Table.__eq__" s_Table_eq [], dG "_law_pick" s__law_pick, dG "_law_source" s__law_source, dG "_law_is_integer" s__law_is_integer, dG "_law_is_count" s__law_is_count, dG "_law_end" s__law_end, dG "_law_at" s__law_at, dG "_law_gcd" s__law_gcd, dG "_law_rising" s__law_rising] : List Adr) ++ ([dG "_law_raw" s__law_raw, dG "_law_plain" s__law_plain, dG "_law_table" s__law_table, dG "_law_same" s__law_same, dG "least_in" s_least_in, dG "first_under" s_first_under, dG "last_under" s_last_under, dG "ladder_of" s_ladder_of, dM "Chase" "place_of" "Chase.place_of" s_Chase_place_of [], dM "Chase" "ladder_from" "Chase.ladder_from" s_Chase_ladder_from [], dM "Chase" "runners_of" "Chase.runners_of" s_Chase_runners_of [], dG "values_from" s_values_from, dM "Chase" "__init__" "Chase.__init__" s_Chase_init [], dG "drift_of" s_drift_of, dG "longest_head" s_longest_head, dG "chosen" s_chosen, dM "Chase" "first_lead" "Chase.first_lead" s_Chase_first_lead [], dM "Chase" "last_lead" "Chase.last_lead" s_Chase_last_lead [], dG "settling" s_settling, dG "joined_form" s_joined_form] : List Adr) ++ ([dG "both_form" s_both_form, dG "either_form" s_either_form, dM "Table" "__and__" "Table.__and__" s_Table_and [], dM "Table" "__or__" "Table.__or__" s_Table_or [], dG "first_excess_in" s_first_excess_in, dG "first_excess" s_first_excess, dM "Verdict" "__init__" "Verdict.__init__" s_Verdict_init [], dM "Below" "__init__" "Below.__init__" s_Below_init [], dG "below" s_below, dG "many_at_most" s_many_at_most, dG "last_at_most" s_last_at_most, dG "values_behind" s_values_behind, dG "settled_form" s_settled_form, dG "behind_form" s_behind_form, dM "Table" "__mul__" "Table.__mul__" s_Table_mul [], dG "_law_counts" s__law_counts, dG "_law_fit" s__law_fit, dG "_law_behind" s__law_behind, dS "Table" "shift" "Table.shift" s_Table_shift, dG "_law_shift" s__law_shift] : List Adr) ++ ([dG "_law_put" s__law_put, dG "law" s_law] : List Adr)
def gs : List Str := (["shortest_lap", "plain_form", "is_integer", "is_count", "is_row", "is_climb", "check_table", "end_of", "value_at", "_law_pick", "_law_source", "_law_is_integer", "_law_is_count", "_law_end", "_law_at", "_law_gcd", "_law_rising", "_law_raw", "_law_plain", "_law_table", "_law_same", "least_in", "first_under", "last_under", "ladder_of"] : List Str) ++ (["values_from", "drift_of", "longest_head", "chosen", "settling", "joined_form", "both_form", "either_form", "first_excess_in", "first_excess", "below", "many_at_most", "last_at_most", "values_behind", "settled_form", "behind_form", "_law_counts", "_law_fit", "_law_behind", "_law_shift", "_law_put", "law", "Chase", "NeedforthError", "BadCount"] : List Str) ++ (["BadTable", "Verdict", "Below", "Table"] : List Str)
def exL : List (PySem.W.Frag → Bool) := [namB gs FS, bltB "gcd" "math.gcd", bltB "lcm" "math.lcm", intB "LONGEST_SHIFT" 5000, clsB "Table", fldsB "Table" ["head", "loop", "rise"], tyB "Table", mkB "Table", eqB "Table", callB "Table", binB "Table" "__and__", binB "Table" "__or__", binB "Table" "__mul__", staB "Table" "shift", clsB "Chase", fldsB "Chase" ["start", "lap", "window", "drift", "ladders", "runners"], mkB "Chase", metB "Chase" "ladder_from", metB "Chase" "runners_of", metB "Chase" "first_lead", metB "Chase" "last_lead", metB "Chase" "place_of", clsB "Below", fldsB "Below" ["holds", "first", "second", "place", "sides"], mkB "Below", funB "Verdict" "__init__"]
def exB (K : PySem.W.Frag) : Bool := exL.all fun f => f K
end K05
set_option Elab.async false
set_option linter.all false
set_option maxRecDepth 100000
set_option maxHeartbeats 0
namespace K05
open PySem PySem.Spec PyProof.Rows L2 He NF
abbrev R : PySem.W.OpenRow := PySem.W.OpenLaw.row PySem.Challenge.rw_needforth_k05_whole_behind
abbrev hk : PySem.W.Hook := hookQ 5 exB fn
def ob (s : PySem.W.SharedT) : He.AlD := obsQG 5 exB fn (HandSHeadRun.getT s)
theorem ob_eq (s : PySem.W.SharedT) : ob s = hk.obs s.abs := obsQG_eq (HandSHeadRun.getT_eq s)
def loose : List Str := (["_wall", "__name__", "end_of", "value_at", "values_from", "many_at_most", "last_at_most", "shortest_lap", "plain_form", "settled_form", "spread", "ladder_of", "least_in", "first_under", "last_under", "Chase", "drift_of", "longest_head", "first_excess_in", "first_excess", "NeedforthError", "BadCount", "BadTable", "is_integer", "is_count"] : List Str) ++ (["is_row", "is_climb", "Verdict", "Below", "below", "values_behind", "behind_form", "chosen", "settling", "joined_form", "both_form", "either_form", "turn_form", "LONGEST_SHIFT", "check_table", "Table", "_law_source", "_law_pick", "_law_is_integer", "_law_is_count", "_law_rising", "_law_raw", "_law_end", "_law_at", "_law_gcd"] : List Str) ++ (["_law_plain", "_law_fit", "_law_counts", "_law_behind", "_law_shift", "_law_same", "_law_table", "_law_put"] : List Str)
theorem run (w : World) : HandSHeadRun.RunEqI R (PySem.W.view R.prog [0, 67]) hk ob 12000 loose w := by
  show _ = _
  kernel_rfl
end K05
set_option Elab.async false
set_option linter.all false
set_option maxRecDepth 100000
set_option maxHeartbeats 4000000
namespace K05
open PySem PySem.Spec PyProof.Rows L2 He NF RZ NT
/-- the shortest lap of a loop -/
def spLap (K : PySem.W.Frag) : Sp := fun vs H Q _ => ∃ (a : Addr) (l : List Int) (r : Int), vs = [.ref a, .int r] ∧ SqT K H a (vI l) ∧ l ≠ [] ∧ l.length ≤ 10000 ∧ ∀ m H', LapIs l r m → Same H H' → Q (.int (m : Int)) H'
theorem sc_shortest_lap : FnScope ["loop", "rise", "following", "steps", "many", "entry", "later"] ["loop", "rise"] (defScope s_shortest_lap) := ⟨rfl, rfl, rfl, by decide +kernel, rfl, by decide +kernel, by decide +kernel⟩
theorem following_is {l : List Int} {r : Int} (hl : l ≠ []) : cutV (vI l) (some 1) none ++ [V.int (l.getD 0 0 + r)] = vI ((List.range l.length).map fun k => walk l r (k + 1)) := by
  rw [show (1 : Int) = ((1 : Nat) : Int) from rfl, cut_from]
  have hp := len_pos hl
  refine List.ext_getElem? fun k => ?_
  simp only [vI, List.getElem?_map]
  by_cases c : k + 1 < l.length
  · rw [List.getElem?_append_left (by rw [List.length_drop, List.length_map]; omega), List.getElem?_drop, List.getElem?_map, List.getElem?_range (by omega), List.getElem?_eq_getElem (show 1 + k < l.length by omega)]
    simp only [Option.map_some]
    rw [walk_i c, List.getD_eq_getElem?_getD, List.getElem?_eq_getElem c]
    simp only [Option.getD_some, Option.some.injEq, V.int.injEq]
    congr 1
    omega
  · by_cases c2 : k + 1 = l.length
    · rw [List.getElem?_append_right (by rw [List.length_drop, List.length_map]; omega), List.length_drop, List.length_map, show k - (l.length - 1) = 0 by omega, List.getElem?_range (by omega)]
      simp only [Option.map_some, List.getElem?_cons_zero]
      rw [show k + 1 = 0 + l.length by omega, walk_add hp, walk_i hp]
    · rw [List.getElem?_eq_none (by rw [List.length_append, List.length_drop, List.length_map, List.length_singleton]; omega), List.getElem?_eq_none (by rw [List.length_range]; omega)]
      rfl
theorem steps_get {l : List Int} {r : Int} {k : Nat} (h : k < l.length) : (vI (steps l r))[k]? = some (V.int (walk l r (k + 1) - l.getD k 0)) := by
  unfold steps
  simp only [vI, List.getElem?_map]
  rw [List.getElem?_range h]
  simp only [Option.map_some, sk]
  rw [walk_i h]
section
variable {P : Program} {w : World} {K : PySem.W.Frag} {mg : Str → Option Value} {base : Heap} {gs fs : List Str}
theorem ok_shortest_lap {f : Addr} {fd : FuncData} (F : FunD K "shortest_lap" "shortest_lap" (defArgs s_shortest_lap) (defBody s_shortest_lap) (defScope s_shortest_lap) [] [] f fd) (T : Txt K mg gs fs) (hfs : fs = FS) : FnOk P w K mg base CX0 1 f fd ["loop", "rise"] (spLap K) := by
  subst hfs
  refine F.ok sc_shortest_lap (fun vs H Q E h => ?_) (fun cdv A outer s H vs Q E hr h => ?_)
  · obtain ⟨a, l, r, rfl, _⟩ := h
    rfl
  · obtain ⟨a, l, r, rfl, ha, hl, hz, q⟩ := h
    have hu : (A.deeper (envOfC "shortest_lap" (defScope s_shortest_lap) s.heap.objs.size f cdv)).units + 64 < cLine := by
      have := hr.un
      omega
    have hp := len_pos hl
    refine ⟨_, PSs.nox (pss_cons (ps_set (i := 2) sc_shortest_lap.nd rfl (Or.inl rfl) (pe_op op_catA (pe_slice sl_tupA (pv 0) (po_some pe_int) po_none) (pe_tup (pa_cons (pe_op op_add (pe_ix (ixt (K := K)) (pv 0) pe_int fun _ _ => rfl) (pv 1)) pa_nil)))) (pss_cons (ps_setLc (i := 3) (own := [("entry", 5), ("later", 6)]) rfl sc_shortest_lap.nd rfl rfl (sw_true rfl rfl rfl (by decide +kernel)) (pi_zipA rfl (T.fr _ (by decide +kernel)) (pa_cons (pv 0) (pa_cons (pv 2) pa_nil))) (blkOk_by (N := ["loop", "rise", "following", "steps", "many", "entry", "later"]) (sc := defScope s_shortest_lap) (by decide +kernel)) (fun _ _ _ _ _ => by exact (pgt (K := K) (n := 2) rfl rfl (pgs_cons (pg_name (i := 5) sc_shortest_lap.nd rfl (Or.inl rfl)) (pgs_cons (pg_name (i := 6) sc_shortest_lap.nd rfl (Or.inl rfl)) pgs_nil)))) (fun _ _ _ _ _ => by exact pts_nil) (fun _ _ _ _ _ => by exact (pe_op op_sub (pv 6) (pv 5)))) (pss_cons (ps_for PassesOwn.never rfl (pi_range2 rfl (T.fr _ (by decide +kernel)) (pa_cons pe_int (pa_cons (pe_op op_add (pe_op op_fdiv (pe_callB call_len_seq rfl (T.fr _ (by decide +kernel)) boot_len (pa_cons (pv 3) pa_nil)) pe_int) pe_int) pa_nil))) (pg_name (i := 4) sc_shortest_lap.nd rfl (Or.inl rfl)) (pss_one (ps_if (PW.pt (pw_and (pt_cmpR op_eq (pe_op op_mod (pe_callB call_len_seq rfl (T.fr _ (by decide +kernel)) boot_len (pa_cons (pv 3) pa_nil)) (pv 4)) pe_int (nomark _)) (pw_and1 (pt_cmpR (op_eqD hu) (pe_slice sl_list (pv 3) (po_some (pv 4)) po_none) (pe_slice sl_list (pv 3) po_none (po_some (pe_un un_neg (pv 4)))) (nomark _))))) (pss_one (ps_ret (pv 4))) pss_nil))) (pss_one (ps_ret (pe_callB call_len_seq rfl (T.fr _ (by decide +kernel)) boot_len (pa_cons (pv 3) pa_nil))))))), ?_⟩
    refine ⟨_, rfl, _, rfl, ?_⟩
    refine slA_from (K := K) ha fun p1 H1 s1 t1 => ?_
    refine ⟨_, rfl, a, _, 0, _, rfl, rfl, NF.Same.tup s1 ha, at_int (k := 0) rfl hp, _, rfl, _, _, rfl, rfl, (by show 1 ≤ sizeLine; decide), fun p2 hp2 => ?_⟩
    refine catA_done (NF.Same.tup (NF.Same.new (Same.refl _) hp2) t1) (SqT.of upd_same) ?_ fun p3 H3 s3 t3 => ?_
    · have : (cutV (vI l) (some 1) none).length = l.length - 1 := by
        rw [show (1 : Int) = ((1 : Nat) : Int) from rfl, cut_from, List.length_drop, List.length_map]
      rw [this]
      exact Nat.le_trans (show l.length - 1 + 1 ≤ 10001 by omega) (by decide)
    rw [following_is hl] at t3
    have s03 : Same H H3 := Same.trans s1 (Same.trans (NF.Same.new (Same.refl _) hp2) s3)
    refine ⟨_, rfl, _, rfl, a, p3, _, _, rfl, Or.inr ⟨NF.Same.tup s03 ha, t3, fun D hD => ?_⟩⟩
    have hsl : (vI (steps l r)).length = l.length := by unfold steps; simp
    refine lc_zipT (by simp) (fun i G => Same H3 G ∧ G D = some (.lst ((vI (steps l r)).take i))) ⟨NF.Same.new (Same.refl _) hD, upd_same⟩ (fun i G z => ⟨NF.Same.tup (Same.trans s03 z.1) ha, NF.Same.tup z.1 t3⟩) ?_ ?_
    · rintro i x y U G hx hy ⟨hG, hD2⟩ hU
      have hi : i < l.length := by
        have := (List.getElem?_eq_some_iff.mp hx).1
        rw [List.length_map] at this
        exact this
      obtain rfl : x = V.int (l.getD i 0) := by
        rw [List.getElem?_map, List.getElem?_eq_getElem hi] at hx
        rw [List.getD_eq_getElem?_getD, List.getElem?_eq_getElem hi]
        exact (Option.some.inj hx).symm
      obtain rfl : y = V.int (walk l r (i + 1)) := by
        rw [List.getElem?_map, List.getElem?_map, List.getElem?_range hi] at hy
        exact (Option.some.inj hy).symm
      refine ⟨U, _, rfl, SqT.of upd_same, rfl, _, _, rfl, _, _, rfl, rfl, rfl, ?_⟩
      refine ⟨_, rfl, _, rfl, _, _, rfl, rfl, (vI (steps l r)).take i, ?_, ?_, ?_, ?_⟩
      · rw [upd_ne (ne_of_none hD2 hU)]
        exact hD2
      · rw [List.length_take, hsl]
        exact Nat.lt_of_le_of_lt (show min i l.length ≤ 10000 by omega) (by decide)
      · exact NF.Same.mut (NF.Same.new hG hU) hD
      · rw [upd_same, List.take_add_one, steps_get hi]
        rfl
    · rintro G ⟨hG, hD2⟩
      rw [List.length_map, List.take_of_length_le (by rw [hsl]; exact Nat.le_refl _)] at hD2
      have hlen : (vI (steps l r)).length = l.length := hsl
      refine ⟨_, rfl, D, _, rfl, Or.inl (SqL.of hD2), _, _, rfl, rfl, ⟨by decide, by decide⟩, _, _, rfl, rfl, 1, _, rfl, ⟨by decide, by decide, ?_, ?_⟩, ?_⟩
      · rw [hlen]; omega
      · rw [hlen]; omega
      have en : (((vI (steps l r)).length : Int) / 2 + 1 - 1).toNat = l.length / 2 := by rw [hlen]; omega
      have s0G : Same H G := Same.trans s03 hG
      show (fun J H1 => _) (Itr 1 (((vI (steps l r)).length : Int) / 2 + 1 - 1).toNat) G
      rw [en]
      refine for_range (lo := 1) (n := l.length / 2) (fun i σ G' => Same G G' ∧ (∀ m', 0 < m' → m' ≤ i → m' ∣ l.length → ¬ Per (walk l r) m') ∧ ∃ v : Option V, σ = [some (.ref a), some (.int r), some (.ref p3), some (.ref D), v, none, none])
        ⟨Same.refl _, fun m' h1 h2 => by omega, none, rfl⟩ ?_ ?_
      · rintro i σ G' hi ⟨hs, hno, v, rfl⟩
        have e1 : (1 : Int) + (i : Int) = ((i + 1 : Nat) : Int) := by omega
        rw [e1]
        have hD3 := hs _ _ hD2
        refine ⟨_, rfl, D, _, rfl, Or.inl (SqL.of hD3), _, rfl, _, _, rfl, rfl, (by show (0 : Int) < ((i + 1 : Nat) : Int); omega), rfl, _, rfl, ?_⟩
        have hnext : ¬ ((i + 1 ∣ l.length) ∧ Per (walk l r) (i + 1)) → (∀ m', 0 < m' → m' ≤ i + 1 → m' ∣ l.length → ¬ Per (walk l r) m') := fun hn m' h1 h2 h3 h4 => by
          by_cases c : m' ≤ i
          · exact hno m' h1 c h3 h4
          · have : m' = i + 1 := by omega
            subst this
            exact hn ⟨h3, h4⟩
        refine ite2 (fun hc => ?_) (fun hc => ?_)
        · have hd : i + 1 ∣ l.length := by
            have hc := of_decide_eq_true hc
            injection hc with hc
            rw [hlen] at hc
            have := Int.dvd_of_emod_eq_zero hc
            exact Int.natCast_dvd_natCast.mp this
          refine ⟨_, rfl, _, rfl, _, rfl, D, _, rfl, SqL.of hD3, fun q1 hq1 => ?_⟩
          have hD4 : upd G' q1 (.lst (cutV (vI (steps l r)) (some ((i + 1 : Nat) : Int)) none)) D = some (.lst (vI (steps l r))) := by
            rw [upd_ne (ne_of_none hD3 hq1)]
            exact hD3
          refine ⟨_, rfl, _, rfl, _, rfl, _, rfl, D, _, rfl, SqL.of hD4, fun q2 hq2 => ?_⟩
          have hq3 : upd (upd G' q1 (.lst (cutV (vI (steps l r)) (some ((i + 1 : Nat) : Int)) none))) q2 (.lst (cutV (vI (steps l r)) none (some (-((i + 1 : Nat) : Int))))) q1 = some (.lst (vI ((steps l r).drop (i + 1)))) := by
            rw [upd_ne (ne_of_none upd_same hq2), upd_same, cut_from, vI_drop]
          have hq4 : upd (upd G' q1 (.lst (cutV (vI (steps l r)) (some ((i + 1 : Nat) : Int)) none))) q2 (.lst (cutV (vI (steps l r)) none (some (-((i + 1 : Nat) : Int))))) q2 = some (.lst (vI ((steps l r).take (l.length - (i + 1))))) := by
            rw [upd_same, cut_toN (by omega), hlen, vI_take]
          have hsD : Same G (upd (upd G' q1 (.lst (cutV (vI (steps l r)) (some ((i + 1 : Nat) : Int)) none))) q2 (.lst (cutV (vI (steps l r)) none (some (-((i + 1 : Nat) : Int)))))) := NF.Same.new (NF.Same.new hs hq1) hq2
          refine eqL_done (SqL.of hq3) (SqL.of hq4) ⟨_, rfl, ?_⟩
          refine ite2 (fun hc2 => ?_) (fun hc2 => ?_)
          · have hper := (cond_iff hl (Nat.succ_pos i) hd).mp (of_decide_eq_true hc2)
            exact ⟨_, rfl, q (i + 1) _ (lap_prog hl (Nat.succ_pos i) (by omega) hd hper fun m' h1 h2 h3 h4 => hno m' h1 (by omega) h3 h4) (Same.trans s0G hsD)⟩
          · refine ⟨hsD, hnext fun ⟨_, h⟩ => hc2 (decide_eq_true ((cond_iff hl (Nat.succ_pos i) hd).mpr h)), _, rfl⟩
        · refine ⟨hs, hnext fun ⟨h, _⟩ => hc (decide_eq_true ?_), _, rfl⟩
          rw [hlen]
          exact congrArg V.int (Int.emod_eq_zero_of_dvd (Int.natCast_dvd_natCast.mpr h))
      · rintro σ G' ⟨hs, hno, v, rfl⟩
        refine ⟨_, rfl, D, _, rfl, Or.inl (SqL.of (hs _ _ hD2)), ?_⟩
        rw [hlen]
        exact q l.length _ (lap_whole hl hno) (Same.trans s0G hs)
end
end K05
set_option Elab.async false
set_option linter.all false
set_option maxRecDepth 100000
set_option maxHeartbeats 4000000
namespace K05
open PySem PySem.Spec PyProof.Rows L2 He NF RZ NT
/-- a tuple of two tuples of ints and an int stands at p -/
def FormAt (K : PySem.W.Frag) (H : Hp) (p : Addr) (x : List Int × List Int × Int) : Prop := ∃ a b, SqT K H p [.ref a, .ref b, .int x.2.2] ∧ SqT K H a (vI x.1) ∧ SqT K H b (vI x.2.1)
theorem FormAt.mono {K : PySem.W.Frag} {H H' : Hp} {p : Addr} {x : List Int × List Int × Int} (h : FormAt K H p x) (s : Same H H') : FormAt K H' p x := by
  obtain ⟨a, b, h1, h2, h3⟩ := h
  exact ⟨a, b, NF.Same.tup s h1, NF.Same.tup s h2, NF.Same.tup s h3⟩
def spForm (K : PySem.W.Frag) : Sp := fun vs H Q _ => ∃ (a b : Addr) (h l : List Int) (r : Int), vs = [.ref a, .ref b, .int r] ∧ SqT K H a (vI h) ∧ SqT K H b (vI l) ∧ h.length + l.length ≤ 10000 ∧ ∀ x p H', IsPlain h l r x → Same H H' → FormAt K H' p x → Q (.ref p) H'
theorem sc_plain_form : FnScope ["head", "loop", "rise", "many", "lap_rise", "entries", "left"] ["head", "loop", "rise"] (defScope s_plain_form) := ⟨rfl, rfl, rfl, by decide +kernel, rfl, by decide +kernel, by decide +kernel⟩
section
variable {P : Program} {w : World} {K : PySem.W.Frag} {mg : Str → Option Value} {base : Heap} {gs fs : List Str}
theorem ok_plain_form {f : Addr} {fd : FuncData} (F : FunD K "plain_form" "plain_form" (defArgs s_plain_form) (defBody s_plain_form) (defScope s_plain_form) [] [] f fd) (T : Txt K mg gs fs) (hfs : fs = FS) (c_shortest_lap : Cal P w K mg base 1 "shortest_lap" (spLap K)) : FnOk P w K mg base CX0 2 f fd ["head", "loop", "rise"] (spForm K) := by
  subst hfs
  refine F.ok sc_plain_form (fun vs H Q E h => ?_) (fun cdv A outer s H vs Q E hr h => ?_)
  · obtain ⟨a, b, h, l, r, rfl, _⟩ := h
    rfl
  · obtain ⟨a, b, h, l, r, rfl, ha, hb, hz, q⟩ := h
    refine ⟨_, PSs.nox (pss_cons (ps_if (pt_not (pt_truth (pv 1) (fun _ => rfl))) (pss_one (ps_ret (pe_tup (pa_cons (pv 0) (pa_cons (pe_tup pa_nil) (pa_cons pe_int pa_nil)))))) pss_nil) (pss_cons (ps_set (i := 3) sc_plain_form.nd rfl (Or.inl rfl) (pe_c c_shortest_lap hr (by decide) rfl (pa_cons (pv 1) (pa_cons (pv 2) pa_nil)))) (pss_cons (ps_set (i := 4) sc_plain_form.nd rfl (Or.inl rfl) (pe_op op_fdiv (pe_op op_mul (pv 2) (pv 3)) (pe_callB call_len_seq rfl (T.fr _ (by decide +kernel)) boot_len (pa_cons (pv 1) pa_nil)))) (pss_cons (ps_set (i := 5) sc_plain_form.nd rfl (Or.inl rfl) (pe_op op_catA (pv 0) (pe_slice sl_tupA (pv 1) po_none (po_some (pv 3))))) (pss_cons (ps_set (i := 6) sc_plain_form.nd rfl (Or.inl rfl) (pe_callB call_len_seq rfl (T.fr _ (by decide +kernel)) boot_len (pa_cons (pv 0) pa_nil))) (pss_cons (ps_while PassesOwn.never (PW.pt (pw_and (pt_cmpR op_gt (pv 6) pe_int (nomark _)) (pw_and1 (pt_cmpR op_eq (pe_op op_add (pe_ix (ixt (K := K)) (pv 5) (pe_op op_sub (pv 6) pe_int) fun _ _ => rfl) (pv 4)) (pe_ix (ixt (K := K)) (pv 5) (pe_op op_add (pe_op op_sub (pv 6) pe_int) (pv 3)) fun _ _ => rfl) (nomark _))))) (pss_one (ps_set (i := 6) sc_plain_form.nd rfl (Or.inl rfl) (pe_op op_sub (pv 6) pe_int)))) (pss_one (ps_ret (pe_tup (pa_cons (pe_slice sl_tupA (pv 5) po_none (po_some (pv 6))) (pa_cons (pe_slice sl_tupA (pv 5) (po_some (pv 6)) (po_some (pe_op op_add (pv 6) (pv 3)))) (pa_cons (pv 4) pa_nil)))))))))))), ?_⟩
    refine ⟨_, rfl, _, tru_tup hb, ?_⟩
    by_cases hl : l = []
    · subst hl
      refine iteT ?_
      refine ⟨_, rfl, (by show 0 ≤ sizeLine; decide), fun p1 hp1 => ⟨(by show 3 ≤ sizeLine; decide), fun p2 hp2 => ?_⟩⟩
      have s1 := NF.Same.new (o := .tup []) (Same.refl H) hp1
      have s2 := NF.Same.new (o := .tup [V.ref a, V.ref p1, V.int 0]) s1 hp2
      exact q (h, [], 0) p2 _ (.inl ⟨rfl, rfl⟩) s2 ⟨a, p1, SqT.of upd_same, NF.Same.tup s2 ha, SqT.of (by rw [upd_ne (ne_of_none upd_same hp2)]; exact upd_same)⟩
    · have hne : (!l.isEmpty) = true := by cases l with
        | nil => exact absurd rfl hl
        | cons _ _ => rfl
      rw [hne]
      refine iteF ?_
      have hp := len_pos hl
      refine ⟨_, rfl, _, rfl, b, l, r, rfl, hb, hl, by omega, fun m H1 hm s1 => ?_⟩
      have hle : m ≤ l.length := Nat.le_of_dvd hp hm.dvd
      obtain ⟨t, ht⟩ := hm.dvd
      have hc := per_at hl hm.pos hm.per ht.symm
      have hb1 := NF.Same.tup s1 hb
      have t0 : 0 < t := Nat.pos_of_ne_zero fun z => by rw [z, Nat.mul_zero] at ht; omega
      have hcr : r * (m : Int) / ((vI l).length : Int) = r / (t : Int) := by
        rw [vI_len]
        have hr := per_rise hl hc ht.symm
        have e : r * (m : Int) = r / (t : Int) * (l.length : Int) := by
          rw [ht, Int.natCast_mul]
          calc r * (m : Int) = (r / (t : Int) * (t : Int)) * (m : Int) := by rw [← hr]
            _ = r / (t : Int) * ((m : Int) * (t : Int)) := by rw [Int.mul_assoc, Int.mul_comm (t : Int)]
        rw [e]
        exact Int.mul_ediv_cancel _ (by omega)
      refine ⟨_, rfl, _, rfl, _, _, rfl, rfl, Or.inr ⟨by omega, by omega⟩, ?_⟩
      refine ⟨_, rfl, b, _, rfl, Or.inr hb1, _, _, rfl, rfl, ⟨by rw [vI_len]; omega, by rw [vI_len]; omega⟩, ?_⟩
      show gName 4 (V.int (r * (m : Int) / ((vI l).length : Int))) _ _ _
      rw [hcr]
      generalize hcc : r / (t : Int) = cc at hc
      refine ⟨_, rfl, _, rfl, _, rfl, _, rfl, ?_⟩
      refine slA_done (K := K) hb1 fun p2 H2 s2 t2 => ?_
      rw [cut_to, vI_take] at t2
      refine catA_done (K := K) (NF.Same.tup (Same.trans s1 s2) ha) t2 (Nat.le_trans (show (vI h).length + (vI (l.take m)).length ≤ 10000 by rw [vI_len, vI_len, List.length_take]; omega) (by decide)) fun p3 H3 s3 t3 => ?_
      rw [vI_app] at t3
      have s03 : Same H H3 := Same.trans s1 (Same.trans s2 s3)
      refine ⟨_, rfl, a, _, rfl, Or.inr (NF.Same.tup s03 ha), ?_⟩
      rw [vI_len]
      have hel : (h ++ l.take m).length = h.length + m := by rw [List.length_append, List.length_take, Nat.min_eq_left hle]
      refine ⟨fun k σ G => G = H3 ∧ k ≤ h.length ∧ cut (h ++ l.take m) m cc h.length = cut (h ++ l.take m) m cc k ∧ σ = [some (.ref a), some (.ref b), some (.int r), some (.int (m : Int)), some (.int cc), some (.ref p3), some (.int (k : Int))], ⟨h.length, rfl, Nat.le_refl _, rfl, rfl⟩, ?_⟩
      rintro k σ G ⟨rfl, hk, hcut, rfl⟩
      -- what is handed back
      have hdone : cut (h ++ l.take m) m cc k = k → (tRet (tTup (tCons (tSl (rSlA K) (tVar 5) tNoPart (tPart (tVar 6))) (tCons (tSl (rSlA K) (tVar 5) (tPart (tVar 6)) (tPart (tOp (rI0 fun i j => .int (i + j)) (tVar 6) (tVar 3)))) (tCons (tVar 4) tNil))))) { nx := fun _ H' => Q .non H', rt := Q }
          [some (.ref a), some (.ref b), some (.int r), some (.int (m : Int)), some (.int cc), some (.ref p3), some (.int (k : Int))] G := fun hk2 => by
        refine ⟨_, rfl, _, rfl, _, rfl, ?_⟩
        refine slA_done (K := K) t3 fun p4 H4 s4 t4 => ?_
        refine ⟨_, rfl, _, rfl, _, rfl, _, rfl, _, rfl, _, _, rfl, rfl, _, rfl, ?_⟩
        refine slA_done (K := K) (NF.Same.tup s4 t3) fun p5 H5 s5 t5 => ?_
        refine ⟨_, rfl, (by show 3 ≤ sizeLine; decide), fun p6 hp6 => ?_⟩
        have s6 := NF.Same.new (o := .tup [V.ref p4, V.ref p5, V.int cc]) (Same.refl H5) hp6
        have hx := plain_is (h := h) hl hm hc
        rw [hcut, hk2] at hx
        rw [cut_to, vI_take] at t4
        rw [show (k : Int) + (m : Int) = ((k + m : Nat) : Int) by omega, cut_mid (by omega) (by rw [vI_len, hel]; omega), vI_drop, vI_take, show k + m - k = m by omega] at t5
        exact q _ p6 _ hx (Same.trans s03 (Same.trans s4 (Same.trans s5 s6))) ⟨p4, p5, SqT.of upd_same, NF.Same.tup (Same.trans s5 s6) t4, NF.Same.tup s6 t5⟩
      refine ⟨_, rfl, _, _, rfl, rfl, _, rfl, ?_⟩
      refine ite2 (fun h1 => ?_) (fun h1 => ?_)
      · have k0 : 0 < k := by
          have := of_decide_eq_true h1
          omega
        obtain ⟨j, rfl⟩ : ∃ j, k = j + 1 := ⟨k - 1, by omega⟩
        have e1 : ((j + 1 : Nat) : Int) - 1 = (j : Int) := by omega
        refine ⟨_, rfl, _, rfl, _, _, rfl, rfl, p3, _, _, _, rfl, rfl, t3, at_int (k := j) e1 (by rw [hel]; omega), _, rfl, _, _, rfl, rfl, ?_⟩
        refine ⟨_, rfl, _, rfl, _, _, rfl, rfl, _, rfl, _, _, rfl, rfl, p3, _, _, _, rfl, rfl, t3, at_int (k := j + m) (by omega) (by rw [hel]; omega), rfl, _, rfl, ?_⟩
        refine ite2 (fun h2 => ?_) (fun h2 => ?_)
        · have h2' : (h ++ l.take m).getD j 0 + cc = (h ++ l.take m).getD (j + m) 0 := by
            have := of_decide_eq_true h2
            injection this
          refine ⟨fun σ' G' => G' = G ∧ σ' = [some (.ref a), some (.ref b), some (.int r), some (.int (m : Int)), some (.int cc), some (.ref p3), some (.int (j : Int))], fun σ' G' ⟨z1, z2⟩ => ⟨j, Nat.lt_succ_self j, z1, by omega, ?_, z2⟩, ?_⟩
          · rw [hcut]
            show (if (h ++ l.take m).getD j 0 + cc = (h ++ l.take m).getD (j + m) 0 then _ else _) = _
            rw [if_pos h2']
          · refine ⟨_, rfl, _, _, rfl, rfl, rfl, ?_⟩
            show _ = _
            rw [← e1]
            rfl
        · refine hdone ?_
          show (if (h ++ l.take m).getD j 0 + cc = (h ++ l.take m).getD (j + m) 0 then _ else _) = _
          rw [if_neg fun z => h2 (decide_eq_true (congrArg V.int z))]
      · have k0 : k = 0 := by
          have : ¬ (0 : Int) < (k : Int) := fun z => h1 (decide_eq_true z)
          omega
        subst k0
        exact hdone rfl
end
end K05
set_option Elab.async false
set_option linter.all false
set_option maxRecDepth 100000
set_option maxHeartbeats 4000000
namespace K05
open PySem PySem.Spec PyProof.Rows L2 He NF RZ NT
def spIsInt : Sp := fun vs H Q _ => ∃ i : Int, vs = [.int i] ∧ Q (.bl true) H
def spIsCount : Sp := fun vs H Q _ => ∃ i : Int, vs = [.int i] ∧ Q (.bl (decide (0 ≤ i))) H
def spIsRow (K : PySem.W.Frag) : Sp := fun vs H Q _ => ∃ (a : Addr) (xs : List V), vs = [.ref a] ∧ Row K H a xs ∧ ∀ H', Same H H' → Q (.bl true) H'
def spIsClimb (K : PySem.W.Frag) : Sp := fun vs H Q _ => ∃ (a : Addr) (l : List Int), vs = [.ref a] ∧ Row K H a (vI l) ∧ climbs 0 l ∧ ∀ H', Same H H' → Q (.bl true) H'
def spCheck (K : PySem.W.Frag) : Sp := fun vs H Q _ => ∃ (a b : Addr) (h l : List Int) (r : Int), vs = [.ref a, .ref b, .int r] ∧ Row K H a (vI h) ∧ Row K H b (vI l) ∧ Good h l r ∧ ∀ H', Same H H' → Q .non H'
theorem sc_is_integer : FnScope ["thing"] ["thing"] (defScope s_is_integer) := ⟨rfl, rfl, rfl, by decide +kernel, rfl, by decide +kernel, by decide +kernel⟩
theorem sc_is_count : FnScope ["thing"] ["thing"] (defScope s_is_count) := ⟨rfl, rfl, rfl, by decide +kernel, rfl, by decide +kernel, by decide +kernel⟩
theorem sc_is_row : FnScope ["thing"] ["thing"] (defScope s_is_row) := ⟨rfl, rfl, rfl, by decide +kernel, rfl, by decide +kernel, by decide +kernel⟩
theorem sc_is_climb : FnScope ["thing", "last", "entry"] ["thing"] (defScope s_is_climb) := ⟨rfl, rfl, rfl, by decide +kernel, rfl, by decide +kernel, by decide +kernel⟩
theorem sc_check_table : FnScope ["head", "loop", "rise"] ["head", "loop", "rise"] (defScope s_check_table) := ⟨rfl, rfl, rfl, by decide +kernel, rfl, by decide +kernel, by decide +kernel⟩
theorem climbs_get : ∀ {l : List Int} {lo : Int} {i : Nat}, climbs lo l → i < l.length → (if i = 0 then lo else l.getD (i - 1) 0) ≤ l.getD i 0
  | [], _, _, _, h => by simp at h
  | x :: l, lo, 0, c, _ => c.1
  | x :: l, lo, i + 1, c, h => by
    have ih := climbs_get (i := i) c.2 (by simpa using h)
    rw [if_neg (Nat.succ_ne_zero i)]
    by_cases z : i = 0
    · subst z
      simpa using ih
    · rw [if_neg z] at ih
      obtain ⟨j, rfl⟩ : ∃ j, i = j + 1 := ⟨i - 1, by omega⟩
      simpa using ih
section
variable {P : Program} {w : World} {K : PySem.W.Frag} {mg : Str → Option Value} {base : Heap} {gs fs : List Str}
theorem ok_is_integer {f : Addr} {fd : FuncData} (F : FunD K "is_integer" "is_integer" (defArgs s_is_integer) (defBody s_is_integer) (defScope s_is_integer) [] [] f fd) (T : Txt K mg gs FS) : FnOk P w K mg base CX0 1 f fd ["thing"] spIsInt := by
  refine F.ok sc_is_integer (fun vs H Q E h => ?_) (fun cdv A outer s H vs Q E hr h => ?_)
  · obtain ⟨i, rfl, _⟩ := h
    rfl
  · obtain ⟨i, rfl, q⟩ := h
    refine ⟨_, PSs.nox (pss_one (ps_ret (pe_and (pe_callB call_isi rfl (T.fr _ (by decide +kernel)) (by decide +kernel) (pa_cons (pv 0) (pa_cons (pe_bltn (v := .ty "int") rfl (T.fr _ (by decide +kernel)) (by decide +kernel) rfl) pa_nil))) (pe_one (pe_not (pe_callB call_isi rfl (T.fr _ (by decide +kernel)) (by decide +kernel) (pa_cons (pv 0) (pa_cons (pe_bltn (v := .ty "bool") rfl (T.fr _ (by decide +kernel)) (by decide +kernel) rfl) pa_nil)))))))), ?_⟩
    exact ⟨_, rfl, _, _, _, _, true, rfl, .ty "int", .base (.int i), kit_i_i K, true, rfl, _, rfl, _, _, _, _, false, rfl, .ty "bool", .base (.int i), kit_i_b K, false, rfl, q⟩
theorem ok_is_count {f : Addr} {fd : FuncData} (F : FunD K "is_count" "is_count" (defArgs s_is_count) (defBody s_is_count) (defScope s_is_count) [] [] f fd) (T : Txt K mg gs FS) (c_is_integer : Cal P w K mg base 1 "is_integer" spIsInt) : FnOk P w K mg base CX0 2 f fd ["thing"] spIsCount := by
  refine F.ok sc_is_count (fun vs H Q E h => ?_) (fun cdv A outer s H vs Q E hr h => ?_)
  · obtain ⟨i, rfl, _⟩ := h
    rfl
  · obtain ⟨i, rfl, q⟩ := h
    refine ⟨_, PSs.nox (pss_one (ps_ret (pe_and (pe_c c_is_integer hr (by decide) rfl (pa_cons (pv 0) pa_nil)) (pe_one (pe_cmpR op_ge (pv 0) pe_int (nomark _)))))), ?_⟩
    exact ⟨_, rfl, i, rfl, true, rfl, _, rfl, _, _, rfl, rfl, q⟩
theorem ok_is_row {f : Addr} {fd : FuncData} (F : FunD K "is_row" "is_row" (defArgs s_is_row) (defBody s_is_row) (defScope s_is_row) [] [] f fd) (T : Txt K mg gs FS) : FnOk P w K mg base CX0 1 f fd ["thing"] (spIsRow K) := by
  refine F.ok sc_is_row (fun vs H Q E h => ?_) (fun cdv A outer s H vs Q E hr h => ?_)
  · obtain ⟨a, xs, rfl, _⟩ := h
    rfl
  · obtain ⟨a, xs, rfl, ha, q⟩ := h
    refine ⟨_, PSs.nox (pss_one (ps_ret (pe_callB call_isiT rfl (T.fr _ (by decide +kernel)) (by decide +kernel) (pa_cons (pv 0) (pa_cons (pe_tup (pa_cons (pe_bltn (v := .ty "tuple") rfl (T.fr _ (by decide +kernel)) (by decide +kernel) rfl) (pa_cons (pe_bltn (v := .ty "list") rfl (T.fr _ (by decide +kernel)) (by decide +kernel) rfl) pa_nil))) pa_nil))))), ?_⟩
    refine ⟨_, rfl, (by show 2 ≤ sizeLine; decide), fun p hp => ?_⟩
    have s1 := NF.Same.new (o := .tup [V.ty "tuple", V.ty "list"]) (Same.refl H) hp
    rcases ha.mono s1 with h | h
    · exact ⟨_, p, _, _, _, true, rfl, upd_same, .cons (.ty _) (.cons (.ty _) .nil), tyx_lst h, kit_l_tl K, q _ s1⟩
    · exact ⟨_, p, _, _, _, true, rfl, upd_same, .cons (.ty _) (.cons (.ty _) .nil), tyx_tup h, kit_t_tl K, q _ s1⟩
theorem ok_is_climb {f : Addr} {fd : FuncData} (F : FunD K "is_climb" "is_climb" (defArgs s_is_climb) (defBody s_is_climb) (defScope s_is_climb) [] [] f fd) (T : Txt K mg gs FS) (c_is_row : Cal P w K mg base 1 "is_row" (spIsRow K)) (c_is_integer : Cal P w K mg base 1 "is_integer" spIsInt) : FnOk P w K mg base CX0 2 f fd ["thing"] (spIsClimb K) := by
  refine F.ok sc_is_climb (fun vs H Q E h => ?_) (fun cdv A outer s H vs Q E hr h => ?_)
  · obtain ⟨a, l, rfl, _⟩ := h
    rfl
  · obtain ⟨a, l, rfl, ha, hc, q⟩ := h
    refine ⟨_, PSs.nox (pss_cons (ps_if (pt_not (pt_val (pe_c c_is_row hr (by decide) rfl (pa_cons (pv 0) pa_nil)))) (pss_one (ps_ret pe_bl)) pss_nil) (pss_cons (ps_set (i := 1) sc_is_climb.nd rfl (Or.inl rfl) pe_int) (pss_cons (ps_for PassesOwn.never rfl (pi_row (pv 0)) (pg_name (i := 2) sc_is_climb.nd rfl (Or.inl rfl)) (pss_cons (ps_if (PW.pt (pw_or (pt_not (pt_val (pe_c c_is_integer hr (by decide) rfl (pa_cons (pv 2) pa_nil)))) (pw_or1 (pt_cmpR op_lt (pv 2) (pv 1) (nomark _))))) (pss_one (ps_ret pe_bl)) pss_nil) (pss_one (ps_set (i := 1) sc_is_climb.nd rfl (Or.inl rfl) (pv 2))))) (pss_one (ps_ret pe_bl))))), ?_⟩
    refine ⟨_, rfl, a, _, rfl, ha, fun H1 s1 => ⟨true, rfl, iteF ?_⟩⟩
    refine ⟨_, rfl, a, rfl, ?_⟩
    refine for_row (ha.mono s1) (fun i σ G => Same H1 G ∧ ∃ v : Option V, σ = [some (.ref a), some (.int (if i = 0 then 0 else l.getD (i - 1) 0)), v]) ⟨Same.refl _, none, rfl⟩ (fun i σ G z => z.1) ?_ ?_
    · rintro i x σ G hx ⟨s2, v, rfl⟩
      have hi : i < l.length := by
        have := (List.getElem?_eq_some_iff.mp hx).1
        rw [List.length_map] at this
        exact this
      obtain rfl : x = V.int (l.getD i 0) := by
        rw [List.getElem?_map, List.getElem?_eq_getElem hi] at hx
        rw [List.getD_eq_getElem?_getD, List.getElem?_eq_getElem hi]
        exact (Option.some.inj hx).symm
      have hle := climbs_get hc hi
      refine ⟨_, rfl, _, rfl, true, rfl, iteF ⟨_, rfl, _, rfl, _, _, rfl, rfl, false, congrArg V.bl (decide_eq_false (by omega)), iteF ?_⟩⟩
      refine ⟨_, rfl, s2, some (V.int (l.getD i 0)), ?_⟩
      rw [if_neg (Nat.succ_ne_zero i)]
      rfl
    · rintro σ G ⟨s2, v, rfl⟩
      exact q _ (Same.trans s1 s2)
theorem ok_check_table {f : Addr} {fd : FuncData} (F : FunD K "check_table" "check_table" (defArgs s_check_table) (defBody s_check_table) (defScope s_check_table) [] [] f fd) (T : Txt K mg gs FS) (c_is_climb : Cal P w K mg base 2 "is_climb" (spIsClimb K)) (c_is_count : Cal P w K mg base 2 "is_count" spIsCount) : FnOk P w K mg base CX0 3 f fd ["head", "loop", "rise"] (spCheck K) := by
  refine F.ok sc_check_table (fun vs H Q E h => ?_) (fun cdv A outer s H vs Q E hr h => ?_)
  · obtain ⟨a, b, h, l, r, rfl, _⟩ := h
    rfl
  · obtain ⟨a, b, h, l, r, rfl, ha, hb, hg, q⟩ := h
    refine ⟨_, PSs.nox (pss_cons (ps_if (pt_not (pt_val (pe_c c_is_climb hr (by decide) rfl (pa_cons (pv 0) pa_nil)))) (pss_one ps_never) pss_nil) (pss_cons (ps_if (PW.pt (pw_or (pt_not (pt_val (pe_c c_is_climb hr (by decide) rfl (pa_cons (pv 1) pa_nil)))) (pw_or1 (PW.pt (pw_and (pt_truth (pv 1) (fun _ => rfl)) (pw_and (pt_truth (pv 0) (fun _ => rfl)) (pw_and1 (pt_cmpR op_lt (pe_ix (ixs (K := K)) (pv 1) pe_int fun _ _ => rfl) (pe_ix (ixs (K := K)) (pv 0) (pe_un un_neg pe_int) fun _ _ => rfl) (nomark _))))))))) (pss_one ps_never) pss_nil) (pss_one (ps_if (PW.pt (pw_or (pt_not (pt_val (pe_c c_is_count hr (by decide) rfl (pa_cons (pv 2) pa_nil)))) (pw_or (PW.pt (pw_and (pt_not (pt_truth (pv 1) (fun _ => rfl))) (pw_and1 (pt_cmpR op_ne (pv 2) pe_int (nomark _))))) (pw_or1 (PW.pt (pw_and (pt_truth (pv 1) (fun _ => rfl)) (pw_and1 (pt_cmpR op_gt (pe_ix (ixs (K := K)) (pv 1) (pe_un un_neg pe_int) fun _ _ => rfl) (pe_op op_add (pe_ix (ixs (K := K)) (pv 1) pe_int fun _ _ => rfl) (pv 2)) (nomark _))))))))) (pss_one ps_never) pss_nil)))), ?_⟩
    refine ⟨_, rfl, a, h, rfl, ha, hg.hd, fun H1 s1 => ⟨true, rfl, iteF ?_⟩⟩
    refine ⟨_, rfl, b, l, rfl, hb.mono s1, hg.lp, fun H2 s2 => ⟨true, rfl, iteF ?_⟩⟩
    have s02 := Same.trans s1 s2
    have ha2 := ha.mono s02
    have hb2 := hb.mono s02
    -- the rise
    have hrise : (tIfS (tOr (tNot (tB (tCall spIsCount [] E0 (tCons (tVar 2) tNil)))) (tOr (tAnd (tNot (fun σ H Q => tVar 1 σ H fun x H' => ∃ k, TruV K x H' k ∧ Q k H')) (tTest (tOp rNe (tVar 2) (tC (.int 0)))))
        (tAnd (fun σ H Q => tVar 1 σ H fun x H' => ∃ k, TruV K x H' k ∧ Q k H') (tTest (tOp (rI0 fun i j => .bl (decide (j < i))) (tOp (rIx K) (tVar 1) (tUn (rU fun i => .int (-i)) (tC (.int 1)))) (tOp (rI0 fun i j => .int (i + j)) (tOp (rIx K) (tVar 1) (tC (.int 0))) (tVar 2)))))))
        tNever tNext) { nx := fun _ H' => Q .non H', rt := Q } (start ["head", "loop", "rise"] [.ref a, .ref b, .int r]) H2 := by
      refine ⟨_, rfl, r, rfl, decide (0 ≤ r), rfl, ?_⟩
      rw [decide_eq_true hg.r0]
      refine iteF ?_
      refine ⟨_, rfl, _, tru_row hb2, ?_⟩
      by_cases hl : l = []
      · have hl2 : (!l.isEmpty) = false := by rw [hl]; rfl
        rw [hl2]
        refine iteT ⟨_, rfl, rfl, false, ?_, iteF ⟨_, rfl, _, tru_row hb2, ?_⟩⟩
        · rw [hg.rl hl]; rfl
        · rw [hl2]
          exact iteF (iteF (q _ s02))
      · have hl2 : (!l.isEmpty) = true := by cases l with
          | nil => exact absurd rfl hl
          | cons _ _ => rfl
        rw [hl2]
        refine iteF (iteF ⟨_, rfl, _, tru_row hb2, ?_⟩)
        rw [hl2]
        refine iteT ⟨_, rfl, _, rfl, ix_done hb2 (at_last (len_pos hl)) ⟨_, rfl, ix_done hb2 (at_int (k := 0) rfl (len_pos hl)) ⟨_, rfl, _, _, rfl, rfl, _, _, rfl, rfl, false, congrArg V.bl (decide_eq_false ?_), iteF (q _ s02)⟩⟩⟩
        have := hg.last hl
        omega
    refine ⟨_, rfl, _, tru_row hb2, ?_⟩
    by_cases hl : l = []
    · have hl2 : (!l.isEmpty) = false := by rw [hl]; rfl
      rw [hl2]
      exact iteF (iteF hrise)
    · have hl2 : (!l.isEmpty) = true := by cases l with
        | nil => exact absurd rfl hl
        | cons _ _ => rfl
      rw [hl2]
      refine iteT ⟨_, rfl, _, tru_row ha2, ?_⟩
      by_cases hh : h = []
      · have hh2 : (!h.isEmpty) = false := by rw [hh]; rfl
        rw [hh2]
        exact iteF (iteF hrise)
      · have hh2 : (!h.isEmpty) = true := by cases h with
          | nil => exact absurd rfl hh
          | cons _ _ => rfl
        rw [hh2]
        refine iteT ⟨_, rfl, ?_⟩
        refine ix_done hb2 (at_int (k := 0) rfl (len_pos hl)) ⟨_, rfl, _, rfl, ix_done ha2 (at_last (len_pos hh)) ⟨_, _, rfl, rfl, false, congrArg V.bl (decide_eq_false ?_), iteF hrise⟩⟩
        have := hg.join hh hl
        omega
end
end K05
set_option Elab.async false
set_option linter.all false
set_option maxRecDepth 100000
set_option maxHeartbeats 4000000
namespace K05
open PySem PySem.Spec PyProof.Rows L2 He NF RZ NT
/-- a table is told -/
def spInit (K : PySem.W.Frag) (C : Addr) : Sp := fun vs H Q _ => ∃ (x dx a b : Addr) (h l : List Int) (r : Int), vs = [.ref x, .ref a, .ref b, .int r] ∧ H x = some (.ins C dx []) ∧ Row K H a (vI h) ∧ Row K H b (vI l) ∧ Good h l r ∧ h.length + l.length ≤ 10000 ∧
  ∀ y H', IsPlain h l r y → Same (wo H x) H' → TabAt K C H' x y → Q .non H'
theorem sc_Table___init__ : FnScope ["self", "head", "loop", "rise"] ["self", "head", "loop", "rise"] (defScope s_Table_init) := ⟨rfl, rfl, rfl, by decide +kernel, rfl, by decide +kernel, by decide +kernel⟩
theorem tf_eq (a b : Addr) (r : Int) : putF "rise" (.int r) (putF "loop" (.ref b) (putF "head" (.ref a) [])) = tf a b r := by rfl
theorem few1 (a : V) : (putF "head" a []).length < 1000 := show 1 < 1000 by decide
theorem few2 (a b : V) : (putF "loop" b (putF "head" a [])).length < 1000 := show 2 < 1000 by decide
section
variable {P : Program} {w : World} {K : PySem.W.Frag} {mg : Str → Option Value} {base : Heap} {gs fs : List Str}
theorem ok_Table_init {C : Addr} {dvs : List V} {f : Addr} {fd : FuncData} (F : FunD K "__init__" "Table.__init__" (defArgs s_Table_init) (defBody s_Table_init) (defScope s_Table_init) dvs [] f fd) (T : Txt K mg gs FS) (hc : Cls K C) (n1 : NoAttr K C "head") (n2 : NoAttr K C "loop") (n3 : NoAttr K C "rise") (c_check_table : Cal P w K mg base 3 "check_table" (spCheck K)) (c_plain_form : Cal P w K mg base 2 "plain_form" (spForm K)) : FnOk P w K mg base CX0 4 f fd ["self", "head", "loop", "rise"] (spInit K C) := by
  refine F.ok sc_Table___init__ (fun vs H Q E h => ?_) (fun cdv A outer s H vs Q E hr h => ?_)
  · obtain ⟨x, dx, a, b, h, l, r, rfl, _⟩ := h
    rfl
  · obtain ⟨x, dx, a, b, h, l, r, rfl, hx, ha, hb, hg, hz, q⟩ := h
    refine ⟨_, PSs.nox (pss_cons (ps_expr (pe_c c_check_table hr (by decide) rfl (pa_cons (pv 1) (pa_cons (pv 2) (pa_cons (pv 3) pa_nil))))) (pss_one (ps_asg (pe_c c_plain_form hr (by decide) rfl (pa_cons (pe_callTy cr_tup rfl (T.fr _ (by decide +kernel)) (by decide +kernel) (pa_cons (pv 1) pa_nil)) (pa_cons (pe_callTy cr_tup rfl (T.fr _ (by decide +kernel)) (by decide +kernel) (pa_cons (pv 2) pa_nil)) (pa_cons (pv 3) pa_nil)))) (pgt (K := K) (n := 3) rfl rfl (pgs_cons (pg_fld (pv 0)) (pgs_cons (pg_fld (pv 0)) (pgs_cons (pg_fld (pv 0)) pgs_nil))))))), ?_⟩
    refine ⟨_, rfl, _, rfl, _, rfl, a, b, h, l, r, rfl, ha, hb, hg, fun H1 s1 => ?_⟩
    refine ⟨_, rfl, a, _, rfl, ha.mono s1, fun p1 H2 s2 t1 => ?_⟩
    refine ⟨_, rfl, b, _, rfl, hb.mono (Same.trans s1 s2), fun p2 H3 s3 t2 => ?_⟩
    refine ⟨_, rfl, p1, p2, h, l, r, rfl, NF.Same.tup s3 t1, t2, hz, fun y p H4 hy s4 fo => ?_⟩
    obtain ⟨u, v, f1, f2, f3⟩ := fo
    have s04 : Same H H4 := Same.trans s1 (Same.trans s2 (Same.trans s3 s4))
    have x4 := s04 _ _ hx
    refine ⟨p, _, rfl, f1, rfl, ?_⟩
    refine ⟨_, _, rfl, _, rfl, x, C, dx, _, rfl, x4, hc, n1, by decide, ?_⟩
    refine ⟨_, _, rfl, _, rfl, x, C, dx, _, rfl, upd_same, hc, n2, few1 _, ?_⟩
    refine ⟨_, _, rfl, _, rfl, x, C, dx, _, rfl, upd_same, hc, n3, few2 _ _, ?_⟩
    refine ⟨rfl, ?_⟩
    refine q y _ hy ?_ ⟨dx, u, v, ?_, ?_, ?_⟩
    · exact Same.put (Same.put (Same.put (Same.trans wo_same' s04) wo_none) wo_none) wo_none
    · rw [upd_same, ← tf_eq]
    · exact SqT.put (SqT.put (SqT.put f2 x4 trivial) upd_same trivial) upd_same trivial
    · exact SqT.put (SqT.put (SqT.put f3 x4 trivial) upd_same trivial) upd_same trivial
end
end K05
set_option Elab.async false
set_option linter.all false
set_option maxRecDepth 100000
set_option maxHeartbeats 4000000
namespace K05
open PySem PySem.Spec PyProof.Rows L2 He NF RZ NT
/-- what the class of tables is -/
structure TabC (K : PySem.W.Frag) (C : Addr) : Prop where
  cl : Cls K C
  hd : NoAttr K C "head"
  lp : NoAttr K C "loop"
  ri : NoAttr K C "rise"
  ac : PySem.W.findIn K (.ref C) "__class__" = some (some (.builtin "object.__class__"))
  ag : PySem.W.specialIn K (.builtin "object.__class__") "__get__" = some (some (.builtin "getset_descriptor.__get__"))
  at_ : PySem.W.takesIn K (.builtin "object.__class__") = some true
  am : PySem.W.mroIn K C (.type "object") = some true
  self : PySem.W.kitOne K (.ref C) (.ref C) = some true
  tup : PySem.W.kitOne K (.type "tuple") (.ref C) = some false
  int : PySem.W.kitOne K (.type "int") (.ref C) = some false
  non : PySem.W.kitOne K (.type "NoneType") (.ref C) = some false
theorem TabC.ty {K : PySem.W.Frag} {C : Addr} (c : TabC K C) {H : Hp} {a dx : Addr} {fs : List (Str × V)} (h : H a = some (.ins C dx fs)) : TyX K H (.ref a) (.ref C) := .base (.ins h c.cl c.ac c.ag c.at_ c.am)
/-- what a table must be that it can be asked -/
structure Small (y : List Int × List Int × Int) : Prop where
  h : y.1.length ≤ 10000
  l : y.2.1.length ≤ 10000
  r0 : 0 ≤ y.2.2
  r1 : y.2.2 ≤ 1000000
def spEnd (K : PySem.W.Frag) (C : Addr) : Sp := fun vs H Q _ => ∃ x y, vs = [.ref x] ∧ TabAt K C H x y ∧ Q (vO (fin_ y.2.1 y.2.2)) H
def spAt (K : PySem.W.Frag) (C : Addr) : Sp := fun vs H Q _ => ∃ x y n, vs = [.ref x, vN n] ∧ TabAt K C H x y ∧ Small y ∧ ∀ H', Same H H' → Q (vO (val_ y.1 y.2.1 y.2.2 n)) H'
/-- ==: with another table, with what is none -/
def spEq (K : PySem.W.Frag) (C : Addr) : Sp := fun vs H Q _ => ∃ x y v, vs = [.ref x, v] ∧ TabAt K C H x y ∧
  ((∃ x2 y2, v = .ref x2 ∧ TabAt K C H x2 y2 ∧ Q (.bl (decide (y = y2))) H) ∨ (∃ t, TyX K H v t ∧ PySem.W.kitOne K t (.ref C) = some false ∧ Q (.bl false) H))
theorem sc_end_of : FnScope ["table"] ["table"] (defScope s_end_of) := ⟨rfl, rfl, rfl, by decide +kernel, rfl, by decide +kernel, by decide +kernel⟩
theorem sc_value_at : FnScope ["table", "n", "lap", "at"] ["table", "n"] (defScope s_value_at) := ⟨rfl, rfl, rfl, by decide +kernel, rfl, by decide +kernel, by decide +kernel⟩
theorem sc_Table___call__ : FnScope ["self", "n"] ["self", "n"] (defScope s_Table_call) := ⟨rfl, rfl, rfl, by decide +kernel, rfl, by decide +kernel, by decide +kernel⟩
theorem sc_Table_end : FnScope ["self"] ["self"] (defScope s_Table_end) := ⟨rfl, rfl, rfl, by decide +kernel, rfl, by decide +kernel, by decide +kernel⟩
theorem sc_Table___eq__ : FnScope ["self", "other"] ["self", "other"] (defScope s_Table_eq) := ⟨rfl, rfl, rfl, by decide +kernel, rfl, by decide +kernel, by decide +kernel⟩
theorem ne_nil {l : List Int} (h : l ≠ []) : (!l.isEmpty) = true := by cases l with
  | nil => exact absurd rfl h
  | cons _ _ => rfl
theorem is_nil {l : List Int} (h : l = []) : (!l.isEmpty) = false := by rw [h]; rfl
section
variable {P : Program} {w : World} {K : PySem.W.Frag} {mg : Str → Option Value} {base : Heap} {gs fs : List Str} {C : Addr}
theorem ok_end_of {f : Addr} {fd : FuncData} (F : FunD K "end_of" "end_of" (defArgs s_end_of) (defBody s_end_of) (defScope s_end_of) [] [] f fd) (T : Txt K mg gs FS) (tc : TabC K C) : FnOk P w K mg base CX0 1 f fd ["table"] (spEnd K C) := by
  refine F.ok sc_end_of (fun vs H Q E h => ?_) (fun cdv A outer s H vs Q E hr h => ?_)
  · obtain ⟨x, y, rfl, _⟩ := h
    rfl
  · obtain ⟨x, ⟨h, l, r⟩, rfl, ⟨dx, a, b, hx, ha, hb⟩, q⟩ := h
    dsimp only at hx ha hb q
    refine ⟨_, PSs.nox (pss_cons (ps_if (PW.pt (pw_or (pt_not (pt_truth (pe_fld (pv 0) rfl) (fun _ => rfl))) (pw_or1 (pt_cmpR op_gt (pe_fld (pv 0) rfl) pe_int (nomark _))))) (pss_one (ps_ret pe_non)) pss_nil) (pss_one (ps_ret (pe_ix (ixt (K := K)) (pe_fld (pv 0) rfl) (pe_un un_neg pe_int) fun _ _ => rfl)))), ?_⟩
    refine ⟨_, rfl, x, C, dx, _, _, rfl, hx, tc.cl, tc.lp, rfl, _, tru_tup hb, ?_⟩
    by_cases hl : l = []
    · rw [is_nil hl]
      refine iteT (iteT ?_)
      unfold fin_ at q
      rw [if_pos (.inl hl)] at q
      exact q
    · rw [ne_nil hl]
      refine iteF ⟨_, rfl, x, C, dx, _, _, rfl, hx, tc.cl, tc.ri, rfl, _, _, rfl, rfl, _, rfl, ?_⟩
      refine ite2 (fun h1 => ?_) (fun h1 => ?_)
      · have h2 : (0 : Int) < r := of_decide_eq_true h1
        unfold fin_ at q
        rw [if_pos (.inr h2)] at q
        exact q
      · have h2 : ¬ (0 : Int) < r := fun z => h1 (decide_eq_true z)
        unfold fin_ at q
        rw [if_neg (fun z => z.elim hl h2)] at q
        exact ⟨_, rfl, x, C, dx, _, _, rfl, hx, tc.cl, tc.lp, rfl, _, rfl, b, _, _, _, rfl, rfl, hb, at_last (len_pos hl), q⟩
theorem ok_value_at {f : Addr} {fd : FuncData} (F : FunD K "value_at" "value_at" (defArgs s_value_at) (defBody s_value_at) (defScope s_value_at) [] [] f fd) (T : Txt K mg gs FS) (tc : TabC K C) (c_end_of : Cal P w K mg base 1 "end_of" (spEnd K C)) : FnOk P w K mg base CX0 2 f fd ["table", "n"] (spAt K C) := by
  refine F.ok sc_value_at (fun vs H Q E h => ?_) (fun cdv A outer s H vs Q E hr h => ?_)
  · obtain ⟨x, y, n, rfl, _⟩ := h
    rfl
  · obtain ⟨x, ⟨h, l, r⟩, n, rfl, tb, sm, q⟩ := h
    have tb0 := tb
    obtain ⟨dx, a, b, hx, ha, hb⟩ := tb0
    dsimp only at hx ha hb q
    refine ⟨_, PSs.nox (pss_cons (ps_if (pt_cmpR op_isN (pv 1) pe_non (nomark _)) (pss_one (ps_ret (pe_c c_end_of hr (by decide) rfl (pa_cons (pv 0) pa_nil)))) pss_nil) (pss_cons (ps_if (pt_cmpR op_eq (pv 1) pe_int (nomark _)) (pss_one (ps_ret pe_int)) pss_nil) (pss_cons (ps_if (pt_cmpR op_le (pv 1) (pe_callB call_len_seq rfl (T.fr _ (by decide +kernel)) boot_len (pa_cons (pe_fld (pv 0) rfl) pa_nil)) (nomark _)) (pss_one (ps_ret (pe_ix (ixt (K := K)) (pe_fld (pv 0) rfl) (pe_op op_sub (pv 1) pe_int) fun _ _ => rfl))) pss_nil) (pss_cons (ps_if (pt_not (pt_truth (pe_fld (pv 0) rfl) (fun _ => rfl))) (pss_one (ps_ret pe_non)) pss_nil) (pss_cons (ps_asg (pe_callB call_divmod rfl (T.fr _ (by decide +kernel)) (by decide +kernel) (pa_cons (pe_op op_sub (pe_op op_sub (pv 1) (pe_callB call_len_seq rfl (T.fr _ (by decide +kernel)) boot_len (pa_cons (pe_fld (pv 0) rfl) pa_nil))) pe_int) (pa_cons (pe_callB call_len_seq rfl (T.fr _ (by decide +kernel)) boot_len (pa_cons (pe_fld (pv 0) rfl) pa_nil)) pa_nil))) (pgt (K := K) (n := 2) rfl rfl (pgs_cons (pg_name (i := 2) sc_value_at.nd rfl (Or.inl rfl)) (pgs_cons (pg_name (i := 3) sc_value_at.nd rfl (Or.inl rfl)) pgs_nil)))) (pss_one (ps_ret (pe_op op_add (pe_ix (ixt (K := K)) (pe_fld (pv 0) rfl) (pv 3) fun _ _ => rfl) (pe_op op_mul (pv 2) (pe_fld (pv 0) rfl)))))))))), ?_⟩
    cases n with
    | none => exact ⟨_, rfl, rfl, _, rfl, iteT ⟨_, rfl, x, _, rfl, tb, q _ (Same.refl H)⟩⟩
    | some n =>
      refine ⟨_, rfl, rfl, _, rfl, iteF ?_⟩
      refine ⟨_, rfl, rfl, _, rfl, ite2 (fun h1 => ?_) (fun h1 => ?_)⟩
      · have h2 : n = 0 := by
          have := of_decide_eq_true h1
          injection this with this
          omega
        subst h2
        exact q _ (Same.refl H)
      have n0 : n ≠ 0 := fun z => h1 (by rw [z]; exact decide_eq_true rfl)
      unfold val_ at q
      dsimp only at q
      rw [if_neg n0] at q
      refine ⟨_, rfl, _, rfl, x, C, dx, _, _, rfl, hx, tc.cl, tc.hd, rfl, a, _, rfl, Or.inr ha, ?_⟩
      rw [vI_len]
      refine ⟨_, _, rfl, rfl, _, rfl, ite2 (fun h1 => ?_) (fun h1 => ?_)⟩
      · have h2 : n ≤ h.length := by
          have := of_decide_eq_true h1
          omega
        unfold at_ at q
        rw [if_pos h2] at q
        exact ⟨_, rfl, x, C, dx, _, _, rfl, hx, tc.cl, tc.hd, rfl, _, rfl, _, _, rfl, rfl, a, _, _, _, rfl, rfl, ha, at_int (k := n - 1) (by omega) (by omega), q _ (Same.refl H)⟩
      have h2 : ¬ n ≤ h.length := fun z => h1 (decide_eq_true (by omega))
      refine ⟨_, rfl, x, C, dx, _, _, rfl, hx, tc.cl, tc.lp, rfl, _, tru_tup hb, ?_⟩
      by_cases hl : l = []
      · rw [is_nil hl]
        unfold at_ at q
        rw [if_neg h2, if_pos hl] at q
        exact iteT (q _ (Same.refl H))
      rw [ne_nil hl]
      have hp := len_pos hl
      have hsl := sm.l
      dsimp only at hsl
      rw [at_loop hl (by omega)] at q
      refine iteF ?_
      refine ⟨_, rfl, _, rfl, x, C, dx, _, _, rfl, hx, tc.cl, tc.hd, rfl, a, _, rfl, Or.inr ha, _, _, rfl, rfl, _, _, rfl, rfl, ?_⟩
      refine ⟨_, rfl, x, C, dx, _, _, rfl, hx, tc.cl, tc.lp, rfl, b, _, rfl, Or.inr hb, ?_⟩
      rw [vI_len, vI_len]
      refine ⟨_, _, rfl, ⟨by omega, by omega⟩, fun p hpn => ?_⟩
      have s1 := NF.Same.new (o := .tup [V.int (((n : Int) - (h.length : Int) - 1) / (l.length : Int)), V.int (((n : Int) - (h.length : Int) - 1) % (l.length : Int))]) (Same.refl H) hpn
      refine ⟨p, _, rfl, SqT.of upd_same, rfl, _, _, rfl, ?_⟩
      refine ⟨_, _, rfl, ?_⟩
      refine ⟨rfl, ?_⟩
      have hx1 := s1 _ _ hx
      have hb1 := NF.Same.tup s1 hb
      have e1 : (n : Int) - (h.length : Int) - 1 = ((n - h.length - 1 : Nat) : Int) := by omega
      have e2 : ((n : Int) - (h.length : Int) - 1) % (l.length : Int) = (((n - h.length - 1) % l.length : Nat) : Int) := by rw [e1]; rfl
      refine ⟨_, rfl, x, C, dx, _, _, rfl, hx1, tc.cl, tc.lp, rfl, _, rfl, b, _, _, _, rfl, rfl, hb1, at_int (k := (n - h.length - 1) % l.length) e2 (Nat.mod_lt _ hp), ?_⟩
      have r0 := sm.r0
      have r1 := sm.r1
      dsimp only at r0 r1
      refine ⟨_, rfl, _, rfl, x, C, dx, _, _, rfl, hx1, tc.cl, tc.ri, rfl, _, _, rfl, rfl, Or.inr ⟨by omega, by omega⟩, ?_⟩
      refine ⟨_, _, rfl, rfl, ?_⟩
      have e3 : l.getD ((n - h.length - 1) % l.length) 0 + ((n : Int) - (h.length : Int) - 1) / (l.length : Int) * r = walk l r (n - h.length - 1) := by
        unfold walk
        rw [e1, Int.mul_comm]
        rfl
      show Q (V.int _) _
      rw [e3]
      exact q _ s1
theorem ok_Table_call {f : Addr} {fd : FuncData} (F : FunD K "__call__" "Table.__call__" (defArgs s_Table_call) (defBody s_Table_call) (defScope s_Table_call) [] [] f fd) (T : Txt K mg gs FS) (c_is_count : Cal P w K mg base 2 "is_count" spIsCount) (c_value_at : Cal P w K mg base 2 "value_at" (spAt K C)) : FnOk P w K mg base CX0 3 f fd ["self", "n"] (spAt K C) := by
  refine F.ok sc_Table___call__ (fun vs H Q E h => ?_) (fun cdv A outer s H vs Q E hr h => ?_)
  · obtain ⟨x, y, n, rfl, _⟩ := h
    rfl
  · obtain ⟨x, y, n, rfl, tb, sm, q⟩ := h
    refine ⟨_, PSs.nox (pss_cons (ps_if (PW.pt (pw_and (pt_cmpR op_notN (pv 1) pe_non (nomark _)) (pw_and1 (pt_not (pt_val (pe_c c_is_count hr (by decide) rfl (pa_cons (pv 1) pa_nil))))))) (pss_one ps_never) pss_nil) (pss_one (ps_ret (pe_c c_value_at hr (by decide) rfl (pa_cons (pv 0) (pa_cons (pv 1) pa_nil)))))), ?_⟩
    cases n with
    | none => exact ⟨_, rfl, rfl, _, rfl, iteF (iteF ⟨_, rfl, _, rfl, x, y, none, rfl, tb, sm, q⟩)⟩
    | some n =>
      refine ⟨_, rfl, rfl, _, rfl, iteT ⟨_, rfl, (n : Int), rfl, true, congrArg V.bl (decide_eq_true (by omega)), iteF ?_⟩⟩
      exact ⟨_, rfl, _, rfl, x, y, some n, rfl, tb, sm, q⟩
theorem ok_Table_end {f : Addr} {fd : FuncData} (F : FunD K "end" "Table.end" (defArgs s_Table_end) (defBody s_Table_end) (defScope s_Table_end) [] [] f fd) (T : Txt K mg gs FS) (c_end_of : Cal P w K mg base 1 "end_of" (spEnd K C)) : FnOk P w K mg base CX0 2 f fd ["self"] (spEnd K C) := by
  refine F.ok sc_Table_end (fun vs H Q E h => ?_) (fun cdv A outer s H vs Q E hr h => ?_)
  · obtain ⟨x, y, rfl, _⟩ := h
    rfl
  · obtain ⟨x, y, rfl, tb, q⟩ := h
    exact ⟨_, PSs.nox (pss_one (ps_ret (pe_c c_end_of hr (by decide) rfl (pa_cons (pv 0) pa_nil)))), _, rfl, x, y, rfl, tb, q⟩
theorem ok_Table_eq {f : Addr} {fd : FuncData} (F : FunD K "__eq__" "Table.__eq__" (defArgs s_Table_eq) (defBody s_Table_eq) (defScope s_Table_eq) [] [] f fd) (T : Txt K mg gs FS) (hT : mg "Table" = some (.ref C)) (tc : TabC K C) : FnOk P w K mg base CX0 1 f fd ["self", "other"] (spEq K C) := by
  refine F.ok sc_Table___eq__ (fun vs H Q E h => ?_) (fun cdv A outer s H vs Q E hr h => ?_)
  · obtain ⟨x, y, v, rfl, _⟩ := h
    rfl
  · obtain ⟨x, ⟨h, l, r⟩, v, rfl, ⟨dx, a, b, hx, ha, hb⟩, q⟩ := h
    have hu : (A.deeper (envOfC "Table.__eq__" (defScope s_Table_eq) s.heap.objs.size f cdv)).units + 64 < cLine := by
      have := hr.un
      omega
    refine ⟨_, PSs.nox (pss_one (ps_ret (pe_and (pe_callB call_isi rfl (T.fr _ (by decide +kernel)) (by decide +kernel) (pa_cons (pv 1) (pa_cons (pe_gl hT) pa_nil))) (pe_and (pe_cmpR (op_eqD hu) (pe_fld (pv 0) rfl) (pe_fld (pv 1) rfl) (nomark _)) (pe_and (pe_cmpR (op_eqD hu) (pe_fld (pv 0) rfl) (pe_fld (pv 1) rfl) (nomark _)) (pe_one (pe_cmpR op_eq (pe_fld (pv 0) rfl) (pe_fld (pv 1) rfl) (nomark _)))))))), ?_⟩
    rcases q with ⟨x2, ⟨h2, l2, r2⟩, rfl, ⟨dx2, a2, b2, hx2, ha2, hb2⟩, q⟩ | ⟨t, ty, hk, q⟩
    · have tx := tc.ty hx2
      dsimp only at hx ha hb hx2 ha2 hb2 q
      refine ⟨_, rfl, _, _, _, _, true, rfl, .own C, tx, tc.self, true, rfl, iteT ?_⟩
      refine ⟨_, rfl, x, C, dx, _, _, rfl, hx, tc.cl, tc.hd, rfl, _, rfl, x2, C, dx2, _, _, rfl, hx2, tc.cl, tc.hd, rfl, ?_⟩
      refine eqT_done (K := K) ha ha2 ⟨_, rfl, ite2 (fun h1 => ?_) (fun h1 => ?_)⟩
      · have e1 : h = h2 := of_decide_eq_true h1
        refine ⟨_, rfl, x, C, dx, _, _, rfl, hx, tc.cl, tc.lp, rfl, _, rfl, x2, C, dx2, _, _, rfl, hx2, tc.cl, tc.lp, rfl, ?_⟩
        refine eqT_done (K := K) hb hb2 ⟨_, rfl, ite2 (fun h3 => ?_) (fun h3 => ?_)⟩
        · have e2 : l = l2 := of_decide_eq_true h3
          refine ⟨_, rfl, x, C, dx, _, _, rfl, hx, tc.cl, tc.ri, rfl, _, rfl, x2, C, dx2, _, _, rfl, hx2, tc.cl, tc.ri, rfl, rfl, ?_⟩
          have e : decide ((h, l, r) = (h2, l2, r2)) = decide (V.int r = V.int r2) := by
            subst e1 e2
            by_cases z : r = r2
            · subst z; simp
            · rw [decide_eq_false (fun y => z (by injection y with _ y; injection y)), decide_eq_false (fun y => z (by injection y))]
          rw [← e]
          exact q
        · have e2 : l ≠ l2 := fun z => h3 (decide_eq_true z)
          rw [decide_eq_false (fun y => e2 (by injection y with _ y; injection y))] at q
          exact q
      · have e1 : h ≠ h2 := fun z => h1 (decide_eq_true z)
        rw [decide_eq_false (fun y => e1 (by injection y))] at q
        exact q
    · exact ⟨_, rfl, _, _, _, _, false, rfl, .own C, ty, hk, false, rfl, iteF q⟩
end
end K05
set_option Elab.async false
set_option linter.all false
set_option maxRecDepth 100000
set_option maxHeartbeats 4000000
namespace K05
open PySem PySem.Spec PyProof.Rows L2 He NF
section
variable {P : Program} {w : World} {K : PySem.W.Frag} {mg : Str → Option Value} {base : Heap}
theorem sc__law_pick : FnScope ["_law_source_here", "_law_many", "_law_value", "_law_digit"] ["_law_source_here", "_law_many"] (defScope s__law_pick) := ⟨rfl, rfl, rfl, by decide +kernel, rfl, by decide +kernel, by decide +kernel⟩
theorem ok_pick {f : Addr} {fd : FuncData} {gs fs : List Str} (F : FunD K "_law_pick" "_law_pick" (defArgs s__law_pick) (defBody s__law_pick) (defScope s__law_pick) [] [] f fd) (T : Txt K mg gs fs) (hi : ("int" : Str) ∈ fs) : FnOk P w K mg base CX0 1 f fd ["_law_source_here", "_law_many"] spPick := by
  refine F.ok sc__law_pick (fun vs H Q E h => ?_) (fun cdv A outer s H vs Q E hr h => ?_)
  · obtain ⟨H0, p, m, rfl, _⟩ := h
    rfl
  · obtain ⟨H0, p, m, rfl, hS, h0, ⟨a, sd, c, hp⟩, m0, m1, k⟩ := h
    refine ⟨_, PSs.nox (pss_cons (ps_if (pt_cmpR op_gt (pe_ix ix_list (pv 0) pe_int fun _ _ => rfl) pe_int (nomark _)) (pss_cons (ps_set (i := 3) sc__law_pick.nd rfl (Or.inl rfl) (pe_op op_mod (pe_callTy call_int1 rfl (T.fr _ hi) (by decide +kernel) (pa_cons (pe_ix ix_list (pv 0) pe_int fun _ _ => rfl) pa_nil)) (pv 1))) (pss_cons (ps_asg (pe_op op_fdiv (pe_ix ix_list (pv 0) pe_int fun _ _ => rfl) (pv 1)) (pg_sub (pv 0) pe_int set_list)) (pss_one (ps_ret (pv 3))))) pss_nil) (pss_cons (ps_asg (pe_op op_add (pe_ix ix_list (pv 0) pe_int fun _ _ => rfl) pe_int) (pg_sub (pv 0) pe_int set_list)) (pss_cons (ps_set (i := 2) sc__law_pick.nd rfl (Or.inl rfl) (pe_op op_mod (pe_callTy call_int1 rfl (T.fr _ hi) (by decide +kernel) (pa_cons (pe_op op_mul (pe_op op_add (pe_ix ix_list (pv 0) pe_int fun _ _ => rfl) (pe_op op_mul pe_int (pe_ix ix_list (pv 0) pe_int fun _ _ => rfl))) pe_int) pa_nil)) pe_int)) (pss_cons (ps_set (i := 2) sc__law_pick.nd rfl (Or.inl rfl) (pe_op op_mod (pe_callTy call_int1 rfl (T.fr _ hi) (by decide +kernel) (pa_cons (pe_op op_add (pe_op op_add (pe_op op_mul (pv 2) (pv 2)) (pe_op op_mul pe_int (pe_ix ix_list (pv 0) pe_int fun _ _ => rfl))) (pe_ix ix_list (pv 0) pe_int fun _ _ => rfl)) pa_nil)) pe_int)) (pss_cons (ps_set (i := 2) sc__law_pick.nd rfl (Or.inl rfl) (pe_op op_mod (pe_callTy call_int1 rfl (T.fr _ hi) (by decide +kernel) (pa_cons (pe_op op_add (pe_op op_mul (pv 2) pe_int) pe_int) pa_nil)) pe_int)) (pss_cons (ps_set (i := 2) sc__law_pick.nd rfl (Or.inl rfl) (pe_op op_mod (pe_callTy call_int1 rfl (T.fr _ hi) (by decide +kernel) (pa_cons (pe_op op_add (pe_op op_mul (pv 2) (pv 2)) (pv 2)) pa_nil)) pe_int)) (pss_one (ps_ret (pe_op op_mod (pe_callTy call_int1 rfl (T.fr _ hi) (by decide +kernel) (pa_cons (pe_op op_fdiv (pv 2) pe_int) pa_nil)) (pv 1)))))))))), ?_⟩
    refine ⟨_, rfl, p, _, _, _, rfl, rfl, SqL.of hp, at0, _, _, rfl, rfl, _, rfl, ?_⟩
    refine ite2 (fun _ => ?_) (fun _ => ?_)
    · refine ⟨_, rfl, p, _, _, _, rfl, rfl, SqL.of hp, at0, Or.inl ⟨_, rfl, _, rfl, _, _, rfl, rfl, m0, ?_⟩⟩
      refine ⟨_, rfl, p, _, _, _, rfl, rfl, SqL.of hp, at0, _, rfl, _, _, rfl, rfl, ⟨m0, m1⟩, ?_⟩
      refine ⟨_, rfl, p, _, _, 0, rfl, rfl, hp, rfl, ?_⟩
      refine ⟨_, rfl, k _ _ (Int.emod_nonneg _ (by omega)) (Int.emod_lt_of_pos _ m0) (NF.Same.put hS h0) ⟨_, _, _, upd_same⟩⟩
    · refine ⟨_, rfl, p, _, _, _, rfl, rfl, SqL.of hp, at2, _, _, rfl, rfl, ?_⟩
      refine ⟨_, rfl, p, _, _, 2, rfl, rfl, hp, rfl, ?_⟩
      have hp' : upd H p (.lst [.int a, .int sd, .int (c + 1)]) p = some (.lst [.int a, .int sd, .int (c + 1)]) := upd_same
      refine ⟨_, rfl, p, _, _, _, rfl, rfl, SqL.of hp', at1, ?_⟩
      refine ⟨_, rfl, p, _, _, _, rfl, rfl, SqL.of hp', at2, _, _, rfl, rfl, Or.inl (by decide), _, _, rfl, rfl, ?_⟩
      refine ⟨_, _, rfl, rfl, Or.inr (by decide), Or.inl ⟨_, rfl, _, _, rfl, rfl, (by first | exact (by decide : (0 : Int) < 2147483647) | exact (by decide : (0 : Int) < 2147483629) | exact (by decide : (0 : Int) < 2147483587)), ?_⟩⟩
      generalize hx : (sd + 104729 * (c + 1)) * 48271 % 2147483647 = x
      have x0 : 0 ≤ x ∧ x < 2147483647 := by omega
      refine ⟨_, rfl, _, rfl, _, _, rfl, rfl, Or.inl (by omega), ?_⟩
      refine ⟨_, rfl, p, _, _, _, rfl, rfl, SqL.of hp', at2, _, _, rfl, rfl, Or.inl (by decide), _, _, rfl, rfl, ?_⟩
      refine ⟨_, rfl, p, _, _, _, rfl, rfl, SqL.of hp', at1, _, _, rfl, rfl, Or.inl ⟨_, rfl, _, _, rfl, rfl, (by first | exact (by decide : (0 : Int) < 2147483647) | exact (by decide : (0 : Int) < 2147483629) | exact (by decide : (0 : Int) < 2147483587)), ?_⟩⟩
      generalize hy : (x * x + 7 * (c + 1) + sd) % 2147483629 = y
      have y0 : 0 ≤ y ∧ y < 2147483629 := by omega
      refine ⟨_, rfl, _, _, rfl, rfl, Or.inl (by omega), _, _, rfl, rfl, Or.inl ⟨_, rfl, _, _, rfl, rfl, (by first | exact (by decide : (0 : Int) < 2147483647) | exact (by decide : (0 : Int) < 2147483629) | exact (by decide : (0 : Int) < 2147483587)), ?_⟩⟩
      generalize hz : (y * 69621 + 5) % 2147483647 = z
      have z0 : 0 ≤ z ∧ z < 2147483647 := by omega
      refine ⟨_, rfl, _, rfl, _, _, rfl, rfl, Or.inl (by omega), ?_⟩
      refine ⟨_, rfl, _, _, rfl, rfl, Or.inl ⟨_, rfl, _, _, rfl, rfl, (by first | exact (by decide : (0 : Int) < 2147483647) | exact (by decide : (0 : Int) < 2147483629) | exact (by decide : (0 : Int) < 2147483587)), ?_⟩⟩
      refine ⟨_, rfl, _, _, rfl, rfl, ⟨by decide, by decide⟩, Or.inl ⟨_, rfl, _, rfl, _, _, rfl, rfl, m0, ?_⟩⟩
      exact k _ _ (Int.emod_nonneg _ (by omega)) (Int.emod_lt_of_pos _ m0) (NF.Same.put hS h0) ⟨_, _, _, hp'⟩
end
end K05
set_option Elab.async false
set_option linter.all false
set_option maxRecDepth 100000
set_option maxHeartbeats 4000000
namespace K05
open PySem PySem.Spec PyProof.Rows L2 He NF
theorem sc__law_source : FnScope ["_law_script", "_law_place", "_law_cell", "_law_seed", "_law_one", "_law_number"] ["_law_script", "_law_place"] (defScope s__law_source) := ⟨rfl, rfl, rfl, by decide +kernel, rfl, by decide +kernel, by decide +kernel⟩
theorem natAbs_bits {x : Int} {n : Nat} (h : x.natAbs < 2 ^ n) : Builtin.Int.intBits x ≤ n := by
  unfold Builtin.Int.intBits
  by_cases e : x = 0
  · rw [if_pos (by rw [e]; rfl)]
    exact Nat.zero_le _
  · rw [if_neg (by simpa using e)]
    exact (Nat.log2_lt (by omega)).mpr h
theorem bits_le {x y : Int} (h : x.natAbs ≤ y.natAbs) : Builtin.Int.intBits x ≤ Builtin.Int.intBits y := by
  refine natAbs_bits (Nat.lt_of_le_of_lt h ?_)
  unfold Builtin.Int.intBits
  by_cases e : y = 0
  · rw [if_pos (by rw [e]; rfl), e]
    decide
  · rw [if_neg (by simpa using e)]
    exact Nat.lt_log2_self
theorem bits_small {x : Int} (h0 : 0 ≤ x) (h : x < 1000000) : Builtin.Int.intBits x ≤ 1048576 := Nat.le_trans (natAbs_bits (n := 20) (by omega)) (by decide)
section
variable {P : Program} {w : World} {K : PySem.W.Frag} {mg : Str → Option Value} {base : Heap}
theorem ok_source {f : Addr} {fd : FuncData} {gs fs : List Str} (F : FunD K "_law_source" "_law_source" (defArgs s__law_source) (defBody s__law_source) (defScope s__law_source) [] [] f fd) (T : Txt K mg gs fs) (hl : ("len" : Str) ∈ fs) (hi : ("int" : Str) ∈ fs) (ha : ("abs" : Str) ∈ fs) : FnOk P w K mg base CX0 1 f fd ["_law_script", "_law_place"] (spSource K) := by
  refine F.ok sc__law_source (fun vs H Q E h => ?_) (fun cdv A outer s H vs Q E hr h => ?_)
  · obtain ⟨l, ns, i, rfl, _⟩ := h
    rfl
  · obtain ⟨l, ns, i, rfl, hS, hn, hb, hi', k⟩ := h
    refine ⟨_, PSs.nox (pss_cons (ps_set (i := 2) sc__law_source.nd rfl (Or.inl rfl) (pe_ifExp (pt_cmpR op_lt (pv 1) (pe_callB call_len_seq rfl (T.fr _ hl) boot_len (pa_cons (pv 0) pa_nil)) (nomark _)) (pe_ix ix_list (pv 0) (pv 1) fun _ _ => rfl) (pe_op op_add (pe_op op_mul pe_int (pv 1)) pe_int))) (pss_cons (ps_set (i := 3) sc__law_source.nd rfl (Or.inl rfl) (pe_op op_mod (pe_callTy call_int1 rfl (T.fr _ hi) (by decide +kernel) (pa_cons (pe_op op_add (pe_op op_mod (pe_callTy call_int1 rfl (T.fr _ hi) (by decide +kernel) (pa_cons (pv 2) pa_nil)) pe_int) (pe_op op_mul pe_int (pv 1))) pa_nil)) pe_int)) (pss_cons (ps_for PassesOwn.never rfl (pi_list (pe_slice sl_list (pv 0) po_none (po_some pe_int))) (pg_name (i := 4) sc__law_source.nd rfl (Or.inl rfl)) (pss_one (ps_set (i := 3) sc__law_source.nd rfl (Or.inl rfl) (pe_op op_mod (pe_callTy call_int1 rfl (T.fr _ hi) (by decide +kernel) (pa_cons (pe_op op_add (pe_op op_mul (pv 3) pe_int) (pe_op op_mod (pe_callTy call_int1 rfl (T.fr _ hi) (by decide +kernel) (pa_cons (pv 4) pa_nil)) pe_int)) pa_nil)) pe_int)))) (pss_cons (ps_set (i := 5) sc__law_source.nd rfl (Or.inl rfl) (pe_callB call_abs rfl (T.fr _ ha) (by decide +kernel) (pa_cons (pv 2) pa_nil))) (pss_cons (ps_if (pt_cmpR op_lt (pv 5) (pe_op op_pow pe_int pe_int) (nomark _)) (pss_one (ps_ret (pe_lst (pa_cons pe_int (pa_cons (pv 3) (pa_cons pe_int pa_nil)))))) pss_nil) (pss_cons (ps_if (pt_cmpR op_gt (pe_op op_shr (pv 5) pe_int) pe_int (nomark _)) (pss_one (ps_set (i := 5) sc__law_source.nd rfl (Or.inl rfl) (pe_op op_sub (pv 5) (pe_op op_shlW (pe_op op_shr (pv 5) pe_int) pe_int)))) pss_nil) (pss_one (ps_ret (pe_lst (pa_cons (pv 5) (pa_cons (pv 3) (pa_cons pe_int pa_nil)))))))))))), ?_⟩
    -- the cell: what stands at the place, or a number by the place
    have hcell : ∀ (Q1 : VK), (∀ c : Int, Builtin.Int.intBits c ≤ 1048576 → Q1 (.int c) H) →
        (if decide ((i : Int) < ((ns.map V.int).length : Int)) = true then tOp (rIxL K) (tVar 0) (tVar 1) (start ["_law_script", "_law_place", "_law_cell", "_law_seed", "_law_one", "_law_number"] [.ref l, .int (i : Int)]) H Q1
          else tOp (rI0 fun i j => .int (i + j)) (tOp (rI CMul fun i j => .int (i * j)) (tC (.int 3)) (tVar 1)) (tC (.int 1)) (start ["_law_script", "_law_place", "_law_cell", "_law_seed", "_law_one", "_law_number"] [.ref l, .int (i : Int)]) H Q1) := by
      intro Q1 q
      rw [List.length_map]
      by_cases hlt : i < ns.length
      · rw [decide_eq_true (show (i : Int) < (ns.length : Int) by omega), if_pos rfl]
        have e : (ns.map V.int)[i]? = some (V.int ns[i]) := by rw [List.getElem?_map, List.getElem?_eq_getElem hlt] <;> rfl
        exact ⟨_, rfl, _, rfl, l, _, _, _, rfl, rfl, hS, atI_nat e, q _ (hb _ (List.getElem_mem hlt))⟩
      · rw [decide_eq_false (show ¬ (i : Int) < (ns.length : Int) by omega), if_neg Bool.false_ne_true]
        refine ⟨_, rfl, _, _, rfl, rfl, Or.inl (by decide), _, _, rfl, rfl, q _ ?_⟩
        exact bits_small (by omega) (by omega)
    refine ⟨_, rfl, _, rfl, l, _, rfl, Or.inl hS, _, _, rfl, rfl, _, rfl, hcell _ fun c hc => ?_⟩
    refine ⟨_, rfl, Or.inl ⟨_, rfl, _, _, rfl, rfl, (by exact (by decide : (0 : Int) < 2147483629)), ?_⟩⟩
    refine ⟨_, rfl, _, _, rfl, rfl, Or.inl (by decide), _, _, rfl, rfl, Or.inl ⟨_, rfl, _, _, rfl, rfl, (by exact (by decide : (0 : Int) < 2147483629)), ?_⟩⟩
    refine ⟨_, rfl, _, rfl, l, _, rfl, hS, fun p hp => ⟨p, rfl, ⟨_, SqL.of upd_same⟩, ?_⟩⟩
    have hpl : H p = none := hp
    obtain ⟨cs, hcs⟩ : ∃ cs : List Int, cutV (ns.map V.int) none (some 2) = cs.map V.int := ⟨(ns.drop (HT.sIx (ns.map V.int).length 0 none)).take (HT.sIx (ns.map V.int).length (ns.map V.int).length (some 2) - HT.sIx (ns.map V.int).length 0 none), by unfold cutV; rw [List.map_take, List.map_drop]⟩
    refine for_list (K := K) (a := p) (xs := cs.map V.int) (fun j σ H' => H' = upd H p (.lst (cs.map V.int)) ∧ ∃ (sd : Int) (v : Option V), σ = [some (.ref l), some (.int (i : Int)), some (.int c), some (.int sd), v, none])
      ⟨by rw [hcs], _, _, rfl⟩ (fun j σ H' _ z => by rw [z.1]; exact SqL.of upd_same) ?_ ?_
    · rintro j y σ H' hj ⟨rfl, sd, v, rfl⟩
      obtain ⟨z, rfl⟩ : ∃ z, y = V.int z := by
        rw [List.getElem?_map] at hj
        cases e : cs[j]? with
        | none =>
          rw [e] at hj
          cases hj
        | some z =>
          rw [e] at hj
          exact ⟨z, (Option.some.inj hj).symm⟩
      refine ⟨_, rfl, _, _, rfl, rfl, Or.inr (by decide), _, rfl, Or.inl ⟨_, rfl, _, _, rfl, rfl, (by exact (by decide : (0 : Int) < 1000003)), ?_⟩⟩
      refine ⟨_, _, rfl, rfl, Or.inl ⟨_, rfl, _, _, rfl, rfl, (by exact (by decide : (0 : Int) < 2147483629)), ?_⟩⟩
      exact ⟨rfl, _, _, rfl⟩
    · rintro σ H' ⟨rfl, sd, v, rfl⟩
      have hS1 : Same H (upd H p (.lst (cs.map V.int))) := NF.Same.new (Same.refl H) hp
      have hend : ∀ (a sd : Int) (q : Addr), upd H p (.lst (cs.map V.int)) q = none → Q (.ref q) (upd (upd H p (.lst (cs.map V.int))) q (.lst [.int a, .int sd, .int 0])) := fun a sd q hq =>
        k q _ (NF.Same.new hS1 hq) (L2.Same.free hS1 hq) ⟨_, _, _, upd_same⟩
      refine ⟨_, rfl, _, rfl, ?_⟩
      have hab : Builtin.Int.intBits (if c < 0 then -c else c) ≤ 1048576 := Nat.le_trans (bits_le (by split <;> omega)) hc
      generalize hm : (if c < 0 then -c else c) = m at hab ⊢
      have m0 : 0 ≤ m := by rw [← hm]; split <;> omega
      refine ⟨_, rfl, _, _, rfl, rfl, ⟨by decide, by decide, by decide⟩, _, _, rfl, rfl, _, rfl, ?_⟩
      refine ite2 (fun _ => ?_) (fun _ => ?_)
      · exact ⟨_, rfl, (by show 3 ≤ sizeLine; decide), fun q hq => hend _ _ q hq⟩
      · refine ⟨_, rfl, _, _, rfl, rfl, (by exact (by decide : (0 : Int) ≤ 4000)), _, _, rfl, rfl, _, rfl, ?_⟩
        refine ite2 (fun _ => ?_) (fun _ => ?_)
        · refine ⟨_, rfl, _, rfl, _, _, rfl, rfl, (by exact (by decide : (0 : Int) ≤ 4000)), _, _, rfl, rfl, ⟨(by exact (by decide : (0 : Int) ≤ 4000)), ?_⟩, _, _, rfl, rfl, ?_⟩
          · have hd : Builtin.Int.intBits (m / 2 ^ (4000 : Int).toNat) ≤ Builtin.Int.intBits m := bits_le (by
              have h1 : 0 ≤ m / 2 ^ (4000 : Int).toNat := Int.ediv_nonneg m0 (Int.le_of_lt (Int.pow_pos (by decide)))
              have h2 : m / 2 ^ (4000 : Int).toNat ≤ m := Int.ediv_le_self _ m0
              omega)
            have h27 : (1048576 : Int) + 4000 ≤ 2 ^ 27 := by decide
            omega
          · exact ⟨_, rfl, _, rfl, (by show 3 ≤ sizeLine; decide), fun q hq => hend _ _ q hq⟩
        · exact ⟨_, rfl, _, rfl, (by show 3 ≤ sizeLine; decide), fun q hq => hend _ _ q hq⟩
end
end K05
set_option Elab.async false
set_option linter.all false
set_option maxRecDepth 100000
set_option maxHeartbeats 4000000
namespace K05
open PySem PySem.Spec PyProof.Rows L2 He NF RZ NT
def spLEnd (K : PySem.W.Frag) : Sp := fun vs H Q _ => ∃ p y, vs = [.ref p] ∧ FormAt K H p y ∧ Q (vO (fin_ y.2.1 y.2.2)) H
def spLAt (K : PySem.W.Frag) : Sp := fun vs H Q _ => ∃ p y n, vs = [.ref p, vN n] ∧ FormAt K H p y ∧ Small y ∧ Q (vO (val_ y.1 y.2.1 y.2.2 n)) H
def spGcd : Sp := fun vs H Q _ => ∃ a b : Nat, vs = [.int (a : Int), .int (b : Int)] ∧ ∀ H', Same H H' → Q (.int ((Nat.gcd a b : Nat) : Int)) H'
theorem iteT' {b : Bool} {A B : Prop} (e : b = true) (h : A) : if b = true then A else B := by rw [e]; exact iteT h
theorem iteF' {b : Bool} {A B : Prop} (e : b = false) (h : B) : if b = true then A else B := by rw [e]; exact iteF h
theorem sc__law_is_integer : FnScope ["_law_thing"] ["_law_thing"] (defScope s__law_is_integer) := ⟨rfl, rfl, rfl, by decide +kernel, rfl, by decide +kernel, by decide +kernel⟩
theorem sc__law_is_count : FnScope ["_law_thing"] ["_law_thing"] (defScope s__law_is_count) := ⟨rfl, rfl, rfl, by decide +kernel, rfl, by decide +kernel, by decide +kernel⟩
theorem sc__law_end : FnScope ["_law_raw_here"] ["_law_raw_here"] (defScope s__law_end) := ⟨rfl, rfl, rfl, by decide +kernel, rfl, by decide +kernel, by decide +kernel⟩
theorem sc__law_at : FnScope ["_law_raw_here", "_law_place", "_law_rest"] ["_law_raw_here", "_law_place"] (defScope s__law_at) := ⟨rfl, rfl, rfl, by decide +kernel, rfl, by decide +kernel, by decide +kernel⟩
theorem sc__law_gcd : FnScope ["_law_one", "_law_other"] ["_law_one", "_law_other"] (defScope s__law_gcd) := ⟨rfl, rfl, rfl, by decide +kernel, rfl, by decide +kernel, by decide +kernel⟩
section
variable {P : Program} {w : World} {K : PySem.W.Frag} {mg : Str → Option Value} {base : Heap} {gs : List Str}
theorem ok__law_is_integer {f : Addr} {fd : FuncData} (F : FunD K "_law_is_integer" "_law_is_integer" (defArgs s__law_is_integer) (defBody s__law_is_integer) (defScope s__law_is_integer) [] [] f fd) (T : Txt K mg gs FS) : FnOk P w K mg base CX0 1 f fd ["_law_thing"] spIsInt := by
  refine F.ok sc__law_is_integer (fun vs H Q E h => ?_) (fun cdv A outer s H vs Q E hr h => ?_)
  · obtain ⟨i, rfl, _⟩ := h
    rfl
  · obtain ⟨i, rfl, q⟩ := h
    refine ⟨_, PSs.nox (pss_one (ps_ret (pe_and (pe_callB call_isi rfl (T.fr _ (by decide +kernel)) (by decide +kernel) (pa_cons (pv 0) (pa_cons (pe_bltn (v := .ty "int") rfl (T.fr _ (by decide +kernel)) (by decide +kernel) rfl) pa_nil))) (pe_one (pe_not (pe_callB call_isi rfl (T.fr _ (by decide +kernel)) (by decide +kernel) (pa_cons (pv 0) (pa_cons (pe_bltn (v := .ty "bool") rfl (T.fr _ (by decide +kernel)) (by decide +kernel) rfl) pa_nil)))))))), ?_⟩
    exact ⟨_, rfl, _, _, _, _, true, rfl, .ty "int", .base (.int i), kit_i_i K, true, rfl, _, rfl, _, _, _, _, false, rfl, .ty "bool", .base (.int i), kit_i_b K, false, rfl, q⟩
theorem ok__law_is_count {f : Addr} {fd : FuncData} (F : FunD K "_law_is_count" "_law_is_count" (defArgs s__law_is_count) (defBody s__law_is_count) (defScope s__law_is_count) [] [] f fd) (T : Txt K mg gs FS) (c__law_is_integer : Cal P w K mg base 1 "_law_is_integer" spIsInt) : FnOk P w K mg base CX0 2 f fd ["_law_thing"] spIsCount := by
  refine F.ok sc__law_is_count (fun vs H Q E h => ?_) (fun cdv A outer s H vs Q E hr h => ?_)
  · obtain ⟨i, rfl, _⟩ := h
    rfl
  · obtain ⟨i, rfl, q⟩ := h
    refine ⟨_, PSs.nox (pss_one (ps_ret (pe_and (pe_c c__law_is_integer hr (by decide) rfl (pa_cons (pv 0) pa_nil)) (pe_one (pe_cmpR op_ge (pv 0) pe_int (nomark _)))))), ?_⟩
    exact ⟨_, rfl, i, rfl, true, rfl, _, rfl, _, _, rfl, rfl, q⟩
theorem ok__law_end {f : Addr} {fd : FuncData} (F : FunD K "_law_end" "_law_end" (defArgs s__law_end) (defBody s__law_end) (defScope s__law_end) [] [] f fd) (T : Txt K mg gs FS) : FnOk P w K mg base CX0 1 f fd ["_law_raw_here"] (spLEnd K) := by
  refine F.ok sc__law_end (fun vs H Q E h => ?_) (fun cdv A outer s H vs Q E hr h => ?_)
  · obtain ⟨p, y, rfl, _⟩ := h
    rfl
  · obtain ⟨p, ⟨h, l, r⟩, rfl, ⟨a, b, hp, ha, hb⟩, q⟩ := h
    dsimp only at hp ha hb q
    refine ⟨_, PSs.nox (pss_cons (ps_if (PW.pt (pw_or (pt_cmpR op_eq (pe_callB call_len_seq rfl (T.fr _ (by decide +kernel)) boot_len (pa_cons (pe_ix (ixt (K := K)) (pv 0) pe_int fun _ _ => rfl) pa_nil)) pe_int (nomark _)) (pw_or1 (pt_cmpR op_gt (pe_ix (ixt (K := K)) (pv 0) pe_int fun _ _ => rfl) pe_int (nomark _))))) (pss_one (ps_ret pe_non)) pss_nil) (pss_one (ps_ret (pe_ix (ixt (K := K)) (pe_ix (ixt (K := K)) (pv 0) pe_int fun _ _ => rfl) (pe_un un_neg pe_int) fun _ _ => rfl)))), ?_⟩
    refine ⟨_, rfl, p, _, _, _, rfl, rfl, hp, at1, b, _, rfl, Or.inr hb, rfl, _, rfl, ?_⟩
    by_cases hl : l = []
    · refine (iteT' (decide_eq_true (by rw [hl]; rfl)) ?_)
      refine iteT ?_
      unfold fin_ at q
      rw [if_pos (.inl hl)] at q
      exact q
    · refine (iteF' (decide_eq_false (fun z => hl ?_)) ?_)
      · injection z with z
        rw [vI_len] at z
        exact List.eq_nil_of_length_eq_zero (by omega)
      refine ⟨_, rfl, p, _, _, _, rfl, rfl, hp, at2, _, _, rfl, rfl, _, rfl, ?_⟩
      refine ite2 (fun h1 => ?_) (fun h1 => ?_)
      · have h2 : (0 : Int) < r := of_decide_eq_true h1
        unfold fin_ at q
        rw [if_pos (.inr h2)] at q
        exact q
      · have h2 : ¬ (0 : Int) < r := fun z => h1 (decide_eq_true z)
        unfold fin_ at q
        rw [if_neg (fun z => z.elim hl h2)] at q
        exact ⟨_, rfl, p, _, _, _, rfl, rfl, hp, at1, _, rfl, b, _, _, _, rfl, rfl, hb, at_last (len_pos hl), q⟩
theorem ok__law_at {f : Addr} {fd : FuncData} (F : FunD K "_law_at" "_law_at" (defArgs s__law_at) (defBody s__law_at) (defScope s__law_at) [] [] f fd) (T : Txt K mg gs FS) (c__law_end : Cal P w K mg base 1 "_law_end" (spLEnd K)) : FnOk P w K mg base CX0 2 f fd ["_law_raw_here", "_law_place"] (spLAt K) := by
  refine F.ok sc__law_at (fun vs H Q E h => ?_) (fun cdv A outer s H vs Q E hr h => ?_)
  · obtain ⟨x, y, n, rfl, _⟩ := h
    rfl
  · obtain ⟨p, ⟨h, l, r⟩, n, rfl, fo, sm, q⟩ := h
    have fo0 := fo
    obtain ⟨a, b, hp, ha, hb⟩ := fo0
    dsimp only at hp ha hb q
    refine ⟨_, PSs.nox (pss_cons (ps_if (pt_cmpR op_isN (pv 1) pe_non (nomark _)) (pss_one (ps_ret (pe_c c__law_end hr (by decide) rfl (pa_cons (pv 0) pa_nil)))) pss_nil) (pss_cons (ps_if (pt_cmpR op_eq (pv 1) pe_int (nomark _)) (pss_one (ps_ret pe_int)) pss_nil) (pss_cons (ps_if (pt_cmpR op_le (pv 1) (pe_callB call_len_seq rfl (T.fr _ (by decide +kernel)) boot_len (pa_cons (pe_ix (ixt (K := K)) (pv 0) pe_int fun _ _ => rfl) pa_nil)) (nomark _)) (pss_one (ps_ret (pe_ix (ixt (K := K)) (pe_ix (ixt (K := K)) (pv 0) pe_int fun _ _ => rfl) (pe_op op_sub (pv 1) pe_int) fun _ _ => rfl))) pss_nil) (pss_cons (ps_if (pt_cmpR op_eq (pe_callB call_len_seq rfl (T.fr _ (by decide +kernel)) boot_len (pa_cons (pe_ix (ixt (K := K)) (pv 0) pe_int fun _ _ => rfl) pa_nil)) pe_int (nomark _)) (pss_one (ps_ret pe_non)) pss_nil) (pss_cons (ps_set (i := 2) sc__law_at.nd rfl (Or.inl rfl) (pe_op op_sub (pe_op op_sub (pv 1) (pe_callB call_len_seq rfl (T.fr _ (by decide +kernel)) boot_len (pa_cons (pe_ix (ixt (K := K)) (pv 0) pe_int fun _ _ => rfl) pa_nil))) pe_int)) (pss_one (ps_ret (pe_op op_add (pe_ix (ixt (K := K)) (pe_ix (ixt (K := K)) (pv 0) pe_int fun _ _ => rfl) (pe_op op_mod (pv 2) (pe_callB call_len_seq rfl (T.fr _ (by decide +kernel)) boot_len (pa_cons (pe_ix (ixt (K := K)) (pv 0) pe_int fun _ _ => rfl) pa_nil))) fun _ _ => rfl) (pe_op op_mul (pe_ix (ixt (K := K)) (pv 0) pe_int fun _ _ => rfl) (pe_op op_fdiv (pv 2) (pe_callB call_len_seq rfl (T.fr _ (by decide +kernel)) boot_len (pa_cons (pe_ix (ixt (K := K)) (pv 0) pe_int fun _ _ => rfl) pa_nil)))))))))))), ?_⟩
    cases n with
    | none => exact ⟨_, rfl, rfl, _, rfl, iteT ⟨_, rfl, p, _, rfl, fo, q⟩⟩
    | some n =>
      refine ⟨_, rfl, rfl, _, rfl, iteF ?_⟩
      refine ⟨_, rfl, rfl, _, rfl, ite2 (fun h1 => ?_) (fun h1 => ?_)⟩
      · have h2 : n = 0 := by
          have := of_decide_eq_true h1
          injection this with this
          omega
        subst h2
        exact q
      have n0 : n ≠ 0 := fun z => h1 (by rw [z]; exact decide_eq_true rfl)
      unfold val_ at q
      dsimp only at q
      rw [if_neg n0] at q
      refine ⟨_, rfl, _, rfl, p, _, _, _, rfl, rfl, hp, at0, a, _, rfl, Or.inr ha, ?_⟩
      rw [vI_len]
      refine ⟨_, _, rfl, rfl, _, rfl, ite2 (fun h1 => ?_) (fun h1 => ?_)⟩
      · have h2 : n ≤ h.length := by
          have := of_decide_eq_true h1
          omega
        unfold at_ at q
        rw [if_pos h2] at q
        exact ⟨_, rfl, p, _, _, _, rfl, rfl, hp, at0, _, rfl, _, _, rfl, rfl, a, _, _, _, rfl, rfl, ha, at_int (k := n - 1) (by omega) (by omega), q⟩
      have h2 : ¬ n ≤ h.length := fun z => h1 (decide_eq_true (by omega))
      refine ⟨_, rfl, p, _, _, _, rfl, rfl, hp, at1, b, _, rfl, Or.inr hb, rfl, _, rfl, ?_⟩
      by_cases hl : l = []
      · refine (iteT' (decide_eq_true (by rw [hl]; rfl)) ?_)
        unfold at_ at q
        rw [if_neg h2, if_pos hl] at q
        exact q
      have hp0 := len_pos hl
      have hsl := sm.l
      dsimp only at hsl
      rw [at_loop hl (by omega)] at q
      refine (iteF' (decide_eq_false (fun z => hl ?_)) ?_)
      · injection z with z
        rw [vI_len] at z
        exact List.eq_nil_of_length_eq_zero (by omega)
      refine ⟨_, rfl, _, rfl, p, _, _, _, rfl, rfl, hp, at0, a, _, rfl, Or.inr ha, _, _, rfl, rfl, _, _, rfl, rfl, ?_⟩
      rw [vI_len]
      refine ⟨_, rfl, p, _, _, _, rfl, rfl, hp, at1, _, rfl, _, rfl, p, _, _, _, rfl, rfl, hp, at1, b, _, rfl, Or.inr hb, _, _, rfl, rfl, (by rw [vI_len]; show (0 : Int) < (l.length : Int); omega), ?_⟩
      rw [vI_len]
      have e1 : (n : Int) - (h.length : Int) - 1 = ((n - h.length - 1 : Nat) : Int) := by omega
      have e2 : ((n : Int) - (h.length : Int) - 1) % (l.length : Int) = (((n - h.length - 1) % l.length : Nat) : Int) := by rw [e1]; rfl
      refine ⟨b, _, _, _, rfl, rfl, hb, at_int (k := (n - h.length - 1) % l.length) e2 (Nat.mod_lt _ hp0), ?_⟩
      have r0 := sm.r0
      have r1 := sm.r1
      dsimp only at r0 r1
      refine ⟨_, rfl, p, _, _, _, rfl, rfl, hp, at2, _, rfl, _, rfl, p, _, _, _, rfl, rfl, hp, at1, b, _, rfl, Or.inr hb, ?_⟩
      rw [vI_len]
      refine ⟨_, _, rfl, rfl, ⟨by omega, by omega⟩, _, _, rfl, rfl, Or.inl ⟨by omega, by omega⟩, _, _, rfl, rfl, ?_⟩
      have e3 : l.getD ((n - h.length - 1) % l.length) 0 + r * (((n : Int) - (h.length : Int) - 1) / (l.length : Int)) = walk l r (n - h.length - 1) := by
        unfold walk
        rw [e1]
        rfl
      show Q (V.int _) _
      rw [e3]
      exact q
theorem ok__law_gcd {f : Addr} {fd : FuncData} (F : FunD K "_law_gcd" "_law_gcd" (defArgs s__law_gcd) (defBody s__law_gcd) (defScope s__law_gcd) [] [] f fd) (T : Txt K mg gs FS) : FnOk P w K mg base CX0 1 f fd ["_law_one", "_law_other"] spGcd := by
  refine F.ok sc__law_gcd (fun vs H Q E h => ?_) (fun cdv A outer s H vs Q E hr h => ?_)
  · obtain ⟨a, b, rfl, _⟩ := h
    rfl
  · obtain ⟨a, b, rfl, q⟩ := h
    refine ⟨_, PSs.nox (pss_cons (ps_while PassesOwn.never (pt_cmpR op_gt (pv 1) pe_int (nomark _)) (pss_one (ps_par (i := 0) (j := 1) (by rfl) sc__law_gcd.nd rfl rfl (by decide) rfl rfl (pa_cons (pv 1) (pa_cons (pe_op op_mod (pe_callTy call_int1 rfl (T.fr _ (by decide +kernel)) (by decide +kernel) (pa_cons (pv 0) pa_nil)) (pv 1)) pa_nil)) (by rfl)))) (pss_one (ps_ret (pv 0)))), ?_⟩
    refine ⟨fun k σ G => Same H G ∧ ∃ a' : Nat, Nat.gcd a' k = Nat.gcd a b ∧ σ = [some (.int (a' : Int)), some (.int (k : Int))], ⟨b, Same.refl H, a, rfl, rfl⟩, ?_⟩
    rintro k σ G ⟨s1, a', hg, rfl⟩
    refine ⟨_, rfl, _, _, rfl, rfl, _, rfl, ite2 (fun h1 => ?_) (fun h1 => ?_)⟩
    · have k0 : 0 < k := by
        have := of_decide_eq_true h1
        omega
      refine ⟨fun σ' G' => Same H G' ∧ σ' = [some (.int (k : Int)), some (.int ((a' % k : Nat) : Int))], fun σ' G' ⟨z1, z2⟩ => ⟨a' % k, Nat.mod_lt _ k0, z1, k, ?_, z2⟩, ?_⟩
      · rw [← hg, Nat.gcd_comm a' k]
        exact (Nat.gcd_comm _ _).trans ((Nat.gcd_rec k a').symm)
      · refine ⟨_, rfl, _, rfl, Or.inl ⟨_, rfl, _, rfl, _, _, rfl, rfl, (by show (0 : Int) < (k : Int); omega), ?_⟩⟩
        exact ⟨_, _, rfl, s1, rfl⟩
    · have k0 : k = 0 := by
        have : ¬ (0 : Int) < (k : Int) := fun z => h1 (decide_eq_true z)
        omega
      subst k0
      rw [Nat.gcd_zero_right] at hg
      subst hg
      exact ⟨_, rfl, q _ s1⟩
end
end K05
set_option Elab.async false
set_option linter.all false
set_option maxHeartbeats 4000000
namespace NT
variable {h l : List Int} {r : Int}
theorem climbs_lo : ∀ {l : List Int} {lo : Int} {i : Nat}, climbs lo l → i < l.length → lo ≤ l.getD i 0
  | [], _, _, _, h => by simp at h
  | x :: l, lo, 0, c, _ => c.1
  | x :: l, lo, i + 1, c, h => by
    have := climbs_lo (i := i) c.2 (by simpa using h)
    have := c.1
    show lo ≤ l.getD i 0
    omega
theorem climbs_up : ∀ {l : List Int} {lo : Int} {i : Nat}, climbs lo l → i + 1 < l.length → l.getD i 0 ≤ l.getD (i + 1) 0
  | [], _, _, _, h => by simp at h
  | x :: l, lo, 0, c, h => climbs_lo (i := 0) c.2 (by simpa using h)
  | x :: l, lo, i + 1, c, h => climbs_up (i := i) c.2 (by simpa using h)
theorem climbs_of : ∀ {l : List Int} {lo : Int}, (∀ i, i < l.length → lo ≤ l.getD i 0) → (∀ i, i + 1 < l.length → l.getD i 0 ≤ l.getD (i + 1) 0) → climbs lo l
  | [], _, _, _ => trivial
  | x :: l, lo, h1, h2 => by
    refine ⟨h1 0 (by simp), climbs_of (fun i hi => ?_) fun i hi => h2 (i + 1) (by simpa using hi)⟩
    induction i with
    | zero => exact h2 0 (by simpa using hi)
    | succ i ih => exact Int.le_trans (ih (by omega)) (h2 (i + 1) (by simpa using hi))
/-- the value at n as a number -/
def num (h l : List Int) (r : Int) (n : Nat) : Int := (at_ h l r n).getD 0
theorem walk_up (g : Good h l r) (hl : l ≠ []) (k : Nat) : walk l r k ≤ walk l r (k + 1) := by
  have hp := len_pos hl
  have e : k = k % l.length + l.length * (k / l.length) := (Nat.mod_add_div k _).symm
  have hi : k % l.length < l.length := Nat.mod_lt _ hp
  generalize k % l.length = a at e hi
  generalize k / l.length = b at e
  subst e
  rw [walk_add_mul hp, show a + l.length * b + 1 = (a + 1) + l.length * b by omega, walk_add_mul hp, walk_lt hi]
  by_cases c : a + 1 < l.length
  · rw [walk_lt c]
    have := climbs_up g.lp c
    omega
  · have : a + 1 = 0 + l.length := by omega
    rw [this, walk_add hp, walk_lt hp]
    have := g.last hl
    have e : l.length - 1 = a := by omega
    rw [e] at this
    omega
theorem at_some (n : Nat) (hn : n ≤ h.length ∨ l ≠ []) : at_ h l r n = some (num h l r n) := by
  unfold num at_
  by_cases c : n ≤ h.length
  · rw [if_pos c]; rfl
  · rw [if_neg c, if_neg (hn.resolve_left c)]; rfl
theorem num_up (g : Good h l r) (n : Nat) (hn : 1 ≤ n) (hs : n + 1 ≤ h.length ∨ l ≠ []) : num h l r n ≤ num h l r (n + 1) := by
  unfold num at_
  by_cases c : n + 1 ≤ h.length
  · rw [if_pos c, if_pos (by omega)]
    show h.getD (n - 1) 0 ≤ h.getD (n + 1 - 1) 0
    have := climbs_up (i := n - 1) g.hd (by omega)
    rw [show n - 1 + 1 = n + 1 - 1 by omega] at this
    exact this
  · have hl := hs.resolve_left c
    have e1 : (if n + 1 ≤ h.length then some (h.getD (n + 1 - 1) 0) else if l = [] then none else some (walk l r (n + 1 - h.length - 1))).getD 0 = walk l r (n + 1 - h.length - 1) := by rw [if_neg c, if_neg hl]; rfl
    rw [e1]
    by_cases c2 : n ≤ h.length
    · rw [if_pos c2]
      have e : n = h.length := by omega
      subst e
      show h.getD (h.length - 1) 0 ≤ walk l r (h.length + 1 - h.length - 1)
      rw [show h.length + 1 - h.length - 1 = 0 by omega, walk_lt (len_pos hl)]
      exact g.join (fun z => by rw [z] at hn; simp at hn) hl
    · rw [if_neg c2, if_neg hl]
      show walk l r (n - h.length - 1) ≤ walk l r (n + 1 - h.length - 1)
      rw [show n + 1 - h.length - 1 = (n - h.length - 1) + 1 by omega]
      exact walk_up g hl _
theorem walk_ge (g : Good h l r) (hl : l ≠ []) (k : Nat) : 0 ≤ walk l r k := by
  induction k with
  | zero =>
    rw [walk_lt (len_pos hl)]
    exact climbs_lo g.lp (len_pos hl)
  | succ k ih => exact Int.le_trans ih (walk_up g hl k)
theorem num_ge (g : Good h l r) (n : Nat) (hn : 1 ≤ n) : 0 ≤ num h l r n := by
  unfold num at_
  by_cases c : n ≤ h.length
  · rw [if_pos c]
    exact climbs_lo (i := n - 1) g.hd (by omega)
  · rw [if_neg c]
    by_cases hl : l = []
    · rw [if_pos hl]; exact Int.le_refl _
    · rw [if_neg hl]; exact walk_ge g hl _
theorem walk_mono (g : Good h l r) (hl : l ≠ []) (k d : Nat) : walk l r k ≤ walk l r (k + d) := by
  induction d with
  | zero => exact Int.le_refl _
  | succ d ih => exact Int.le_trans ih (walk_up g hl (k + d))
/-- the plain form is made of counts -/
theorem plain_counts (g : Good h l r) {x : List Int × List Int × Int} (hx : IsPlain h l r x) : (∀ i, i ∈ x.1 ++ x.2.1 → 0 ≤ i) ∧ 0 ≤ x.2.2 := by
  have hz := plain_size hx
  refine ⟨fun i hi => ?_, (hz.2.2.2.2.1 g.r0).1⟩
  have all : ∀ n, 1 ≤ n → ∀ v, at_ x.1 x.2.1 x.2.2 n = some v → 0 ≤ v := by
    rcases hx with ⟨rfl, rfl⟩ | ⟨_, _, _, _, e⟩
    · intro n hn v hv
      unfold at_ at hv
      by_cases c : n ≤ h.length
      · rw [if_pos c] at hv
        injection hv with hv
        rw [← hv]
        exact climbs_lo (l := h) (i := n - 1) g.hd (by omega)
      · rw [if_neg c, if_pos rfl] at hv
        cases hv
    · intro n hn v hv
      rw [e n hn] at hv
      have := num_ge g n hn
      unfold num at this
      rw [hv] at this
      exact this
  rcases List.mem_append.mp hi with h1 | h1
  · obtain ⟨k, hk, rfl⟩ := List.getElem_of_mem h1
    refine all (k + 1) (by omega) _ ?_
    unfold at_
    rw [if_pos (by omega), Nat.add_sub_cancel, List.getD_eq_getElem?_getD, List.getElem?_eq_getElem hk]
    rfl
  · obtain ⟨k, hk, rfl⟩ := List.getElem_of_mem h1
    have hne : x.2.1 ≠ [] := fun z => by rw [z] at hk; simp at hk
    refine all (x.1.length + k + 1) (by omega) _ ?_
    rw [at_loop hne (by omega), show x.1.length + k + 1 - x.1.length - 1 = k by omega, walk_lt hk, List.getD_eq_getElem?_getD, List.getElem?_eq_getElem hk]
    rfl
/-! ### the same table with more values in the head and a longer loop -/
def tell (h l : List Int) (r : Int) (n : Nat) : List Int := (List.range n).map fun k => num h l r (k + 1)
theorem tell_len (n : Nat) : (tell h l r n).length = n := by unfold tell; rw [List.length_map, List.length_range]
theorem tell_get {n k : Nat} (hk : k < n) : (tell h l r n).getD k 0 = num h l r (k + 1) := by
  unfold tell
  rw [List.getD_eq_getElem?_getD, List.getElem?_map, List.getElem?_range hk]
  rfl
theorem getD_take' {l : List Int} {m i : Nat} (h : i < m) : (l.take m).getD i 0 = l.getD i 0 := getD_take h
theorem tell_good (g : Good h l r) {more t : Nat} (hm : l = [] → more = 0) (ht : 0 < t) :
    Good ((tell h l r (h.length + more + l.length * t)).take (h.length + more)) ((tell h l r (h.length + more + l.length * t)).drop (h.length + more)) (r * (t : Int)) := by
  generalize hN : h.length + more + l.length * t = N
  generalize hc : h.length + more = c
  have some_ : ∀ n, n ≤ N → n ≤ h.length ∨ l ≠ [] := fun n hn => by
    by_cases hl : l = []
    · left
      have := hm hl
      have : l.length = 0 := by rw [hl]; rfl
      rw [this, Nat.zero_mul] at hN
      omega
    · exact .inr hl
  have cle : c ≤ N := by omega
  have hlt : ((tell h l r N).take c).length = c := by rw [List.length_take, tell_len]; omega
  have hld : ((tell h l r N).drop c).length = N - c := by rw [List.length_drop, tell_len]
  refine ⟨climbs_of (fun i hi => ?_) (fun i hi => ?_), climbs_of (fun i hi => ?_) (fun i hi => ?_), fun h1 h2 => ?_, ?_, fun hl => ?_, fun hl => ?_⟩
  · rw [hlt] at hi
    rw [getD_take hi, tell_get (by omega)]
    exact num_ge g _ (by omega)
  · rw [hlt] at hi
    rw [getD_take (by omega), getD_take hi, tell_get (by omega), tell_get (by omega)]
    exact num_up g _ (by omega) (some_ _ (by omega))
  · rw [hld] at hi
    rw [getD_drop, tell_get (by omega)]
    exact num_ge g _ (by omega)
  · rw [hld] at hi
    rw [getD_drop, getD_drop, tell_get (by omega), tell_get (by omega)]
    have := num_up g (c + i + 1) (by omega) (some_ _ (by omega))
    exact this
  · have c0 : 0 < c := by
      rcases Nat.eq_zero_or_pos c with z | z
      · rw [z] at h1; exact absurd rfl h1
      · exact z
    have d0 : 0 < N - c := by rw [← hld]; exact len_pos h2
    rw [hlt, getD_take (by omega), getD_drop, tell_get (by omega), tell_get (by omega)]
    have := num_up g c (by omega) (some_ _ (by omega))
    rw [show c - 1 + 1 = c by omega, show c + 0 + 1 = c + 1 by omega]
    exact this
  · exact Int.mul_nonneg g.r0 (by omega)
  · have z : N - c = 0 := by rw [← hld, hl]; rfl
    have z2 : l.length * t = 0 := by omega
    have z3 : l.length = 0 := by
      rcases Nat.mul_eq_zero.mp z2 with q | q
      · exact q
      · omega
    rw [g.rl (List.eq_nil_of_length_eq_zero z3), Int.zero_mul]
  · have d0 : 0 < N - c := by rw [← hld]; exact len_pos hl
    have hl2 : l ≠ [] := fun z => by
      have : l.length = 0 := by rw [z]; rfl
      rw [this, Nat.zero_mul] at hN
      omega
    rw [hld, getD_drop, getD_drop, tell_get (by omega), tell_get (by omega)]
    have w : ∀ j, num h l r (c + j + 1) = walk l r (more + j) := fun j => by
      unfold num
      rw [at_loop hl2 (by omega), show c + j + 1 - h.length - 1 = more + j by omega]
      rfl
    rw [w (N - c - 1), w 0, ← walk_add_mul (len_pos hl2)]
    have e : more + 0 + l.length * t = (more + (N - c - 1)) + 1 := by omega
    rw [e]
    exact walk_mono g hl2 _ 1
theorem tell_at {more t : Nat} (hm : l = [] → more = 0) (ht : 0 < t) (n : Nat) (hn : 1 ≤ n) :
    at_ ((tell h l r (h.length + more + l.length * t)).take (h.length + more)) ((tell h l r (h.length + more + l.length * t)).drop (h.length + more)) (r * (t : Int)) n = at_ h l r n := by
  by_cases hl : l = []
  · subst hl
    have hm := hm rfl
    subst hm
    have e : h.length + 0 + ([] : List Int).length * t = h.length := by simp
    rw [e, Nat.add_zero]
    unfold at_
    have e1 : ((tell h [] r h.length).take h.length).length = h.length := by rw [List.length_take, tell_len]; omega
    have e2 : (tell h [] r h.length).drop h.length = [] := List.drop_of_length_le (by rw [tell_len]; exact Nat.le_refl _)
    rw [e1, e2]
    by_cases c : n ≤ h.length
    · rw [if_pos c, if_pos c, getD_take (by omega), tell_get (by omega)]
      unfold num at_
      rw [show n - 1 + 1 = n by omega, if_pos c]
      rfl
    · rw [if_neg c, if_neg c, if_pos rfl, if_pos rfl]
  · have hp := len_pos hl
    generalize hN : h.length + more + l.length * t = N
    generalize hc : h.length + more = c
    have lt0 : 0 < l.length * t := Nat.mul_pos hp ht
    have hlt : ((tell h l r N).take c).length = c := by rw [List.length_take, tell_len]; omega
    have hld : ((tell h l r N).drop c).length = l.length * t := by rw [List.length_drop, tell_len]; omega
    have hne : (tell h l r N).drop c ≠ [] := fun z => by rw [z] at hld; simp at hld; omega
    by_cases q : n ≤ c
    · have : at_ h l r n = some (num h l r n) := at_some n (.inr hl)
      rw [this]
      unfold at_
      rw [hlt, if_pos q, getD_take (by omega), tell_get (by omega), show n - 1 + 1 = n by omega]
    · rw [at_loop hne (by rw [hlt]; omega), hlt, at_loop hl (by omega)]
      congr 1
      unfold walk
      rw [hld]
      generalize hk : n - c - 1 = k
      have hi : k % (l.length * t) < l.length * t := Nat.mod_lt _ lt0
      have w : ∀ j, num h l r (c + j + 1) = walk l r (more + j) := fun j => by
        unfold num
        rw [at_loop hl (by omega), show c + j + 1 - h.length - 1 = more + j by omega]
        rfl
      rw [getD_drop, tell_get (by omega), w]
      have e : n - h.length - 1 = (more + k % (l.length * t)) + l.length * (t * (k / (l.length * t))) := by
        have := Nat.mod_add_div k (l.length * t)
        rw [← Nat.mul_assoc]
        omega
      have e2 : walk l r (n - h.length - 1) = walk l r (more + k % (l.length * t)) + r * ((t * (k / (l.length * t)) : Nat) : Int) := by rw [e, walk_add_mul hp]
      have e3 : walk l r (n - h.length - 1) = l.getD ((n - h.length - 1) % l.length) 0 + r * (((n - h.length - 1) / l.length : Nat) : Int) := rfl
      rw [← e3, e2, Int.natCast_mul, Int.mul_assoc]
end NT
set_option Elab.async false
set_option linter.all false
set_option maxHeartbeats 4000000
/-! Rows of values that climb and may come to never: their tellings; the values of one table at the values of another one. -/
namespace NT
structure Asc (F : Nat → Option Int) : Prop where
  ge : ∀ n v, 1 ≤ n → F n = some v → 0 ≤ v
  up : ∀ n v, 1 ≤ n → F (n + 1) = some v → ∃ u, F n = some u ∧ u ≤ v
def numF (F : Nat → Option Int) (n : Nat) : Int := (F n).getD 0
def seg (F : Nat → Option Int) (a m : Nat) : List (Option Int) := (List.range m).map fun k => F (a + k + 1)
def segN (F : Nat → Option Int) (a m : Nat) : List Int := (List.range m).map fun k => numF F (a + k + 1)
variable {F : Nat → Option Int}
theorem seg_succ {a m : Nat} : seg F a (m + 1) = seg F a m ++ [F (a + m + 1)] := by
  unfold seg
  rw [List.range_succ, List.map_append]
  rfl
theorem segN_succ {a m : Nat} : segN F a (m + 1) = segN F a m ++ [numF F (a + m + 1)] := by
  unfold segN
  rw [List.range_succ, List.map_append]
  rfl
theorem seg_len {a m : Nat} : (seg F a m).length = m := by unfold seg; rw [List.length_map, List.length_range]
theorem segN_len {a m : Nat} : (segN F a m).length = m := by unfold segN; rw [List.length_map, List.length_range]
theorem segN_get {a m k : Nat} (hk : k < m) : (segN F a m).getD k 0 = numF F (a + k + 1) := by
  unfold segN
  rw [List.getD_eq_getElem?_getD, List.getElem?_map, List.getElem?_range hk]
  rfl
theorem Asc.below (A : Asc F) {m d : Nat} (hm : 1 ≤ m) : ∀ {v : Int}, F (m + d) = some v → ∃ u, F m = some u ∧ u ≤ v := by
  induction d with
  | zero => exact fun {v} h => ⟨v, h, Int.le_refl _⟩
  | succ d ih =>
    intro v h
    obtain ⟨u, hu, le⟩ := A.up (m + d) v (by omega) h
    obtain ⟨u2, h2, le2⟩ := ih hu
    exact ⟨u2, h2, Int.le_trans le2 le⟩
theorem Asc.none_up (A : Asc F) {m n : Nat} (hm : 1 ≤ m) (h : F m = none) (le : m ≤ n) : F n = none := by
  cases e : F n with
  | none => rfl
  | some v =>
    obtain ⟨d, rfl⟩ : ∃ d, n = m + d := ⟨n - m, by omega⟩
    obtain ⟨u, hu, _⟩ := A.below hm e
    rw [h] at hu
    cases hu
theorem numF_some {n : Nat} (h : F n ≠ none) : F n = some (numF F n) := by
  unfold numF
  cases e : F n with
  | none => exact absurd e h
  | some v => rfl
theorem Asc.mono (A : Asc F) {m n : Nat} (hm : 1 ≤ m) (le : m ≤ n) (h : F n ≠ none) : numF F m ≤ numF F n := by
  obtain ⟨d, rfl⟩ : ∃ d, n = m + d := ⟨n - m, by omega⟩
  obtain ⟨u, hu, le2⟩ := A.below hm (numF_some h)
  have : numF F m = u := by unfold numF; rw [hu]; rfl
  rw [this]
  exact le2
theorem Asc.nonneg (A : Asc F) {n : Nat} (hn : 1 ≤ n) (h : F n ≠ none) : 0 ≤ numF F n := A.ge n _ hn (numF_some h)
/-- those that are counts -/
theorem cnt_ex (A : Asc F) (N : Nat) : ∃ M, M ≤ N ∧ (seg F 0 N).filterMap id = segN F 0 M ∧ (∀ n, 1 ≤ n → n ≤ M → F n ≠ none) ∧ (∀ n, M < n → n ≤ N → F n = none) := by
  induction N with
  | zero => exact ⟨0, Nat.le_refl _, rfl, fun n h1 h2 => by omega, fun n h1 h2 => by omega⟩
  | succ N ih =>
    obtain ⟨M, hM, e, s, z⟩ := ih
    cases h : F (N + 1) with
    | none =>
      refine ⟨M, by omega, ?_, s, fun n h1 h2 => ?_⟩
      · rw [seg_succ, List.filterMap_append, e, show 0 + N + 1 = N + 1 by omega, h]
        simp
      · by_cases c : n ≤ N
        · exact z n h1 c
        · rw [show n = N + 1 by omega, h]
    | some v =>
      have hall : M = N := by
        rcases Nat.lt_or_ge M N with c | c
        · have := z (M + 1) (by omega) (by omega)
          have := A.none_up (by omega) this (show M + 1 ≤ N + 1 by omega)
          rw [h] at this
          cases this
        · omega
      subst hall
      refine ⟨M + 1, Nat.le_refl _, ?_, fun n h1 h2 => ?_, fun n h1 h2 => by omega⟩
      · rw [seg_succ, List.filterMap_append, e, segN_succ, show 0 + M + 1 = M + 1 by omega, h]
        unfold numF
        rw [h]
        rfl
      · by_cases c : n ≤ M
        · exact s n h1 c
        · rw [show n = M + 1 by omega, h]
          exact fun y => by cases y
theorem ended (A : Asc F) {M : Nat} (s : ∀ n, 1 ≤ n → n ≤ M → F n ≠ none) : Good (segN F 0 M) [] 0 := by
  refine ⟨climbs_of (fun i hi => ?_) (fun i hi => ?_), trivial, fun _ z => absurd rfl z, Int.le_refl _, fun _ => rfl, fun z => absurd rfl z⟩
  · rw [segN_len] at hi
    rw [segN_get hi]
    exact A.nonneg (by omega) (s _ (by omega) (by omega))
  · rw [segN_len] at hi
    rw [segN_get (by omega), segN_get hi]
    exact A.mono (by omega) (by omega) (s _ (by omega) (by omega))
theorem at_ended {M : Nat} (s : ∀ n, 1 ≤ n → n ≤ M → F n ≠ none) (z : ∀ n, M < n → F n = none) {n : Nat} (hn : 1 ≤ n) : at_ (segN F 0 M) [] 0 n = F n := by
  unfold at_
  rw [segN_len]
  by_cases c : n ≤ M
  · rw [if_pos c, segN_get (by omega), show 0 + (n - 1) + 1 = n by omega]
    exact (numF_some (s n hn c)).symm
  · rw [if_neg c, if_pos rfl]
    exact (z n (by omega)).symm
theorem per_num {N m : Nat} {c : Int} (p : ∀ n, N < n → numF F (n + m) = numF F n + c) (i j : Nat) : numF F (N + 1 + i + m * j) = numF F (N + 1 + i) + c * (j : Int) := by
  induction j with
  | zero => simp
  | succ j ih =>
    have e : N + 1 + i + m * (j + 1) = (N + 1 + i + m * j) + m := by rw [Nat.mul_succ]; omega
    rw [e, p _ (by omega), ih, Int.natCast_succ, Int.mul_add]
    omega
theorem looped (A : Asc F) {N m : Nat} {c : Int} (hm : 0 < m) (s : ∀ n, 1 ≤ n → F n ≠ none) (p : ∀ n, N < n → numF F (n + m) = numF F n + c) :
    Good (segN F 0 N) (segN F N m) c ∧ ∀ n, 1 ≤ n → at_ (segN F 0 N) (segN F N m) c n = F n := by
  have hl : segN F N m ≠ [] := fun z => by
    have := congrArg List.length z
    rw [segN_len] at this
    simp at this
    omega
  refine ⟨⟨climbs_of (fun i hi => ?_) (fun i hi => ?_), climbs_of (fun i hi => ?_) (fun i hi => ?_), fun h1 _ => ?_, ?_, fun z => absurd z hl, fun _ => ?_⟩, fun n hn => ?_⟩
  · rw [segN_len] at hi
    rw [segN_get hi]
    exact A.nonneg (by omega) (s _ (by omega))
  · rw [segN_len] at hi
    rw [segN_get (by omega), segN_get hi]
    exact A.mono (by omega) (by omega) (s _ (by omega))
  · rw [segN_len] at hi
    rw [segN_get hi]
    exact A.nonneg (by omega) (s _ (by omega))
  · rw [segN_len] at hi
    rw [segN_get (by omega), segN_get hi]
    exact A.mono (by omega) (by omega) (s _ (by omega))
  · have : 0 < N := by
      rcases Nat.eq_zero_or_pos N with z | z
      · subst z; exact absurd rfl h1
      · exact z
    rw [segN_len, segN_get (by omega), segN_get hm]
    exact A.mono (by omega) (by omega) (s _ (by omega))
  · have e := p (N + 1) (by omega)
    have := A.mono (m := N + 1) (n := N + 1 + m) (by omega) (by omega) (s _ (by omega))
    omega
  · rw [segN_len, segN_get (by omega), segN_get hm]
    have e := p (N + 0 + 1) (by omega)
    have := A.mono (m := N + (m - 1) + 1) (n := N + 0 + 1 + m) (by omega) (by omega) (s _ (by omega))
    omega
  · by_cases q : n ≤ N
    · unfold at_
      rw [segN_len, if_pos q, segN_get (by omega), show 0 + (n - 1) + 1 = n by omega]
      exact (numF_some (s n hn)).symm
    · rw [at_loop hl (by rw [segN_len]; omega), segN_len, numF_some (s n hn)]
      congr 1
      unfold walk
      rw [segN_len, segN_get (Nat.mod_lt _ hm)]
      have e := per_num p ((n - N - 1) % m) ((n - N - 1) / m)
      have e2 : N + 1 + (n - N - 1) % m + m * ((n - N - 1) / m) = n := by
        have := Nat.mod_add_div (n - N - 1) m
        omega
      rw [e2] at e
      rw [e, show N + (n - N - 1) % m + 1 = N + 1 + (n - N - 1) % m by omega]
/-- how the program tells a table that comes to an end -/
def settled (vs : List (Option Int)) : Option Int → List Int × List Int × Int
  | none => (vs.filterMap id, [], 0)
  | some v => if (vs.filterMap id).length < vs.length then (vs.filterMap id, [], 0) else (vs.filterMap id, [v], 0)
theorem settled_ok (A : Asc F) {N : Nat} {t : Option Int} (ht : ∀ n, N < n → F n = t) :
    Good (settled (seg F 0 N) t).1 (settled (seg F 0 N) t).2.1 (settled (seg F 0 N) t).2.2 ∧ (∀ n, 1 ≤ n → at_ (settled (seg F 0 N) t).1 (settled (seg F 0 N) t).2.1 (settled (seg F 0 N) t).2.2 n = F n) ∧
      (settled (seg F 0 N) t).1.length ≤ N ∧ (settled (seg F 0 N) t).2.1.length ≤ 1 := by
  obtain ⟨M, hM, e, s, z⟩ := cnt_ex A N
  have short : M < N ∨ t = none → Good (segN F 0 M) [] 0 ∧ (∀ n, 1 ≤ n → at_ (segN F 0 M) [] 0 n = F n) ∧ (segN F 0 M).length ≤ N ∧ ([] : List Int).length ≤ 1 := fun h => by
    refine ⟨ended A s, fun n hn => at_ended s (fun k hk => ?_) hn, by rw [segN_len]; exact hM, Nat.zero_le _⟩
    rcases h with h | h
    · exact A.none_up (m := M + 1) (by omega) (z (M + 1) (by omega) (by omega)) (by omega)
    · by_cases c : k ≤ N
      · exact z k hk c
      · rw [ht k (by omega), h]
  unfold settled
  cases t with
  | none =>
    dsimp only
    rw [e]
    exact short (.inr rfl)
  | some v =>
    dsimp only
    rw [e, seg_len, segN_len]
    by_cases c : M < N
    · rw [if_pos c]
      exact short (.inl c)
    · rw [if_neg c]
      have hMN : M = N := by omega
      subst hMN
      have sall : ∀ n, 1 ≤ n → F n ≠ none := fun n hn => by
        by_cases q : n ≤ M
        · exact s n hn q
        · rw [ht n (by omega)]
          exact fun y => by cases y
      have el : segN F M 1 = [v] := by
        unfold segN
        show [numF F (M + 0 + 1)] = [v]
        unfold numF
        rw [ht _ (by omega)]
        rfl
      have g := looped A (N := M) (m := 1) (c := 0) (by decide) sall (fun n hn => by
        unfold numF
        rw [ht n hn, ht (n + 1) (by omega)]
        simp)
      rw [el] at g
      exact ⟨g.1, g.2, by rw [segN_len]; exact Nat.le_refl _, Nat.le_refl _⟩
/-! ### a table's own values -/
section
variable {h l : List Int} {r : Int}
theorem asc_at (g : Good h l r) : Asc (at_ h l r) := by
  have some_of : ∀ n v, at_ h l r n = some v → n ≤ h.length ∨ l ≠ [] := fun n v e => by
    by_cases c : n ≤ h.length
    · exact .inl c
    · refine .inr fun z => ?_
      unfold at_ at e
      rw [if_neg c, if_pos z] at e
      cases e
  refine ⟨fun n v hn e => ?_, fun n v hn e => ?_⟩
  · have := num_ge g n hn
    unfold num at this
    rw [e] at this
    exact this
  · have c := some_of _ _ e
    have e1 := at_some (h := h) (l := l) (r := r) n (c.imp (fun q => by omega) id)
    refine ⟨_, e1, ?_⟩
    have := num_up g n hn c
    have e2 : num h l r (n + 1) = v := by unfold num; rw [e]; rfl
    omega
theorem good_of (A : Asc (at_ h l r)) (r0 : 0 ≤ r) (rl : l = [] → r = 0) : Good h l r := by
  have ah : ∀ i, i < h.length → at_ h l r (i + 1) = some (h.getD i 0) := fun i hi => by
    unfold at_
    rw [if_pos (by omega), Nat.add_sub_cancel]
  have al : ∀ i, i < l.length → at_ h l r (h.length + i + 1) = some (l.getD i 0) := fun i hi => by
    have hl : l ≠ [] := fun z => by rw [z] at hi; simp at hi
    rw [at_loop hl (by omega), show h.length + i + 1 - h.length - 1 = i by omega, walk_lt hi]
  refine ⟨climbs_of (fun i hi => A.ge _ _ (by omega) (ah i hi)) (fun i hi => ?_), climbs_of (fun i hi => A.ge _ _ (by omega) (al i hi)) (fun i hi => ?_), fun h1 h2 => ?_, r0, rl, fun hl => ?_⟩
  · obtain ⟨u, hu, le⟩ := A.up _ _ (by omega) (ah (i + 1) hi)
    rw [ah i (by omega)] at hu
    injection hu with hu
    omega
  · obtain ⟨u, hu, le⟩ := A.up _ _ (by omega) (al (i + 1) hi)
    rw [show h.length + (i + 1) = h.length + i + 1 by omega, al i (by omega)] at hu
    injection hu with hu
    omega
  · have h0 := len_pos h1
    obtain ⟨u, hu, le⟩ := A.up _ _ (by omega) (al 0 (len_pos h2))
    have := ah (h.length - 1) (by omega)
    rw [show h.length - 1 + 1 = h.length by omega] at this
    rw [this] at hu
    injection hu with hu
    omega
  · have l0 := len_pos hl
    have e : at_ h l r (h.length + (l.length - 1) + 1 + 1) = some (l.getD 0 0 + r) := by
      rw [at_loop hl (by omega), show h.length + (l.length - 1) + 1 + 1 - h.length - 1 = 0 + l.length by omega, walk_add l0, walk_lt l0]
    obtain ⟨u, hu, le⟩ := A.up _ _ (by omega) e
    rw [al (l.length - 1) (by omega)] at hu
    injection hu with hu
    omega
theorem at_fin (g : Good h l r) (c : l = [] ∨ r = 0) {n : Nat} (hn : h.length < n) : at_ h l r n = fin_ l r := by
  unfold fin_
  by_cases hl : l = []
  · rw [if_pos (.inl hl)]
    unfold at_
    rw [if_neg (by omega), if_pos hl]
  · have hr := c.resolve_left hl
    rw [if_neg (fun z => z.elim hl fun z => by omega), at_loop hl hn]
    have l0 := len_pos hl
    congr 1
    unfold walk
    rw [hr, Int.zero_mul, Int.add_zero]
    have hi := Nat.mod_lt (n - h.length - 1) l0
    generalize (n - h.length - 1) % l.length = i at hi
    have up : ∀ i d, i + d < l.length → l.getD i 0 ≤ l.getD (i + d) 0 := fun i d => by
      induction d with
      | zero => exact fun _ => Int.le_refl _
      | succ d ih => exact fun q => Int.le_trans (ih (by omega)) (climbs_up g.lp q)
    have e1 := up 0 i (by omega)
    have e2 := up i (l.length - 1 - i) (by omega)
    rw [Nat.zero_add] at e1
    rw [show i + (l.length - 1 - i) = l.length - 1 by omega] at e2
    have := g.last hl
    omega
theorem val_mono (g : Good h l r) {a b : Nat} (le : a ≤ b) {v : Int} (e : val_ h l r (some b) = some v) : ∃ u, val_ h l r (some a) = some u ∧ u ≤ v ∧ 0 ≤ u := by
  have A := asc_at g
  unfold val_ at e ⊢
  dsimp only at e ⊢
  by_cases ha : a = 0
  · rw [if_pos ha]
    refine ⟨0, rfl, ?_, Int.le_refl _⟩
    by_cases hb : b = 0
    · rw [if_pos hb] at e
      injection e with e
      omega
    · rw [if_neg hb] at e
      exact A.ge _ _ (by omega) e
  · rw [if_neg ha]
    rw [if_neg (by omega)] at e
    obtain ⟨d, rfl⟩ : ∃ d, b = a + d := ⟨b - a, by omega⟩
    obtain ⟨u, hu, le2⟩ := A.below (by omega) e
    exact ⟨u, hu, le2, A.ge _ _ (by omega) hu⟩
theorem val_fin (g : Good h l r) {v : Int} (e : fin_ l r = some v) (a : Nat) : ∃ u, val_ h l r (some a) = some u ∧ u ≤ v ∧ 0 ≤ u := by
  have c : l = [] ∨ r = 0 := by
    unfold fin_ at e
    by_cases q : l = [] ∨ 0 < r
    · rw [if_pos q] at e
      cases e
    · have := g.r0
      right
      have : ¬ 0 < r := fun z => q (.inr z)
      omega
  refine val_mono g (b := a + h.length + 1) (by omega) ?_
  unfold val_
  dsimp only
  rw [if_neg (by omega), at_fin g c (by omega), e]
end
/-! ### the values of one table at the values of another one -/
section
variable {h1 l1 h2 l2 : List Int} {r1 r2 : Int}
def beh (h1 l1 : List Int) (r1 : Int) (h2 l2 : List Int) (r2 : Int) (n : Nat) : Option Int := val_ h1 l1 r1 ((at_ h2 l2 r2 n).map Int.toNat)
theorem beh_asc (g1 : Good h1 l1 r1) (g2 : Good h2 l2 r2) : Asc (beh h1 l1 r1 h2 l2 r2) := by
  have A := asc_at g2
  refine ⟨fun n v hn e => ?_, fun n v hn e => ?_⟩
  · unfold beh at e
    cases q : at_ h2 l2 r2 n with
    | none =>
      rw [q] at e
      obtain ⟨u, _, h, h'⟩ := val_fin g1 e 0
      omega
    | some k =>
      rw [q] at e
      obtain ⟨u, h0, _, h⟩ := val_mono g1 (Nat.le_refl _) e
      have : some u = some v := h0.symm.trans e
      injection this with this
      omega
  · unfold beh at e ⊢
    cases q : at_ h2 l2 r2 (n + 1) with
    | none =>
      rw [q] at e
      cases q2 : at_ h2 l2 r2 n with
      | none => exact ⟨v, e, Int.le_refl _⟩
      | some k =>
        obtain ⟨u, h0, h, _⟩ := val_fin g1 e k.toNat
        exact ⟨u, h0, h⟩
    | some k =>
      rw [q] at e
      obtain ⟨j, hj, le⟩ := A.up n k hn q
      rw [hj]
      obtain ⟨u, h0, h, _⟩ := val_mono g1 (show j.toNat ≤ k.toNat by omega) e
      exact ⟨u, h0, h⟩
theorem beh_end (g2 : Good h2 l2 r2) (c : l2 = [] ∨ r2 = 0) {n : Nat} (hn : h2.length < n) : beh h1 l1 r1 h2 l2 r2 n = val_ h1 l1 r1 ((fin_ l2 r2).map Int.toNat) := by
  unfold beh
  rw [at_fin g2 c hn]
theorem beh_far {n : Nat} {v : Int} (e : at_ h2 l2 r2 n = some v) (hv : (h1.length : Int) < v) : beh h1 l1 r1 h2 l2 r2 n = at_ h1 l1 r1 v.toNat := by
  unfold beh
  rw [e]
  show val_ h1 l1 r1 (some v.toNat) = _
  unfold val_
  dsimp only
  rw [if_neg (by omega)]
theorem beh_flat (g1 : Good h1 l1 r1) (c : l1 = [] ∨ r1 = 0) {n : Nat} {v : Int} (e : at_ h2 l2 r2 n = some v) (hv : (h1.length : Int) < v) : beh h1 l1 r1 h2 l2 r2 n = fin_ l1 r1 := by
  rw [beh_far e hv, at_fin g1 c (by omega)]
theorem beh_some (n1 : l1 ≠ []) (n2 : l2 ≠ []) (n : Nat) : beh h1 l1 r1 h2 l2 r2 n ≠ none := by
  unfold beh
  rw [at_some n (.inr n2)]
  show val_ h1 l1 r1 (some _) ≠ none
  unfold val_
  dsimp only
  by_cases c : (num h2 l2 r2 n).toNat = 0
  · rw [if_pos c]
    exact fun z => by cases z
  · rw [if_neg c, at_some _ (.inr n1)]
    exact fun z => by cases z
theorem beh_per (n1 : l1 ≠ []) (n2 : l2 ≠ []) {lead q : Nat} {rq gg : Nat} (hq : l1.length = gg * q) (hr : r2 = ((gg * rq : Nat) : Int)) (hl : h2.length ≤ lead) (far : ∀ n, lead < n → ∃ v, at_ h2 l2 r2 n = some v ∧ (h1.length : Int) < v) (n : Nat) (hn : lead < n) :
    numF (beh h1 l1 r1 h2 l2 r2) (n + l2.length * q) = numF (beh h1 l1 r1 h2 l2 r2) n + r1 * (rq : Int) := by
  obtain ⟨v, hv, lv⟩ := far n hn
  obtain ⟨v', hv', lv'⟩ := far (n + l2.length * q) (by omega)
  have e : v' = v + (l1.length : Int) * (rq : Int) := by
    have a := at_loop n2 (r := r2) (h := h2) (n := n) (by omega)
    have b := at_loop n2 (r := r2) (h := h2) (n := n + l2.length * q) (by omega)
    rw [hv] at a
    rw [hv', show n + l2.length * q - h2.length - 1 = (n - h2.length - 1) + l2.length * q by omega, walk_add_mul (len_pos n2)] at b
    injection a with a
    injection b with b
    rw [b, a, hr, hq, Int.natCast_mul, Int.natCast_mul, Int.mul_assoc, Int.mul_assoc, Int.mul_comm (rq : Int) (q : Int)]
  unfold numF
  rw [beh_far hv lv, beh_far hv' lv', at_loop n1 (by omega), at_loop n1 (by omega)]
  show walk l1 r1 _ = walk l1 r1 _ + _
  have e3 : v'.toNat - h1.length - 1 = (v.toNat - h1.length - 1) + l1.length * rq := by
    have : (l1.length : Int) * (rq : Int) = ((l1.length * rq : Nat) : Int) := (Int.natCast_mul _ _).symm
    omega
  rw [e3, walk_add_mul (len_pos n1)]
end
end NT
namespace NT
section
variable {h l : List Int} {r : Int}
theorem at_bound {B R : Int} (hh : ∀ i, i < h.length → h.getD i 0 ≤ B) (hl : ∀ i, i < l.length → l.getD i 0 ≤ B) (r0 : 0 ≤ r) (hr : r ≤ R) (R0 : 0 ≤ R) {n : Nat} (hn : 1 ≤ n) {v : Int} (e : at_ h l r n = some v) : v ≤ B + R * (n : Int) := by
  have Rn : 0 ≤ R * (n : Int) := Int.mul_nonneg R0 (by omega)
  unfold at_ at e
  by_cases c : n ≤ h.length
  · rw [if_pos c] at e
    injection e with e
    have := hh (n - 1) (by omega)
    omega
  · rw [if_neg c] at e
    by_cases z : l = []
    · rw [if_pos z] at e
      cases e
    · rw [if_neg z] at e
      injection e with e
      unfold walk at e
      have a := hl ((n - h.length - 1) % l.length) (Nat.mod_lt _ (len_pos z))
      have b : (n - h.length - 1) / l.length ≤ n := Nat.le_trans (Nat.div_le_self _ _) (by omega)
      have c1 : r * (((n - h.length - 1) / l.length : Nat) : Int) ≤ R * (n : Int) := Int.mul_le_mul hr (Int.ofNat_le.mpr b) (Int.natCast_nonneg _) R0
      omega
/-- all that a form names is less than a bound -/
structure Few (x : List Int × List Int × Int) (B : Int) : Prop where
  v : ∀ n v, 1 ≤ n → n ≤ x.1.length + x.2.1.length → at_ x.1 x.2.1 x.2.2 n = some v → 0 ≤ v ∧ v < B
  r0 : 0 ≤ x.2.2
  r1 : x.2.2 < B
theorem plain_at {x : List Int × List Int × Int} (p : IsPlain h l r x) (n : Nat) (hn : 1 ≤ n) : at_ x.1 x.2.1 x.2.2 n = at_ h l r n := by
  rcases p with ⟨rfl, rfl⟩ | ⟨_, _, _, _, e⟩
  · rfl
  · exact e n hn
theorem plain_few {x : List Int × List Int × Int} {B : Int} (p : IsPlain h l r x) (f : Few (h, l, r) B) : Few x B := by
  have z := plain_size p
  refine ⟨fun n v hn h2 e => f.v n v hn ?_ ((plain_at p n hn).symm.trans e), (z.2.2.2.2.1 f.r0).1, Int.lt_of_le_of_lt (z.2.2.2.2.1 f.r0).2 f.r1⟩
  have := z.1
  have := z.2.1
  dsimp only
  omega
theorem few_head {x : List Int × List Int × Int} {B : Int} (f : Few x B) {i : Nat} (hi : i < x.1.length) : 0 ≤ x.1.getD i 0 ∧ x.1.getD i 0 < B := by
  refine f.v (i + 1) _ (by omega) (by omega) ?_
  unfold at_
  rw [if_pos (by omega), Nat.add_sub_cancel]
theorem few_loop {x : List Int × List Int × Int} {B : Int} (f : Few x B) {i : Nat} (hi : i < x.2.1.length) : 0 ≤ x.2.1.getD i 0 ∧ x.2.1.getD i 0 < B := by
  refine f.v (x.1.length + i + 1) _ (by omega) (by omega) ?_
  rw [at_loop (fun z => by rw [z] at hi; simp at hi) (by omega), show x.1.length + i + 1 - x.1.length - 1 = i by omega, walk_lt hi]
theorem plain_fin {x : List Int × List Int × Int} (g : Good h l r) (p : IsPlain h l r x) : Good x.1 x.2.1 x.2.2 ∧ fin_ x.2.1 x.2.2 = fin_ l r := by
  have z := plain_size p
  have gx : Good x.1 x.2.1 x.2.2 := by
    refine good_of ?_ (z.2.2.2.2.1 g.r0).1 fun hl => ?_
    · have A := asc_at g
      refine ⟨fun n v hn e => A.ge n v hn ((plain_at p n hn).symm.trans e), fun n v hn e => ?_⟩
      obtain ⟨u, hu, le⟩ := A.up n v hn ((plain_at p (n + 1) (by omega)).symm.trans e)
      exact ⟨u, (plain_at p n hn).trans hu, le⟩
    · by_cases q : l = []
      · rw [z.2.2.2.2.2.2 q]
      · exact absurd hl (z.2.2.1 q)
  refine ⟨gx, ?_⟩
  by_cases q : l = []
  · have hx := z.2.2.2.1 q
    unfold fin_
    rw [if_pos (.inl hx), if_pos (.inl q)]
  · have hx := z.2.2.1 q
    have hr := z.2.2.2.2.2.1 q
    by_cases q2 : 0 < r
    · unfold fin_
      rw [if_pos (.inr (hr.mp q2)), if_pos (.inr q2)]
    · have r0 : r = 0 := by have := g.r0; omega
      have rx : x.2.2 = 0 := by
        have := gx.r0
        have : ¬ 0 < x.2.2 := fun y => q2 (hr.mpr y)
        omega
      rw [← at_fin gx (.inr rx) (n := x.1.length + h.length + 1) (by omega), ← at_fin g (.inr r0) (n := x.1.length + h.length + 1) (by omega)]
      exact plain_at p _ (by omega)
theorem val_plain {x : List Int × List Int × Int} (g : Good h l r) (p : IsPlain h l r x) (n : Option Nat) : val_ x.1 x.2.1 x.2.2 n = val_ h l r n := by
  unfold val_
  cases n with
  | none => exact (plain_fin g p).2
  | some n =>
    dsimp only
    by_cases c : n = 0
    · rw [if_pos c, if_pos c]
    · rw [if_neg c, if_neg c]
      exact plain_at p n (by omega)
end
theorem beh_plain {h1 l1 h2 l2 : List Int} {r1 r2 : Int} {x y : List Int × List Int × Int} (g1 : Good h1 l1 r1) (p1 : IsPlain h1 l1 r1 x) (p2 : IsPlain h2 l2 r2 y) (n : Nat) (hn : 1 ≤ n) : beh x.1 x.2.1 x.2.2 y.1 y.2.1 y.2.2 n = beh h1 l1 r1 h2 l2 r2 n := by
  unfold beh
  rw [plain_at p2 n hn, val_plain g1 p1]
/-- what is not after a place at which a bound is passed -/
theorem far_of {h l : List Int} {r : Int} (g : Good h l r) (hl : l ≠ []) {lead : Nat} {lim : Int} (e : lim < num h l r (lead + 1)) (n : Nat) (hn : lead < n) : ∃ v, at_ h l r n = some v ∧ lim < v := by
  refine ⟨_, at_some n (.inr hl), ?_⟩
  have := (asc_at g).mono (m := lead + 1) (n := n) (by omega) (by omega) (by rw [at_some n (.inr hl)]; exact fun z => by cases z)
  exact Int.lt_of_lt_of_le e this
end NT
set_option Elab.async false
set_option linter.all false
set_option maxRecDepth 100000
set_option maxHeartbeats 4000000
/-! A comprehension with two fors: the outer one, the inner one. -/
namespace NF
open PySem PySem.Spec PyProof.Rows L2
theorem pi_tupK {X : Cx} {K : PySem.W.Frag} {tg l : Expr} {tl : TE} (hl : PE X l tl) (h : X.K = K := by rfl) : PI X tg l (iTup K tl) := h ▸ pi_tup hl
theorem pi_listK {X : Cx} {K : PySem.W.Frag} {tg l : Expr} {tl : TE} (hl : PE X l tl) (h : X.K = K := by rfl) : PI X tg l (iList K tl) := h ▸ pi_list hl
theorem pe_fldK {X : Cx} {K : PySem.W.Frag} {e : Expr} {f : Str} {pos : Pos} {ta : TE} (he : PE X e ta) (hb : attributeBase e f X.env (eval e X.env) = eval e X.env) (h : X.K = K := by rfl) : PE X (.Attribute e f pos) (tFld K ta f) := h ▸ pe_fld he hb
theorem lc2_range {lo : Int} {n : Nat} {g g1 : TG} {tt tt1 : TT} {wi1 : TI} {te : TE} {vs vs1 : List Nat} {σ : L2.St} {H1 : Hp} {D : Addr} {Qd : Hp → Prop} (Pv : Nat → Hp → Prop) (h0 : Pv 0 (upd H1 D (.lst [])))
    (hs : ∀ i H, i < n → Pv i H → g (.int (lo + i)) (wipe σ vs) H fun σ2 H2 => wipe σ2 vs = wipe σ vs ∧ tt σ2 H2 fun b H3 =>
      if b = true then wi1 σ2 H3 fun J1 H4 => ∃ W1 : Nat → Nat → Hp → Prop, (∃ m, W1 0 m H4) ∧ ∀ j k H, W1 j k H →
        (J1.stop j H ∧ Pv (i + 1) H) ∨ (J1.go j H ∧ ∃ Nx1 : Hp → Prop, (∀ H', Nx1 H' → ∃ k', k' < k ∧ W1 (j + 1) k' H') ∧ ∀ x H', J1.yld j H x H' → g1 x (wipe σ2 vs1) H' fun σ3 H5 => wipe σ3 vs1 = wipe σ2 vs1 ∧ tt1 σ3 H5 fun b H6 =>
          if b = true then te σ3 H6 fun y H7 => ∃ acc, H7 D = some (.lst acc) ∧ acc.length < sizeLine ∧ Nx1 (upd H7 D (.lst (acc ++ [y]))) else Nx1 H6)
      else Pv (i + 1) H3) (hd : ∀ H, Pv n H → Qd H) :
    ∃ W : Nat → Nat → Hp → Prop, (∃ m, W 0 m (upd H1 D (.lst []))) ∧ ∀ i m H, W i m H →
      ((Itr lo n).stop i H ∧ Qd H) ∨ ((Itr lo n).go i H ∧ ∃ Nx : Hp → Prop, (∀ H', Nx H' → ∃ m', m' < m ∧ W (i + 1) m' H') ∧ ∀ x H', (Itr lo n).yld i H x H' → g x (wipe σ vs) H' fun σ2 H2 => wipe σ2 vs = wipe σ vs ∧ tt σ2 H2 fun b H3 =>
        if b = true then wi1 σ2 H3 fun J1 H4 => ∃ W1 : Nat → Nat → Hp → Prop, (∃ m, W1 0 m H4) ∧ ∀ j k H, W1 j k H →
          (J1.stop j H ∧ Nx H) ∨ (J1.go j H ∧ ∃ Nx1 : Hp → Prop, (∀ H', Nx1 H' → ∃ k', k' < k ∧ W1 (j + 1) k' H') ∧ ∀ x H', J1.yld j H x H' → g1 x (wipe σ2 vs1) H' fun σ3 H5 => wipe σ3 vs1 = wipe σ2 vs1 ∧ tt1 σ3 H5 fun b H6 =>
            if b = true then te σ3 H6 fun y H7 => ∃ acc, H7 D = some (.lst acc) ∧ acc.length < sizeLine ∧ Nx1 (upd H7 D (.lst (acc ++ [y]))) else Nx1 H6)
        else Nx H3) := by
  refine ⟨fun i m H => m = n - i ∧ i ≤ n ∧ Pv i H, ⟨n, by simp, Nat.zero_le _, h0⟩, ?_⟩
  rintro i m H ⟨rfl, hi, p⟩
  by_cases hlt : i < n
  · refine .inr ⟨hlt, Pv (i + 1), fun H' p' => ⟨n - (i + 1), by omega, rfl, hlt, p'⟩, fun x H' y => ?_⟩
    obtain ⟨e, y⟩ := y
    subst e y
    exact hs i _ hlt p
  · have e : i = n := by omega
    subst e
    exact .inl ⟨Nat.le_refl _, hd H p⟩
theorem in_it {J : It} {n : Nat} {G : Hp → Prop} {Y : Nat → Hp → V → Hp → Prop} (w : Walk J n G Y) {g : TG} {tt : TT} {te : TE} {vs : List Nat} {σ : L2.St} {H4 : Hp} {D : Addr} {Qd : Hp → Prop} (Pv : Nat → Hp → Prop) (h0 : Pv 0 H4) (hG : ∀ i H, i ≤ n → Pv i H → G H)
    (hs : ∀ i x H H', i < n → Pv i H → Y i H x H' → g x (wipe σ vs) H' fun σ2 H2 => wipe σ2 vs = wipe σ vs ∧ tt σ2 H2 fun b H3 =>
      if b = true then te σ2 H3 fun y H4 => ∃ acc, H4 D = some (.lst acc) ∧ acc.length < sizeLine ∧ Pv (i + 1) (upd H4 D (.lst (acc ++ [y]))) else Pv (i + 1) H3) (hd : ∀ H, Pv n H → Qd H) :
    ∃ W : Nat → Nat → Hp → Prop, (∃ m, W 0 m H4) ∧ ∀ i m H, W i m H →
      (J.stop i H ∧ Qd H) ∨ (J.go i H ∧ ∃ Nx : Hp → Prop, (∀ H', Nx H' → ∃ m', m' < m ∧ W (i + 1) m' H') ∧ ∀ x H', J.yld i H x H' → g x (wipe σ vs) H' fun σ2 H2 => wipe σ2 vs = wipe σ vs ∧ tt σ2 H2 fun b H3 =>
        if b = true then te σ2 H3 fun y H4 => ∃ acc, H4 D = some (.lst acc) ∧ acc.length < sizeLine ∧ Nx (upd H4 D (.lst (acc ++ [y]))) else Nx H3) := by
  refine ⟨fun i m H => m = n - i ∧ i ≤ n ∧ Pv i H, ⟨n, by simp, Nat.zero_le _, h0⟩, ?_⟩
  rintro i m H ⟨rfl, hi, p⟩
  have q := hG i H hi p
  by_cases hlt : i < n
  · exact .inr ⟨w.goes i H hlt q, Pv (i + 1), fun H' p' => ⟨n - (i + 1), by omega, rfl, hlt, p'⟩, fun x H' y => hs i x H H' hlt p (w.yields i H x H' hlt q y)⟩
  · have e : i = n := by omega
    subst e
    exact .inl ⟨w.stops H q, hd H p⟩
end NF
set_option Elab.async false
set_option linter.all false
set_option maxRecDepth 100000
set_option maxHeartbeats 4000000
namespace NF
open PySem PySem.Spec PyProof.Rows L2 He RZ NT
theorem cut_nm {xs : List V} {a b : Nat} : cutV xs (some (a : Int)) (some (b : Int)) = (xs.drop a).take (b - a) := by
  unfold cutV
  rw [HT.sIx_nat, HT.sIx_nat]
  by_cases ha : a ≤ xs.length
  · rw [Nat.min_eq_left ha]
    by_cases hb : b ≤ xs.length
    · rw [Nat.min_eq_left hb]
    · rw [Nat.min_eq_right (show xs.length ≤ b by omega), List.take_of_length_le (by rw [List.length_drop]; omega), List.take_of_length_le (by rw [List.length_drop]; omega)]
  · rw [Nat.min_eq_right (show xs.length ≤ a by omega), List.drop_of_length_le (Nat.le_refl _), List.drop_of_length_le (show xs.length ≤ a by omega)]
    simp
end NF
namespace NT
theorem segN_add {F : Nat → Option Int} {s a b : Nat} : segN F s (a + b) = segN F s a ++ segN F (s + a) b := by
  induction b with
  | zero => simp [segN]
  | succ b ih => rw [← Nat.add_assoc, segN_succ, ih, segN_succ, List.append_assoc, show s + (a + b) + 1 = s + a + b + 1 by omega]
theorem seg_head {h l : List Int} {r : Int} {s a : Nat} (le : s + a ≤ h.length) : (h.drop s).take a = segN (at_ h l r) s a := by
  refine List.ext_getElem (by rw [List.length_take, List.length_drop, segN_len]; omega) fun i h1 h2 => ?_
  rw [segN_len] at h2
  have e := segN_get (F := at_ h l r) (a := s) h2
  rw [List.getD_eq_getElem?_getD, List.getElem?_eq_getElem (by rw [segN_len]; exact h2)] at e
  refine Eq.trans ?_ (show _ = (segN (at_ h l r) s a)[i]'(by rw [segN_len]; exact h2) from e.symm)
  rw [List.getElem_take, List.getElem_drop]
  unfold numF at_
  rw [if_pos (by omega), show s + i + 1 - 1 = s + i by omega, List.getD_eq_getElem?_getD, List.getElem?_eq_getElem (show s + i < h.length by omega)]
  rfl
def wlk (l : List Int) (r : Int) (b n : Nat) : List Int := (List.range n).map fun t => walk l r (b + t)
theorem wlk_len {l : List Int} {r : Int} {b n : Nat} : (wlk l r b n).length = n := by unfold wlk; rw [List.length_map, List.length_range]
theorem wlk_succ {l : List Int} {r : Int} {b n : Nat} : wlk l r b (n + 1) = wlk l r b n ++ [walk l r (b + n)] := by
  unfold wlk
  rw [List.range_succ, List.map_append]
  rfl
theorem seg_loop {h l : List Int} {r : Int} {s b : Nat} (hl : l ≠ []) (le : h.length ≤ s) : segN (at_ h l r) s b = wlk l r (s - h.length) b := by
  induction b with
  | zero => rfl
  | succ b ih =>
    rw [segN_succ, wlk_succ, ih]
    congr 2
    unfold numF
    rw [at_loop hl (by omega), show s + b + 1 - h.length - 1 = s - h.length + b by omega]
    rfl
theorem wlk_cut {l : List Int} {r : Int} {b n a m : Nat} (le : a + m ≤ n) : ((wlk l r b n).drop a).take m = wlk l r (b + a) m := by
  refine List.ext_getElem (by rw [List.length_take, List.length_drop, wlk_len, wlk_len]; omega) fun i h1 h2 => ?_
  rw [wlk_len] at h2
  have g : ∀ (b n i : Nat) (hi : i < n), (wlk l r b n)[i]'(by rw [wlk_len]; exact hi) = walk l r (b + i) := fun b n i hi => by simp [wlk]
  rw [List.getElem_take, List.getElem_drop, g _ _ _ (by omega), g _ _ _ h2, Nat.add_assoc]
end NT
namespace K05
open PySem PySem.Spec PyProof.Rows L2 He NF RZ NT
/-- the values of a table with a loop, from a place on -/
def spFrom (K : PySem.W.Frag) (C : Addr) : Sp := fun vs H Q _ => ∃ (x : Addr) (y : List Int × List Int × Int) (s m : Nat), vs = [.ref x, .int ((s + 1 : Nat) : Int), .int (m : Int)] ∧ TabAt K C H x y ∧ (y.2.1 ≠ [] ∨ s + m ≤ y.1.length) ∧ 0 ≤ y.2.2 ∧ y.2.2 ≤ 1000000 ∧ y.1.length ≤ 10000 ∧ y.2.1.length ≤ 10000 ∧ s ≤ 10000 ∧ m ≤ 10000 ∧
  ∀ q H', Same H H' → H' q = some (.lst (vI (segN (at_ y.1 y.2.1 y.2.2) s m))) → Q (.ref q) H'
theorem sc_values_from : FnScope ["table", "start", "many", "found", "rest", "laps", "turned", "lap", "at", "k", "entry"] ["table", "start", "many"] (defScope s_values_from) := ⟨rfl, rfl, rfl, by decide +kernel, rfl, by decide +kernel, by decide +kernel⟩
section
variable {P : Program} {w : World} {K : PySem.W.Frag} {mg : Str → Option Value} {base : Heap} {gs fs : List Str} {C : Addr}
theorem ok_values_from {f : Addr} {fd : FuncData} (F : FunD K "values_from" "values_from" (defArgs s_values_from) (defBody s_values_from) (defScope s_values_from) [] [] f fd) (T : Txt K mg gs FS) (tc : TabC K C) : FnOk P w K mg base CX0 2 f fd ["table", "start", "many"] (spFrom K C) := by
  refine F.ok sc_values_from (fun vs H Q E h => ?_) (fun cdv A outer s H vs Q E hr h => ?_)
  · obtain ⟨x, y, s, m, rfl, _⟩ := h
    rfl
  · obtain ⟨x, ⟨h, l, r⟩, s0, m, rfl, ⟨dx, a, b, hx, ha, hb⟩, hlm, r0, r1, lh, ll, ls, lm, q⟩ := h
    dsimp only at hx ha hb hlm r0 r1 lh ll q
    refine ⟨_, PSs.nox (pss_cons (ps_set (i := 3) sc_values_from.nd rfl (Or.inl rfl) (pe_callTy call_list_of rfl (T.fr _ (by decide +kernel)) (by decide +kernel) (pa_cons (pe_slice sl_tupA (pe_fld (pv 0) rfl) (po_some (pe_op op_sub (pv 1) pe_int)) (po_some (pe_op op_add (pe_op op_sub (pv 1) pe_int) (pv 2)))) pa_nil))) (pss_cons (ps_set (i := 4) sc_values_from.nd rfl (Or.inl rfl) (pe_op op_sub (pv 2) (pe_callB call_len_seq rfl (T.fr _ (by decide +kernel)) boot_len (pa_cons (pv 3) pa_nil)))) (pss_cons (ps_if (pt_cmpR op_eq (pv 4) pe_int (nomark _)) (pss_one (ps_ret (pv 3))) pss_nil) (pss_cons (ps_if (pt_not (pt_truth (pe_fld (pv 0) rfl) (fun _ => rfl))) (pss_one (ps_ret (pe_op op_cat (pv 3) (pe_op op_rep (pe_lst (pa_cons pe_non pa_nil)) (pv 4))))) pss_nil) (pss_cons (ps_asg (pe_callB call_divmod rfl (T.fr _ (by decide +kernel)) (by decide +kernel) (pa_cons (pe_op op_sub (pe_op op_sub (pe_op op_add (pv 1) (pe_callB call_len_seq rfl (T.fr _ (by decide +kernel)) boot_len (pa_cons (pv 3) pa_nil))) (pe_callB call_len_seq rfl (T.fr _ (by decide +kernel)) boot_len (pa_cons (pe_fld (pv 0) rfl) pa_nil))) pe_int) (pa_cons (pe_callB call_len_seq rfl (T.fr _ (by decide +kernel)) boot_len (pa_cons (pe_fld (pv 0) rfl) pa_nil)) pa_nil))) (pgt (K := K) (n := 2) rfl rfl (pgs_cons (pg_name (i := 7) sc_values_from.nd rfl (Or.inl rfl)) (pgs_cons (pg_name (i := 8) sc_values_from.nd rfl (Or.inl rfl)) pgs_nil)))) (pss_cons (ps_set (i := 5) sc_values_from.nd rfl (Or.inl rfl) (pe_op op_add (pe_op op_fdiv (pe_op op_sub (pe_op op_add (pv 8) (pv 4)) pe_int) (pe_callB call_len_seq rfl (T.fr _ (by decide +kernel)) boot_len (pa_cons (pe_fld (pv 0) rfl) pa_nil))) pe_int)) (pss_cons (ps_setLc2 (i := 6) (own := [("k", 9), ("entry", 10)]) (vs1 := [10]) rfl sc_values_from.nd rfl rfl (sw_true rfl rfl rfl (by decide +kernel)) (pi_range2 rfl (T.fr _ (by decide +kernel)) (pa_cons (pv 7) (pa_cons (pe_op op_add (pv 7) (pv 5)) pa_nil))) (blkOk_by (N := ["table", "start", "many", "found", "rest", "laps", "turned", "lap", "at", "k", "entry"]) (sc := defScope s_values_from) (by decide +kernel)) (by decide) (fun _ _ _ _ _ => by exact (pg_name (i := 9) sc_values_from.nd rfl (Or.inl rfl))) (fun _ _ _ _ _ => by exact pts_nil) (fun _ _ _ _ _ => by exact (pi_tupK (K := K) (pe_fldK (K := K) (pv 0) rfl))) (fun _ _ _ _ _ => by exact (pg_name (i := 10) sc_values_from.nd rfl (Or.inl rfl))) (fun _ _ _ _ _ => by exact pts_nil) (fun _ _ _ _ _ => by exact (pe_op op_add (pv 10) (pe_op op_mul (pv 9) (pe_fldK (K := K) (pv 0) rfl))))) (pss_one (ps_ret (pe_op op_cat (pv 3) (pe_slice sl_list (pv 6) (po_some (pv 8)) (po_some (pe_op op_add (pv 8) (pv 4)))))))))))))), ?_⟩
    refine ⟨_, rfl, x, C, dx, _, _, rfl, hx, tc.cl, tc.hd, rfl, _, rfl, _, _, rfl, rfl, _, rfl, _, rfl, _, _, rfl, rfl, _, rfl, _, _, rfl, rfl, _, rfl, ?_⟩
    refine slA_done (K := K) ha fun p1 H1 s1 t1 => ?_
    have e1 : ((s0 + 1 : Nat) : Int) - 1 = (s0 : Int) := by omega
    have e2 : (s0 : Int) + (m : Int) = ((s0 + m : Nat) : Int) := by omega
    rw [e1, e2, cut_nm, vI_drop, vI_take, show s0 + m - s0 = m by omega] at t1
    obtain ⟨u, hu⟩ : ∃ u, u = min m (h.length - s0) := ⟨_, rfl⟩
    have ef : (h.drop s0).take m = segN (at_ h l r) s0 u := by
      by_cases c : s0 ≤ h.length
      · rw [← seg_head (show s0 + u ≤ h.length by omega)]
        rw [List.take_eq_take_iff.mpr]
        rw [List.length_drop]
        omega
      · rw [List.drop_of_length_le (by omega), show u = 0 by omega]
        simp [segN]
    rw [ef] at t1
    refine ⟨p1, _, rfl, Or.inr t1, fun q1 hq1 => ?_⟩
    have s2 : Same H (upd H1 q1 (.lst (vI (segN (at_ h l r) s0 u)))) := Same.trans s1 (NF.Same.new (Same.refl H1) hq1)
    have hq2 : (upd H1 q1 (.lst (vI (segN (at_ h l r) s0 u)))) q1 = some (.lst (vI (segN (at_ h l r) s0 u))) := upd_same
    generalize upd H1 q1 (.lst (vI (segN (at_ h l r) s0 u))) = H2 at s2 hq2
    have hx2 := s2 _ _ hx
    have ha2 := NF.Same.tup s2 ha
    have hb2 := NF.Same.tup s2 hb
    refine ⟨_, rfl, _, rfl, q1, _, rfl, Or.inl (SqL.of hq2), ?_⟩
    rw [vI_len, segN_len]
    refine ⟨_, _, rfl, rfl, ?_⟩
    obtain ⟨rest, hrest⟩ : ∃ rest, rest = m - u := ⟨_, rfl⟩
    have erest : (m : Int) - (u : Int) = (rest : Int) := by omega
    show gName 4 (V.int ((m : Int) - (u : Int))) _ _ _
    rw [erest]
    refine ⟨_, rfl, rfl, _, rfl, ite2 (fun h1 => ?_) (fun h1 => ?_)⟩
    · have h2 : u = m := by
        have := of_decide_eq_true h1
        injection this with this
        omega
      subst h2
      exact ⟨_, rfl, q q1 H2 s2 hq2⟩
    have hum : u < m := by
      have : rest ≠ 0 := fun z => h1 (decide_eq_true (by rw [z]; rfl))
      omega
    have hs0 : h.length ≤ s0 + u := by omega
    have hl : l ≠ [] := hlm.resolve_right (by omega)
    have l0 := len_pos hl
    refine ⟨_, rfl, x, C, dx, _, _, rfl, hx2, tc.cl, tc.lp, rfl, _, tru_tup hb2, ?_⟩
    rw [ne_nil hl]
    refine iteF ?_
    refine ⟨_, rfl, _, rfl, q1, _, rfl, Or.inl (SqL.of hq2), _, _, rfl, rfl, ?_⟩
    rw [vI_len, segN_len]
    refine ⟨_, rfl, x, C, dx, _, _, rfl, hx2, tc.cl, tc.hd, rfl, a, _, rfl, Or.inr ha2, _, _, rfl, rfl, _, _, rfl, rfl, ?_⟩
    refine ⟨_, rfl, x, C, dx, _, _, rfl, hx2, tc.cl, tc.lp, rfl, b, _, rfl, Or.inr hb2, ?_⟩
    rw [vI_len, vI_len]
    obtain ⟨d, hd⟩ : ∃ d, d = s0 + u - h.length := ⟨_, rfl⟩
    have ed : ((s0 + 1 : Nat) : Int) + (u : Int) - (h.length : Int) - 1 = (d : Int) := by omega
    refine ⟨_, _, rfl, ⟨by omega, by omega⟩, fun p hpn => ?_⟩
    have s3 := Same.trans s2 (NF.Same.new (o := .tup [V.int ((((s0 + 1 : Nat) : Int) + (u : Int) - (h.length : Int) - 1) / (l.length : Int)), V.int ((((s0 + 1 : Nat) : Int) + (u : Int) - (h.length : Int) - 1) % (l.length : Int))]) (Same.refl H2) hpn)
    have hx3 := s3 _ _ hx
    have hb3 := NF.Same.tup s3 hb
    have hq3 := (NF.Same.new (o := .tup [V.int ((((s0 + 1 : Nat) : Int) + (u : Int) - (h.length : Int) - 1) / (l.length : Int)), V.int ((((s0 + 1 : Nat) : Int) + (u : Int) - (h.length : Int) - 1) % (l.length : Int))]) (Same.refl H2) hpn) _ _ hq2
    refine ⟨p, _, rfl, SqT.of upd_same, rfl, _, _, rfl, ?_⟩
    refine ⟨_, _, rfl, ?_⟩
    refine ⟨rfl, ?_⟩
    rw [ed] at s3 hq3 hx3 hb3 ⊢
    generalize upd H2 p (.tup [V.int ((d : Int) / (l.length : Int)), V.int ((d : Int) % (l.length : Int))]) = G0 at s3 hq3 hx3 hb3
    have ea : (d : Int) % (l.length : Int) = ((d % l.length : Nat) : Int) := rfl
    have el : (d : Int) / (l.length : Int) = ((d / l.length : Nat) : Int) := rfl
    rw [ea, el]
    have at_lt := Nat.mod_lt d l0
    have dle : d / l.length ≤ d := Nat.div_le_self _ _
    have dme := Nat.mod_add_div d l.length
    generalize hat : d % l.length = at' at *
    generalize hlap : d / l.length = lap at *
    obtain ⟨laps, hlaps⟩ : ∃ laps, laps = (at' + rest - 1) / l.length + 1 := ⟨_, rfl⟩
    have lapsle : laps ≤ 30000 := by
      have : (at' + rest - 1) / l.length ≤ at' + rest - 1 := Nat.div_le_self _ _
      omega
    have elaps : ((at' : Int) + (rest : Int) - 1) / (l.length : Int) + 1 = (laps : Int) := by
      have : (at' : Int) + (rest : Int) - 1 = ((at' + rest - 1 : Nat) : Int) := by omega
      rw [this, hlaps]
      rfl
    have enough : at' + rest ≤ laps * l.length := by
      have e := Nat.mod_add_div (at' + rest - 1) l.length
      have lt := Nat.mod_lt (at' + rest - 1) l0
      have : laps * l.length = l.length * ((at' + rest - 1) / l.length) + l.length := by rw [hlaps, Nat.add_mul, Nat.mul_comm, Nat.one_mul]
      omega
    refine ⟨_, rfl, _, rfl, _, _, rfl, rfl, _, _, rfl, rfl, _, rfl, x, C, dx, _, _, rfl, hx3, tc.cl, tc.lp, rfl, b, _, rfl, Or.inr hb3, ?_⟩
    rw [vI_len]
    refine ⟨_, _, rfl, rfl, ⟨by omega, by omega⟩, _, _, rfl, rfl, ?_⟩
    show gName 5 (V.int (((at' : Int) + (rest : Int) - 1) / (l.length : Int) + 1)) _ _ _
    rw [elaps]
    refine ⟨_, rfl, _, rfl, _, rfl, _, _, rfl, rfl, _, _, rfl, ⟨by omega, by omega, by omega, by omega⟩, fun D hD => ?_⟩
    have en : ((lap : Int) + (laps : Int) - (lap : Int)).toNat = laps := by omega
    rw [en]
    refine lc2_range (lo := (lap : Int)) (n := laps) (fun i G => Same G0 G ∧ G D = some (.lst (vI (wlk l r (lap * l.length) (i * l.length))))) ⟨NF.Same.new (Same.refl _) hD, by rw [upd_same, Nat.zero_mul]; rfl⟩ ?_ ?_
    · rintro i G hi ⟨hG, hD2⟩
      refine ⟨rfl, _, rfl, x, C, dx, _, _, rfl, hG _ _ hx3, tc.cl, tc.lp, rfl, b, rfl, ⟨_, NF.Same.tup hG hb3⟩, ?_⟩
      refine in_it (walk_tup (xs := vI l)) (fun j G' => Same G0 G' ∧ G' D = some (.lst (vI (wlk l r (lap * l.length) (i * l.length + j))))) ⟨hG, hD2⟩ (fun j G' _ z => NF.Same.tup z.1 hb3) ?_ ?_
      · rintro j v G' G'' hj ⟨hG', hD'⟩ ⟨rfl, hv⟩
        rw [vI_len] at hj
        obtain rfl : v = V.int (l.getD j 0) := by
          rw [List.getElem?_map, List.getElem?_eq_getElem hj] at hv
          rw [List.getD_eq_getElem?_getD, List.getElem?_eq_getElem hj]
          exact (Option.some.inj hv).symm
        refine ⟨rfl, _, rfl, _, rfl, _, rfl, x, C, dx, _, _, rfl, hG' _ _ hx3, tc.cl, tc.ri, rfl, _, _, rfl, rfl, Or.inr ⟨by omega, by omega⟩, _, _, rfl, rfl, _, hD', ?_, NF.Same.mut hG' hD, ?_⟩
        · rw [vI_len, wlk_len]
          have : i * l.length ≤ (at' + rest - 1) / l.length * l.length := Nat.mul_le_mul_right _ (by omega)
          have : (at' + rest - 1) / l.length * l.length ≤ at' + rest - 1 := Nat.div_mul_le_self _ _
          exact Nat.lt_of_le_of_lt (show i * l.length + j ≤ 40000 by omega) (by decide)
        · have ev : l.getD j 0 + ((lap : Int) + (i : Int)) * r = walk l r (lap * l.length + (i * l.length + j)) := by
            have : lap * l.length + (i * l.length + j) = j + l.length * (lap + i) := by rw [Nat.mul_add, Nat.mul_comm lap, Nat.mul_comm i]; omega
            rw [this, walk_add_mul l0, walk_lt hj, Int.natCast_add, Int.mul_comm r]
          rw [upd_same, ← Nat.add_assoc, wlk_succ, ← vI_app, ← ev]
          rfl
      · rintro G' ⟨hG', hD'⟩
        rw [vI_len] at hD'
        exact ⟨hG', by rw [hD', Nat.add_mul, Nat.one_mul]⟩
    · rintro G ⟨hG, hD2⟩
      refine ⟨_, rfl, _, rfl, _, rfl, _, rfl, _, rfl, _, rfl, _, _, rfl, rfl, _, rfl, D, _, rfl, SqL.of hD2, fun p2 hp2 => ?_⟩
      have e3 : (at' : Int) + (rest : Int) = ((at' + rest : Nat) : Int) := by omega
      rw [e3, cut_nm, vI_drop, vI_take, show at' + rest - at' = rest by omega, wlk_cut enough]
      have s5 : Same G0 (upd G p2 (.lst (vI (wlk l r (lap * l.length + at') rest)))) := Same.trans hG (NF.Same.new (Same.refl G) hp2)
      refine ⟨q1, p2, _, _, rfl, rfl, s5 _ _ hq3, upd_same, ?_, fun q2 hq2' => ?_⟩
      · rw [vI_len, vI_len, segN_len, wlk_len]
        exact Nat.le_trans (show u + rest ≤ 20000 by omega) (by decide)
      · refine q q2 _ (Same.trans s3 (Same.trans s5 (NF.Same.new (Same.refl _) hq2'))) ?_
        rw [upd_same, vI_app, show m = u + rest by omega, segN_add, seg_loop hl hs0, ← hd, ← dme, Nat.mul_comm l.length lap, Nat.add_comm at']
end
end K05
set_option Elab.async false
set_option linter.all false
set_option maxRecDepth 100000
set_option maxHeartbeats 4000000
namespace K05
open PySem PySem.Spec PyProof.Rows L2 He NF RZ NT
def spMany (K : PySem.W.Frag) : Sp := fun vs H Q _ => ∃ (a : Addr) (c : List Int) (lo lim : Int), vs = [.ref a, .int lim] ∧ SqT K H a (vI c) ∧ climbs lo c ∧ c.length ≤ 10000 ∧
  ∀ (n : Nat) H', n ≤ c.length → (∀ i, i < n → c.getD i 0 ≤ lim) → (∀ i, n ≤ i → i < c.length → lim < c.getD i 0) → Same H H' → Q (.int (n : Int)) H'
/-- the last place with a value of at most so much, of a table that goes on to rise -/
def spLast (K : PySem.W.Frag) (C : Addr) : Sp := fun vs H Q _ => ∃ (x : Addr) (y : List Int × List Int × Int) (lim : Nat), vs = [.ref x, .int (lim : Int)] ∧ TabAt K C H x y ∧ Good y.1 y.2.1 y.2.2 ∧ y.2.1 ≠ [] ∧ 0 < y.2.2 ∧ y.2.2 ≤ 1000000 ∧ y.1.length ≤ 1000 ∧ y.2.1.length ≤ 20 ∧ lim ≤ 1000 ∧
  ∀ (n : Nat) H', n ≤ y.1.length + (lim + 1) * y.2.1.length → ((lim : Int) < num y.1 y.2.1 y.2.2 (max y.1.length n + 1)) → Same H H' → Q (.int (n : Int)) H'
theorem sc_many_at_most : FnScope ["climb", "limit", "low", "high", "middle"] ["climb", "limit"] (defScope s_many_at_most) := ⟨rfl, rfl, rfl, by decide +kernel, rfl, by decide +kernel, by decide +kernel⟩
theorem sc_last_at_most : FnScope ["table", "limit", "many", "lap", "rest"] ["table", "limit"] (defScope s_last_at_most) := ⟨rfl, rfl, rfl, by decide +kernel, rfl, by decide +kernel, by decide +kernel⟩
theorem climbs_all {c : List Int} {lo : Int} (h : climbs lo c) {i j : Nat} (le : i ≤ j) (hj : j < c.length) : c.getD i 0 ≤ c.getD j 0 := by
  obtain ⟨d, rfl⟩ : ∃ d, j = i + d := ⟨j - i, by omega⟩
  induction d with
  | zero => exact Int.le_refl _
  | succ d ih => exact Int.le_trans (ih (by omega) (by omega)) (climbs_up h hj)
section
variable {P : Program} {w : World} {K : PySem.W.Frag} {mg : Str → Option Value} {base : Heap} {gs fs : List Str} {C : Addr}
theorem ok_many_at_most {f : Addr} {fd : FuncData} (F : FunD K "many_at_most" "many_at_most" (defArgs s_many_at_most) (defBody s_many_at_most) (defScope s_many_at_most) [] [] f fd) (T : Txt K mg gs FS) : FnOk P w K mg base CX0 1 f fd ["climb", "limit"] (spMany K) := by
  refine F.ok sc_many_at_most (fun vs H Q E h => ?_) (fun cdv A outer s H vs Q E hr h => ?_)
  · obtain ⟨a, c, lo, lim, rfl, _⟩ := h
    rfl
  · obtain ⟨a, c, lo, lim, rfl, ha, hc, hl, q⟩ := h
    refine ⟨_, PSs.nox (pss_cons (ps_set (i := 2) sc_many_at_most.nd rfl (Or.inl rfl) pe_int) (pss_cons (ps_set (i := 3) sc_many_at_most.nd rfl (Or.inl rfl) (pe_callB call_len_seq rfl (T.fr _ (by decide +kernel)) boot_len (pa_cons (pv 0) pa_nil))) (pss_cons (ps_while PassesOwn.never (pt_cmpR op_lt (pv 2) (pv 3) (nomark _)) (pss_cons (ps_set (i := 4) sc_many_at_most.nd rfl (Or.inl rfl) (pe_op op_fdiv (pe_op op_add (pv 2) (pv 3)) pe_int)) (pss_one (ps_if (pt_cmpR op_le (pe_ix (ixt (K := K)) (pv 0) (pv 4) fun _ _ => rfl) (pv 1) (nomark _)) (pss_one (ps_set (i := 2) sc_many_at_most.nd rfl (Or.inl rfl) (pe_op op_add (pv 4) pe_int))) (pss_one (ps_set (i := 3) sc_many_at_most.nd rfl (Or.inl rfl) (pv 4))))))) (pss_one (ps_ret (pv 2)))))), ?_⟩
    refine ⟨_, rfl, a, _, rfl, Or.inr ha, ?_⟩
    rw [vI_len]
    refine ⟨fun k σ G => Same H G ∧ ∃ (i j : Nat) (m : Option V), k = j - i ∧ i ≤ j ∧ j ≤ c.length ∧ (∀ t, t < i → c.getD t 0 ≤ lim) ∧ (∀ t, j ≤ t → t < c.length → lim < c.getD t 0) ∧ σ = [some (.ref a), some (.int lim), some (.int (i : Int)), some (.int (j : Int)), m], ⟨c.length, Same.refl H, 0, c.length, none, by omega, Nat.zero_le _, Nat.le_refl _, fun t z => by omega, fun t z1 z2 => by omega, rfl⟩, ?_⟩
    rintro k σ G ⟨s1, i, j, m, rfl, hij, hj, lo1, hi1, rfl⟩
    refine ⟨_, rfl, _, rfl, _, _, rfl, rfl, _, rfl, ite2 (fun h1 => ?_) (fun h1 => ?_)⟩
    · have lt : i < j := by
        have := of_decide_eq_true h1
        omega
      have em : ((i : Int) + (j : Int)) / 2 = (((i + j) / 2 : Nat) : Int) := by omega
      have hmid : (i + j) / 2 < c.length := by omega
      refine ⟨fun σ' G' => G' = G ∧ ((c.getD ((i + j) / 2) 0 ≤ lim ∧ σ' = [some (.ref a), some (.int lim), some (.int (((i + j) / 2 + 1 : Nat) : Int)), some (.int (j : Int)), some (.int (((i + j) / 2 : Nat) : Int))]) ∨ (lim < c.getD ((i + j) / 2) 0 ∧ σ' = [some (.ref a), some (.int lim), some (.int (i : Int)), some (.int (((i + j) / 2 : Nat) : Int)), some (.int (((i + j) / 2 : Nat) : Int))])), fun σ' G' z => ?_, ?_⟩
      · obtain ⟨rfl, z⟩ := z
        rcases z with ⟨z1, rfl⟩ | ⟨z1, rfl⟩
        · exact ⟨j - ((i + j) / 2 + 1), by omega, s1, _, _, _, rfl, by omega, hj, fun t ht => Int.le_trans (climbs_all hc (show t ≤ (i + j) / 2 by omega) hmid) z1, hi1, rfl⟩
        · exact ⟨(i + j) / 2 - i, by omega, s1, _, _, _, rfl, by omega, by omega, lo1, fun t h1 h2 => Int.lt_of_lt_of_le z1 (climbs_all hc h1 h2), rfl⟩
      · refine ⟨_, rfl, _, rfl, _, _, rfl, rfl, _, _, rfl, rfl, ⟨by omega, by omega⟩, ?_⟩
        show gName 4 (V.int (((i : Int) + (j : Int)) / 2)) _ _ _
        rw [em]
        refine ⟨_, rfl, _, rfl, a, _, _, _, rfl, rfl, NF.Same.tup s1 ha, at_int rfl hmid, _, rfl, _, _, rfl, rfl, _, rfl, ite2 (fun h2 => ?_) (fun h2 => ?_)⟩
        · exact ⟨_, rfl, _, _, rfl, rfl, rfl, .inl ⟨of_decide_eq_true h2, rfl⟩⟩
        · refine ⟨_, rfl, rfl, .inr ⟨?_, rfl⟩⟩
          have : ¬ c.getD ((i + j) / 2) 0 ≤ lim := fun z => h2 (decide_eq_true z)
          omega
    · have e : i = j := by
        have : ¬ (i : Int) < (j : Int) := fun z => h1 (decide_eq_true z)
        omega
      subst e
      exact ⟨_, rfl, q i _ hj lo1 hi1 s1⟩
theorem last_far {h l : List Int} {r : Int} (g : Good h l r) (hl : l ≠ []) (hr : 0 < r) {lim : Int} (h0 : l.getD 0 0 ≤ lim) {n2 : Nat} (hn : n2 ≤ l.length) (hi : ∀ i, n2 ≤ i → i < l.length → l.getD 0 0 + (lim - l.getD 0 0) % r < l.getD i 0) :
    lim < num h l r (h.length + ((lim - l.getD 0 0) / r).toNat * l.length + n2 + 1) := by
  have l0 := len_pos hl
  have d0 : 0 ≤ (lim - l.getD 0 0) / r := Int.ediv_nonneg (by omega) (by omega)
  have e := Int.mul_ediv_add_emod (lim - l.getD 0 0) r
  have m1 := Int.emod_lt_of_pos (lim - l.getD 0 0) hr
  generalize hq : (lim - l.getD 0 0) / r = q at *
  generalize hm : (lim - l.getD 0 0) % r = m at *
  obtain ⟨k, rfl⟩ : ∃ k : Nat, q = (k : Int) := ⟨q.toNat, by omega⟩
  unfold num
  rw [at_loop hl (by omega), show h.length + (k : Int).toNat * l.length + n2 + 1 - h.length - 1 = n2 + l.length * k by rw [Int.toNat_natCast, Nat.mul_comm]; omega, walk_add_mul l0]
  show lim < walk l r n2 + r * (k : Int)
  rcases Nat.lt_or_ge n2 l.length with c | c
  · rw [walk_lt c]
    have := hi n2 (Nat.le_refl _) c
    omega
  · have : n2 = 0 + l.length := by omega
    rw [this, walk_add l0, walk_lt l0]
    omega
theorem ok_last_at_most {f : Addr} {fd : FuncData} (F : FunD K "last_at_most" "last_at_most" (defArgs s_last_at_most) (defBody s_last_at_most) (defScope s_last_at_most) [] [] f fd) (T : Txt K mg gs FS) (tc : TabC K C) (c_many_at_most : Cal P w K mg base 1 "many_at_most" (spMany K)) : FnOk P w K mg base CX0 2 f fd ["table", "limit"] (spLast K C) := by
  refine F.ok sc_last_at_most (fun vs H Q E h => ?_) (fun cdv A outer s H vs Q E hr h => ?_)
  · obtain ⟨x, y, lim, rfl, _⟩ := h
    rfl
  · obtain ⟨x, ⟨h, l, r⟩, lim, rfl, ⟨dx, a, b, hx, ha, hb⟩, g, hl, r0, r1, lh, ll, llim, q⟩ := h
    dsimp only at hx ha hb g hl r0 r1 lh ll q
    have A := asc_at g
    have l0 := len_pos hl
    have sm : ∀ n, at_ h l r n ≠ none := fun n => by rw [at_some n (.inr hl)]; exact fun z => by cases z
    have e1 : num h l r (h.length + 1) = l.getD 0 0 := by
      unfold num
      rw [at_loop hl (by omega), show h.length + 1 - h.length - 1 = 0 by omega, walk_lt l0]
      rfl
    refine ⟨_, PSs.nox (pss_cons (ps_set (i := 2) sc_last_at_most.nd rfl (Or.inl rfl) (pe_c c_many_at_most hr (by decide) rfl (pa_cons (pe_fld (pv 0) rfl) (pa_cons (pv 1) pa_nil)))) (pss_cons (ps_if (PW.pt (pw_or (pt_cmpR op_lt (pv 2) (pe_callB call_len_seq rfl (T.fr _ (by decide +kernel)) boot_len (pa_cons (pe_fld (pv 0) rfl) pa_nil)) (nomark _)) (pw_or1 (pt_not (pt_truth (pe_fld (pv 0) rfl) (fun _ => rfl)))))) (pss_one (ps_ret (pv 2))) pss_nil) (pss_cons (ps_if (pt_cmpR op_lt (pv 1) (pe_ix (ixt (K := K)) (pe_fld (pv 0) rfl) pe_int fun _ _ => rfl) (nomark _)) (pss_one (ps_ret (pv 2))) pss_nil) (pss_cons (ps_if (pt_cmpR op_eq (pe_fld (pv 0) rfl) pe_int (nomark _)) (pss_one (ps_ret pe_non)) pss_nil) (pss_cons (ps_asg (pe_callB call_divmod rfl (T.fr _ (by decide +kernel)) (by decide +kernel) (pa_cons (pe_op op_sub (pv 1) (pe_ix (ixt (K := K)) (pe_fld (pv 0) rfl) pe_int fun _ _ => rfl)) (pa_cons (pe_fld (pv 0) rfl) pa_nil))) (pgt (K := K) (n := 2) rfl rfl (pgs_cons (pg_name (i := 3) sc_last_at_most.nd rfl (Or.inl rfl)) (pgs_cons (pg_name (i := 4) sc_last_at_most.nd rfl (Or.inl rfl)) pgs_nil)))) (pss_one (ps_ret (pe_op op_add (pe_op op_add (pv 2) (pe_op op_mul (pv 3) (pe_callB call_len_seq rfl (T.fr _ (by decide +kernel)) boot_len (pa_cons (pe_fld (pv 0) rfl) pa_nil)))) (pe_c c_many_at_most hr (by decide) rfl (pa_cons (pe_fld (pv 0) rfl) (pa_cons (pe_op op_add (pe_ix (ixt (K := K)) (pe_fld (pv 0) rfl) pe_int fun _ _ => rfl) (pv 4)) pa_nil))))))))))), ?_⟩
    refine ⟨_, rfl, x, C, dx, _, _, rfl, hx, tc.cl, tc.hd, rfl, _, rfl, a, h, 0, (lim : Int), rfl, ha, g.hd, by omega, fun n H1 hn lo1 hi1 s1 => ?_⟩
    have hx1 := s1 _ _ hx
    have ha1 := NF.Same.tup s1 ha
    have hb1 := NF.Same.tup s1 hb
    refine ⟨_, rfl, _, rfl, x, C, dx, _, _, rfl, hx1, tc.cl, tc.hd, rfl, a, _, rfl, Or.inr ha1, ?_⟩
    rw [vI_len]
    refine ⟨_, _, rfl, rfl, _, rfl, ?_⟩
    by_cases c : n < h.length
    · refine iteT' (decide_eq_true (by omega)) (iteT ?_)
      refine ⟨_, rfl, q n _ (by omega) ?_ s1⟩
      rw [Nat.max_eq_left (by omega), e1]
      exact Int.lt_of_lt_of_le (Int.lt_of_lt_of_le (hi1 n (Nat.le_refl _) c) (climbs_all g.hd (show n ≤ h.length - 1 by omega) (by omega))) (g.join (fun z => by rw [z] at c; simp at c) hl)
    have en : n = h.length := by omega
    subst en
    refine iteF' (decide_eq_false (by omega)) ?_
    refine ⟨_, rfl, x, C, dx, _, _, rfl, hx1, tc.cl, tc.lp, rfl, _, tru_tup hb1, ?_⟩
    rw [ne_nil hl]
    refine iteF ?_
    refine ⟨_, rfl, _, rfl, x, C, dx, _, _, rfl, hx1, tc.cl, tc.lp, rfl, b, _, _, _, rfl, rfl, hb1, at_int (k := 0) rfl l0, _, _, rfl, rfl, _, rfl, ite2 (fun h2 => ?_) (fun h2 => ?_)⟩
    · have h3 := of_decide_eq_true h2
      refine ⟨_, rfl, q h.length _ (by omega) ?_ s1⟩
      rw [Nat.max_self, e1]
      exact h3
    have h3 : l.getD 0 0 ≤ (lim : Int) := by
      have : ¬ (lim : Int) < l.getD 0 0 := fun z => h2 (decide_eq_true z)
      omega
    refine ⟨_, rfl, x, C, dx, _, _, rfl, hx1, tc.cl, tc.ri, rfl, rfl, _, rfl, iteF' (decide_eq_false fun z => ?_) ?_⟩
    · injection z with z
      omega
    have b0 : 0 ≤ l.getD 0 0 := climbs_lo g.lp l0
    refine ⟨_, rfl, _, rfl, x, C, dx, _, _, rfl, hx1, tc.cl, tc.lp, rfl, b, _, _, _, rfl, rfl, hb1, at_int (k := 0) rfl l0, _, _, rfl, rfl, ?_⟩
    refine ⟨_, rfl, x, C, dx, _, _, rfl, hx1, tc.cl, tc.ri, rfl, ?_⟩
    refine ⟨_, _, rfl, ⟨by omega, by omega⟩, fun p hpn => ?_⟩
    have s2 := Same.trans s1 (NF.Same.new (o := .tup [V.int (((lim : Int) - l.getD 0 0) / r), V.int (((lim : Int) - l.getD 0 0) % r)]) (Same.refl H1) hpn)
    have hx2 := s2 _ _ hx
    have hb2 := NF.Same.tup s2 hb
    refine ⟨p, _, rfl, SqT.of upd_same, rfl, _, _, rfl, ?_⟩
    refine ⟨_, _, rfl, ?_⟩
    refine ⟨rfl, ?_⟩
    have d0 : 0 ≤ ((lim : Int) - l.getD 0 0) / r := Int.ediv_nonneg (by omega) (by omega)
    have d1 : ((lim : Int) - l.getD 0 0) / r ≤ (lim : Int) := Int.le_trans (Int.ediv_le_self _ (by omega)) (by omega)
    refine ⟨_, rfl, _, rfl, _, rfl, x, C, dx, _, _, rfl, hx2, tc.cl, tc.lp, rfl, b, _, rfl, Or.inr hb2, ?_⟩
    rw [vI_len]
    refine ⟨_, _, rfl, rfl, Or.inr ⟨by omega, by omega⟩, _, _, rfl, rfl, ?_⟩
    refine ⟨_, rfl, x, C, dx, _, _, rfl, hx2, tc.cl, tc.lp, rfl, _, rfl, x, C, dx, _, _, rfl, hx2, tc.cl, tc.lp, rfl, b, _, _, _, rfl, rfl, hb2, at_int (k := 0) rfl l0, _, rfl, _, _, rfl, rfl, ?_⟩
    refine ⟨b, l, 0, _, rfl, hb2, g.lp, by omega, fun n2 H3 hn2 lo2 hi2 s3 => ?_⟩
    refine ⟨_, _, rfl, rfl, ?_⟩
    have far := last_far g hl r0 h3 hn2 hi2
    obtain ⟨k, hk⟩ : ∃ k : Nat, ((lim : Int) - l.getD 0 0) / r = (k : Int) := ⟨(((lim : Int) - l.getD 0 0) / r).toNat, by omega⟩
    rw [hk] at far
    rw [Int.toNat_natCast] at far
    have kl : k * l.length ≤ lim * l.length := Nat.mul_le_mul_right _ (by omega)
    have kl2 : (lim + 1) * l.length = lim * l.length + l.length := by rw [Nat.add_mul, Nat.one_mul]
    have := q (h.length + k * l.length + n2) H3 (by omega) (by rw [Nat.max_eq_right (by omega)]; exact far) (Same.trans s2 s3)
    show Q (V.int ((h.length : Int) + ((lim : Int) - l.getD 0 0) / r * (l.length : Int) + (n2 : Int))) H3
    rw [hk, ← Int.natCast_mul, ← Int.natCast_add, ← Int.natCast_add]
    exact this
end
end K05
set_option Elab.async false
set_option linter.all false
set_option maxRecDepth 100000
set_option maxHeartbeats 4000000
namespace NT
theorem seg_map {h1 l1 h2 l2 : List Int} {r1 r2 : Int} {s m : Nat} (c : ∀ k, k < m → at_ h2 l2 r2 (s + k + 1) ≠ none) : (segN (at_ h2 l2 r2) s m).map (fun i => val_ h1 l1 r1 (some i.toNat)) = seg (beh h1 l1 r1 h2 l2 r2) s m := by
  induction m with
  | zero => rfl
  | succ m ih =>
    rw [segN_succ, seg_succ, List.map_append, ih fun k hk => c k (by omega)]
    congr 1
    show [_] = [_]
    unfold beh
    rw [numF_some (c m (by omega))]
    rfl
theorem head_seg {h l : List Int} {r : Int} : h = segN (at_ h l r) 0 h.length := by
  rw [← seg_head (show 0 + h.length ≤ h.length by omega), List.drop_zero, List.take_length]
end NT
namespace K05
open PySem PySem.Spec PyProof.Rows L2 He NF RZ NT
/-- the values of a table at several places -/
def spBehV (K : PySem.W.Frag) (C : Addr) : Sp := fun vs H Q _ => ∃ (x pl : Addr) (y : List Int × List Int × Int) (c : List Int), vs = [.ref x, .ref pl] ∧ TabAt K C H x y ∧ Small y ∧ Row K H pl (vI c) ∧ (∀ i ∈ c, 0 ≤ i) ∧ c.length ≤ 20000 ∧
  ∀ q H', Same H H' → H' q = some (.lst ((c.map fun i => val_ y.1 y.2.1 y.2.2 (some i.toNat)).map vO)) → Q (.ref q) H'
def spSettled (K : PySem.W.Frag) : Sp := fun vs H Q _ => ∃ (a : Addr) (os : List (Option Int)) (t : Option Int), vs = [.ref a, vO t] ∧ SqL K H a (os.map vO) ∧ os.length ≤ 20000 ∧ ∀ p H', Same H H' → FormAt K H' p (settled os t) → Q (.ref p) H'
theorem sc_values_behind : FnScope ["table", "places", "n"] ["table", "places"] (defScope s_values_behind) := ⟨rfl, rfl, rfl, by decide +kernel, rfl, by decide +kernel, by decide +kernel⟩
theorem sc_settled_form : FnScope ["values", "tail", "counts", "value"] ["values", "tail"] (defScope s_settled_form) := ⟨rfl, rfl, rfl, by decide +kernel, rfl, by decide +kernel, by decide +kernel⟩
section
variable {P : Program} {w : World} {K : PySem.W.Frag} {mg : Str → Option Value} {base : Heap} {gs fs : List Str} {C : Addr}
theorem ok_values_behind {f : Addr} {fd : FuncData} (F : FunD K "values_behind" "values_behind" (defArgs s_values_behind) (defBody s_values_behind) (defScope s_values_behind) [] [] f fd) (T : Txt K mg gs FS) (c_value_at : Cal P w K mg base 2 "value_at" (spAt K C)) : FnOk P w K mg base CX0 3 f fd ["table", "places"] (spBehV K C) := by
  refine F.ok sc_values_behind (fun vs H Q E h => ?_) (fun cdv A outer s H vs Q E hr h => ?_)
  · obtain ⟨x, pl, y, c, rfl, _⟩ := h
    rfl
  · obtain ⟨x, pl, y, c, rfl, tb, sm, hr2, cn, cl, q⟩ := h
    refine ⟨_, PSs.nox (pss_one (ps_ret (pe_lc (own := [("n", 2)]) rfl sc_values_behind.nd (pi_row (pv 1)) (blkOk_by (N := ["table", "places", "n"]) (sc := defScope s_values_behind) (by decide +kernel)) (fun _ _ _ _ _ => by exact (pg_name (i := 2) sc_values_behind.nd rfl (Or.inl rfl))) (fun _ _ _ _ _ => by exact pts_nil) (fun _ _ _ _ _ => by exact (pe_c c_value_at hr (by decide) rfl (pa_cons (pv 0) (pa_cons (pv 2) pa_nil))))))), ?_⟩
    have Pv := fun (D : Addr) (j : Nat) (G : Hp) => Same H G ∧ G D = some (.lst (((c.take j).map fun i => val_ y.1 y.2.1 y.2.2 (some i.toNat)).map vO))
    have step : ∀ (D : Addr) (hD : H D = none) (j : Nat) (v : V) (G : Hp), (vI c)[j]? = some v → (Same H G ∧ G D = some (.lst (((c.take j).map fun i => val_ y.1 y.2.1 y.2.2 (some i.toNat)).map vO))) → ∃ (k : Nat), j < c.length ∧ v = vN (some k) ∧ ∀ G', Same G G' → G' D = some (.lst (((c.take j).map fun i => val_ y.1 y.2.1 y.2.2 (some i.toNat)).map vO)) ∧ (((c.take j).map fun i => val_ y.1 y.2.1 y.2.2 (some i.toNat)).map vO).length < sizeLine ∧ Same H (upd G' D (.lst ((((c.take j).map fun i => val_ y.1 y.2.1 y.2.2 (some i.toNat)).map vO) ++ [vO (val_ y.1 y.2.1 y.2.2 (some k))]))) ∧
        (upd G' D (.lst ((((c.take j).map fun i => val_ y.1 y.2.1 y.2.2 (some i.toNat)).map vO) ++ [vO (val_ y.1 y.2.1 y.2.2 (some k))]))) D = some (.lst (((c.take (j + 1)).map fun i => val_ y.1 y.2.1 y.2.2 (some i.toNat)).map vO)) := fun D hD j v G hv hG => by
      have hj := (List.getElem?_eq_some_iff.mp hv).1
      rw [vI_len] at hj
      obtain rfl : V.int (c[j]) = v := by
        rw [List.getElem?_map, List.getElem?_eq_getElem hj] at hv
        exact Option.some.inj hv
      have c0 := cn _ (List.getElem_mem hj)
      refine ⟨(c[j]).toNat, hj, congrArg V.int (show c[j] = ((c[j]).toNat : Int) by omega), fun G' s2 => ⟨s2 _ _ hG.2, ?_, NF.Same.mut (Same.trans hG.1 s2) hD, ?_⟩⟩
      · rw [List.length_map, List.length_map, List.length_take]
        exact Nat.lt_of_le_of_lt (show min j c.length ≤ 20000 by omega) (by decide)
      · rw [upd_same, List.take_add_one, List.getElem?_eq_getElem hj, List.map_append, List.map_append]
        rfl
    have fin : ∀ (D : Addr) (G : Hp), (Same H G ∧ G D = some (.lst (((c.take (vI c).length).map fun i => val_ y.1 y.2.1 y.2.2 (some i.toNat)).map vO))) → Q (.ref D) G := fun D G hG => by
      have := hG.2
      rw [vI_len, List.take_length] at this
      exact q D G hG.1 this
    rcases hr2 with ha | ha
    · refine ⟨_, rfl, pl, rfl, Or.inl ⟨⟨_, ha⟩, fun D hD => ?_⟩⟩
      refine lc_list (xs := vI c) (fun j G => Same H G ∧ G D = some (.lst (((c.take j).map fun i => val_ y.1 y.2.1 y.2.2 (some i.toNat)).map vO))) ⟨NF.Same.new (Same.refl H) hD, upd_same⟩ (fun i G _ z => L2.Same.seq z.1 ha) ?_ (fun G hG => fin D G hG)
      intro j v G hv hG
      obtain ⟨k, hj, rfl, nx⟩ := step D hD j v G hv hG
      refine ⟨rfl, _, rfl, _, rfl, x, y, some k, rfl, tb.mono hG.1, sm, fun G' s2 => ?_⟩
      obtain ⟨n1, n2, n3, n4⟩ := nx G' s2
      exact ⟨_, n1, n2, n3, n4⟩
    · refine ⟨_, rfl, pl, rfl, Or.inr ⟨⟨_, ha⟩, fun D hD => ?_⟩⟩
      refine lc_tup (xs := vI c) (fun j G => Same H G ∧ G D = some (.lst (((c.take j).map fun i => val_ y.1 y.2.1 y.2.2 (some i.toNat)).map vO))) ⟨NF.Same.new (Same.refl H) hD, upd_same⟩ (fun i G _ z => NF.Same.tup z.1 ha) ?_ (fun G hG => fin D G hG)
      intro j v G hv hG
      obtain ⟨k, hj, rfl, nx⟩ := step D hD j v G hv hG
      refine ⟨rfl, _, rfl, _, rfl, x, y, some k, rfl, tb.mono hG.1, sm, fun G' s2 => ?_⟩
      obtain ⟨n1, n2, n3, n4⟩ := nx G' s2
      exact ⟨_, n1, n2, n3, n4⟩
theorem ok_settled_form {f : Addr} {fd : FuncData} (F : FunD K "settled_form" "settled_form" (defArgs s_settled_form) (defBody s_settled_form) (defScope s_settled_form) [] [] f fd) (T : Txt K mg gs FS) : FnOk P w K mg base CX0 1 f fd ["values", "tail"] (spSettled K) := by
  refine F.ok sc_settled_form (fun vs H Q E h => ?_) (fun cdv A outer s H vs Q E hr h => ?_)
  · obtain ⟨a, os, t, rfl, _⟩ := h
    rfl
  · obtain ⟨a, os, t, rfl, ha, ol, q⟩ := h
    refine ⟨_, PSs.nox (pss_cons (ps_set (i := 2) sc_settled_form.nd rfl (Or.inl rfl) (pe_callTy cr_tup rfl (T.fr _ (by decide +kernel)) (by decide +kernel) (pa_cons (pe_lc (own := [("value", 3)]) rfl sc_settled_form.nd (pi_list (pv 0)) (blkOk_by (N := ["values", "tail", "counts", "value"]) (sc := defScope s_settled_form) (by decide +kernel)) (fun _ _ _ _ _ => by exact (pg_name (i := 3) sc_settled_form.nd rfl (Or.inl rfl))) (fun _ _ _ _ _ => by exact (pts_one (pt_cmpR op_notN (pv 3) pe_non (nomark _)))) (fun _ _ _ _ _ => by exact (pv 3))) pa_nil))) (pss_cons (ps_if (PW.pt (pw_or (pt_cmpR op_isN (pv 1) pe_non (nomark _)) (pw_or1 (pt_cmpR op_lt (pe_callB call_len_seq rfl (T.fr _ (by decide +kernel)) boot_len (pa_cons (pv 2) pa_nil)) (pe_callB call_len_seq rfl (T.fr _ (by decide +kernel)) boot_len (pa_cons (pv 0) pa_nil)) (nomark _))))) (pss_one (ps_ret (pe_tup (pa_cons (pv 2) (pa_cons (pe_tup pa_nil) (pa_cons pe_int pa_nil)))))) pss_nil) (pss_one (ps_ret (pe_tup (pa_cons (pv 2) (pa_cons (pe_tup (pa_cons (pv 1) pa_nil)) (pa_cons pe_int pa_nil)))))))), ?_⟩
    refine ⟨_, rfl, a, rfl, ⟨_, ha⟩, fun D hD => ?_⟩
    refine lc_list (xs := os.map vO) (fun j G => Same H G ∧ G D = some (.lst (vI ((os.take j).filterMap id)))) ⟨NF.Same.new (Same.refl H) hD, upd_same⟩ (fun i G _ z => L2.Same.seq z.1 ha) ?_ ?_
    · rintro j v G hv ⟨sG, hG⟩
      have hj := (List.getElem?_eq_some_iff.mp hv).1
      rw [List.length_map] at hj
      obtain rfl : vO (os[j]) = v := by
        rw [List.getElem?_map, List.getElem?_eq_getElem hj] at hv
        exact Option.some.inj hv
      have et : (os.take (j + 1)).filterMap id = (os.take j).filterMap id ++ [os[j]].filterMap id := by
        rw [List.take_add_one, List.getElem?_eq_getElem hj, List.filterMap_append]
        rfl
      cases ho : os[j] with
      | none =>
        rw [ho] at et
        refine ⟨rfl, _, rfl, rfl, _, rfl, ?_⟩
        refine ⟨sG, by rw [hG, et]; simp⟩
      | some i =>
        rw [ho] at et
        refine ⟨rfl, _, rfl, rfl, _, rfl, ?_⟩
        refine ⟨_, rfl, _, hG, ?_, NF.Same.mut sG hD, ?_⟩
        · rw [vI_len]
          have : ((os.take j).filterMap id).length ≤ (os.take j).length := List.length_filterMap_le _ _
          rw [List.length_take] at this
          exact Nat.lt_of_le_of_lt (show _ ≤ 20000 by omega) (by decide)
        · rw [upd_same, et, ← vI_app]
          rfl
    · rintro G ⟨sG, hG⟩
      rw [List.length_map, List.take_length] at hG
      refine ⟨D, _, rfl, Or.inl (SqL.of hG), fun p1 G1 s1 t1 => ?_⟩
      have sG1 : Same H G1 := Same.trans sG s1
      have done0 : ∀ (p2 p3 : Addr), G1 p2 = none → (upd G1 p2 (.tup [])) p3 = none → settled os t = (os.filterMap id, [], 0) → Q (.ref p3) (upd (upd G1 p2 (.tup [])) p3 (.tup [V.ref p1, V.ref p2, V.int 0])) := fun p2 p3 h2 h3 e => by
        have s2 := NF.Same.new (o := .tup []) (Same.refl G1) h2
        have s3 := NF.Same.new (o := .tup [V.ref p1, V.ref p2, V.int 0]) s2 h3
        refine q p3 _ (Same.trans sG1 s3) ?_
        rw [e]
        exact ⟨p1, p2, SqT.of upd_same, NF.Same.tup s3 t1, SqT.of (by rw [upd_ne (ne_of_none upd_same h3)]; exact upd_same)⟩
      cases t with
      | none =>
        refine ⟨_, rfl, rfl, _, rfl, iteT (iteT ?_)⟩
        exact ⟨_, rfl, (by show 0 ≤ sizeLine; decide), fun p2 h2 => ⟨(by show 3 ≤ sizeLine; decide), fun p3 h3 => done0 p2 p3 h2 h3 rfl⟩⟩
      | some v =>
        refine ⟨_, rfl, rfl, _, rfl, iteF ?_⟩
        refine ⟨_, rfl, p1, _, rfl, Or.inr t1, _, rfl, a, _, rfl, Or.inl (L2.Same.seq sG1 ha), ?_⟩
        rw [vI_len, List.length_map]
        refine ⟨_, _, rfl, rfl, _, rfl, ite2 (fun h1 => ?_) (fun h1 => ?_)⟩
        · have c : (os.filterMap id).length < os.length := by
            have := of_decide_eq_true h1
            omega
          exact ⟨_, rfl, (by show 0 ≤ sizeLine; decide), fun p2 h2 => ⟨(by show 3 ≤ sizeLine; decide), fun p3 h3 => done0 p2 p3 h2 h3 (if_pos c)⟩⟩
        · have c : ¬ (os.filterMap id).length < os.length := fun z => h1 (decide_eq_true (by omega))
          refine ⟨_, rfl, _, rfl, (by show 1 ≤ sizeLine; decide), fun p2 h2 => ⟨(by show 3 ≤ sizeLine; decide), fun p3 h3 => ?_⟩⟩
          have s2 := NF.Same.new (o := .tup [V.int v]) (Same.refl G1) h2
          have s3 := NF.Same.new (o := .tup [V.ref p1, V.ref p2, V.int 0]) s2 h3
          have e : settled os (some v) = (os.filterMap id, [v], 0) := if_neg c
          refine q p3 _ (Same.trans sG1 s3) ?_
          rw [e]
          exact ⟨p1, p2, SqT.of upd_same, NF.Same.tup s3 t1, SqT.of (by rw [upd_ne (ne_of_none upd_same h3)]; exact upd_same)⟩
end
end K05
set_option Elab.async false
set_option linter.all false
set_option maxRecDepth 100000
set_option maxHeartbeats 4000000
namespace NT
theorem climbs_snoc : ∀ {l : List Int} {lo v : Int}, climbs lo l → (if l.length = 0 then lo else l.getD (l.length - 1) 0) ≤ v → climbs lo (l ++ [v])
  | [], lo, v, _, h => ⟨by simpa using h, trivial⟩
  | x :: l, lo, v, c, h => by
    refine ⟨c.1, climbs_snoc c.2 ?_⟩
    rw [if_neg (by simp)] at h
    by_cases z : l.length = 0
    · rw [if_pos z]
      have : l = [] := List.eq_nil_of_length_eq_zero z
      subst this
      simpa using h
    · rw [if_neg z]
      obtain ⟨j, hj⟩ : ∃ j, l.length = j + 1 := ⟨l.length - 1, by omega⟩
      rw [List.length_cons, hj] at h
      rw [hj]
      simpa using h
theorem climbs_low : ∀ {l : List Int} {lo : Int} {i : Nat}, climbs lo l → i < l.length → lo ≤ l.getD i 0
  | [], _, _, _, h => by simp at h
  | x :: l, lo, 0, c, _ => c.1
  | x :: l, lo, i + 1, c, h => by
    have := climbs_low (i := i) c.2 (by simpa using h)
    have := c.1
    show lo ≤ l.getD i 0
    omega
theorem climbs_le {l : List Int} {lo lo' : Int} (h : climbs lo l) (e : lo' ≤ lo) : climbs lo' l := by
  cases l with
  | nil => trivial
  | cons x l => exact ⟨Int.le_trans e h.1, h.2⟩
structure RawOk (x : List Int × List Int × Int) : Prop where
  g : Good x.1 x.2.1 x.2.2
  h : x.1.length ≤ 400
  l : x.2.1.length ≤ 400
  r : x.2.2 ≤ 100000
/-- as it is drawn -/
structure Raw0 (x : List Int × List Int × Int) : Prop where
  g : Good x.1 x.2.1 x.2.2
  h : x.1.length ≤ 4
  l : x.2.1.length ≤ 4
  r : x.2.2 ≤ 10
  f : (x.1 ++ x.2.1 ++ [5]).getD 0 0 ≤ 10000
  bh : ∀ i, i < x.1.length → x.1.getD i 0 ≤ 8
  bl : ∀ i, i < x.2.1.length → x.2.1.getD i 0 ≤ 16
theorem Raw0.ok {x : List Int × List Int × Int} (a : Raw0 x) : RawOk x := ⟨a.g, Nat.le_trans a.h (by decide), Nat.le_trans a.l (by decide), Int.le_trans a.r (by decide)⟩
theorem first_le {h l : List Int} (h1 : h ≠ [] → h.getD 0 0 ≤ 10000) (h2 : h = [] → l ≠ [] → l.getD 0 0 ≤ 10000) : (h ++ l ++ [5]).getD 0 0 ≤ 10000 := by
  cases h with
  | cons x h => exact h1 (by simp)
  | nil => cases l with
    | cons y l => exact h2 rfl (by simp)
    | nil => decide
end NT
namespace K05
open PySem PySem.Spec PyProof.Rows L2 He NF RZ NT
def spRising : Sp := fun vs H Q _ => ∃ (H0 : Hp) (p : Addr) (m : Nat) (lo st : Int), vs = [.ref p, .int (m : Int), .int lo, .int st] ∧ Same H0 H ∧ H0 p = none ∧ Src H p ∧ m ≤ 200 ∧ 0 ≤ lo ∧ 0 < st ∧ st < 1073741824 ∧
  ∀ q l H', Same H0 H' → Src H' p → H' q = some (.lst (vI l)) → H0 q = none → q ≠ p → l.length = m → climbs lo l → (∀ i, i < m → l.getD i 0 ≤ lo + (st - 1) * ((i : Int) + 1) ∧ l.getD i 0 ≤ l.getD 0 0 + (st - 1) * (i : Int)) → Q (.ref q) H'
def spRaw (K : PySem.W.Frag) : Sp := fun vs H Q _ => ∃ (H0 : Hp) (p : Addr), vs = [.ref p, .bl false] ∧ Same H0 H ∧ H0 p = none ∧ Src H p ∧
  ∀ q x H', Same H0 H' → Src H' p → Raw0 x → FormAt K H' q x → Q (.ref q) H'
theorem sc__law_rising : FnScope ["_law_source_here", "_law_many", "_law_low", "_law_steps", "_law_told", "_law_value", "_law_k"] ["_law_source_here", "_law_many", "_law_low", "_law_steps"] (defScope s__law_rising) := ⟨rfl, rfl, rfl, by decide +kernel, rfl, by decide +kernel, by decide +kernel⟩
theorem sc__law_raw : FnScope ["_law_source_here", "_law_steady", "_law_head", "_law_low", "_law_many", "_law_loop", "_law_more", "_law_rise"] ["_law_source_here", "_law_steady"] (defScope s__law_raw) := ⟨rfl, rfl, rfl, by decide +kernel, rfl, by decide +kernel, by decide +kernel⟩
theorem getD_snoc {l : List Int} {v : Int} {i : Nat} : (l ++ [v]).getD i 0 = if i < l.length then l.getD i 0 else if i = l.length then v else 0 := by
  by_cases h : i < l.length
  · rw [if_pos h, getD_app1 h]
  · rw [if_neg h, getD_app2 (by omega)]
    by_cases z : i = l.length
    · rw [if_pos z, z, Nat.sub_self]; rfl
    · rw [if_neg z]
      obtain ⟨j, hj⟩ : ∃ j, i - l.length = j + 1 := ⟨i - l.length - 1, by omega⟩
      rw [hj]; rfl
theorem last_snoc {l : List Int} {lo v : Int} : (if (l ++ [v]).length = 0 then lo else (l ++ [v]).getD ((l ++ [v]).length - 1) 0) = v := by
  have e : (l ++ [v]).length = l.length + 1 := by simp
  rw [e, if_neg (Nat.succ_ne_zero _), Nat.add_sub_cancel, getD_snoc, if_neg (Nat.lt_irrefl _), if_pos rfl]
theorem src_ne {H : Hp} {p q : Addr} {o : HO} (hs : Src H p) (hq : H q = none) : q ≠ p := fun z => by
  obtain ⟨_, _, _, h⟩ := hs
  rw [z, h] at hq
  cases hq
theorem src_put {H : Hp} {p q : Addr} {o : HO} (hs : Src H p) (n : q ≠ p) : Src (upd H q o) p := by
  obtain ⟨a, b, c, h⟩ := hs
  exact ⟨a, b, c, by rw [upd_ne (Ne.symm n)]; exact h⟩
theorem same_none {H0 H : Hp} {q : Addr} (s : Same H0 H) (h : H q = none) : H0 q = none := L2.Same.free s h
section
variable {P : Program} {w : World} {K : PySem.W.Frag} {mg : Str → Option Value} {base : Heap} {gs : List Str}
theorem ok__law_rising {f : Addr} {fd : FuncData} (F : FunD K "_law_rising" "_law_rising" (defArgs s__law_rising) (defBody s__law_rising) (defScope s__law_rising) [] [] f fd) (T : Txt K mg gs FS) (c__law_pick : Cal P w K mg base 1 "_law_pick" spPick) : FnOk P w K mg base CX0 2 f fd ["_law_source_here", "_law_many", "_law_low", "_law_steps"] spRising := by
  refine F.ok sc__law_rising (fun vs H Q E h => ?_) (fun cdv A outer s H vs Q E hr h => ?_)
  · obtain ⟨H0, p, m, lo, st, rfl, _⟩ := h
    rfl
  · obtain ⟨H0, p, m, lo, st, rfl, s0, n0, hs, hm, hlo, hst, hst2, q⟩ := h
    refine ⟨_, PSs.nox (pss_cons (ps_set (i := 4) sc__law_rising.nd rfl (Or.inl rfl) (pe_lst pa_nil)) (pss_cons (ps_set (i := 5) sc__law_rising.nd rfl (Or.inl rfl) (pv 2)) (pss_cons (ps_for PassesOwn.never rfl (pi_range1 rfl (T.fr _ (by decide +kernel)) (pa_cons (pv 1) pa_nil)) (pg_name (i := 6) sc__law_rising.nd rfl (Or.inl rfl)) (pss_cons (ps_set (i := 5) sc__law_rising.nd rfl (Or.inl rfl) (pe_op op_add (pv 5) (pe_c c__law_pick hr (by decide) rfl (pa_cons (pv 0) (pa_cons (pv 3) pa_nil))))) (pss_one (ps_expr (pe_bm PySem.F.plainAttrs_list PySem.F.slot_list_append PySem.F.type_list_append mt_append (pv 4) (pa_cons (pv 5) pa_nil)))))) (pss_one (ps_ret (pv 4)))))), ?_⟩
    refine ⟨(by show 0 ≤ sizeLine; decide), fun t ht => ?_⟩
    have htp : t ≠ p := src_ne (o := .lst []) hs ht
    have h0t := same_none s0 ht
    refine ⟨_, rfl, ?_⟩
    refine ⟨_, rfl, (m : Int), rfl, by omega, by omega, ?_⟩
    refine for_range (lo := 0) (n := m) (fun i σ G => Same H0 G ∧ Src G p ∧ ∃ l : List Int, G t = some (.lst (vI l)) ∧ l.length = i ∧ climbs lo l ∧ (∀ j, j < i → l.getD j 0 ≤ lo + (st - 1) * ((j : Int) + 1) ∧ l.getD j 0 ≤ l.getD 0 0 + (st - 1) * (j : Int)) ∧
      ∃ k : Option V, σ = [some (.ref p), some (.int (m : Int)), some (.int lo), some (.int st), some (.ref t), some (.int (if l.length = 0 then lo else l.getD (l.length - 1) 0)), k])
      ⟨NF.Same.put s0 h0t, src_put hs htp, [], upd_same, rfl, trivial, fun j hj => by omega, none, rfl⟩ ?_ ?_
    · rintro i σ G hi ⟨s1, hs1, l, hl, hlen, hc, hb, k, rfl⟩
      refine ⟨_, rfl, _, rfl, _, rfl, wo G p, p, st, rfl, wo_same', wo_none, hs1, hst, hst2, fun d G' d0 d1 s2 hs2 => ?_⟩
      refine ⟨_, _, rfl, rfl, ?_⟩
      have hl2 : G' t = some (.lst (vI l)) := s2 _ _ ((wo_ne htp).trans hl)
      refine ⟨_, rfl, Or.inl ⟨rfl, _, SqL.of hl2⟩, _, rfl, t, _, _, rfl, rfl, hl2, ?_, ?_⟩
      · rw [vI_len, hlen]
        exact Nat.lt_of_le_of_lt (show i ≤ 200 by omega) (by decide)
      have hlast : (if l.length = 0 then lo else l.getD (l.length - 1) 0) ≤ lo + (st - 1) * (i : Int) := by
        by_cases z : l.length = 0
        · rw [if_pos z, ← hlen, z]
          simp
        · rw [if_neg z]
          have := (hb (l.length - 1) (by omega)).1
          have e : ((l.length - 1 : Nat) : Int) + 1 = (i : Int) := by omega
          rw [e] at this
          exact this
      have hlast2 : l.length ≠ 0 → (if l.length = 0 then lo else l.getD (l.length - 1) 0) ≤ l.getD 0 0 + (st - 1) * ((i : Int) - 1) := fun z => by
        rw [if_neg z]
        have := (hb (l.length - 1) (by omega)).2
        have e : ((l.length - 1 : Nat) : Int) = (i : Int) - 1 := by omega
        rw [e] at this
        exact this
      refine ⟨NF.Same.put (wo_same s1 n0 s2) h0t, src_put hs2 htp, l ++ [(if l.length = 0 then lo else l.getD (l.length - 1) 0) + d], ?_, ?_, climbs_snoc hc (by omega), fun j hj => ?_, some (.int ((0 : Int) + (i : Int))), ?_⟩
      · rw [upd_same, ← vI_app]
        rfl
      · rw [List.length_append, hlen]; rfl
      · have dc : d ≤ st - 1 := by omega
        generalize st - 1 = c at *
        by_cases z : j < l.length
        · rw [getD_snoc, if_pos z, getD_snoc, if_pos (by omega)]
          exact hb j (by omega)
        · have ej : j = i := by omega
          subst ej
          generalize hv : (if l.length = 0 then lo else l.getD (l.length - 1) 0) = v at hlast hlast2 ⊢
          rw [getD_snoc, if_neg z, if_pos (by omega)]
          refine ⟨?_, ?_⟩
          · rw [Int.mul_add, Int.mul_one]
            omega
          · by_cases z0 : l.length = 0
            · rw [getD_snoc, if_neg (by omega), if_pos z0.symm, show ((j : Nat) : Int) = 0 by omega, Int.mul_zero]
              omega
            · have := hlast2 z0
              rw [Int.mul_sub, Int.mul_one] at this
              rw [getD_snoc, if_pos (by omega)]
              omega
      · rw [last_snoc]
        rfl
    · rintro σ G ⟨s1, hs1, l, hl, hlen, hc, hb, k, rfl⟩
      exact ⟨_, rfl, q t l G s1 hs1 hl h0t htp hlen hc hb⟩
theorem idx_k {l : List Int} {d lo hi : Int} {n : Nat} (h0 : 0 ≤ d) (h1 : d < (n : Int)) (hl : l.length = n) (hb : ∀ k, k < n → lo ≤ l.getD k 0 ∧ l.getD k 0 ≤ hi) : ∃ v : Int, atI (vI l) d = some (.int v) ∧ lo ≤ v ∧ v ≤ hi :=
  ⟨l.getD d.toNat 0, at_int (by omega) (by omega), hb _ (by omega)⟩
theorem more_le {m : Int} (h0 : 1 ≤ m) (h1 : m ≤ 4) : ∀ k, k < 8 → 0 ≤ ([1, 2, 1, 0, 3, m, 2, 1] : List Int).getD k 0 ∧ ([1, 2, 1, 0, 3, m, 2, 1] : List Int).getD k 0 ≤ 4
  | 0, _ => by simp
  | 1, _ => by simp
  | 2, _ => by simp
  | 3, _ => by simp
  | 4, _ => by simp
  | 5, _ => ⟨by show 0 ≤ m; omega, by show m ≤ 4; omega⟩
  | 6, _ => by simp
  | 7, _ => by simp
  | n + 8, h => by omega
theorem climbs_last : ∀ {l : List Int} {lo : Int}, climbs lo l → l ≠ [] → l.getD 0 0 ≤ l.getD (l.length - 1) 0
  | [], _, _, h => absurd rfl h
  | [x], _, _, _ => Int.le_refl _
  | x :: y :: l, lo, c, _ => climbs_low (l := y :: l) (i := l.length) c.2 (by simp)
theorem ok__law_raw {f : Addr} {fd : FuncData} (F : FunD K "_law_raw" "_law_raw" (defArgs s__law_raw) (defBody s__law_raw) (defScope s__law_raw) [] [] f fd) (T : Txt K mg gs FS) (c__law_pick : Cal P w K mg base 1 "_law_pick" spPick) (c__law_rising : Cal P w K mg base 2 "_law_rising" spRising) : FnOk P w K mg base CX0 3 f fd ["_law_source_here", "_law_steady"] (spRaw K) := by
  refine F.ok sc__law_raw (fun vs H Q E h => ?_) (fun cdv A outer s H vs Q E hr h => ?_)
  · obtain ⟨H0, p, rfl, _⟩ := h
    rfl
  · obtain ⟨H0, p, rfl, s0, n0, hs, q⟩ := h
    refine ⟨_, PSs.nox (pss_cons (ps_set (i := 2) sc__law_raw.nd rfl (Or.inl rfl) (pe_c c__law_rising hr (by decide) rfl (pa_cons (pv 0) (pa_cons (pe_ix (ixl (K := K)) (pe_lst (pa_cons pe_int (pa_cons pe_int (pa_cons pe_int (pa_cons pe_int (pa_cons pe_int (pa_cons pe_int (pa_cons pe_int (pa_cons pe_int pa_nil))))))))) (pe_c c__law_pick hr (by decide) rfl (pa_cons (pv 0) (pa_cons pe_int pa_nil))) fun _ _ => rfl) (pa_cons pe_int (pa_cons pe_int pa_nil)))))) (pss_cons (ps_set (i := 3) sc__law_raw.nd rfl (Or.inl rfl) (pe_ifExp (pt_cmpR op_gt (pe_callB call_len_seq rfl (T.fr _ (by decide +kernel)) boot_len (pa_cons (pv 2) pa_nil)) pe_int (nomark _)) (pe_ix (ixl (K := K)) (pv 2) (pe_un un_neg pe_int) fun _ _ => rfl) pe_int)) (pss_cons (ps_if (PW.pt (pw_and (pt_not (pt_val (pv 1))) (pw_and1 (pt_cmpR op_eq (pe_c c__law_pick hr (by decide) rfl (pa_cons (pv 0) (pa_cons pe_int pa_nil))) pe_int (nomark _))))) (pss_one (ps_ret (pe_tup (pa_cons (pe_callTy cr_tup rfl (T.fr _ (by decide +kernel)) (by decide +kernel) (pa_cons (pv 2) pa_nil)) (pa_cons (pe_tup pa_nil) (pa_cons pe_int pa_nil)))))) pss_nil) (pss_cons (ps_set (i := 4) sc__law_raw.nd rfl (Or.inl rfl) (pe_ix (ixl (K := K)) (pe_lst (pa_cons pe_int (pa_cons pe_int (pa_cons pe_int (pa_cons pe_int (pa_cons pe_int (pa_cons pe_int (pa_cons pe_int (pa_cons pe_int pa_nil))))))))) (pe_c c__law_pick hr (by decide) rfl (pa_cons (pv 0) (pa_cons pe_int pa_nil))) fun _ _ => rfl)) (pss_cons (ps_set (i := 5) sc__law_raw.nd rfl (Or.inl rfl) (pe_c c__law_rising hr (by decide) rfl (pa_cons (pv 0) (pa_cons (pv 4) (pa_cons (pv 3) (pa_cons pe_int pa_nil)))))) (pss_cons (ps_set (i := 6) sc__law_raw.nd rfl (Or.inl rfl) (pe_ix (ixl (K := K)) (pe_lst (pa_cons pe_int (pa_cons pe_int (pa_cons pe_int (pa_cons pe_int (pa_cons pe_int (pa_cons (pv 4) (pa_cons pe_int (pa_cons pe_int pa_nil))))))))) (pe_c c__law_pick hr (by decide) rfl (pa_cons (pv 0) (pa_cons pe_int pa_nil))) fun _ _ => rfl)) (pss_cons (ps_set (i := 7) sc__law_raw.nd rfl (Or.inl rfl) (pe_op op_add (pe_op op_sub (pe_ix (ixl (K := K)) (pv 5) (pe_un un_neg pe_int) fun _ _ => rfl) (pe_ix (ixl (K := K)) (pv 5) pe_int fun _ _ => rfl)) (pv 6))) (pss_cons (ps_if (PW.pt (pw_and (pt_val (pv 1)) (pw_and1 (pt_cmpR op_eq (pv 7) pe_int (nomark _))))) (pss_one (ps_set (i := 7) sc__law_raw.nd rfl (Or.inl rfl) pe_int)) pss_nil) (pss_one (ps_ret (pe_tup (pa_cons (pe_callTy cr_tup rfl (T.fr _ (by decide +kernel)) (by decide +kernel) (pa_cons (pv 2) pa_nil)) (pa_cons (pe_callTy cr_tup rfl (T.fr _ (by decide +kernel)) (by decide +kernel) (pa_cons (pv 5) pa_nil)) (pa_cons (pv 7) pa_nil)))))))))))))), ?_⟩
    -- the head
    refine ⟨_, rfl, (by show 8 ≤ sizeLine; decide), fun t ht => ?_⟩
    have htp : t ≠ p := src_ne (o := .lst []) hs ht
    have hs1 : Src (upd H t (.lst (vI [0, 1, 2, 0, 3, 1, 4, 2]))) p := src_put hs htp
    have s1 : Same H0 (upd H t (.lst (vI [0, 1, 2, 0, 3, 1, 4, 2]))) := NF.Same.put s0 (same_none s0 ht)
    have ht1 : upd H t (.lst (vI [0, 1, 2, 0, 3, 1, 4, 2])) t = some (.lst (vI [0, 1, 2, 0, 3, 1, 4, 2])) := upd_same
    refine ⟨_, rfl, wo _ p, p, 8, rfl, wo_same', wo_none, hs1, by decide, by decide, fun d G2 d0 d1 s2 hs2 => ?_⟩
    obtain ⟨v, hv, v0, v1⟩ := idx_k (l := [0, 1, 2, 0, 3, 1, 4, 2]) (n := 8) (lo := 0) (hi := 4) d0 d1 rfl (by decide)
    have s02 := wo_same s1 n0 s2
    refine ⟨t, _, _, _, rfl, rfl, SqL.of (s2 _ _ ((wo_ne htp).trans ht1)), hv, ?_⟩
    refine ⟨wo G2 p, p, v.toNat, 0, 3, by rw [Int.toNat_of_nonneg v0]; rfl, wo_same', wo_none, hs2, by omega, by decide, by decide, by decide, fun th h G3 s3 hs3 hh hh0 hhp hlen hc hb => ?_⟩
    have s03 := wo_same s02 n0 s3
    -- the low
    have hlow : ∀ {W : VK}, (∀ lo : Int, 0 ≤ lo → (h ≠ [] → lo = h.getD (h.length - 1) 0) → (h = [] → lo = 0) → W (.int lo) G3) →
        (tIf (tTest (tOp (rI0 fun i j => .bl (decide (j < i))) (tCB (fun xs H Q => ∃ a ys, xs = [.ref a] ∧ (SqL K H a ys ∨ SqT K H a ys) ∧ Q (.int (ys.length : Int)) H) (tCons (tVar 2) tNil)) (tC (.int 0)))) (tOp (rIxL K) (tVar 2) (tUn (rU fun i => .int (-i)) (tC (.int 1)))) (tC (.int 0))) [some (V.ref p), some (V.bl false), some (V.ref th), none, none, none, none, none] G3 W := by
      intro W hW
      refine ⟨_, rfl, th, _, rfl, Or.inl (SqL.of hh), _, _, rfl, rfl, _, rfl, ite2 (fun h1 => ?_) (fun h1 => ?_)⟩
      · have h2 : 0 < h.length := by
          have := of_decide_eq_true h1
          rw [vI_len] at this
          omega
        have hne : h ≠ [] := fun z => by rw [z] at h2; simp at h2
        exact ⟨_, rfl, _, rfl, th, _, _, _, rfl, rfl, SqL.of hh, at_last h2, hW _ (climbs_low hc (by omega)) (fun _ => rfl) fun z => absurd z hne⟩
      · have h2 : h = [] := by
          have : ¬ (0 : Int) < ((vI h).length : Int) := fun z => h1 (decide_eq_true z)
          rw [vI_len] at this
          exact List.eq_nil_of_length_eq_zero (by omega)
        exact hW 0 (Int.le_refl _) (fun z => absurd h2 z) fun _ => rfl
    refine hlow fun lo lo0 hlo hlo2 => ?_
    have lo12 : lo ≤ 8 := by
      by_cases z : h = []
      · rw [hlo2 z]; decide
      · rw [hlo z]
        have := hb (h.length - 1) (by have := len_pos z; omega)
        omega
    have hf1 : h ≠ [] → h.getD 0 0 ≤ 10000 := fun z => by
      have := hb 0 (by have := len_pos z; omega)
      omega
    -- ended
    refine ⟨_, rfl, false, rfl, iteT ?_⟩
    refine ⟨_, rfl, wo G3 p, p, 7, rfl, wo_same', wo_none, hs3, by decide, by decide, fun d G4 _ _ s4 hs4 => ?_⟩
    have s04 := wo_same s03 n0 s4
    have hh4 : G4 th = some (.lst (vI h)) := s4 _ _ ((wo_ne hhp).trans hh)
    have hh100 : h.length ≤ 4 := by omega
    have hbh : ∀ i, i < h.length → h.getD i 0 ≤ 8 := fun i hi => by
      have := hb i (by omega)
      omega
    refine ⟨rfl, _, rfl, ite2 (fun _ => ?_) (fun _ => ?_)⟩
    · refine ⟨_, rfl, th, _, rfl, Or.inl (SqL.of hh4), fun p1 G5 s5 t5 => ?_⟩
      refine ⟨(by show 0 ≤ sizeLine; decide), fun p2 hp2 => ?_⟩
      refine ⟨(by show 3 ≤ sizeLine; decide), fun p3 hp3 => ?_⟩
      have s6 := NF.Same.new (o := .tup []) (Same.refl G5) hp2
      have s7 := NF.Same.new (o := .tup [V.ref p1, V.ref p2, V.int 0]) s6 hp3
      refine q p3 (h, [], 0) _ (Same.trans s04 (Same.trans s5 s7)) (Src.mono hs4 (Same.trans s5 s7)) ⟨⟨hc, trivial, fun _ z => absurd rfl z, Int.le_refl _, fun _ => rfl, fun z => absurd rfl z⟩, hh100, by simp, by simp, first_le hf1 fun _ z => absurd rfl z, hbh, fun i hi => absurd hi (by simp)⟩ ⟨p1, p2, SqT.of upd_same, NF.Same.tup s7 t5, ?_⟩
      exact SqT.of (by rw [upd_ne (ne_of_none upd_same hp3)]; exact upd_same)
    -- the loop
    refine ⟨(by show 8 ≤ sizeLine; decide), fun u hu => ?_⟩
    have hup : u ≠ p := src_ne (o := .lst []) hs4 hu
    have hs5 : Src (upd G4 u (.lst (vI [1, 2, 1, 3, 2, 1, 4, 3]))) p := src_put hs4 hup
    have s45 : Same G4 (upd G4 u (.lst (vI [1, 2, 1, 3, 2, 1, 4, 3]))) := NF.Same.new (Same.refl _) hu
    have ht5 : upd G4 u (.lst (vI [1, 2, 1, 3, 2, 1, 4, 3])) u = some (.lst (vI [1, 2, 1, 3, 2, 1, 4, 3])) := upd_same
    refine ⟨_, rfl, wo _ p, p, 8, rfl, wo_same', wo_none, hs5, by decide, by decide, fun d G6 d0 d1 s6 hs6 => ?_⟩
    obtain ⟨m, hm, m0, m1⟩ := idx_k (l := [1, 2, 1, 3, 2, 1, 4, 3]) (n := 8) (lo := 1) (hi := 4) d0 d1 rfl (by decide)
    have s06 := wo_same (Same.trans s04 s45) n0 s6
    have hh6 : G6 th = some (.lst (vI h)) := s6 _ _ ((wo_ne hhp).trans (s45 _ _ hh4))
    refine ⟨u, _, _, _, rfl, rfl, SqL.of (s6 _ _ ((wo_ne hup).trans ht5)), hm, ?_⟩
    refine ⟨_, rfl, _, rfl, _, rfl, wo G6 p, p, m.toNat, lo, 3, by rw [Int.toNat_of_nonneg (by omega)]; rfl, wo_same', wo_none, hs6, by omega, lo0, by decide, by decide, fun tl l G7 s7 hs7 hl7 hl0 hlp hllen hlc hlb => ?_⟩
    have s07 := wo_same s06 n0 s7
    have hh7 : G7 th = some (.lst (vI h)) := s7 _ _ ((wo_ne hhp).trans hh6)
    have hl0' : 0 < l.length := by omega
    have hlne : l ≠ [] := fun z => by rw [z] at hl0'; simp at hl0'
    -- more
    refine ⟨_, rfl, (by show 8 ≤ sizeLine; decide), fun u2 hu2 => ?_⟩
    have hup2 : u2 ≠ p := src_ne (o := .lst []) hs7 hu2
    have hs8 : Src (upd G7 u2 (.lst (vI [1, 2, 1, 0, 3, m, 2, 1]))) p := src_put hs7 hup2
    have s78 : Same G7 (upd G7 u2 (.lst (vI [1, 2, 1, 0, 3, m, 2, 1]))) := NF.Same.new (Same.refl _) hu2
    have ht8 : upd G7 u2 (.lst (vI [1, 2, 1, 0, 3, m, 2, 1])) u2 = some (.lst (vI [1, 2, 1, 0, 3, m, 2, 1])) := upd_same
    refine ⟨_, rfl, wo _ p, p, 8, rfl, wo_same', wo_none, hs8, by decide, by decide, fun d G9 d0 d1 s9 hs9 => ?_⟩
    obtain ⟨e, he, e0, e1⟩ := idx_k (l := [1, 2, 1, 0, 3, m, 2, 1]) (n := 8) (lo := 0) (hi := 4) d0 d1 rfl (more_le m0 m1)
    have s09 := wo_same (Same.trans s07 s78) n0 s9
    have hh9 : G9 th = some (.lst (vI h)) := s9 _ _ ((wo_ne hhp).trans (s78 _ _ hh7))
    have hl9 : G9 tl = some (.lst (vI l)) := s9 _ _ ((wo_ne hlp).trans (s78 _ _ hl7))
    refine ⟨u2, _, _, _, rfl, rfl, SqL.of (s9 _ _ ((wo_ne hup2).trans ht8)), he, ?_⟩
    -- the rise
    refine ⟨_, rfl, _, rfl, tl, _, _, _, rfl, rfl, SqL.of hl9, at_last hl0', ?_⟩
    refine ⟨_, rfl, tl, _, _, _, rfl, rfl, SqL.of hl9, at_int (k := 0) rfl hl0', _, _, rfl, rfl, _, rfl, _, _, rfl, rfl, ?_⟩
    refine ⟨_, rfl, false, rfl, iteF (iteF ?_)⟩
    have f1 := climbs_last hlc hlne
    have f2 := hlb (l.length - 1) (by omega)
    have f3 := climbs_low hlc hl0'
    refine ⟨_, rfl, th, _, rfl, Or.inl (SqL.of hh9), fun p1 G10 s10 t10 => ?_⟩
    refine ⟨_, rfl, tl, _, rfl, Or.inl (SqL.of (s10 _ _ hl9)), fun p2 G11 s11 t11 => ?_⟩
    refine ⟨_, rfl, (by show 3 ≤ sizeLine; decide), fun p3 hp3 => ?_⟩
    have s12 := NF.Same.new (o := .tup [V.ref p1, V.ref p2, V.int (l.getD (l.length - 1) 0 - l.getD 0 0 + e)]) (Same.refl G11) hp3
    refine q p3 (h, l, l.getD (l.length - 1) 0 - l.getD 0 0 + e) _ (Same.trans s09 (Same.trans s10 (Same.trans s11 s12))) (Src.mono hs9 (Same.trans s10 (Same.trans s11 s12))) ⟨⟨hc, climbs_le hlc lo0, fun z _ => ?_, by dsimp only; omega, fun z => absurd z hlne, fun _ => by dsimp only; omega⟩, hh100, by show l.length ≤ 4; omega, by dsimp only; omega, first_le hf1 fun z _ => by have := hlo2 z; have := hlb 0 (by omega); dsimp only; omega, hbh, fun i hi => by have := hlb i (by dsimp only at hi; omega); dsimp only at hi ⊢; omega⟩ ⟨p1, p2, SqT.of upd_same, NF.Same.tup (Same.trans s11 s12) t10, NF.Same.tup s12 t11⟩
    rw [← hlo z]
    exact f3
end
end K05
set_option Elab.async false
set_option linter.all false
set_option maxRecDepth 100000
set_option maxHeartbeats 4000000
namespace K05
open PySem PySem.Spec PyProof.Rows L2 He NF RZ NT
def spPlain (K : PySem.W.Frag) : Sp := fun vs H Q _ => ∃ (a b : Addr) (h l : List Int) (r : Int), vs = [.ref a, .ref b, .int r] ∧ SqT K H a (vI h) ∧ SqT K H b (vI l) ∧ h.length ≤ 10000 ∧ l.length ≤ 10000 ∧ ∀ p x H', IsPlain h l r x → Same H H' → FormAt K H' p x → Q (.ref p) H'
theorem sc__law_plain : FnScope ["_law_head", "_law_loop", "_law_rise", "_law_size", "_law_many", "_law_row", "_law_turns", "_law_step", "_law_k"] ["_law_head", "_law_loop", "_law_rise"] (defScope s__law_plain) := ⟨rfl, rfl, rfl, by decide +kernel, rfl, by decide +kernel, by decide +kernel⟩
theorem all_range {n : Nat} {f : Nat → Bool} : ((List.range n).map f).all id = true ↔ ∀ k, k < n → f k = true := by
  rw [List.all_eq_true]
  constructor
  · intro h k hk
    exact h _ (List.mem_map.mpr ⟨k, List.mem_range.mpr hk, rfl⟩)
  · intro h x hx
    obtain ⟨k, hk, rfl⟩ := List.mem_map.mp hx
    exact h k (List.mem_range.mp hk)
theorem at_neg {l : List Int} {i : Int} {n : Nat} (e : i + (l.length : Int) = (n : Int)) (h0 : i < 0) (h : n < l.length) : atI (vI l) i = some (V.int (l.getD n 0)) := by
  unfold atI ixN
  rw [if_neg (by omega), List.length_map, if_pos (by omega)]
  show (vI l)[(i + (l.length : Int)).toNat]? = _
  rw [show (i + (l.length : Int)).toNat = n by omega, List.getElem?_map, List.getElem?_eq_getElem h, List.getD_eq_getElem?_getD, List.getElem?_eq_getElem h] <;> rfl
section
variable {P : Program} {w : World} {K : PySem.W.Frag} {mg : Str → Option Value} {base : Heap} {gs : List Str}
theorem ok__law_plain {f : Addr} {fd : FuncData} (F : FunD K "_law_plain" "_law_plain" (defArgs s__law_plain) (defBody s__law_plain) (defScope s__law_plain) [] [] f fd) (T : Txt K mg gs FS) : FnOk P w K mg base CX0 1 f fd ["_law_head", "_law_loop", "_law_rise"] (spPlain K) := by
  refine F.ok sc__law_plain (fun vs H Q E h => ?_) (fun cdv A outer s H vs Q E hr h => ?_)
  · obtain ⟨a, b, h, l, r, rfl, _⟩ := h
    rfl
  · obtain ⟨a, b, h, l, r, rfl, ha, hb, hh, hll, q⟩ := h
    refine ⟨_, PSs.nox (pss_cons (ps_if (pt_cmpR op_eq (pe_callB call_len_seq rfl (T.fr _ (by decide +kernel)) boot_len (pa_cons (pv 1) pa_nil)) pe_int (nomark _)) (pss_one (ps_ret (pe_tup (pa_cons (pe_callTy cr_tup rfl (T.fr _ (by decide +kernel)) (by decide +kernel) (pa_cons (pv 0) pa_nil)) (pa_cons (pe_tup pa_nil) (pa_cons pe_int pa_nil)))))) pss_nil) (pss_cons (ps_set (i := 3) sc__law_plain.nd rfl (Or.inl rfl) (pe_callB call_len_seq rfl (T.fr _ (by decide +kernel)) boot_len (pa_cons (pv 1) pa_nil))) (pss_cons (ps_for PassesOwn.never rfl (pi_range3 rfl (T.fr _ (by decide +kernel)) (pa_cons (pe_callB call_len_seq rfl (T.fr _ (by decide +kernel)) boot_len (pa_cons (pv 1) pa_nil)) (pa_cons pe_int (pa_cons (pe_un un_neg pe_int) pa_nil)))) (pg_name (i := 4) sc__law_plain.nd rfl (Or.inr rfl)) (pss_cons (ps_set (i := 6) sc__law_plain.nd rfl (Or.inl rfl) (pe_op op_fdiv (pe_callB call_len_seq rfl (T.fr _ (by decide +kernel)) boot_len (pa_cons (pv 1) pa_nil)) (pv 4))) (pss_cons (ps_if (PW.pt (pw_or (pt_cmpR op_ne (pe_op op_mul (pv 6) (pv 4)) (pe_callB call_len_seq rfl (T.fr _ (by decide +kernel)) boot_len (pa_cons (pv 1) pa_nil)) (nomark _)) (pw_or1 (pt_cmpR op_ne (pe_op op_mod (pe_callTy call_int1 rfl (T.fr _ (by decide +kernel)) (by decide +kernel) (pa_cons (pv 2) pa_nil)) (pv 6)) pe_int (nomark _))))) (pss_one ps_continue) pss_nil) (pss_cons (ps_set (i := 7) sc__law_plain.nd rfl (Or.inr rfl) (pe_op op_fdiv (pv 2) (pv 6))) (pss_one (ps_if (pt_val (pe_callB (cr_all rfl) rfl (T.fr _ (by decide +kernel)) (by decide +kernel) (pa_cons (pe_lc (own := [("_law_k", 8)]) rfl sc__law_plain.nd (pi_range1 rfl (T.fr _ (by decide +kernel)) (pa_cons (pe_op op_sub (pe_callB call_len_seq rfl (T.fr _ (by decide +kernel)) boot_len (pa_cons (pv 1) pa_nil)) (pv 4)) pa_nil)) (blkOk_by (N := ["_law_head", "_law_loop", "_law_rise", "_law_size", "_law_many", "_law_row", "_law_turns", "_law_step", "_law_k"]) (sc := defScope s__law_plain) (by decide +kernel)) (fun _ _ _ _ _ => by exact (pg_name (i := 8) sc__law_plain.nd rfl (Or.inl rfl))) (fun _ _ _ _ _ => by exact pts_nil) (fun _ _ _ _ _ => by exact (pe_cmpR op_eq (pe_ix (ixt (K := K)) (pv 1) (pe_op op_add (pv 8) (pv 4)) fun _ _ => rfl) (pe_op op_add (pe_ix (ixt (K := K)) (pv 1) (pv 8) fun _ _ => rfl) (pv 7)) (nomark _)))) pa_nil))) (pss_one (ps_set (i := 3) sc__law_plain.nd rfl (Or.inl rfl) (pv 4))) pss_nil)))))) (pss_cons (ps_set (i := 2) sc__law_plain.nd rfl (Or.inl rfl) (pe_op op_fdiv (pv 2) (pe_op op_fdiv (pe_callB call_len_seq rfl (T.fr _ (by decide +kernel)) boot_len (pa_cons (pv 1) pa_nil)) (pv 3)))) (pss_cons (ps_set (i := 5) sc__law_plain.nd rfl (Or.inl rfl) (pe_op op_cat (pe_callTy call_list_of rfl (T.fr _ (by decide +kernel)) (by decide +kernel) (pa_cons (pv 0) pa_nil)) (pe_callTy call_list_of rfl (T.fr _ (by decide +kernel)) (by decide +kernel) (pa_cons (pe_slice sl_tupA (pv 1) po_none (po_some (pv 3))) pa_nil)))) (pss_cons (ps_while PassesOwn.never (PW.pt (pw_and (pt_cmpR op_gt (pe_callB call_len_seq rfl (T.fr _ (by decide +kernel)) boot_len (pa_cons (pv 5) pa_nil)) (pv 3) (nomark _)) (pw_and1 (pt_cmpR op_eq (pe_ix (ixl (K := K)) (pv 5) (pe_op op_sub (pe_un un_neg pe_int) (pv 3)) fun _ _ => rfl) (pe_op op_sub (pe_ix (ixl (K := K)) (pv 5) (pe_un un_neg pe_int) fun _ _ => rfl) (pv 2)) (nomark _))))) (pss_one (ps_set (i := 5) sc__law_plain.nd rfl (Or.inl rfl) (pe_slice sl_list (pv 5) po_none (po_some (pe_un un_neg pe_int)))))) (pss_one (ps_ret (pe_tup (pa_cons (pe_callTy cr_tup rfl (T.fr _ (by decide +kernel)) (by decide +kernel) (pa_cons (pe_slice sl_list (pv 5) po_none (po_some (pe_op op_sub (pe_callB call_len_seq rfl (T.fr _ (by decide +kernel)) boot_len (pa_cons (pv 5) pa_nil)) (pv 3)))) pa_nil)) (pa_cons (pe_callTy cr_tup rfl (T.fr _ (by decide +kernel)) (by decide +kernel) (pa_cons (pe_slice sl_list (pv 5) (po_some (pe_op op_sub (pe_callB call_len_seq rfl (T.fr _ (by decide +kernel)) boot_len (pa_cons (pv 5) pa_nil)) (pv 3))) po_none) pa_nil)) (pa_cons (pv 2) pa_nil)))))))))))), ?_⟩
    refine ⟨_, rfl, b, _, rfl, Or.inr hb, rfl, _, rfl, ?_⟩
    by_cases hl : l = []
    · refine (iteT' (decide_eq_true (by rw [hl]; rfl)) ?_)
      subst hl
      refine ⟨_, rfl, a, _, rfl, Or.inr ha, fun p1 G1 s1 t1 => ?_⟩
      refine ⟨(by show 0 ≤ sizeLine; decide), fun p2 hp2 => ?_⟩
      refine ⟨(by show 3 ≤ sizeLine; decide), fun p3 hp3 => ?_⟩
      have s6 := NF.Same.new (o := .tup []) (Same.refl G1) hp2
      have s7 := NF.Same.new (o := .tup [V.ref p1, V.ref p2, V.int 0]) s6 hp3
      exact q p3 (h, [], 0) _ (.inl ⟨rfl, rfl⟩) (Same.trans s1 s7) ⟨p1, p2, SqT.of upd_same, NF.Same.tup s7 t1, SqT.of (by rw [upd_ne (ne_of_none upd_same hp3)]; exact upd_same)⟩
    refine (iteF' (decide_eq_false (fun z => hl ?_)) ?_)
    · injection z with z
      rw [vI_len] at z
      exact List.eq_nil_of_length_eq_zero (by omega)
    have hp := len_pos hl
    refine ⟨_, rfl, b, _, rfl, Or.inr hb, ?_⟩
    refine ⟨_, rfl, b, _, rfl, Or.inr hb, _, rfl, _, _, _, l.length, rfl, ?_, ?_⟩
    · have := RgC.neg (i := ((vI l).length : Int)) (j := 0) (by rw [vI_len]; omega) (by rw [vI_len]; omega) (by omega) (by omega)
      rw [vI_len, Int.sub_zero, Int.toNat_natCast] at this
      rw [vI_len]
      exact this
    -- the shortest lap
    refine for_rangeC (n := l.length) (fun i σ G => Same H G ∧ ∃ s : Nat, (0 < s ∧ s ∣ l.length ∧ Per (walk l r) s ∧ ∀ m', l.length - i < m' → m' ∣ l.length → Per (walk l r) m' → s ≤ m') ∧ ∃ v1 v2 v3 : Option V, σ = [some (.ref a), some (.ref b), some (.int r), some (.int (s : Int)), v1, none, v2, v3, none])
      ⟨Same.refl _, l.length, ⟨hp, Nat.dvd_refl _, per_self hl, fun m' h1 _ _ => by omega⟩, none, none, none, ?_⟩ ?_ ?_
    · rw [vI_len]
      rfl
    · rintro i σ G hi ⟨s1, sz, ⟨z0, z1, z2, z3⟩, v1, v2, v3, rfl⟩
      have hb1 := NF.Same.tup s1 hb
      obtain ⟨m, hm⟩ : ∃ m : Nat, m = l.length - i := ⟨_, rfl⟩
      have m0 : 0 < m := by omega
      have mle : m ≤ l.length := by omega
      have e1 : ((vI l).length : Int) + (i : Int) * (-1) = (m : Int) := by rw [vI_len]; omega
      rw [e1]
      obtain ⟨t, htt⟩ : ∃ t : Nat, t = l.length / m := ⟨_, rfl⟩
      have t0 : 0 < t := by rw [htt]; exact Nat.div_pos mle m0
      have tle : t ≤ l.length := by rw [htt]; exact Nat.div_le_self _ _
      have e2 : ((vI l).length : Int) / (m : Int) = (t : Int) := by rw [vI_len, htt]; rfl
      refine ⟨_, rfl, b, _, rfl, Or.inr hb1, _, rfl, _, _, rfl, rfl, ⟨by omega, by omega⟩, ?_⟩
      show gName 6 (V.int (((vI l).length : Int) / (m : Int))) _ _ _
      rw [e2]
      have hnext : ∀ {v3' : Option V}, ¬ (m ∣ l.length ∧ Per (walk l r) m) → (fun σ G => Same H G ∧ ∃ s : Nat, (0 < s ∧ s ∣ l.length ∧ Per (walk l r) s ∧ ∀ m', l.length - (i + 1) < m' → m' ∣ l.length → Per (walk l r) m' → s ≤ m') ∧ ∃ v1 v2 v3 : Option V, σ = [some (.ref a), some (.ref b), some (.int r), some (.int (s : Int)), v1, none, v2, v3, none])
          [some (.ref a), some (.ref b), some (.int r), some (.int (sz : Int)), some (.int (m : Int)), none, some (.int (t : Int)), v3', none] G := fun hn => by
        refine ⟨s1, sz, ⟨z0, z1, z2, fun m' h1 h2 h3 => ?_⟩, _, _, _, rfl⟩
        by_cases c : m' = m
        · subst c
          exact absurd ⟨h2, h3⟩ hn
        · exact z3 m' (by omega) h2 h3
      refine ⟨_, rfl, _, rfl, _, _, rfl, rfl, Or.inr ⟨by omega, by omega⟩, _, rfl, b, _, rfl, Or.inr hb1, rfl, _, rfl, ?_⟩
      by_cases hd : ¬ m ∣ l.length
      · refine iteT' ?_ (iteT (hnext fun z => hd z.1))
        rw [decide_eq_false (fun z => hd ?_)]
        · rfl
        injection z with z
        rw [vI_len] at z
        have z' : t * m = l.length := Int.ofNat.inj (by rw [← Int.natCast_mul] at z; exact z)
        exact ⟨t, by rw [Nat.mul_comm]; exact z'.symm⟩
      have hd := Classical.not_not.mp hd
      have hmt : m * t = l.length := by rw [htt]; exact Nat.mul_div_cancel' hd
      refine iteF' ?_ ?_
      · rw [decide_eq_true]
        · rfl
        rw [vI_len, ← hmt, Int.natCast_mul, Int.mul_comm]
      have hiff := law_iff (r := r) hl m0 hmt
      refine ⟨_, rfl, Or.inl ⟨_, rfl, _, rfl, _, _, rfl, rfl, (by show (0 : Int) < (t : Int); omega), rfl, _, rfl, ?_⟩⟩
      by_cases hrt : ¬ r % (t : Int) = 0
      · refine iteT' ?_ (hnext fun z => hrt (hiff.mpr z.2).1)
        rw [decide_eq_false (fun z => hrt (by injection z))]
        rfl
      have hrt := Classical.not_not.mp hrt
      refine iteF' ?_ ?_
      · rw [decide_eq_true (congrArg V.int hrt)]
        rfl
      refine ⟨_, rfl, _, rfl, _, _, rfl, rfl, ⟨by omega, by omega⟩, ?_⟩
      -- all
      refine ⟨_, rfl, b, _, rfl, Or.inr hb1, _, rfl, _, _, rfl, rfl, _, rfl, ?_⟩
      rw [vI_len]
      refine ⟨by omega, by omega, fun D hD => ?_⟩
      have en : ((l.length : Int) - (m : Int)).toNat = l.length - m := by omega
      rw [en]
      refine lc_range (lo := 0) (n := l.length - m) (fun j G' => Same G G' ∧ G' D = some (.lst (((List.range j).map fun k => decide (V.int (l.getD (k + m) 0) = V.int (l.getD k 0 + r / (t : Int)))).map V.bl))) ⟨NF.Same.new (Same.refl G) hD, upd_same⟩ ?_ ?_
      · rintro j G' hj ⟨hG, hD2⟩
        have e1 : (0 : Int) + (j : Int) = (j : Int) := Int.zero_add _
        rw [e1]
        have hb2 := NF.Same.tup hG hb1
        refine ⟨rfl, _, rfl, _, rfl, _, rfl, _, _, rfl, rfl, b, _, _, _, rfl, rfl, hb2, at_int (k := j + m) (by omega) (by omega), ?_⟩
        refine ⟨_, rfl, _, rfl, b, _, _, _, rfl, rfl, hb2, at_int (k := j) rfl (by omega), _, rfl, _, _, rfl, rfl, rfl, ?_⟩
        refine ⟨_, hD2, by rw [List.length_map, List.length_map, List.length_range]; exact Nat.lt_of_lt_of_le (show j < 10000 by omega) (by decide), NF.Same.mut hG hD, ?_⟩
        rw [upd_same, List.range_succ, List.map_append, List.map_append]
        rfl
      · rintro G' ⟨hG, hD2⟩
        refine ⟨D, _, rfl, SqL.of hD2, _, rfl, ?_⟩
        have s2 := Same.trans s1 hG
        have hcond : ((List.range (l.length - m)).map fun k => decide (V.int (l.getD (k + m) 0) = V.int (l.getD k 0 + r / (t : Int)))).all id = true ↔ ∀ k, k + m < l.length → l.getD (k + m) 0 = l.getD k 0 + r / (t : Int) := by
          rw [all_range]
          constructor
          · intro hk k hk2
            have := of_decide_eq_true (hk k (by omega))
            injection this
          · intro hk k hk2
            exact decide_eq_true (congrArg V.int (hk k (by omega)))
        refine ite2 (fun hc => ?_) (fun hc => ?_)
        · have hper := hiff.mp ⟨hrt, hcond.mp hc⟩
          refine ⟨_, rfl, s2, m, ⟨m0, hd, hper, fun m' h1 _ _ => by omega⟩, _, _, _, rfl⟩
        · refine ⟨s2, sz, ⟨z0, z1, z2, fun m' h1 h2 h3 => ?_⟩, _, _, _, rfl⟩
          by_cases c : m' = m
          · subst c
            exact absurd (hcond.mpr (hiff.mpr h3).2) hc
          · exact z3 m' (by omega) h2 h3
    · rintro σ G ⟨s1, m, ⟨z0, z1, z2, z3⟩, v1, v2, v3, rfl⟩
      have hm : LapIs l r m := ⟨z0, z1, z2, fun m' h1 h2 h3 => z3 m' (by omega) h2 h3⟩
      have hle : m ≤ l.length := Nat.le_of_dvd hp z1
      obtain ⟨t, ht⟩ := z1
      have t0 : 0 < t := Nat.pos_of_ne_zero fun z => by rw [z, Nat.mul_zero] at ht; omega
      have hc := per_at hl z0 z2 ht.symm
      have ha1 := NF.Same.tup s1 ha
      have hb1 := NF.Same.tup s1 hb
      have e2 : ((vI l).length : Int) / (m : Int) = (t : Int) := by
        rw [vI_len, ht, Int.natCast_mul, Int.mul_ediv_cancel_left _ (by omega)]
      have tle : t ≤ l.length := by rw [ht]; exact Nat.le_mul_of_pos_left _ z0
      refine ⟨_, rfl, _, rfl, b, _, rfl, Or.inr hb1, _, rfl, _, _, rfl, rfl, ⟨by omega, by omega⟩, ?_⟩
      show rI CDiv _ (V.int r) (V.int (((vI l).length : Int) / (m : Int))) _ _
      rw [e2]
      refine ⟨_, _, rfl, rfl, ⟨by omega, by omega⟩, ?_⟩
      show gName 2 (V.int (r / (t : Int))) _ _ _
      generalize hcc : r / (t : Int) = cc at hc
      refine ⟨_, rfl, a, _, rfl, Or.inr ha1, fun q1 hq1 => ?_⟩
      have s2 := NF.Same.new (o := .lst (vI h)) s1 hq1
      refine ⟨_, rfl, _, rfl, _, rfl, ?_⟩
      refine slA_done (K := K) (NF.Same.tup (NF.Same.new (o := .lst (vI h)) (Same.refl G) hq1) hb1) fun p2 G2 s3 t2 => ?_
      rw [cut_to, vI_take] at t2
      refine ⟨p2, _, rfl, Or.inr t2, fun q2 hq2 => ?_⟩
      have hq1' : upd G2 q2 (.lst (vI (l.take m))) q1 = some (.lst (vI h)) := by
        have := s3 _ _ (upd_same (H := G) (a := q1) (o := .lst (vI h)))
        rw [upd_ne (ne_of_none this hq2)]
        exact this
      have hel : (h ++ l.take m).length = h.length + m := by rw [List.length_append, List.length_take, Nat.min_eq_left hle]
      refine ⟨q1, q2, _, _, rfl, rfl, hq1', upd_same, ?_, fun q3 hq3 => ?_⟩
      · rw [vI_len, vI_len, List.length_take]
        exact Nat.le_trans (show h.length + min m l.length ≤ 20000 by omega) (by decide)
      rw [vI_app]
      have s4 : Same H (upd (upd G2 q2 (.lst (vI (l.take m)))) q3 (.lst (vI (h ++ l.take m)))) := NF.Same.new (NF.Same.new (Same.trans s2 s3) hq2) hq3
      refine ⟨fun k σ G' => Same H G' ∧ k ≤ h.length ∧ cut (h ++ l.take m) m cc h.length = cut (h ++ l.take m) m cc k ∧ ∃ pr, G' pr = some (.lst (vI ((h ++ l.take m).take (k + m)))) ∧ σ = [some (.ref a), some (.ref b), some (.int cc), some (.int (m : Int)), v1, some (.ref pr), v2, v3, none],
        ⟨h.length, s4, Nat.le_refl _, rfl, q3, by rw [upd_same, show (h ++ l.take m).take (h.length + m) = h ++ l.take m from List.take_of_length_le (by omega)], rfl⟩, ?_⟩
      rintro k σ G' ⟨s5, hk, hcut, pr, hpr, rfl⟩
      have hlen : ((h ++ l.take m).take (k + m)).length = k + m := by rw [List.length_take, hel]; omega
      -- what is handed back
      have hdone : cut (h ++ l.take m) m cc k = k → (tRet (tTup (tCons (tCB (rTupOf K) (tCons (tSl (rSlL K) (tVar 5) tNoPart (tPart (tOp (rI0 fun i j => .int (i - j)) (tCB (fun xs H Q => ∃ a ys, xs = [.ref a] ∧ (SqL K H a ys ∨ SqT K H a ys) ∧ Q (.int (ys.length : Int)) H) (tCons (tVar 5) tNil)) (tVar 3)))) tNil))
          (tCons (tCB (rTupOf K) (tCons (tSl (rSlL K) (tVar 5) (tPart (tOp (rI0 fun i j => .int (i - j)) (tCB (fun xs H Q => ∃ a ys, xs = [.ref a] ∧ (SqL K H a ys ∨ SqT K H a ys) ∧ Q (.int (ys.length : Int)) H) (tCons (tVar 5) tNil)) (tVar 3))) tNoPart) tNil)) (tCons (tVar 2) tNil))))) { nx := fun _ H' => Q .non H', rt := Q }
          [some (.ref a), some (.ref b), some (.int cc), some (.int (m : Int)), v1, some (.ref pr), v2, v3, none] G' := fun hk2 => by
        have e5 : ((vI ((h ++ l.take m).take (k + m))).length : Int) - (m : Int) = (k : Int) := by rw [vI_len, hlen]; omega
        refine ⟨_, rfl, _, rfl, pr, _, rfl, Or.inl (SqL.of hpr), _, rfl, _, _, rfl, rfl, _, rfl, ?_⟩
        rw [e5]
        refine ⟨pr, _, rfl, SqL.of hpr, fun q1 hq1 => ?_⟩
        rw [cut_to, vI_take, List.take_take, Nat.min_eq_left (by omega)]
        refine ⟨q1, _, rfl, Or.inl (SqL.of upd_same), fun p1 G1 s6 t1 => ?_⟩
        have s06 : Same G' G1 := Same.trans (NF.Same.new (Same.refl G') hq1) s6
        have hpr1 := s06 _ _ hpr
        refine ⟨_, rfl, _, rfl, pr, _, rfl, Or.inl (SqL.of hpr1), _, rfl, _, _, rfl, rfl, _, rfl, ?_⟩
        rw [e5]
        refine ⟨pr, _, rfl, SqL.of hpr1, fun q2 hq2 => ?_⟩
        rw [cut_from, vI_drop]
        refine ⟨q2, _, rfl, Or.inl (SqL.of upd_same), fun p2 G2 s7 t2 => ?_⟩
        have s17 : Same G1 G2 := Same.trans (NF.Same.new (Same.refl G1) hq2) s7
        refine ⟨_, rfl, (by show 3 ≤ sizeLine; decide), fun p6 hp6 => ?_⟩
        have s8 := NF.Same.new (o := .tup [V.ref p1, V.ref p2, V.int cc]) (Same.refl G2) hp6
        have hx := plain_is (h := h) hl hm hc
        rw [hcut, hk2] at hx
        have ew : ((h ++ l.take m).take (k + m)).drop k = win (h ++ l.take m) k m := by
          unfold win
          rw [List.drop_take, Nat.add_sub_cancel_left]
        rw [ew] at t2
        exact q p6 _ _ hx (Same.trans s5 (Same.trans s06 (Same.trans s17 s8))) ⟨p1, p2, SqT.of upd_same, NF.Same.tup (Same.trans s17 s8) t1, NF.Same.tup s8 t2⟩
      refine ⟨_, rfl, pr, _, rfl, Or.inl (SqL.of hpr), _, rfl, _, _, rfl, rfl, _, rfl, ?_⟩
      refine ite2 (fun h1 => ?_) (fun h1 => ?_)
      · have k0 : 0 < k := by
          have := of_decide_eq_true h1
          rw [vI_len, hlen] at this
          omega
        obtain ⟨j, rfl⟩ : ∃ j, k = j + 1 := ⟨k - 1, by omega⟩
        have g1 : ((h ++ l.take m).take (j + 1 + m)).getD j 0 = (h ++ l.take m).getD j 0 := getD_take (by omega)
        have g2 : ((h ++ l.take m).take (j + 1 + m)).getD (j + m) 0 = (h ++ l.take m).getD (j + m) 0 := getD_take (by omega)
        refine ⟨_, rfl, _, rfl, _, rfl, _, _, rfl, rfl, pr, _, _, _, rfl, rfl, SqL.of hpr, at_neg (n := j) (by rw [hlen]; omega) (by omega) (by rw [hlen]; omega), ?_⟩
        refine ⟨_, rfl, _, rfl, pr, _, _, _, rfl, rfl, SqL.of hpr, at_neg (n := j + m) (by rw [hlen]; omega) (by omega) (by rw [hlen]; omega), _, rfl, _, _, rfl, rfl, rfl, _, rfl, ?_⟩
        rw [g1, g2]
        refine ite2 (fun h2 => ?_) (fun h2 => ?_)
        · have h2' : (h ++ l.take m).getD j 0 + cc = (h ++ l.take m).getD (j + m) 0 := by
            have := of_decide_eq_true h2
            injection this
            omega
          refine ⟨fun σ' G2 => Same H G2 ∧ ∃ pr', G2 pr' = some (.lst (vI ((h ++ l.take m).take (j + m)))) ∧ σ' = [some (.ref a), some (.ref b), some (.int cc), some (.int (m : Int)), v1, some (.ref pr'), v2, v3, none], fun σ' G2 ⟨z1, pr', z2, z3⟩ => ⟨j, Nat.lt_succ_self j, z1, by omega, ?_, pr', z2, z3⟩, ?_⟩
          · rw [hcut]
            show (if (h ++ l.take m).getD j 0 + cc = (h ++ l.take m).getD (j + m) 0 then _ else _) = _
            rw [if_pos h2']
          · refine ⟨_, rfl, _, rfl, _, rfl, pr, _, rfl, SqL.of hpr, fun q4 hq4 => ?_⟩
            refine ⟨NF.Same.new s5 hq4, q4, ?_, rfl⟩
            rw [upd_same]
            show some (HO.lst (cutV _ none (some (-((1 : Nat) : Int))))) = _
            rw [cut_toN (by decide), vI_len, hlen, vI_take, List.take_take, Nat.min_eq_left (by omega)]
            congr 4
            omega
        · refine hdone ?_
          show (if (h ++ l.take m).getD j 0 + cc = (h ++ l.take m).getD (j + m) 0 then _ else _) = _
          rw [if_neg fun z => h2 (decide_eq_true (congrArg V.int (by omega)))]
      · have k0 : k = 0 := by
          have : ¬ (m : Int) < ((vI ((h ++ l.take m).take (k + m))).length : Int) := fun z => h1 (decide_eq_true z)
          rw [vI_len, hlen] at this
          omega
        subst k0
        exact hdone rfl
end
end K05
set_option Elab.async false
set_option linter.all false
set_option maxRecDepth 100000
set_option maxHeartbeats 4000000
namespace K05
open PySem PySem.Spec PyProof.Rows L2 He NF RZ NT
def Counts (y : List Int × List Int × Int) : Prop := (∀ i, i ∈ y.1 ++ y.2.1 → 0 ≤ i) ∧ 0 ≤ y.2.2
def spSame (K : PySem.W.Frag) (C : Addr) : Sp := fun vs H Q _ => ∃ x p y, vs = [.ref x, .ref p] ∧ TabAt K C H x y ∧ FormAt K H p y ∧ Small y ∧ Counts y ∧ ∀ H', Same H H' → Q (.bl true) H'
def spLTable (K : PySem.W.Frag) (C : Addr) : Sp := fun vs H Q _ => ∃ p y, vs = [.ref p] ∧ FormAt K H p y ∧ RawOk y ∧ ∀ x z H', IsPlain y.1 y.2.1 y.2.2 z → Same H H' → TabAt K C H' x z → Q (.ref x) H'
theorem sc__law_same : FnScope ["_law_table_here", "_law_raw_here", "_law_one"] ["_law_table_here", "_law_raw_here"] (defScope s__law_same) := ⟨rfl, rfl, rfl, by decide +kernel, rfl, by decide +kernel, by decide +kernel⟩
theorem sc__law_table : FnScope ["_law_raw_here"] ["_law_raw_here"] (defScope s__law_table) := ⟨rfl, rfl, rfl, by decide +kernel, rfl, by decide +kernel, by decide +kernel⟩
theorem same_made {H H' : Hp} {x dx : Addr} {o o' : HO} (nx : H x = none) (nd : H dx = none) (s : Same (wo (upd (upd H dx o) x o') x) H') : Same H H' := fun b u e =>
  s b u (by rw [wo_ne (ne_of_none e nx), upd_ne (ne_of_none e nx), upd_ne (ne_of_none e nd)]; exact e)
theorem row_made {K : PySem.W.Frag} {H : Hp} {x dx a : Addr} {o o' : HO} {xs : List V} (nx : H x = none) (nd : H dx = none) (h : Row K H a xs) : Row K (upd (upd H dx o) x o') a xs := h.mono fun b u e => by
  rw [upd_ne (ne_of_none e nx), upd_ne (ne_of_none e nd)]
  exact e
section
variable {P : Program} {w : World} {K : PySem.W.Frag} {mg : Str → Option Value} {base : Heap} {gs : List Str} {C : Addr}
theorem ok__law_table {f : Addr} {fd : FuncData} (F : FunD K "_law_table" "_law_table" (defArgs s__law_table) (defBody s__law_table) (defScope s__law_table) [] [] f fd) (T : Txt K mg gs FS) (m_Table : Mak P w K mg base 4 0 "Table" C (spInit K C) []) : FnOk P w K mg base CX0 6 f fd ["_law_raw_here"] (spLTable K C) := by
  refine F.ok sc__law_table (fun vs H Q E h => ?_) (fun cdv A outer s H vs Q E hr h => ?_)
  · obtain ⟨p, y, rfl, _⟩ := h
    rfl
  · obtain ⟨p, ⟨h, l, r⟩, rfl, ⟨a, b, hp, ha, hb⟩, ok, q⟩ := h
    refine ⟨_, PSs.nox (pss_one (ps_ret (pe_mk m_Table hr (by decide) rfl (pa_cons (pe_ix (ixt (K := K)) (pv 0) pe_int fun _ _ => rfl) (pa_cons (pe_ix (ixt (K := K)) (pv 0) pe_int fun _ _ => rfl) (pa_cons (pe_ix (ixt (K := K)) (pv 0) pe_int fun _ _ => rfl) pa_nil)))))), ?_⟩
    refine ⟨_, rfl, p, _, _, _, rfl, rfl, hp, at0, _, rfl, p, _, _, _, rfl, rfl, hp, at1, _, rfl, p, _, _, _, rfl, rfl, hp, at2, ?_⟩
    intro x dx nx nd ne
    have o1 := ok.h
    have o2 := ok.l
    dsimp only at o1 o2 ha hb q
    exact ⟨x, dx, a, b, h, l, r, rfl, upd_same, row_made nx nd (.inr ha), row_made nx nd (.inr hb), ok.g, by omega, fun z H' hz s tb => ⟨rfl, q x z H' hz (same_made nx nd s) tb⟩⟩
theorem ok__law_same {f : Addr} {fd : FuncData} (F : FunD K "_law_same" "_law_same" (defArgs s__law_same) (defBody s__law_same) (defScope s__law_same) [] [] f fd) (T : Txt K mg gs FS) (hT : mg "Table" = some (.ref C)) (tc : TabC K C) (c__law_is_count : Cal P w K mg base 2 "_law_is_count" spIsCount) : FnOk P w K mg base CX0 3 f fd ["_law_table_here", "_law_raw_here"] (spSame K C) := by
  refine F.ok sc__law_same (fun vs H Q E h => ?_) (fun cdv A outer s H vs Q E hr h => ?_)
  · obtain ⟨x, p, y, rfl, _⟩ := h
    rfl
  · obtain ⟨x, p, ⟨h, l, r⟩, rfl, ⟨dx, a, b, hx, ha, hb⟩, ⟨a2, b2, hp, ha2, hb2⟩, sm, ⟨ct, c0⟩, q⟩ := h
    have hu : (A.deeper (envOfC "_law_same" (defScope s__law_same) s.heap.objs.size f cdv)).units + 64 < cLine := by
      have := hr.un
      omega
    have sm1 := sm.h
    have sm2 := sm.l
    dsimp only at hx ha hb hp ha2 hb2 sm1 sm2 ct c0
    refine ⟨_, PSs.nox (pss_cons (ps_if (PW.pt (pw_or (pt_not (pt_val (pe_callB call_isi rfl (T.fr _ (by decide +kernel)) (by decide +kernel) (pa_cons (pv 0) (pa_cons (pe_gl hT) pa_nil))))) (pw_or (pt_cmpR (op_neD hu) (pe_fld (pv 0) rfl) (pe_ix (ixt (K := K)) (pv 1) pe_int fun _ _ => rfl) (nomark _)) (pw_or1 (pt_cmpR (op_neD hu) (pe_fld (pv 0) rfl) (pe_ix (ixt (K := K)) (pv 1) pe_int fun _ _ => rfl) (nomark _)))))) (pss_one (ps_ret pe_bl)) pss_nil) (pss_cons (ps_if (PW.pt (pw_or (pt_not (pt_val (pe_callB call_isi rfl (T.fr _ (by decide +kernel)) (by decide +kernel) (pa_cons (pe_fld (pv 0) rfl) (pa_cons (pe_bltn (v := .ty "tuple") rfl (T.fr _ (by decide +kernel)) (by decide +kernel) rfl) pa_nil))))) (pw_or1 (pt_not (pt_val (pe_callB call_isi rfl (T.fr _ (by decide +kernel)) (by decide +kernel) (pa_cons (pe_fld (pv 0) rfl) (pa_cons (pe_bltn (v := .ty "tuple") rfl (T.fr _ (by decide +kernel)) (by decide +kernel) rfl) pa_nil)))))))) (pss_one (ps_ret pe_bl)) pss_nil) (pss_cons (ps_if (pt_not (pt_val (pe_callB (cr_all rfl) rfl (T.fr _ (by decide +kernel)) (by decide +kernel) (pa_cons (pe_lc (own := [("_law_one", 2)]) rfl sc__law_same.nd (pi_tup (pe_op op_catA (pe_fld (pv 0) rfl) (pe_fld (pv 0) rfl))) (blkOk_by (N := ["_law_table_here", "_law_raw_here", "_law_one"]) (sc := defScope s__law_same) (by decide +kernel)) (fun _ _ _ _ _ => by exact (pg_name (i := 2) sc__law_same.nd rfl (Or.inl rfl))) (fun _ _ _ _ _ => by exact pts_nil) (fun _ _ _ _ _ => by exact (pe_c c__law_is_count hr (by decide) rfl (pa_cons (pv 2) pa_nil)))) pa_nil)))) (pss_one (ps_ret pe_bl)) pss_nil) (pss_one (ps_ret (pe_and (pe_c c__law_is_count hr (by decide) rfl (pa_cons (pe_fld (pv 0) rfl) pa_nil)) (pe_one (pe_cmpR op_eq (pe_fld (pv 0) rfl) (pe_ix (ixt (K := K)) (pv 1) pe_int fun _ _ => rfl) (nomark _))))))))), ?_⟩
    refine ⟨_, rfl, _, _, _, _, true, rfl, .own C, tc.ty hx, tc.self, true, rfl, iteF ?_⟩
    refine ⟨_, rfl, x, C, dx, _, _, rfl, hx, tc.cl, tc.hd, rfl, _, rfl, p, _, _, _, rfl, rfl, hp, at0, ?_⟩
    refine neT_done (K := K) ha ha2 ⟨_, rfl, iteF' (by simp) ?_⟩
    refine ⟨_, rfl, x, C, dx, _, _, rfl, hx, tc.cl, tc.lp, rfl, _, rfl, p, _, _, _, rfl, rfl, hp, at1, ?_⟩
    refine neT_done (K := K) hb hb2 ⟨_, rfl, iteF' (by simp) ?_⟩
    refine ⟨_, rfl, x, C, dx, _, _, rfl, hx, tc.cl, tc.hd, rfl, _, _, _, _, true, rfl, .ty "tuple", tyx_tup ha, kit_t_t K, true, rfl, iteF ?_⟩
    refine ⟨_, rfl, x, C, dx, _, _, rfl, hx, tc.cl, tc.lp, rfl, _, _, _, _, true, rfl, .ty "tuple", tyx_tup hb, kit_t_t K, true, rfl, iteF ?_⟩
    refine ⟨_, rfl, x, C, dx, _, _, rfl, hx, tc.cl, tc.hd, rfl, _, rfl, x, C, dx, _, _, rfl, hx, tc.cl, tc.lp, rfl, ?_⟩
    refine catA_done (K := K) ha hb (by rw [vI_len, vI_len]; exact Nat.le_trans (show h.length + l.length ≤ 20000 by omega) (by decide)) fun p3 G1 s1 t1 => ?_
    rw [vI_app] at t1
    refine ⟨p3, rfl, ⟨_, t1⟩, fun D hD => ?_⟩
    refine lc_tup (xs := vI (h ++ l)) (fun j G => Same G1 G ∧ G D = some (.lst ((List.replicate j true).map V.bl))) ⟨NF.Same.new (Same.refl G1) hD, upd_same⟩ (fun i G _ z => NF.Same.tup z.1 t1) ?_ ?_
    · rintro j v G hv ⟨hG, hD2⟩
      have hj := (List.getElem?_eq_some_iff.mp hv).1
      rw [vI_len] at hj
      obtain rfl : V.int ((h ++ l)[j]) = v := by
        rw [List.getElem?_map, List.getElem?_eq_getElem hj] at hv
        exact Option.some.inj hv
      refine ⟨rfl, _, rfl, _, rfl, ?_⟩
      have hc := ct _ (List.getElem_mem hj)
      have hjl : j < 20000 := by
        rw [List.length_append] at hj
        omega
      rw [decide_eq_true hc]
      refine ⟨_, hD2, by rw [List.length_map, List.length_replicate]; exact Nat.lt_of_lt_of_le hjl (by decide), NF.Same.mut hG hD, ?_⟩
      rw [upd_same, List.replicate_succ', List.map_append] <;> rfl
    · rintro G ⟨hG, hD2⟩
      refine ⟨D, _, rfl, SqL.of hD2, true, ?_, iteF ?_⟩
      · rw [List.all_replicate]
        simp
      have s2 := Same.trans s1 hG
      have hx2 := s2 _ _ hx
      have hp2 := NF.Same.tup s2 hp
      refine ⟨_, rfl, x, C, dx, _, _, rfl, hx2, tc.cl, tc.ri, rfl, r, rfl, ?_⟩
      rw [decide_eq_true c0]
      refine ⟨true, rfl, iteT ⟨_, rfl, x, C, dx, _, _, rfl, hx2, tc.cl, tc.ri, rfl, _, rfl, p, _, _, _, rfl, rfl, hp2, at2, rfl, ?_⟩⟩
      show Q (V.bl (decide (V.int r = V.int r))) G
      rw [decide_eq_true rfl]
      exact q _ s2
end
end K05
set_option Elab.async false
set_option linter.all false
set_option maxRecDepth 100000
set_option maxHeartbeats 4000000
namespace NF
open PySem PySem.Spec PyProof.Rows L2 He RZ NT
theorem both1 {X R : Prop} (h1 : R → X) (h2 : R) : X := h1 h2
theorem vO_vN {o : Option Int} (h : ∀ i, o = some i → 0 ≤ i) : vO o = vN (o.map Int.toNat) := by
  cases o with
  | none => rfl
  | some i =>
    have := h i rfl
    exact congrArg V.int (show i = ((i.toNat : Nat) : Int) by omega)
end NF
namespace NT
theorem fin_ge {h l : List Int} {r : Int} (g : Good h l r) : ∀ i, fin_ l r = some i → 0 ≤ i := fun i e => by
  obtain ⟨u, _, h1, h2⟩ := val_fin g e 0
  omega
theorem climbs_mem : ∀ {l : List Int} {lo : Int}, climbs lo l → ∀ i ∈ l, lo ≤ i
  | [], _, _, _, h => nomatch h
  | x :: l, lo, c, i, h => by
    rcases List.mem_cons.mp h with rfl | h
    · exact c.1
    · exact Int.le_trans c.1 (climbs_mem c.2 i h)
theorem seg_all {F : Nat → Option Int} (h : ∀ n, F n ≠ none) {a m : Nat} : (seg F a m).map NF.vO = NF.vI (segN F a m) := by
  unfold seg segN NF.vI
  rw [List.map_map, List.map_map]
  refine List.map_congr_left fun k _ => ?_
  show NF.vO (F (a + k + 1)) = .int (numF F (a + k + 1))
  rw [numF_some (h (a + k + 1))]
  rfl
end NT
namespace K05
open PySem PySem.Spec PyProof.Rows L2 He NF RZ NT
/-- a table that can be put together with others: short -/
structure Put (y : List Int × List Int × Int) : Prop where
  g : Good y.1 y.2.1 y.2.2
  h : y.1.length ≤ 1000
  l : y.2.1.length ≤ 20
  r : y.2.2 ≤ 1000000
theorem Put.small {y : List Int × List Int × Int} (p : Put y) : Small y := ⟨Nat.le_trans p.h (by decide), Nat.le_trans p.l (by decide), p.g.r0, p.r⟩
/-- how long it grows -/
def Sz (y1 y2 x : List Int × List Int × Int) : Prop := x.1.length ≤ y2.1.length + (y1.1.length + 1) * y2.2.1.length ∧ x.2.1.length ≤ 1 + y2.2.1.length * y1.2.1.length ∧ x.2.2 ≤ y1.2.2 * y2.2.2
theorem settled_rise {os : List (Option Int)} {t : Option Int} : (settled os t).2.2 = 0 := by
  unfold settled
  split
  · rfl
  · split <;> rfl
def Tells (y1 y2 x : List Int × List Int × Int) : Prop := Good x.1 x.2.1 x.2.2 ∧ (∀ n, 1 ≤ n → at_ x.1 x.2.1 x.2.2 n = beh y1.1 y1.2.1 y1.2.2 y2.1 y2.2.1 y2.2.2 n) ∧ x.1.length + x.2.1.length ≤ 10000 ∧ Sz y1 y2 x
def spBehind (K : PySem.W.Frag) (C : Addr) : Sp := fun vs H Q _ => ∃ (x1 x2 : Addr) (y1 y2 : List Int × List Int × Int), vs = [.ref x1, .ref x2] ∧ TabAt K C H x1 y1 ∧ TabAt K C H x2 y2 ∧ Put y1 ∧ Put y2 ∧ (y1.1.length + 1) * y2.2.1.length ≤ 5000 ∧
  ∀ p x H', Same H H' → Tells y1 y2 x → FormAt K H' p x → Q (.ref p) H'
theorem sc_behind_form : FnScope ["first", "second", "lead", "head", "common", "many", "loop"] ["first", "second"] (defScope s_behind_form) := ⟨rfl, rfl, rfl, by decide +kernel, rfl, by decide +kernel, by decide +kernel⟩
section
variable {P : Program} {w : World} {K : PySem.W.Frag} {mg : Str → Option Value} {base : Heap} {gs fs : List Str} {C : Addr}
theorem ok_behind_form {f : Addr} {fd : FuncData} (F : FunD K "behind_form" "behind_form" (defArgs s_behind_form) (defBody s_behind_form) (defScope s_behind_form) [] [] f fd) (T : Txt K mg gs FS) (h_gcd : mg "gcd" = some (.builtin "math.gcd")) (tc : TabC K C) (c_end_of : Cal P w K mg base 1 "end_of" (spEnd K C)) (c_value_at : Cal P w K mg base 2 "value_at" (spAt K C)) (c_last_at_most : Cal P w K mg base 2 "last_at_most" (spLast K C)) (c_values_from : Cal P w K mg base 2 "values_from" (spFrom K C))
    (c_values_behind : Cal P w K mg base 3 "values_behind" (spBehV K C)) (c_settled_form : Cal P w K mg base 1 "settled_form" (spSettled K)) : FnOk P w K mg base CX0 4 f fd ["first", "second"] (spBehind K C) := by
  refine F.ok sc_behind_form (fun vs H Q E h => ?_) (fun cdv A outer s H vs Q E hr h => ?_)
  · obtain ⟨x1, x2, y1, y2, rfl, _⟩ := h
    rfl
  · obtain ⟨x1, x2, ⟨h1, l1, r1⟩, ⟨h2, l2, r2⟩, rfl, tb1, tb2, p1, p2, tg, q⟩ := h
    have sm1 := p1.small
    have g1 := p1.g
    have g2 := p2.g
    have lh1 := p1.h
    have ll1 := p1.l
    have lr1 := p1.r
    have lh2 := p2.h
    have ll2 := p2.l
    have lr2 := p2.r
    have tb10 := tb1
    have tb20 := tb2
    obtain ⟨dx1, a1, b1, hx1, ha1, hb1⟩ := tb10
    obtain ⟨dx2, a2, b2, hx2, ha2, hb2⟩ := tb20
    have A := beh_asc g1 g2
    dsimp only at hx1 ha1 hb1 hx2 ha2 hb2 g1 g2 lh1 ll1 lr1 lh2 ll2 lr2 A tg q
    have r20 := g2.r0
    have r10 := g1.r0
    have r12 : 0 ≤ r1 * r2 := Int.mul_nonneg r10 r20
    refine ⟨_, PSs.nox (pss_cons (ps_if (PW.pt (pw_or (pt_not (pt_truth (pe_fld (pv 1) rfl) (fun _ => rfl))) (pw_or1 (pt_cmpR op_eq (pe_fld (pv 1) rfl) pe_int (nomark _))))) (pss_one (ps_ret (pe_c c_settled_form hr (by decide) rfl (pa_cons (pe_c c_values_behind hr (by decide) rfl (pa_cons (pv 0) (pa_cons (pe_fld (pv 1) rfl) pa_nil))) (pa_cons (pe_c c_value_at hr (by decide) rfl (pa_cons (pv 0) (pa_cons (pe_c c_end_of hr (by decide) rfl (pa_cons (pv 1) pa_nil)) pa_nil))) pa_nil))))) pss_nil) (pss_cons (ps_set (i := 2) sc_behind_form.nd rfl (Or.inl rfl) (pe_callB (call_max2 rfl) rfl (T.fr _ (by decide +kernel)) (by decide +kernel) (pa_cons (pe_callB call_len_seq rfl (T.fr _ (by decide +kernel)) boot_len (pa_cons (pe_fld (pv 1) rfl) pa_nil)) (pa_cons (pe_c c_last_at_most hr (by decide) rfl (pa_cons (pv 1) (pa_cons (pe_callB call_len_seq rfl (T.fr _ (by decide +kernel)) boot_len (pa_cons (pe_fld (pv 0) rfl) pa_nil)) pa_nil))) pa_nil)))) (pss_cons (ps_set (i := 3) sc_behind_form.nd rfl (Or.inl rfl) (pe_c c_values_behind hr (by decide) rfl (pa_cons (pv 0) (pa_cons (pe_c c_values_from hr (by decide) rfl (pa_cons (pv 1) (pa_cons pe_int (pa_cons (pv 2) pa_nil)))) pa_nil)))) (pss_cons (ps_if (PW.pt (pw_or (pt_not (pt_truth (pe_fld (pv 0) rfl) (fun _ => rfl))) (pw_or1 (pt_cmpR op_eq (pe_fld (pv 0) rfl) pe_int (nomark _))))) (pss_one (ps_ret (pe_c c_settled_form hr (by decide) rfl (pa_cons (pv 3) (pa_cons (pe_c c_end_of hr (by decide) rfl (pa_cons (pv 0) pa_nil)) pa_nil))))) pss_nil) (pss_cons (ps_set (i := 4) sc_behind_form.nd rfl (Or.inl rfl) (pe_callBfun cr_gcd rfl h_gcd (pa_cons (pe_callB call_len_seq rfl (T.fr _ (by decide +kernel)) boot_len (pa_cons (pe_fld (pv 0) rfl) pa_nil)) (pa_cons (pe_fld (pv 1) rfl) pa_nil)))) (pss_cons (ps_set (i := 5) sc_behind_form.nd rfl (Or.inl rfl) (pe_op op_fdiv (pe_op op_mul (pe_callB call_len_seq rfl (T.fr _ (by decide +kernel)) boot_len (pa_cons (pe_fld (pv 1) rfl) pa_nil)) (pe_callB call_len_seq rfl (T.fr _ (by decide +kernel)) boot_len (pa_cons (pe_fld (pv 0) rfl) pa_nil))) (pv 4))) (pss_cons (ps_set (i := 6) sc_behind_form.nd rfl (Or.inl rfl) (pe_c c_values_behind hr (by decide) rfl (pa_cons (pv 0) (pa_cons (pe_c c_values_from hr (by decide) rfl (pa_cons (pv 1) (pa_cons (pe_op op_add (pv 2) pe_int) (pa_cons (pv 5) pa_nil)))) pa_nil)))) (pss_one (ps_ret (pe_tup (pa_cons (pe_callTy cr_tup rfl (T.fr _ (by decide +kernel)) (by decide +kernel) (pa_cons (pv 3) pa_nil)) (pa_cons (pe_callTy cr_tup rfl (T.fr _ (by decide +kernel)) (by decide +kernel) (pa_cons (pv 6) pa_nil)) (pa_cons (pe_op op_fdiv (pe_op op_mul (pe_fld (pv 0) rfl) (pe_fld (pv 1) rfl)) (pv 4)) pa_nil))))))))))))), ?_⟩
    by_cases cA : l2 = [] ∨ r2 = 0
    · refine' both1 (fun kA => ?A1) ?B1
      case A1 =>
        refine ⟨_, rfl, x2, C, dx2, _, _, rfl, hx2, tc.cl, tc.lp, rfl, _, tru_tup hb2, ?_⟩
        by_cases hl : l2 = []
        · rw [is_nil hl]
          exact iteT (iteT kA)
        · rw [ne_nil hl]
          refine iteF ⟨_, rfl, x2, C, dx2, _, _, rfl, hx2, tc.cl, tc.ri, rfl, rfl, _, rfl, iteT' (decide_eq_true (congrArg V.int (cA.resolve_left hl))) kA⟩
      case B1 =>
        refine ⟨_, rfl, _, rfl, x2, C, dx2, _, _, rfl, hx2, tc.cl, tc.hd, rfl, x1, a2, _, h2, rfl, tb1, sm1, .inr ha2, climbs_mem g2.hd, by omega, fun q1 H1 s1 hq1 => ?_⟩
        refine ⟨_, rfl, _, rfl, x2, _, rfl, tb2.mono s1, x1, _, (fin_ l2 r2).map Int.toNat, congrArg (fun z => [V.ref x1, z]) (vO_vN (fin_ge g2)), tb1.mono s1, sm1, fun H2 s2 => ?_⟩
        have eos : (h2.map fun i => val_ h1 l1 r1 (some i.toNat)) = seg (beh h1 l1 r1 h2 l2 r2) 0 h2.length := by
          have := seg_map (h1 := h1) (l1 := l1) (r1 := r1) (h2 := h2) (l2 := l2) (r2 := r2) (s := 0) (m := h2.length) fun k hk => by
            rw [at_some _ (.inl (by omega))]
            exact fun z => by cases z
          rw [← head_seg] at this
          exact this
        refine ⟨q1, h2.map (fun i => val_ h1 l1 r1 (some i.toNat)), val_ h1 l1 r1 ((fin_ l2 r2).map Int.toNat), rfl, SqL.of (s2 _ _ hq1), by rw [List.length_map]; omega, fun p H3 s3 fo => ?_⟩
        rw [eos] at fo
        obtain ⟨z1, z2, z3, z4⟩ := settled_ok A (N := h2.length) (t := val_ h1 l1 r1 ((fin_ l2 r2).map Int.toNat)) fun n hn => beh_end g2 cA hn
        exact q p _ H3 (Same.trans s1 (Same.trans s2 s3)) ⟨z1, z2, by omega, by dsimp only; omega, by dsimp only; omega, by dsimp only; rw [settled_rise]; exact r12⟩ fo
    · have hl2 : l2 ≠ [] := fun z => cA (.inl z)
      have r2p : 0 < r2 := by
        have : r2 ≠ 0 := fun z => cA (.inr z)
        omega
      have l20 := len_pos hl2
      refine ⟨_, rfl, x2, C, dx2, _, _, rfl, hx2, tc.cl, tc.lp, rfl, _, tru_tup hb2, ?_⟩
      rw [ne_nil hl2]
      refine iteF ⟨_, rfl, x2, C, dx2, _, _, rfl, hx2, tc.cl, tc.ri, rfl, rfl, _, rfl, iteF' (decide_eq_false fun z => ?_) ?_⟩
      · injection z with z
        omega
      refine ⟨_, rfl, x2, C, dx2, _, _, rfl, hx2, tc.cl, tc.hd, rfl, a2, _, rfl, Or.inr ha2, ?_⟩
      rw [vI_len]
      refine ⟨_, rfl, _, rfl, x1, C, dx1, _, _, rfl, hx1, tc.cl, tc.hd, rfl, a1, _, rfl, Or.inr ha1, ?_⟩
      rw [vI_len]
      refine ⟨x2, _, h1.length, rfl, tb2, g2, hl2, r2p, lr2, lh2, ll2, lh1, fun n H1 hn far1 s1 => ?_⟩
      dsimp only at hn
      obtain ⟨lead, hlead⟩ : ∃ lead, lead = max h2.length n := ⟨_, rfl⟩
      have elead : (if (n : Int) > (h2.length : Int) then (n : Int) else (h2.length : Int)) = (lead : Int) := by
        by_cases c : (n : Int) > (h2.length : Int)
        · rw [if_pos c]; omega
        · rw [if_neg c]; omega
      refine ⟨_, _, rfl, ?_⟩
      show gName 2 (V.int (if (n : Int) > (h2.length : Int) then (n : Int) else (h2.length : Int))) _ _ _
      rw [elead]
      rw [← hlead] at far1
      have far := far_of g2 hl2 far1
      have sall : ∀ k, at_ h2 l2 r2 k ≠ none := fun k => by
        rw [at_some _ (.inr hl2)]
        exact fun z => by cases z
      have tb1' := tb1.mono s1
      have tb2' := tb2.mono s1
      have hx1' := s1 _ _ hx1
      have hb1' := NF.Same.tup s1 hb1
      refine ⟨_, rfl, _, rfl, _, rfl, x2, _, 0, lead, rfl, tb2', .inl hl2, r20, lr2, by dsimp only; omega, by dsimp only; omega, by omega, by omega, fun q1 H2 s2 hq1 => ?_⟩
      refine ⟨x1, q1, _, segN (at_ h2 l2 r2) 0 lead, rfl, tb1'.mono s2, sm1, .inl (SqL.of hq1), ?_, by rw [segN_len]; omega, fun q2 H3 s3 hq2 => ?_⟩
      · intro i hi
        unfold segN at hi
        obtain ⟨k, _, rfl⟩ := List.mem_map.mp hi
        exact (asc_at g2).nonneg (by omega) (sall _)
      rw [seg_map fun k hk => sall _] at hq2
      have s13 : Same H H3 := Same.trans s1 (Same.trans s2 s3)
      have tb1c := tb1.mono s13
      have tb2c := tb2.mono s13
      have hx1c := s13 _ _ hx1
      have hb1c := NF.Same.tup s13 hb1
      have hx2c := s13 _ _ hx2
      have hb2c := NF.Same.tup s13 hb2
      by_cases cB : l1 = [] ∨ r1 = 0
      · refine' both1 (fun kA => ?A2) ?B2
        case A2 =>
          refine ⟨_, rfl, x1, C, dx1, _, _, rfl, hx1c, tc.cl, tc.lp, rfl, _, tru_tup hb1c, ?_⟩
          by_cases hl : l1 = []
          · rw [is_nil hl]
            exact iteT (iteT kA)
          · rw [ne_nil hl]
            refine iteF ⟨_, rfl, x1, C, dx1, _, _, rfl, hx1c, tc.cl, tc.ri, rfl, rfl, _, rfl, iteT' (decide_eq_true (congrArg V.int (cB.resolve_left hl))) kA⟩
        case B2 =>
          refine ⟨_, rfl, _, rfl, x1, _, rfl, tb1c, q2, seg (beh h1 l1 r1 h2 l2 r2) 0 lead, fin_ l1 r1, rfl, SqL.of hq2, by rw [seg_len]; omega, fun p H4 s4 fo => ?_⟩
          obtain ⟨z1, z2, z3, z4⟩ := settled_ok A (N := lead) (t := fin_ l1 r1) fun n hn => by
            obtain ⟨v, hv, lv⟩ := far n hn
            exact beh_flat g1 cB hv lv
          exact q p _ H4 (Same.trans s13 s4) ⟨z1, z2, by omega, by dsimp only; omega, by dsimp only; omega, by dsimp only; rw [settled_rise]; exact r12⟩ fo
      · have hl1 : l1 ≠ [] := fun z => cB (.inl z)
        have l10 := len_pos hl1
        refine ⟨_, rfl, x1, C, dx1, _, _, rfl, hx1c, tc.cl, tc.lp, rfl, _, tru_tup hb1c, ?_⟩
        rw [ne_nil hl1]
        refine iteF ⟨_, rfl, x1, C, dx1, _, _, rfl, hx1c, tc.cl, tc.ri, rfl, rfl, _, rfl, iteF' (decide_eq_false fun z => ?_) ?_⟩
        · injection z with z
          exact cB (.inr z)
        obtain ⟨rn, hrn⟩ : ∃ rn : Nat, r2 = (rn : Int) := ⟨r2.toNat, by omega⟩
        obtain ⟨gg, hgg⟩ : ∃ gg, gg = Nat.gcd l1.length rn := ⟨_, rfl⟩
        have gg0 : 0 < gg := by rw [hgg]; exact Nat.gcd_pos_of_pos_left _ l10
        have gg1 : gg ≤ l1.length := by rw [hgg]; exact Nat.gcd_le_left _ l10
        obtain ⟨qq, hqq⟩ : gg ∣ l1.length := by rw [hgg]; exact Nat.gcd_dvd_left _ _
        obtain ⟨rq, hrq⟩ : gg ∣ rn := by rw [hgg]; exact Nat.gcd_dvd_right _ _
        have qq0 : 0 < qq := by
          rcases Nat.eq_zero_or_pos qq with z | z
          · rw [z] at hqq; omega
          · exact z
        have qq1 : qq ≤ l1.length := by rw [hqq]; exact Nat.le_mul_of_pos_left _ gg0
        refine ⟨_, rfl, x1, C, dx1, _, _, rfl, hx1c, tc.cl, tc.lp, rfl, b1, _, rfl, Or.inr hb1c, ?_⟩
        rw [vI_len]
        refine ⟨_, rfl, x2, C, dx2, _, _, rfl, hx2c, tc.cl, tc.ri, rfl, _, _, rfl, ?_⟩
        have eg : ((Nat.gcd ((l1.length : Nat) : Int).natAbs r2.natAbs : Nat) : Int) = (gg : Int) := by rw [hgg, hrn, Int.natAbs_natCast, Int.natAbs_natCast]
        show gName 4 (V.int ((Nat.gcd ((l1.length : Nat) : Int).natAbs r2.natAbs : Nat) : Int)) _ _ _
        rw [eg]
        refine ⟨_, rfl, x2, C, dx2, _, _, rfl, hx2c, tc.cl, tc.lp, rfl, b2, _, rfl, Or.inr hb2c, _, rfl, x1, C, dx1, _, _, rfl, hx1c, tc.cl, tc.lp, rfl, b1, _, rfl, Or.inr hb1c, ?_⟩
        rw [vI_len, vI_len]
        refine ⟨_, _, rfl, rfl, Or.inr ⟨by omega, by omega⟩, _, rfl, _, _, rfl, rfl, ⟨by omega, by omega⟩, ?_⟩
        obtain ⟨many, hmany⟩ : ∃ many, many = l2.length * qq := ⟨_, rfl⟩
        have manyle : many ≤ 400 := by rw [hmany]; exact Nat.mul_le_mul (show l2.length ≤ 20 by omega) (show qq ≤ 20 by omega)
        have many0 : 0 < many := by rw [hmany]; exact Nat.mul_pos l20 qq0
        have em : (l2.length : Int) * (l1.length : Int) / (gg : Int) = (many : Int) := by
          rw [hqq, hmany, Int.natCast_mul, Int.natCast_mul, Int.mul_comm (gg : Int), ← Int.mul_assoc]
          exact Int.mul_ediv_cancel _ (by omega)
        show gName 5 (V.int ((l2.length : Int) * (l1.length : Int) / (gg : Int))) _ _ _
        rw [em]
        refine ⟨_, rfl, _, rfl, _, rfl, _, _, rfl, rfl, _, rfl, x2, _, lead, many, rfl, tb2c, .inl hl2, r20, lr2, by dsimp only; omega, by dsimp only; omega, by omega, by omega, fun q3 H4 s4 hq3 => ?_⟩
        refine ⟨x1, q3, _, segN (at_ h2 l2 r2) lead many, rfl, tb1c.mono s4, sm1, .inl (SqL.of hq3), ?_, by rw [segN_len]; omega, fun q4 H5 s5 hq4 => ?_⟩
        · intro i hi
          unfold segN at hi
          obtain ⟨k, _, rfl⟩ := List.mem_map.mp hi
          exact (asc_at g2).nonneg (by omega) (sall _)
        rw [seg_map fun k hk => sall _] at hq4
        have ball := fun n => beh_some (h1 := h1) (l1 := l1) (r1 := r1) (h2 := h2) (l2 := l2) (r2 := r2) hl1 hl2 n
        have s35 : Same H3 H5 := Same.trans s4 s5
        have hq2' := s35 _ _ hq2
        rw [seg_all ball] at hq2' hq4
        refine ⟨_, rfl, q2, _, rfl, .inl (SqL.of hq2'), fun p1 G1 s6 t6 => ?_⟩
        refine ⟨_, rfl, q4, _, rfl, .inl (SqL.of (s6 _ _ hq4)), fun p2 G2 s7 t7 => ?_⟩
        have s37 : Same H3 G2 := Same.trans s35 (Same.trans s6 s7)
        refine ⟨_, rfl, x1, C, dx1, _, _, rfl, s37 _ _ hx1c, tc.cl, tc.ri, rfl, _, rfl, x2, C, dx2, _, _, rfl, s37 _ _ hx2c, tc.cl, tc.ri, rfl, _, _, rfl, rfl, Or.inr ⟨by omega, by omega⟩, _, rfl, _, _, rfl, rfl, ⟨by omega, by omega⟩, (by show 3 ≤ sizeLine; decide), fun p3 hp3 => ?_⟩
        have s8 := NF.Same.new (o := .tup [V.ref p1, V.ref p2, V.int (r1 * r2 / (gg : Int))]) (Same.refl G2) hp3
        have er : r1 * r2 / (gg : Int) = r1 * (rq : Int) := by
          rw [hrn, hrq, Int.natCast_mul, Int.mul_comm (gg : Int), ← Int.mul_assoc]
          exact Int.mul_ediv_cancel _ (by omega)
        have L := looped A (N := lead) (m := many) (c := r1 * (rq : Int)) many0 (fun n _ => ball n) (fun n hn => by
          rw [hmany]
          exact beh_per hl1 hl2 hqq (by rw [hrn, hrq]) (show h2.length ≤ lead by omega) far n hn)
        refine q p3 (segN (beh h1 l1 r1 h2 l2 r2) 0 lead, segN (beh h1 l1 r1 h2 l2 r2) lead many, r1 * (rq : Int)) _ (Same.trans s13 (Same.trans s37 s8)) ⟨L.1, L.2, by dsimp only; rw [segN_len, segN_len]; omega, by dsimp only; rw [segN_len]; omega, by dsimp only; rw [segN_len]; exact Nat.le_trans (Nat.le_of_eq hmany) (Nat.le_trans (Nat.mul_le_mul_left _ qq1) (Nat.le_add_left _ _)), by dsimp only; exact Int.mul_le_mul_of_nonneg_left (by rw [hrn]; exact Int.ofNat_le.mpr (by rw [hrq]; exact Nat.le_mul_of_pos_left _ gg0)) r10⟩ ⟨p1, p2, ?_, NF.Same.tup (Same.trans s7 s8) t6, NF.Same.tup s8 t7⟩
        dsimp only
        rw [← er]
        exact SqT.of upd_same
end
end K05
set_option Elab.async false
set_option linter.all false
set_option maxRecDepth 100000
set_option maxHeartbeats 4000000
namespace K05
open PySem PySem.Spec PyProof.Rows L2 He NF RZ NT
/-- x * y -/
def spMul (K : PySem.W.Frag) (C : Addr) : Sp := fun vs H Q _ => ∃ (x1 x2 : Addr) (y1 y2 : List Int × List Int × Int), vs = [.ref x1, .ref x2] ∧ TabAt K C H x1 y1 ∧ TabAt K C H x2 y2 ∧ Put y1 ∧ Put y2 ∧ (y1.1.length + 1) * y2.2.1.length ≤ 5000 ∧
  ∀ x u z H', Tells y1 y2 u → IsPlain u.1 u.2.1 u.2.2 z → Same H H' → TabAt K C H' x z → Q (.ref x) H'
theorem sc_Table___mul__ : FnScope ["self", "other", "head", "loop", "rise"] ["self", "other"] (defScope s_Table_mul) := ⟨rfl, rfl, rfl, by decide +kernel, rfl, by decide +kernel, by decide +kernel⟩
section
variable {P : Program} {w : World} {K : PySem.W.Frag} {mg : Str → Option Value} {base : Heap} {gs fs : List Str} {C : Addr}
theorem ok_Table_mul {f : Addr} {fd : FuncData} (F : FunD K "__mul__" "Table.__mul__" (defArgs s_Table_mul) (defBody s_Table_mul) (defScope s_Table_mul) [] [] f fd) (T : Txt K mg gs FS) (c_behind_form : Cal P w K mg base 4 "behind_form" (spBehind K C)) (m_Table : Mak P w K mg base 4 0 "Table" C (spInit K C) []) : FnOk P w K mg base CX0 6 f fd ["self", "other"] (spMul K C) := by
  refine F.ok sc_Table___mul__ (fun vs H Q E h => ?_) (fun cdv A outer s H vs Q E hr h => ?_)
  · obtain ⟨x1, x2, y1, y2, rfl, _⟩ := h
    rfl
  · obtain ⟨x1, x2, y1, y2, rfl, tb1, tb2, p1, p2, tg, q⟩ := h
    refine ⟨_, PSs.nox (pss_cons (ps_asg (pe_c c_behind_form hr (by decide) rfl (pa_cons (pv 0) (pa_cons (pv 1) pa_nil))) (pgt (K := K) (n := 3) rfl rfl (pgs_cons (pg_name (i := 2) sc_Table___mul__.nd rfl (Or.inl rfl)) (pgs_cons (pg_name (i := 3) sc_Table___mul__.nd rfl (Or.inl rfl)) (pgs_cons (pg_name (i := 4) sc_Table___mul__.nd rfl (Or.inl rfl)) pgs_nil))))) (pss_one (ps_ret (pe_mk m_Table hr (by decide) rfl (pa_cons (pv 2) (pa_cons (pv 3) (pa_cons (pv 4) pa_nil))))))), ?_⟩
    refine ⟨_, rfl, _, rfl, x1, x2, y1, y2, rfl, tb1, tb2, p1, p2, tg, fun p u H1 s1 tl ⟨a, b, hp, ha, hb⟩ => ?_⟩
    refine ⟨p, _, rfl, hp, rfl, _, _, rfl, ?_⟩
    refine ⟨_, _, rfl, ?_⟩
    refine ⟨_, _, rfl, ?_⟩
    refine ⟨rfl, ?_⟩
    refine ⟨_, rfl, _, rfl, _, rfl, ?_⟩
    intro x dx nx nd ne
    exact ⟨x, dx, a, b, u.1, u.2.1, u.2.2, rfl, upd_same, row_made nx nd (.inr ha), row_made nx nd (.inr hb), tl.1, tl.2.2.1, fun z H' hz s tb => ⟨rfl, q x u z H' tl hz (Same.trans s1 (same_made nx nd s)) tb⟩⟩
end
end K05
set_option linter.all false
/-! Where one walk leads another one: ladders of least values, lanes, leads. Plain Lean. -/
namespace NT
/-- Python's min of two -/
def mn (a b : Int) : Int := if b < a then b else a
/-- v is the least of f on the w places from i on -/
structure IsLo (f : Nat → Int) (i w : Nat) (v : Int) : Prop where
  le : ∀ j, i ≤ j → j < i + w → v ≤ f j
  at_ : ∃ j, i ≤ j ∧ j < i + w ∧ f j = v
theorem IsLo.one (f : Nat → Int) (i : Nat) : IsLo f i 1 (f i) := ⟨fun j h1 h2 => by rw [show j = i by omega]; exact Int.le_refl _, i, Nat.le_refl _, by omega, rfl⟩
theorem IsLo.join {f : Nat → Int} {i w d : Nat} {a b : Int} (h1 : IsLo f i w a) (h2 : IsLo f (i + d) w b) (hd : d ≤ w) : IsLo f i (w + d) (mn a b) := by
  have ha : mn a b ≤ a := by unfold mn; split <;> omega
  have hb : mn a b ≤ b := by unfold mn; split <;> omega
  refine ⟨fun j j1 j2 => ?_, ?_⟩
  · by_cases c : j < i + w
    · exact Int.le_trans ha (h1.le j j1 c)
    · exact Int.le_trans hb (h2.le j (by omega) (by omega))
  · unfold mn
    by_cases c : b < a
    · rw [if_pos c]
      obtain ⟨j, j1, j2, j3⟩ := h2.at_
      exact ⟨j, by omega, by omega, j3⟩
    · rw [if_neg c]
      obtain ⟨j, j1, j2, j3⟩ := h1.at_
      exact ⟨j, by omega, by omega, j3⟩
/-- a rung: the least values of f, window w, over the first n places -/
structure Rung (f : Nat → Int) (n w : Nat) (m : List Int) : Prop where
  w0 : 0 < w
  wn : w ≤ n
  len : m.length = n + 1 - w
  lo : ∀ i, i + w ≤ n → IsLo f i w (m.getD i 0)
theorem Rung.base {f : Nat → Int} {m : List Int} (h0 : 0 < m.length) (h : ∀ i, i < m.length → m.getD i 0 = f i) : Rung f m.length 1 m :=
  ⟨by decide, h0, by omega, fun i hi => by rw [h i (by omega)]; exact IsLo.one f i⟩
/-- the next rung -/
def nextRow (m : List Int) (w : Nat) : List Int := List.zipWith mn m (m.drop w)
theorem Rung.next {f : Nat → Int} {n w : Nat} {m : List Int} (h : Rung f n w m) (h2 : 2 * w ≤ n) : Rung f n (2 * w) (nextRow m w) := by
  have hl := h.len
  have w0 := h.w0
  have hz : (nextRow m w).length = n + 1 - 2 * w := by
    unfold nextRow
    rw [List.length_zipWith, List.length_drop]
    omega
  refine ⟨by omega, h2, hz, fun i hi => ?_⟩
  have e : (nextRow m w).getD i 0 = mn (m.getD i 0) (m.getD (i + w) 0) := by
    have h1 : i < m.length := by omega
    have h2 : w + i < m.length := by omega
    unfold nextRow
    rw [List.getD_eq_getElem?_getD, List.getD_eq_getElem?_getD, List.getD_eq_getElem?_getD, List.getElem?_zipWith, List.getElem?_drop, show i + w = w + i by omega, List.getElem?_eq_getElem h1, List.getElem?_eq_getElem h2]
    rfl
  rw [e, show 2 * w = w + w by omega]
  exact (h.lo i (by omega)).join (h.lo (i + w) (by omega)) (Nat.le_refl _)
/-- a ladder, the widest rung first -/
inductive Lad (f : Nat → Int) (n : Nat) : Nat → List (Nat × List Int) → Prop where
  | one {m : List Int} (h : Rung f n 1 m) : Lad f n 1 [(1, m)]
  | two {w : Nat} {m : List Int} {L : List (Nat × List Int)} (h : Rung f n (2 * w) m) (r : Lad f n w L) : Lad f n (2 * w) ((2 * w, m) :: L)
theorem Lad.head {f : Nat → Int} {n w : Nat} {L : List (Nat × List Int)} (h : Lad f n w L) : ∃ m L', L = (w, m) :: L' ∧ Rung f n w m := by
  cases h with
  | one h => exact ⟨_, _, rfl, h⟩
  | two h r => exact ⟨_, _, rfl, h⟩
theorem Lad.step {f : Nat → Int} {n w : Nat} {L : List (Nat × List Int)} (h : Lad f n w L) (h2 : 2 * w ≤ n) : ∃ m, L.head? = some (w, m) ∧ Lad f n (2 * w) ((2 * w, nextRow m w) :: L) := by
  obtain ⟨m, L', rfl, hm⟩ := h.head
  exact ⟨m, rfl, .two (hm.next h2) h⟩
theorem Lad.least {f : Nat → Int} {n w W i : Nat} {L : List (Nat × List Int)} (h : Lad f n w L) (h1 : w ≤ W) (h2 : W < 2 * w) (hi : i + W ≤ n) : ∃ m L', L = (w, m) :: L' ∧ i < m.length ∧ i + (W - w) < m.length ∧ IsLo f i W (mn (m.getD i 0) (m.getD (i + (W - w)) 0)) := by
  obtain ⟨m, L', rfl, hm⟩ := h.head
  have hl := hm.len
  refine ⟨m, L', rfl, by omega, by omega, ?_⟩
  have := (hm.lo i (by omega)).join (hm.lo (i + (W - w)) (by omega)) (by omega)
  rw [show w + (W - w) = W by omega] at this
  exact this
/-- the descent to the first place under a limit -/
def under (lim : Int) : Nat → List (Nat × List Int) → Nat
  | a, [] => a
  | a, (w, m) :: L => under lim (if a < m.length ∧ lim ≤ m.getD a 0 then a + w else a) L
/-- the first place from i on with f under the limit -/
structure First (f : Nat → Int) (lim : Int) (i t : Nat) : Prop where
  le : i ≤ t
  at_ : f t < lim
  no : ∀ j, i ≤ j → j < t → lim ≤ f j
theorem under_ok {f : Nat → Int} {n : Nat} {lim : Int} : ∀ {w : Nat} {L : List (Nat × List Int)}, Lad f n w L → ∀ {a t : Nat}, First f lim a t → t < a + 2 * w → t < n → under lim a L = t := by
  intro w L h
  induction h with
  | @one m h =>
    intro a t F h1 h2
    have hl := h.len
    show (if a < m.length ∧ lim ≤ m.getD a 0 then a + 1 else a) = t
    have han : a < n := Nat.lt_of_le_of_lt F.le h2
    have e : m.getD a 0 = f a := by
      obtain ⟨j, j1, j2, j3⟩ := (h.lo a (by omega)).at_
      rw [← j3, show j = a by omega]
    by_cases c : a < m.length ∧ lim ≤ m.getD a 0
    · rw [if_pos c]
      have hne : a ≠ t := fun z => by
        have := F.at_
        rw [← z, ← e] at this
        omega
      have := F.le
      omega
    · rw [if_neg c]
      have hlt : f a < lim := by
        rw [← e]
        refine Int.lt_of_not_ge fun z => c ⟨by omega, z⟩
      refine Classical.byContradiction fun z => ?_
      have := F.no a (Nat.le_refl _) (by have := F.le; omega)
      omega
  | @two w m L h r ih =>
    intro a t F h1 h2
    have hl := h.len
    show under lim (if a < m.length ∧ lim ≤ m.getD a 0 then a + 2 * w else a) L = t
    have w0 := h.w0
    by_cases c : a < m.length ∧ lim ≤ m.getD a 0
    · rw [if_pos c]
      have lo := h.lo a (by omega)
      have ht : a + 2 * w ≤ t := Nat.le_of_not_lt fun z => by
        have := lo.le t F.le z
        have := F.at_
        omega
      exact ih ⟨ht, F.at_, fun j j1 j2 => F.no j (by omega) j2⟩ (by omega) h2
    · rw [if_neg c]
      refine ih F ?_ h2
      by_cases hm : a < m.length
      · have hlt : m.getD a 0 < lim := Int.lt_of_not_ge fun z => c ⟨hm, z⟩
        have lo := h.lo a (by omega)
        obtain ⟨j, j1, j2, j3⟩ := lo.at_
        refine Classical.byContradiction fun z => ?_
        have := F.no j j1 (by omega)
        omega
      · omega
/-- the descent from behind to the last place under a limit; e: the place behind the last one looked at -/
def underB (lim : Int) (s : Nat) : Nat → List (Nat × List Int) → Nat
  | e, [] => e
  | e, (w, m) :: L => underB lim s (if s + w ≤ e ∧ lim ≤ m.getD (e - w) 0 then e - w else e) L
/-- the last place ahead of e, not ahead of s, with f under the limit -/
structure Last (f : Nat → Int) (lim : Int) (s e t : Nat) : Prop where
  ge : s ≤ t
  lt : t < e
  at_ : f t < lim
  no : ∀ j, t < j → j < e → lim ≤ f j
theorem underB_ok {f : Nat → Int} {n : Nat} {lim : Int} {s : Nat} : ∀ {w : Nat} {L : List (Nat × List Int)}, Lad f n w L → ∀ {e t : Nat}, Last f lim s e t → e ≤ t + 2 * w → e ≤ n → underB lim s e L = t + 1 := by
  intro w L h
  induction h with
  | @one m h =>
    intro e t F h1 h2
    have hl := h.len
    have f1 := F.ge
    have f2 := F.lt
    show (if s + 1 ≤ e ∧ lim ≤ m.getD (e - 1) 0 then e - 1 else e) = t + 1
    have e1 : m.getD (e - 1) 0 = f (e - 1) := by
      obtain ⟨j, j1, j2, j3⟩ := (h.lo (e - 1) (by omega)).at_
      rw [← j3, show j = e - 1 by omega]
    by_cases c : s + 1 ≤ e ∧ lim ≤ m.getD (e - 1) 0
    · rw [if_pos c]
      have hne : e - 1 ≠ t := fun z => by
        have := F.at_
        rw [← z, ← e1] at this
        omega
      omega
    · rw [if_neg c]
      have hlt : f (e - 1) < lim := by
        rw [← e1]
        refine Int.lt_of_not_ge fun z => c ⟨by omega, z⟩
      refine Classical.byContradiction fun z => ?_
      have := F.no (e - 1) (by omega) (by omega)
      omega
  | @two w m L h r ih =>
    intro e t F h1 h2
    have hl := h.len
    have w0 := h.w0
    have f1 := F.ge
    have f2 := F.lt
    show underB lim s (if s + 2 * w ≤ e ∧ lim ≤ m.getD (e - 2 * w) 0 then e - 2 * w else e) L = t + 1
    by_cases c : s + 2 * w ≤ e ∧ lim ≤ m.getD (e - 2 * w) 0
    · rw [if_pos c]
      have lo := h.lo (e - 2 * w) (by omega)
      have ht : t < e - 2 * w := Nat.lt_of_not_le fun z => by
        have := lo.le t z (by omega)
        have := F.at_
        omega
      exact ih ⟨f1, ht, F.at_, fun j j1 j2 => F.no j j1 (by omega)⟩ (by omega) (by omega)
    · rw [if_neg c]
      refine ih F ?_ h2
      by_cases hm : s + 2 * w ≤ e
      · have hlt : m.getD (e - 2 * w) 0 < lim := Int.lt_of_not_ge fun z => c ⟨hm, z⟩
        have lo := h.lo (e - 2 * w) (by omega)
        obtain ⟨j, j1, j2, j3⟩ := lo.at_
        refine Classical.byContradiction fun z => ?_
        have := F.no j (by omega) (by omega)
        omega
      · omega
end NT
set_option linter.all false
/-! Leads of one walk over another one: lanes, runners, the first and the last lead. Plain Lean. -/
namespace NT
/-- the numbers of two laps -/
structure Ln (L M g W V : Nat) : Prop where
  l0 : 0 < L
  m0 : 0 < M
  g0 : 0 < g
  w0 : 0 < W
  eL : L = g * V
  eM : M = g * W
  co : ∃ x y : Int, (L : Int) * x + (M : Int) * y = (g : Int)
theorem bez : ∀ m n : Nat, ∃ x y : Int, (m : Int) * x + (n : Int) * y = ((Nat.gcd m n : Nat) : Int) := by
  intro m
  induction m using Nat.strongRecOn with
  | _ m ih =>
    intro n
    cases m with
    | zero => exact ⟨0, 1, by rw [Nat.gcd_zero_left]; simp⟩
    | succ m =>
      obtain ⟨x, y, e⟩ := ih (n % (m + 1)) (Nat.mod_lt _ (Nat.succ_pos m)) (m + 1)
      refine ⟨y - ((n / (m + 1) : Nat) : Int) * x, x, ?_⟩
      rw [Nat.gcd_rec, ← e]
      have h : (n : Int) = ((n % (m + 1) : Nat) : Int) + ((m + 1 : Nat) : Int) * ((n / (m + 1) : Nat) : Int) := by
        rw [← Int.natCast_mul, ← Int.natCast_add, Nat.mod_add_div]
      generalize ((n % (m + 1) : Nat) : Int) = r at *
      generalize ((n / (m + 1) : Nat) : Int) = q at *
      generalize ((m + 1 : Nat) : Int) = k at *
      rw [h, Int.mul_sub, Int.add_mul]
      have : k * (q * x) = k * q * x := (Int.mul_assoc _ _ _).symm
      omega
theorem ln_of {L M : Nat} (hl : 0 < L) (hm : 0 < M) : Ln L M (Nat.gcd L M) (M / Nat.gcd L M) (L / Nat.gcd L M) := by
  have g0 : 0 < Nat.gcd L M := Nat.gcd_pos_of_pos_left _ hl
  have eL : L = Nat.gcd L M * (L / Nat.gcd L M) := (Nat.mul_div_cancel' (Nat.gcd_dvd_left L M)).symm
  have eM : M = Nat.gcd L M * (M / Nat.gcd L M) := (Nat.mul_div_cancel' (Nat.gcd_dvd_right L M)).symm
  exact ⟨hl, hm, g0, Nat.pos_of_ne_zero fun z => by rw [z, Nat.mul_zero] at eM; omega, eL, eM, bez L M⟩
section
variable {L M g W V : Nat}
theorem Ln.lap (h : Ln L M g W V) : L * W = M * V := by
  rw [h.eL, h.eM, Nat.mul_assoc, Nat.mul_assoc, Nat.mul_comm V W]
/-- each residue is that of a step in its lane -/
theorem Ln.reach (h : Ln L M g W V) (r : Nat) (hr : r < M) : ∃ s, s < W ∧ (r % g + L * s) % M = r := by
  obtain ⟨x, y, e⟩ := h.co
  have g0 := h.g0
  have W0 : (0 : Int) < (W : Int) := by have := h.w0; omega
  obtain ⟨c, hc⟩ : ∃ c : Nat, c = r / g := ⟨_, rfl⟩
  have er : r = r % g + g * c := by rw [hc]; exact (Nat.mod_add_div r g).symm
  obtain ⟨z, hz⟩ : ∃ z : Int, z = (x * (c : Int)) % (W : Int) := ⟨_, rfl⟩
  have z0 : 0 ≤ z := by rw [hz]; exact Int.emod_nonneg _ (by omega)
  have z1 : z < (W : Int) := by rw [hz]; exact Int.emod_lt_of_pos _ W0
  have ez : x * (c : Int) = z + (W : Int) * (x * (c : Int) / (W : Int)) := by rw [hz]; exact (Int.emod_add_mul_ediv _ _).symm
  generalize x * (c : Int) / (W : Int) = q at ez
  refine ⟨z.toNat, by omega, ?_⟩
  have hlap : (L : Int) * (W : Int) = (M : Int) * (V : Int) := by
    have := h.lap
    rw [← Int.natCast_mul, ← Int.natCast_mul, this]
  have key : ((r % g + L * z.toNat : Nat) : Int) = (r : Int) + (M : Int) * (- (y * (c : Int)) - (V : Int) * q) := by
    have h1 : (L : Int) * (x * (c : Int)) = (g : Int) * (c : Int) - (M : Int) * (y * (c : Int)) := by
      have : ((L : Int) * x + (M : Int) * y) * (c : Int) = (g : Int) * (c : Int) := by rw [e]
      rw [Int.add_mul, Int.mul_assoc, Int.mul_assoc] at this
      omega
    have h2 : (L : Int) * z = (L : Int) * (x * (c : Int)) - (M : Int) * ((V : Int) * q) := by
      rw [ez, Int.mul_add, ← Int.mul_assoc (L : Int) (W : Int) q, hlap, Int.mul_assoc]
      omega
    have h3 : (z.toNat : Int) = z := Int.toNat_of_nonneg z0
    have h4 : (r : Int) = ((r % g : Nat) : Int) + (g : Int) * (c : Int) := by
      rw [← Int.natCast_mul, ← Int.natCast_add, ← er]
    rw [Int.natCast_add, Int.natCast_mul, h3, h2, h1, Int.mul_sub, Int.mul_neg]
    omega
  have := congrArg (fun k : Int => k % (M : Int)) key
  simp only [Int.add_mul_emod_self_left] at this
  rw [← Int.natCast_emod, ← Int.natCast_emod, Nat.mod_eq_of_lt hr] at this
  exact Int.ofNat.inj this
/-- a step whose residue is that of a place lies in the place's lane -/
theorem Ln.lane (h : Ln L M g W V) {l s at_ : Nat} (hl : l < g) (e : (l + L * s) % M = at_ % M) : l = at_ % g := by
  have h1 := congrArg (fun k => k % g) e
  have d1 : g ∣ M := ⟨W, h.eM⟩
  have d2 : g ∣ L * s := ⟨V * s, by rw [h.eL, Nat.mul_assoc]⟩
  simp only [Nat.mod_mod_of_dvd _ d1] at h1
  obtain ⟨k, hk⟩ := d2
  rw [hk, Nat.add_mul_mod_self_left, Nat.mod_eq_of_lt hl] at h1
  exact h1
/-- how many whole laps lie between -/
theorem turns_of {x y M : Nat} (hM : 0 < M) (e : x % M = y % M) : (x : Int) - (y : Int) = (M : Int) * (((x : Int) - (y : Int)) / (M : Int)) := by
  have h1 : ((x : Int) - (y : Int)) % (M : Int) = 0 := by
    rw [Int.emod_eq_emod_iff_emod_sub_eq_zero.symm]
    rw [← Int.natCast_emod, ← Int.natCast_emod, e]
  have := Int.emod_add_mul_ediv ((x : Int) - (y : Int)) (M : Int)
  omega
end
/-- a row of a lane: the other walk at each step, less what the first one climbs -/
def rowR (B : List Int) (b : Int) (L : Nat) (a : Int) (lane s : Nat) : Int := walk B b (lane + L * s) - (s : Int) * a
/-- how far the first walk leads -/
def leadD (A : List Int) (a : Int) (B : List Int) (b : Int) (k : Nat) : Int := walk A a k - walk B b k
section
variable {A B : List Int} {a b : Int} {g W V : Nat}
theorem walk_int {l : List Int} {r : Int} (hl : 0 < l.length) {x y : Nat} {t : Int} (e : (x : Int) - (y : Int) = (l.length : Int) * t) : walk l r x = walk l r y + r * t := by
  by_cases h : 0 ≤ t
  · obtain ⟨n, rfl⟩ := Int.eq_ofNat_of_zero_le h
    rw [← walk_add_mul hl]
    congr 1
    have : ((y + l.length * n : Nat) : Int) = (x : Int) := by rw [Int.natCast_add, Int.natCast_mul]; omega
    omega
  · obtain ⟨n, hn⟩ := Int.eq_ofNat_of_zero_le (show 0 ≤ -t by omega)
    have et : t = -(n : Int) := by omega
    have := walk_add_mul (r := r) hl x n
    have e2 : x + l.length * n = y := by
      have : ((x + l.length * n : Nat) : Int) = (y : Int) := by
        rw [Int.natCast_add, Int.natCast_mul]
        rw [et, Int.mul_neg] at e
        omega
      omega
    rw [e2] at this
    rw [this, et, Int.mul_neg]
    omega
theorem rowR_per (h : Ln A.length B.length g W V) (lane s : Nat) : rowR B b A.length a lane (s + W) = rowR B b A.length a lane s - (a * (W : Int) - b * (V : Int)) := by
  unfold rowR
  have e : lane + A.length * (s + W) = lane + A.length * s + B.length * V := by rw [Nat.mul_add, h.lap]; omega
  rw [e, walk_add_mul h.m0, Int.natCast_add, Int.add_mul, Int.mul_comm (W : Int) a]
  omega
theorem drift_is (h : Ln A.length B.length g W V) : (a * (B.length : Int) - b * (A.length : Int)) / (g : Int) = a * (W : Int) - b * (V : Int) := by
  have e : a * (B.length : Int) - b * (A.length : Int) = (g : Int) * (a * (W : Int) - b * (V : Int)) := by
    rw [h.eM, h.eL, Int.natCast_mul, Int.natCast_mul, Int.mul_sub, Int.mul_left_comm, Int.mul_left_comm b]
  rw [e]
  exact Int.mul_ediv_cancel_left _ (by have := h.g0; omega)
/-- the lead at a step of a runner -/
theorem lead_at (h : Ln A.length B.length g W V) {at_ lane step s : Nat} {t : Int} (ha : at_ < A.length) (ht : ((lane + A.length * step : Nat) : Int) - (at_ : Int) = (B.length : Int) * t) :
    leadD A a B b (at_ + A.length * s) = (A.getD at_ 0 - (step : Int) * a + t * b) - rowR B b A.length a lane (step + s) := by
  unfold leadD rowR
  rw [walk_add_mul h.l0, walk_lt ha]
  have e : ((lane + A.length * (step + s) : Nat) : Int) - ((at_ + A.length * s : Nat) : Int) = (B.length : Int) * t := by
    rw [← ht, Nat.mul_add]
    omega
  have e2 := walk_int (r := b) h.m0 e
  rw [e2, Int.natCast_add, Int.add_mul, Int.mul_comm (s : Int) a, Int.mul_comm t b]
  omega
end
/-! ### the first step under a limit of a row that repeats with a drift -/
section
variable {f : Nat → Int} {W : Nat} {dr lim v : Int} {i : Nat}
theorem per_drift (hp : ∀ s, f (s + W) = f s - dr) (s : Nat) : ∀ u, f (s + W * u) = f s - dr * (u : Int)
  | 0 => by simp
  | u + 1 => by
    rw [Nat.mul_succ, ← Nat.add_assoc, hp, per_drift hp s u, Int.natCast_add, Int.mul_add]
    omega
theorem first_ex (lo : IsLo f i W v) (h : v < lim) : ∃ t, First f lim i t ∧ t < i + W := by
  obtain ⟨j, j1, j2, j3⟩ := lo.at_
  obtain ⟨t, ⟨t1, t2⟩, t3, t4⟩ := least_of (p := fun t => i ≤ t ∧ f t < lim) j ⟨j1, by rw [j3]; exact h⟩
  refine ⟨t, ⟨t1, t2, fun k k1 k2 => ?_⟩, by omega⟩
  refine Int.le_of_not_gt fun z => ?_
  have := t4 k ⟨k1, z⟩
  omega
theorem lapOf (hw : 0 < W) (k : Nat) : ∃ o u, k = o + W * u ∧ o < W := ⟨k % W, k / W, (Nat.mod_add_div k W).symm, Nat.mod_lt _ hw⟩
theorem lead_now (F : First f lim i (i + s)) : f (i + s) < lim ∧ ∀ s', s' < s → lim ≤ f (i + s') := ⟨F.at_, fun s' h => F.no _ (by omega) (by omega)⟩
theorem lead_later (hw : 0 < W) (hp : ∀ s, f (s + W) = f s - dr) (lo : IsLo f i W v) (hv : lim ≤ v) (hd : 0 < dr) {t : Nat} {n : Nat} (hn : (n : Int) = (v - lim) / dr + 1) (F : First f (lim + (n : Int) * dr) i (i + t)) (ht : t < W) :
    f (i + (t + W * n)) < lim ∧ ∀ s', s' < t + W * n → lim ≤ f (i + s') := by
  refine ⟨?_, fun s' hs => ?_⟩
  · rw [← Nat.add_assoc, per_drift hp]
    have := F.at_
    rw [Int.mul_comm (n : Int) dr] at this
    omega
  · obtain ⟨o, u, rfl, ho⟩ := lapOf hw s'
    rw [← Nat.add_assoc, per_drift hp]
    by_cases hu : u < n
    · have h1 := lo.le (i + o) (by omega) (by omega)
      have h2 : dr * (u : Int) ≤ dr * ((n : Int) - 1) := Int.mul_le_mul_of_nonneg_left (by omega) (by omega)
      have h3 : dr * ((v - lim) / dr) ≤ v - lim := Int.mul_ediv_self_le (by omega)
      have h4 : (n : Int) - 1 = (v - lim) / dr := by omega
      rw [h4] at h2
      omega
    · have hu2 : u = n := by
        refine Nat.le_antisymm (Nat.le_of_not_lt fun z => ?_) (by omega)
        have : W * (n + 1) ≤ W * u := Nat.mul_le_mul_left _ z
        rw [Nat.mul_succ] at this
        omega
      subst hu2
      have := F.no (i + o) (by omega) (by omega)
      rw [Int.mul_comm (u : Int) dr] at this
      omega
theorem lead_never (hw : 0 < W) (hp : ∀ s, f (s + W) = f s - dr) (lo : IsLo f i W v) (hv : lim ≤ v) (hd : dr ≤ 0) (s' : Nat) : lim ≤ f (i + s') := by
  obtain ⟨o, u, rfl, ho⟩ := lapOf hw s'
  rw [← Nat.add_assoc, per_drift hp]
  have h1 := lo.le (i + o) (by omega) (by omega)
  have h2 : dr * (u : Int) ≤ 0 * (u : Int) := Int.mul_le_mul_of_nonneg_right hd (by omega)
  omega
end
/-! ### all runners together -/
/-- the least number with P, or none -/
def LeastP (P : Nat → Prop) : Option Nat → Prop
  | some s => P s ∧ ∀ s', s' < s → ¬ P s'
  | none => ∀ s, ¬ P s
theorem least_runner {P : Nat → Prop} {L : Nat} (hL : 0 < L) {st : Nat → Option Nat} (h : ∀ at_, at_ < L → LeastP (fun s => P (at_ + L * s)) (st at_)) :
    (∀ r, (∃ at_ s, at_ < L ∧ st at_ = some s ∧ r = at_ + L * s) → (∀ at_ s, at_ < L → st at_ = some s → r ≤ at_ + L * s) → LeastP P (some r)) ∧ ((∀ at_, at_ < L → st at_ = none) → LeastP P none) := by
  refine ⟨fun r ⟨at_, s, h1, h2, h3⟩ hmin => ⟨?_, fun k hk hP => ?_⟩, fun hn k hP => ?_⟩
  · have := h at_ h1
    rw [h2] at this
    rw [h3]
    exact this.1
  · obtain ⟨o, u, rfl, ho⟩ := lapOf hL k
    have := h o ho
    cases e : st o with
    | none =>
      rw [e] at this
      exact this u hP
    | some s2 =>
      rw [e] at this
      have h4 := hmin o s2 ho e
      have h5 : u < s2 := Nat.lt_of_mul_lt_mul_left (a := L) (by omega)
      exact this.2 u h5 hP
  · obtain ⟨o, u, rfl, ho⟩ := lapOf hL k
    have := h o ho
    rw [hn o ho] at this
    exact this u hP
end NT
set_option Elab.async false
set_option linter.all false
set_option maxRecDepth 100000
set_option maxHeartbeats 4000000
namespace NF
open PySem PySem.Spec PyProof.Rows L2 He RZ NT
def RungAt (K : PySem.W.Frag) (H : Hp) (v : V) (r : Nat × List Int) : Prop := ∃ t q, v = .ref t ∧ SqT K H t [.int (r.1 : Int), .ref q] ∧ SqL K H q (vI r.2)
theorem RungAt.mono {K : PySem.W.Frag} {H H' : Hp} {v : V} {r : Nat × List Int} (h : RungAt K H v r) (s : Same H H') : RungAt K H' v r := by
  obtain ⟨t, q, e, h1, h2⟩ := h
  exact ⟨t, q, e, NF.Same.tup s h1, L2.Same.seq s h2⟩
inductive Rungs (K : PySem.W.Frag) (H : Hp) : List V → List (Nat × List Int) → Prop where
  | nil : Rungs K H [] []
  | cons {v : V} {r : Nat × List Int} {vs : List V} {L : List (Nat × List Int)} (h : RungAt K H v r) (t : Rungs K H vs L) : Rungs K H (v :: vs) (r :: L)
theorem Rungs.mono {K : PySem.W.Frag} {H H' : Hp} (s : Same H H') : ∀ {vs : List V} {L : List (Nat × List Int)}, Rungs K H vs L → Rungs K H' vs L
  | _, _, .nil => .nil
  | _, _, .cons h t => .cons (h.mono s) (Rungs.mono s t)
theorem Rungs.len {K : PySem.W.Frag} {H : Hp} : ∀ {vs : List V} {L : List (Nat × List Int)}, Rungs K H vs L → vs.length = L.length
  | _, _, .nil => rfl
  | _, _, .cons _ t => congrArg (· + 1) (Rungs.len t)
theorem Rungs.get {K : PySem.W.Frag} {H : Hp} : ∀ {vs : List V} {L : List (Nat × List Int)}, Rungs K H vs L → ∀ {i : Nat} {v : V}, vs[i]? = some v → ∃ r, L[i]? = some r ∧ RungAt K H v r
  | _, _, .cons h t, 0, v, e => by
    obtain rfl := Option.some.inj e
    exact ⟨_, rfl, h⟩
  | _, _, .cons h t, i + 1, v, e => Rungs.get t (i := i) e
/-- a ladder that stands in a list -/
def LadAt (K : PySem.W.Frag) (H : Hp) (p : Addr) (L : List (Nat × List Int)) : Prop := ∃ vs, SqL K H p vs ∧ Rungs K H vs L
theorem LadAt.mono {K : PySem.W.Frag} {H H' : Hp} {p : Addr} {L : List (Nat × List Int)} (h : LadAt K H p L) (s : Same H H') : LadAt K H' p L := by
  obtain ⟨vs, h1, h2⟩ := h
  exact ⟨vs, L2.Same.seq s h1, h2.mono s⟩
theorem at_first {vs : List V} {v : V} : atI (v :: vs) 0 = some v := by
  have e : (v :: vs)[0]? = some v := rfl
  have := atI_nat e
  exact this
theorem at_lastV {vs : List V} {v : V} : atI (vs ++ [v]) (-1) = some v := by
  unfold atI ixN
  rw [if_neg (by decide), List.length_append, if_pos (by show -(((vs.length + 1 : Nat)) : Int) ≤ -1; omega)]
  show (vs ++ [v])[((-1 : Int) + ((vs.length + 1 : Nat) : Int)).toNat]? = _
  rw [show ((-1 : Int) + ((vs.length + 1 : Nat) : Int)).toNat = vs.length by omega, List.getElem?_append_right (Nat.le_refl _)]
  simp
end NF
namespace NT
theorem under_drop {lim : Int} {a : Nat} {L : List (Nat × List Int)} {i : Nat} {r : Nat × List Int} (h : L[i]? = some r) : under lim a (L.drop i) = under lim (if a < r.2.length ∧ lim ≤ r.2.getD a 0 then a + r.1 else a) (L.drop (i + 1)) := by
  have hi := (List.getElem?_eq_some_iff.mp h).1
  have e : L.drop i = r :: L.drop (i + 1) := by
    rw [List.drop_eq_getElem_cons hi]
    rw [List.getElem?_eq_getElem hi] at h
    rw [Option.some.inj h]
  rw [e]
  rfl
theorem underB_drop {lim : Int} {s a : Nat} {L : List (Nat × List Int)} {i : Nat} {r : Nat × List Int} (h : L[i]? = some r) : underB lim s a (L.drop i) = underB lim s (if s + r.1 ≤ a ∧ lim ≤ r.2.getD (a - r.1) 0 then a - r.1 else a) (L.drop (i + 1)) := by
  have hi := (List.getElem?_eq_some_iff.mp h).1
  have e : L.drop i = r :: L.drop (i + 1) := by
    rw [List.drop_eq_getElem_cons hi]
    rw [List.getElem?_eq_getElem hi] at h
    rw [Option.some.inj h]
  rw [e]
  rfl
end NT
namespace K05
open PySem PySem.Spec PyProof.Rows L2 He NF RZ NT
def spLeast (K : PySem.W.Frag) : Sp := fun vs H Q _ => ∃ (p : Addr) (w : Nat) (m : List Int) (L : List (Nat × List Int)) (s W : Nat), vs = [.ref p, .int (s : Int), .int (W : Int)] ∧ LadAt K H p ((w, m) :: L) ∧ s < m.length ∧ w ≤ W ∧ s + (W - w) < m.length ∧ Q (.int (mn (m.getD s 0) (m.getD (s + (W - w)) 0))) H
def spFirstU (K : PySem.W.Frag) : Sp := fun vs H Q _ => ∃ (p : Addr) (L : List (Nat × List Int)) (s : Nat) (lim : Int), vs = [.ref p, .int (s : Int), .int lim] ∧ LadAt K H p L ∧ Q (.int ((under lim s L : Nat) : Int)) H
def spLastU (K : PySem.W.Frag) : Sp := fun vs H Q _ => ∃ (p : Addr) (L : List (Nat × List Int)) (s W : Nat) (lim : Int), vs = [.ref p, .int (s : Int), .int (W : Int), .int lim] ∧ LadAt K H p L ∧ (∀ r ∈ L, s + W < r.2.length + r.1) ∧ (∀ r ∈ L, 0 < r.1) ∧ Q (.int (((underB lim s (s + W) L : Nat) : Int) - 1)) H
theorem sc_least_in : FnScope ["ladder", "start", "window", "width", "least"] ["ladder", "start", "window"] (defScope s_least_in) := ⟨rfl, rfl, rfl, by decide +kernel, rfl, by decide +kernel, by decide +kernel⟩
theorem sc_first_under : FnScope ["ladder", "start", "limit", "at", "width", "least"] ["ladder", "start", "limit"] (defScope s_first_under) := ⟨rfl, rfl, rfl, by decide +kernel, rfl, by decide +kernel, by decide +kernel⟩
theorem sc_last_under : FnScope ["ladder", "start", "window", "limit", "behind", "width", "least"] ["ladder", "start", "window", "limit"] (defScope s_last_under) := ⟨rfl, rfl, rfl, by decide +kernel, rfl, by decide +kernel, by decide +kernel⟩
section
variable {P : Program} {w : World} {K : PySem.W.Frag} {mg : Str → Option Value} {base : Heap} {gs fs : List Str} {C : Addr}
theorem ok_least_in {f : Addr} {fd : FuncData} (F : FunD K "least_in" "least_in" (defArgs s_least_in) (defBody s_least_in) (defScope s_least_in) [] [] f fd) (T : Txt K mg gs FS) : FnOk P w K mg base CX0 1 f fd ["ladder", "start", "window"] (spLeast K) := by
  refine F.ok sc_least_in (fun vs H Q E h => ?_) (fun cdv A outer s H vs Q E hr h => ?_)
  · obtain ⟨p, w, m, L, s, W, rfl, _⟩ := h
    rfl
  · obtain ⟨p, wd, m, L, s0, W, rfl, ⟨vs, hp, hr2⟩, h1, h2, h3, q⟩ := h
    cases hr2 with
    | cons h t =>
      obtain ⟨t, q1, rfl, ht, hq⟩ := h
      refine ⟨_, PSs.nox (pss_cons (ps_asg (pe_ix (ixl (K := K)) (pv 0) pe_int fun _ _ => rfl) (pgt (K := K) (n := 2) rfl rfl (pgs_cons (pg_name (i := 3) sc_least_in.nd rfl (Or.inl rfl)) (pgs_cons (pg_name (i := 4) sc_least_in.nd rfl (Or.inl rfl)) pgs_nil)))) (pss_one (ps_ret (pe_callB (call_min2 rfl) rfl (T.fr _ (by decide +kernel)) (by decide +kernel) (pa_cons (pe_ix (ixl (K := K)) (pv 4) (pv 1) fun _ _ => rfl) (pa_cons (pe_ix (ixl (K := K)) (pv 4) (pe_op op_sub (pe_op op_add (pv 1) (pv 2)) (pv 3)) fun _ _ => rfl) pa_nil)))))), ?_⟩
      refine ⟨_, rfl, p, _, _, _, rfl, rfl, hp, at_first, ?_⟩
      refine ⟨t, _, rfl, ht, rfl, _, _, rfl, ?_⟩
      refine ⟨_, _, rfl, ?_⟩
      refine ⟨rfl, ?_⟩
      have e : (s0 : Int) + (W : Int) - (wd : Int) = ((s0 + (W - wd) : Nat) : Int) := by omega
      refine ⟨_, rfl, _, rfl, q1, _, _, _, rfl, rfl, hq, at_int rfl h1, _, rfl, _, rfl, _, rfl, _, _, rfl, rfl, _, rfl, _, _, rfl, rfl, q1, _, _, _, rfl, rfl, hq, at_int e h3, _, _, rfl, ?_⟩
      exact q
theorem ok_first_under {f : Addr} {fd : FuncData} (F : FunD K "first_under" "first_under" (defArgs s_first_under) (defBody s_first_under) (defScope s_first_under) [] [] f fd) (T : Txt K mg gs FS) : FnOk P w K mg base CX0 1 f fd ["ladder", "start", "limit"] (spFirstU K) := by
  refine F.ok sc_first_under (fun vs H Q E h => ?_) (fun cdv A outer s H vs Q E hr h => ?_)
  · obtain ⟨p, L, s, lim, rfl, _⟩ := h
    rfl
  · obtain ⟨p, L, s0, lim, rfl, ⟨vs, hp, hr2⟩, q⟩ := h
    refine ⟨_, PSs.nox (pss_cons (ps_set (i := 3) sc_first_under.nd rfl (Or.inl rfl) (pv 1)) (pss_cons (ps_for PassesOwn.never rfl (pi_list (pv 0)) (pgt (K := K) (n := 2) rfl rfl (pgs_cons (pg_name (i := 4) sc_first_under.nd rfl (Or.inl rfl)) (pgs_cons (pg_name (i := 5) sc_first_under.nd rfl (Or.inl rfl)) pgs_nil))) (pss_one (ps_if (PW.pt (pw_and (pt_cmpR op_lt (pv 3) (pe_callB call_len_seq rfl (T.fr _ (by decide +kernel)) boot_len (pa_cons (pv 5) pa_nil)) (nomark _)) (pw_and1 (pt_cmpR op_ge (pe_ix (ixl (K := K)) (pv 5) (pv 3) fun _ _ => rfl) (pv 2) (nomark _))))) (pss_one (ps_set (i := 3) sc_first_under.nd rfl (Or.inl rfl) (pe_op op_add (pv 3) (pv 4)))) pss_nil))) (pss_one (ps_ret (pv 3))))), ?_⟩
    refine ⟨_, rfl, _, rfl, p, rfl, ⟨_, hp⟩, ?_⟩
    refine for_it (walk_list (xs := vs)) (fun i σ G => G = H ∧ ∃ (a : Nat) (v1 v2 : Option V), under lim s0 L = under lim a (L.drop i) ∧ σ = [some (.ref p), some (.int (s0 : Int)), some (.int lim), some (.int (a : Int)), v1, v2]) ⟨rfl, s0, none, none, rfl, rfl⟩ (fun i σ G _ z => z.1 ▸ hp) ?_ ?_
    · rintro i x σ G G' hi ⟨rfl, a, v1, v2, e, rfl⟩ ⟨rfl, hx⟩
      obtain ⟨⟨wd, m⟩, hL, t, q1, rfl, ht, hq⟩ := hr2.get hx
      rw [under_drop hL] at e
      dsimp only at ht hq e
      refine ⟨t, _, rfl, ht, rfl, _, _, rfl, ?_⟩
      refine ⟨_, _, rfl, ?_⟩
      refine ⟨rfl, ?_⟩
      refine ⟨_, rfl, _, rfl, q1, _, rfl, Or.inl hq, ?_⟩
      rw [vI_len]
      refine ⟨_, _, rfl, rfl, _, rfl, ?_⟩
      by_cases c : a < m.length
      · refine iteT' (decide_eq_true (by omega)) ?_
        refine ⟨_, rfl, _, rfl, q1, _, _, _, rfl, rfl, hq, at_int rfl c, _, rfl, _, _, rfl, rfl, _, rfl, ite2 (fun h1 => ?_) (fun h1 => ?_)⟩
        · have h2 : lim ≤ m.getD a 0 := of_decide_eq_true h1
          rw [if_pos ⟨c, h2⟩] at e
          exact ⟨_, rfl, _, rfl, _, _, rfl, rfl, rfl, a + wd, _, _, e, rfl⟩
        · have h2 : ¬ lim ≤ m.getD a 0 := fun z => h1 (decide_eq_true z)
          rw [if_neg fun z => h2 z.2] at e
          exact ⟨rfl, a, _, _, e, rfl⟩
      · refine iteF' (decide_eq_false (by omega)) ?_
        rw [if_neg fun z => c z.1] at e
        exact iteF ⟨rfl, a, _, _, e, rfl⟩
    · rintro σ G ⟨rfl, a, v1, v2, e, rfl⟩
      rw [hr2.len, List.drop_length] at e
      refine ⟨_, rfl, ?_⟩
      have e2 : under lim s0 L = a := e
      rw [e2] at q
      exact q
theorem ok_last_under {f : Addr} {fd : FuncData} (F : FunD K "last_under" "last_under" (defArgs s_last_under) (defBody s_last_under) (defScope s_last_under) [] [] f fd) (T : Txt K mg gs FS) : FnOk P w K mg base CX0 1 f fd ["ladder", "start", "window", "limit"] (spLastU K) := by
  refine F.ok sc_last_under (fun vs H Q E h => ?_) (fun cdv A outer s H vs Q E hr h => ?_)
  · obtain ⟨p, L, s, W, lim, rfl, _⟩ := h
    rfl
  · obtain ⟨p, L, s0, W, lim, rfl, ⟨vs, hp, hr2⟩, hb, hw, q⟩ := h
    refine ⟨_, PSs.nox (pss_cons (ps_set (i := 4) sc_last_under.nd rfl (Or.inl rfl) (pe_op op_add (pv 1) (pv 2))) (pss_cons (ps_for PassesOwn.never rfl (pi_list (pv 0)) (pgt (K := K) (n := 2) rfl rfl (pgs_cons (pg_name (i := 5) sc_last_under.nd rfl (Or.inl rfl)) (pgs_cons (pg_name (i := 6) sc_last_under.nd rfl (Or.inl rfl)) pgs_nil))) (pss_one (ps_if (PW.pt (pw_and (pt_cmpR op_ge (pe_op op_sub (pv 4) (pv 5)) (pv 1) (nomark _)) (pw_and1 (pt_cmpR op_ge (pe_ix (ixl (K := K)) (pv 6) (pe_op op_sub (pv 4) (pv 5)) fun _ _ => rfl) (pv 3) (nomark _))))) (pss_one (ps_set (i := 4) sc_last_under.nd rfl (Or.inl rfl) (pe_op op_sub (pv 4) (pv 5)))) pss_nil))) (pss_one (ps_ret (pe_op op_sub (pv 4) pe_int))))), ?_⟩
    refine ⟨_, rfl, _, rfl, _, _, rfl, rfl, _, rfl, p, rfl, ⟨_, hp⟩, ?_⟩
    refine for_it (walk_list (xs := vs)) (fun i σ G => G = H ∧ ∃ (a : Nat) (v1 v2 : Option V), a ≤ s0 + W ∧ underB lim s0 (s0 + W) L = underB lim s0 a (L.drop i) ∧ σ = [some (.ref p), some (.int (s0 : Int)), some (.int (W : Int)), some (.int lim), some (.int (a : Int)), v1, v2]) ⟨rfl, s0 + W, none, none, Nat.le_refl _, rfl, rfl⟩ (fun i σ G _ z => z.1 ▸ hp) ?_ ?_
    · rintro i x σ G G' hi ⟨rfl, a, v1, v2, ha, e, rfl⟩ ⟨rfl, hx⟩
      obtain ⟨⟨wd, m⟩, hL, t, q1, rfl, ht, hq⟩ := hr2.get hx
      have hm := List.mem_of_getElem? hL
      have b1 := hb _ hm
      have b2 := hw _ hm
      dsimp only at b1 b2
      rw [underB_drop hL] at e
      dsimp only at ht hq e
      refine ⟨t, _, rfl, ht, rfl, _, _, rfl, ?_⟩
      refine ⟨_, _, rfl, ?_⟩
      refine ⟨rfl, ?_⟩
      refine ⟨_, rfl, _, rfl, _, _, rfl, rfl, _, rfl, _, _, rfl, rfl, _, rfl, ?_⟩
      by_cases c : s0 + wd ≤ a
      · have ei : (a : Int) - (wd : Int) = ((a - wd : Nat) : Int) := by omega
        refine iteT' (decide_eq_true (by omega)) ?_
        refine ⟨_, rfl, _, rfl, _, rfl, _, _, rfl, rfl, q1, _, _, _, rfl, rfl, hq, at_int ei (by omega), _, rfl, _, _, rfl, rfl, _, rfl, ite2 (fun h1 => ?_) (fun h1 => ?_)⟩
        · have h2 : lim ≤ m.getD (a - wd) 0 := of_decide_eq_true h1
          rw [if_pos ⟨c, h2⟩] at e
          refine ⟨_, rfl, _, rfl, _, _, rfl, rfl, ?_⟩
          show gName 4 (V.int ((a : Int) - (wd : Int))) _ _ _
          rw [ei]
          exact ⟨rfl, a - wd, _, _, by omega, e, rfl⟩
        · have h2 : ¬ lim ≤ m.getD (a - wd) 0 := fun z => h1 (decide_eq_true z)
          rw [if_neg fun z => h2 z.2] at e
          exact ⟨rfl, a, _, _, ha, e, rfl⟩
      · refine iteF' (decide_eq_false (by omega)) ?_
        rw [if_neg fun z => c z.1] at e
        exact iteF ⟨rfl, a, _, _, ha, e, rfl⟩
    · rintro σ G ⟨rfl, a, v1, v2, ha, e, rfl⟩
      rw [hr2.len, List.drop_length] at e
      refine ⟨_, rfl, _, _, rfl, rfl, ?_⟩
      have e2 : underB lim s0 (s0 + W) L = a := e
      rw [e2] at q
      exact q
end
end K05
set_option Elab.async false
set_option linter.all false
set_option maxRecDepth 100000
set_option maxHeartbeats 4000000
namespace K05
open PySem PySem.Spec PyProof.Rows L2 He NF RZ NT
def spLadder (K : PySem.W.Frag) : Sp := fun vs H Q _ => ∃ (a : Addr) (row : List Int) (W : Nat), vs = [.ref a, .int (W : Int)] ∧ SqL K H a (vI row) ∧ 0 < W ∧ W ≤ row.length ∧ row.length ≤ 100000 ∧
  ∀ p L w H', Lad (fun i => row.getD i 0) row.length w L → w ≤ W → W < 2 * w → Same H H' → H p = none → LadAt K H' p L → Q (.ref p) H'
theorem wo_new {X : Hp} {D : Addr} {o : HO} (h : X D = none) : Same X (NF.wo (upd X D o) D) := fun b u e => by
  have n := ne_of_none e h
  rw [wo_ne n, upd_ne n]
  exact e
theorem wo_put {G G' : Hp} {D : Addr} {o : HO} (s : Same G G') : Same (NF.wo G D) (NF.wo (upd G' D o) D) := fun b u e => by
  by_cases n : b = D
  · subst n
    rw [wo_none] at e
    cases e
  · rw [wo_ne n] at e
    rw [wo_ne n, upd_ne n]
    exact s b u e
theorem sc_ladder_of : FnScope ["row", "window", "width", "rungs", "lesser", "a", "b"] ["row", "window"] (defScope s_ladder_of) := ⟨rfl, rfl, rfl, by decide +kernel, rfl, by decide +kernel, by decide +kernel⟩
section
variable {P : Program} {w : World} {K : PySem.W.Frag} {mg : Str → Option Value} {base : Heap} {gs fs : List Str} {C : Addr}
theorem ok_ladder_of {f : Addr} {fd : FuncData} (F : FunD K "ladder_of" "ladder_of" (defArgs s_ladder_of) (defBody s_ladder_of) (defScope s_ladder_of) [] [] f fd) (T : Txt K mg gs FS) : FnOk P w K mg base CX0 1 f fd ["row", "window"] (spLadder K) := by
  refine F.ok sc_ladder_of (fun vs H Q E h => ?_) (fun cdv A outer s H vs Q E hr h => ?_)
  · obtain ⟨a, row, W, rfl, _⟩ := h
    rfl
  · obtain ⟨a, row, W, rfl, ha, W0, W1, rl, q⟩ := h
    refine ⟨_, PSs.nox (pss_cons (ps_set (i := 2) sc_ladder_of.nd rfl (Or.inl rfl) pe_int) (pss_cons (ps_set (i := 3) sc_ladder_of.nd rfl (Or.inl rfl) (pe_lst (pa_cons (pe_tup (pa_cons pe_int (pa_cons (pv 0) pa_nil))) pa_nil))) (pss_cons (ps_while PassesOwn.never (pt_cmpR op_le (pe_op op_mul pe_int (pv 2)) (pv 1) (nomark _)) (pss_cons (ps_set (i := 4) sc_ladder_of.nd rfl (Or.inl rfl) (pe_ix (ixt (K := K)) (pe_ix (ixl (K := K)) (pv 3) (pe_un un_neg pe_int) fun _ _ => rfl) pe_int fun _ _ => rfl)) (pss_cons (ps_expr (pe_bm PySem.F.plainAttrs_list PySem.F.slot_list_append PySem.F.type_list_append mt_append (pv 3) (pa_cons (pe_tup (pa_cons (pe_op op_mul pe_int (pv 2)) (pa_cons (pe_lc (own := [("a", 5), ("b", 6)]) rfl sc_ladder_of.nd (pi_zipA rfl (T.fr _ (by decide +kernel)) (pa_cons (pv 4) (pa_cons (pe_slice sl_list (pv 4) (po_some (pv 2)) po_none) pa_nil))) (blkOk_by (N := ["row", "window", "width", "rungs", "lesser", "a", "b"]) (sc := defScope s_ladder_of) (by decide +kernel)) (fun _ _ _ _ _ => by exact (pgt (K := K) (n := 2) rfl rfl (pgs_cons (pg_name (i := 5) sc_ladder_of.nd rfl (Or.inl rfl)) (pgs_cons (pg_name (i := 6) sc_ladder_of.nd rfl (Or.inl rfl)) pgs_nil)))) (fun _ _ _ _ _ => by exact pts_nil) (fun _ _ _ _ _ => by exact (pe_callB (call_min2 rfl) rfl (T.fr _ (by decide +kernel)) (by decide +kernel) (pa_cons (pv 5) (pa_cons (pv 6) pa_nil))))) pa_nil))) pa_nil))) (pss_one (ps_set (i := 2) sc_ladder_of.nd rfl (Or.inl rfl) (pe_op op_mul pe_int (pv 2))))))) (pss_one (ps_ret (pe_revL (pv 3))))))), ?_⟩
    refine ⟨_, rfl, (by show 2 ≤ sizeLine; decide), fun t1 ht1 => ?_⟩
    have s1 := NF.Same.new (o := .tup [V.int 1, V.ref a]) (Same.refl H) ht1
    refine ⟨(by show 1 ≤ sizeLine; decide), fun D hD => ?_⟩
    have s2 := NF.Same.new (o := .lst [V.ref t1]) s1 hD
    have hDH : H D = none := L2.Same.free s1 hD
    have r1 : RungAt K (NF.wo (upd (upd H t1 (.tup [V.int 1, V.ref a])) D (.lst [V.ref t1])) D) (.ref t1) (1, row) := ⟨t1, a, rfl, NF.Same.tup (wo_new hD) (SqT.of upd_same), L2.Same.seq (wo_new hD) (L2.Same.seq s1 ha)⟩
    refine ⟨fun k σ G => Same H G ∧ ∃ (wd : Nat) (L : List (Nat × List Int)) (vs0 : List V) (v4 : Option V), k = W + 1 - wd ∧ G D = some (.lst vs0.reverse) ∧ Rungs K (NF.wo G D) vs0 L ∧ Lad (fun i => row.getD i 0) row.length wd L ∧ wd ≤ W ∧ vs0.length ≤ wd ∧ σ = [some (.ref a), some (.int (W : Int)), some (.int (wd : Int)), some (.ref D), v4, none, none],
      ⟨W, s2, 1, [(1, row)], [.ref t1], none, rfl, upd_same, .cons r1 .nil, .one (Rung.base (by omega) fun i _ => rfl), by omega, Nat.le_refl _, rfl⟩, ?_⟩
    rintro k σ G ⟨sG, wd, L, vs0, v4, rfl, hG, hR, hL, hwW, hvl, rfl⟩
    obtain ⟨m, L', rfl, hm⟩ := hL.head
    have w0 := hm.w0
    have ml := hm.len
    cases hR with
    | @cons v _ vs' _ hv hR' =>
    obtain ⟨t, q1, rfl, ht, hq⟩ := id (hv.mono wo_same')
    dsimp only at ht hq
    rw [List.reverse_cons] at hG
    refine ⟨_, rfl, _, _, rfl, rfl, Or.inr ⟨by omega, by omega⟩, _, rfl, _, _, rfl, rfl, _, rfl, ite2 (fun h1 => ?_) (fun h1 => ?_)⟩
    · have h2 : 2 * wd ≤ W := by
        have := of_decide_eq_true h1
        omega
      refine ⟨fun σ' G' => Same H G' ∧ ∃ (vs0 : List V) (v4 : Option V), G' D = some (.lst vs0.reverse) ∧ Rungs K (NF.wo G' D) vs0 ((2 * wd, nextRow m wd) :: (wd, m) :: L') ∧ vs0.length ≤ 2 * wd ∧ σ' = [some (.ref a), some (.int (W : Int)), some (.int ((2 * wd : Nat) : Int)), some (.ref D), v4, none, none], fun σ' G' z => ?_, ?_⟩
      · obtain ⟨z1, vs1, v5, z2, z3, z4, rfl⟩ := z
        exact ⟨W + 1 - 2 * wd, by omega, z1, 2 * wd, _, vs1, v5, rfl, z2, z3, .two (hm.next (by omega)) hL, h2, z4, rfl⟩
      refine ⟨_, rfl, _, rfl, D, _, _, _, rfl, rfl, SqL.of hG, at_lastV, t, _, _, _, rfl, rfl, ht, rfl, ?_⟩
      refine ⟨_, rfl, .inl ⟨rfl, _, SqL.of hG⟩, _, rfl, _, _, rfl, rfl, Or.inr ⟨by omega, by omega⟩, ?_⟩
      refine ⟨_, rfl, _, rfl, _, rfl, _, rfl, q1, _, rfl, hq, fun p2 hp2 => ?_⟩
      rw [cut_from, vI_drop]
      have s3 := NF.Same.new (o := .lst (vI (m.drop wd))) (Same.refl G) hp2
      refine ⟨q1, p2, _, _, rfl, .inl ⟨L2.Same.seq s3 hq, SqL.of upd_same, fun D2 hD2 => ?_⟩⟩
      generalize hG2 : upd G p2 (.lst (vI (m.drop wd))) = G2 at s3 hD2
      have hp2' : G2 p2 = some (.lst (vI (m.drop wd))) := by rw [← hG2]; exact upd_same
      have nl : (nextRow m wd).length = (m.drop wd).length := by
        unfold nextRow
        rw [List.length_zipWith, List.length_drop]
        omega
      refine lc_it (walk_zip (xs := vI m) (ys := vI (m.drop wd)) (n := (m.drop wd).length) (by rw [vI_len, vI_len, List.length_drop]; omega)) (fun j G' => Same G2 G' ∧ G' D2 = some (.lst (vI ((nextRow m wd).take j)))) ⟨NF.Same.new (Same.refl G2) hD2, upd_same⟩ (fun j G' _ z => ⟨L2.Same.seq (Same.trans s3 z.1) hq, L2.Same.seq z.1 (SqL.of hp2')⟩) ?_ ?_
      · rintro j x G' G'' hj ⟨sG', hG'⟩ ⟨U, x1, y1, rfl, hU, rfl, hx, hy⟩
        rw [List.length_drop] at hj
        have hj1 : j < m.length := by omega
        have hj2 : wd + j < m.length := by omega
        obtain rfl : V.int (m.getD j 0) = x1 := by
          have hx : (vI m)[j]? = some x1 := hx
          rw [List.getElem?_map, List.getElem?_eq_getElem hj1] at hx
          rw [List.getD_eq_getElem?_getD, List.getElem?_eq_getElem hj1]
          exact Option.some.inj hx
        obtain rfl : V.int (m.getD (wd + j) 0) = y1 := by
          have hy : (vI (m.drop wd))[j]? = some y1 := hy
          rw [List.getElem?_map, List.getElem?_drop, List.getElem?_eq_getElem hj2] at hy
          rw [List.getD_eq_getElem?_getD, List.getElem?_eq_getElem hj2]
          exact Option.some.inj hy
        have en : (nextRow m wd)[j]? = some (mn (m.getD j 0) (m.getD (wd + j) 0)) := by
          unfold nextRow
          rw [List.getElem?_zipWith, List.getElem?_drop, List.getElem?_eq_getElem hj1, List.getElem?_eq_getElem hj2, List.getD_eq_getElem?_getD, List.getD_eq_getElem?_getD, List.getElem?_eq_getElem hj1, List.getElem?_eq_getElem hj2]
          rfl
        refine ⟨U, _, rfl, SqT.of upd_same, rfl, _, _, rfl, _, _, rfl, rfl, rfl, ?_⟩
        refine ⟨_, rfl, _, rfl, _, _, rfl, vI ((nextRow m wd).take j), ?_, ?_, ?_, ?_⟩
        · rw [upd_ne (ne_of_none hG' hU)]
          exact hG'
        · rw [vI_len, List.length_take]
          exact Nat.lt_of_le_of_lt (show min j (nextRow m wd).length ≤ 100000 by omega) (by decide)
        · exact NF.Same.mut (NF.Same.new sG' hU) hD2
        · rw [upd_same, List.take_add_one, en, ← vI_app]
          rfl
      · rintro G' ⟨sG', hG'⟩
        rw [List.take_of_length_le (by omega)] at hG'
        have sGG' : Same G G' := Same.trans s3 sG'
        refine ⟨(by show 2 ≤ sizeLine; decide), fun t2 ht2 => ?_⟩
        have s4 : Same G (upd G' t2 (.tup [V.int (2 * (wd : Int)), V.ref D2])) := NF.Same.new sGG' ht2
        refine ⟨D, _, _, rfl, rfl, s4 _ _ hG, ?_, ?_⟩
        · rw [List.length_append, List.length_reverse]
          simp only [List.length_cons, List.length_nil] at hvl ⊢
          exact Nat.lt_of_le_of_lt (show vs'.length + (0 + 1) ≤ 100000 by omega) (by decide)
        have nt2 : t2 ≠ D := Ne.symm (ne_of_none (sGG' _ _ hG) ht2)
        have nD2 : D2 ≠ D := Ne.symm (ne_of_none (s3 _ _ hG) hD2)
        refine ⟨_, rfl, _, _, rfl, rfl, Or.inr ⟨by omega, by omega⟩, NF.Same.mut (Same.trans sG s4) hDH, .ref t2 :: .ref t :: vs', _, ?_, .cons ⟨t2, D2, rfl, SqT.of ?_, SqL.of ?_⟩ ((Rungs.cons hv hR').mono (wo_put s4)), ?_, rfl⟩
        · rw [upd_same, List.reverse_cons, List.reverse_cons]
        · rw [wo_ne nt2, upd_ne nt2, upd_same]
          rfl
        · rw [wo_ne nD2, upd_ne nD2, upd_ne (ne_of_none hG' ht2)]
          exact hG'
        · simp only [List.length_cons] at hvl ⊢
          omega
    · have h2 : W < 2 * wd := by
        have : ¬ (2 * (wd : Int) ≤ (W : Int)) := fun z => h1 (decide_eq_true z)
        omega
      refine ⟨_, rfl, D, _, rfl, SqL.of hG, fun p hp => ?_⟩
      have s5 := NF.Same.new (o := .lst (vs'.reverse ++ [V.ref t]).reverse) (Same.refl G) hp
      have er : (vs'.reverse ++ [V.ref t]).reverse = V.ref t :: vs' := by rw [List.reverse_append, List.reverse_reverse]; rfl
      refine q p _ wd _ hL hwW h2 (Same.trans sG s5) (L2.Same.free sG hp) ⟨V.ref t :: vs', SqL.of (upd_same.trans (congrArg (fun z => some (HO.lst z)) er)), ?_⟩
      exact .cons ⟨t, q1, rfl, NF.Same.tup s5 ht, L2.Same.seq s5 hq⟩ ((hR'.mono wo_same').mono s5)
end
end K05
set_option Elab.async false
set_option linter.all false
set_option maxRecDepth 100000
set_option maxHeartbeats 4000000
namespace NT
theorem IsLo.congr {f g : Nat → Int} {i w n : Nat} {v : Int} (h : IsLo f i w v) (e : ∀ j, j < n → f j = g j) (hn : i + w ≤ n) : IsLo g i w v := by
  obtain ⟨h1, j, j1, j2, j3⟩ := h
  exact ⟨fun j a b => by rw [← e j (by omega)]; exact h1 j a b, j, j1, j2, by rw [← e j (by omega)]; exact j3⟩
theorem Rung.congr {f g : Nat → Int} {n w : Nat} {m : List Int} (h : Rung f n w m) (e : ∀ j, j < n → f j = g j) : Rung g n w m :=
  ⟨h.w0, h.wn, h.len, fun i hi => (h.lo i hi).congr e hi⟩
theorem Lad.congr {f g : Nat → Int} {n w : Nat} {L : List (Nat × List Int)} (h : Lad f n w L) (e : ∀ j, j < n → f j = g j) : Lad g n w L := by
  induction h with
  | one h => exact .one (h.congr e)
  | two h _ ih => exact .two (h.congr e) ih
end NT
namespace K05
open PySem PySem.Spec PyProof.Rows L2 He NF RZ NT
structure ChC (K : PySem.W.Frag) (C : Addr) : Prop where
  cl : Cls K C
  st : NoAttr K C "start"
  lp : NoAttr K C "lap"
  wi : NoAttr K C "window"
  dr : NoAttr K C "drift"
  ls : NoAttr K C "ladders"
  ru : NoAttr K C "runners"
def spLadFrom (K : PySem.W.Frag) (C : Addr) : Sp := fun vs H Q _ => ∃ (x dx o : Addr) (fs : List (Str × V)) (lane lap W : Nat) (B : List Int) (a b : Int), vs = [.ref x, .int (lane : Int), .ref o, .int a, .int b] ∧ H x = some (.ins C dx fs) ∧ fs.lookup ("lap" : Str) = some (.int (lap : Int)) ∧ fs.lookup ("window" : Str) = some (.int (W : Int)) ∧
  SqL K H o (vI B) ∧ B ≠ [] ∧ 0 < W ∧ W ≤ 1000 ∧ lap ≤ 1000 ∧ lane ≤ 1000 ∧ B.length ≤ 1000 ∧ -1000000 ≤ a ∧ a ≤ 1000000 ∧ -1000000 ≤ b ∧ b ≤ 1000000 ∧
  ∀ p L w H', Lad (rowR B b lap a lane) (2 * W) w L → w ≤ W → W < 2 * w → Same H H' → H p = none → LadAt K H' p L → Q (.ref p) H'
def spPlaceOf (K : PySem.W.Frag) (C : Addr) : Sp := fun vs H Q _ => ∃ (x dx : Addr) (fs : List (Str × V)) (st at_ s lap : Int), vs = [.ref x, .int at_, .int s] ∧ H x = some (.ins C dx fs) ∧ fs.lookup ("start" : Str) = some (.int st) ∧ fs.lookup ("lap" : Str) = some (.int lap) ∧ 0 ≤ lap ∧ lap ≤ 1000000 ∧ Q (.int (st + 1 + at_ + s * lap)) H
theorem sc_Chase_ladder_from : FnScope ["self", "lane", "other", "climb", "climb_other", "row", "step", "turn", "at"] ["self", "lane", "other", "climb", "climb_other"] (defScope s_Chase_ladder_from) := ⟨rfl, rfl, rfl, by decide +kernel, rfl, by decide +kernel, by decide +kernel⟩
theorem sc_Chase_place_of : FnScope ["self", "at", "steps"] ["self", "at", "steps"] (defScope s_Chase_place_of) := ⟨rfl, rfl, rfl, by decide +kernel, rfl, by decide +kernel, by decide +kernel⟩
section
variable {P : Program} {w : World} {K : PySem.W.Frag} {mg : Str → Option Value} {base : Heap} {gs fs : List Str} {C : Addr}
theorem ok_Chase_place_of {f : Addr} {fd : FuncData} (F : FunD K "place_of" "Chase.place_of" (defArgs s_Chase_place_of) (defBody s_Chase_place_of) (defScope s_Chase_place_of) [] [] f fd) (T : Txt K mg gs FS) (hc : ChC K C) : FnOk P w K mg base CX0 1 f fd ["self", "at", "steps"] (spPlaceOf K C) := by
  refine F.ok sc_Chase_place_of (fun vs H Q E h => ?_) (fun cdv A outer s H vs Q E hr h => ?_)
  · obtain ⟨x, dx, fs, st, at_, s, lap, rfl, _⟩ := h
    rfl
  · obtain ⟨x, dx, fs, st, at_, s0, lap, rfl, hx, e1, e2, l0, l1, q⟩ := h
    refine ⟨_, PSs.nox (pss_one (ps_ret (pe_op op_add (pe_op op_add (pe_op op_add (pe_fld (pv 0) rfl) pe_int) (pv 1)) (pe_op op_mul (pv 2) (pe_fld (pv 0) rfl))))), ?_⟩
    exact ⟨_, rfl, x, C, dx, _, _, rfl, hx, hc.cl, hc.st, e1, _, _, rfl, rfl, _, rfl, _, _, rfl, rfl, _, rfl, _, rfl, x, C, dx, _, _, rfl, hx, hc.cl, hc.lp, e2, _, _, rfl, rfl, Or.inr ⟨by omega, by omega⟩, _, _, rfl, rfl, q⟩
theorem ok_Chase_ladder_from {f : Addr} {fd : FuncData} (F : FunD K "ladder_from" "Chase.ladder_from" (defArgs s_Chase_ladder_from) (defBody s_Chase_ladder_from) (defScope s_Chase_ladder_from) [] [] f fd) (T : Txt K mg gs FS) (hc : ChC K C) (c_ladder_of : Cal P w K mg base 1 "ladder_of" (spLadder K)) : FnOk P w K mg base CX0 2 f fd ["self", "lane", "other", "climb", "climb_other"] (spLadFrom K C) := by
  refine F.ok sc_Chase_ladder_from (fun vs H Q E h => ?_) (fun cdv A outer s H vs Q E hr h => ?_)
  · obtain ⟨x, dx, o, fs, lane, lap, W, B, a, b, rfl, _⟩ := h
    rfl
  · obtain ⟨x, dx, o, fs, lane, lap, W, B, a, b, rfl, hx, e1, e2, ho, hB, W0, W1, lap1, lane1, bl, a0, a1, b0, b1, q⟩ := h
    have l0 := len_pos hB
    refine ⟨_, PSs.nox (pss_cons (ps_set (i := 5) sc_Chase_ladder_from.nd rfl (Or.inl rfl) (pe_lst pa_nil)) (pss_cons (ps_for PassesOwn.never rfl (pi_range1 rfl (T.fr _ (by decide +kernel)) (pa_cons (pe_op op_mul pe_int (pe_fld (pv 0) rfl)) pa_nil)) (pg_name (i := 6) sc_Chase_ladder_from.nd rfl (Or.inl rfl)) (pss_cons (ps_asg (pe_callB call_divmod rfl (T.fr _ (by decide +kernel)) (by decide +kernel) (pa_cons (pe_op op_add (pv 1) (pe_op op_mul (pe_fld (pv 0) rfl) (pv 6))) (pa_cons (pe_callB call_len_seq rfl (T.fr _ (by decide +kernel)) boot_len (pa_cons (pv 2) pa_nil)) pa_nil))) (pgt (K := K) (n := 2) rfl rfl (pgs_cons (pg_name (i := 7) sc_Chase_ladder_from.nd rfl (Or.inl rfl)) (pgs_cons (pg_name (i := 8) sc_Chase_ladder_from.nd rfl (Or.inl rfl)) pgs_nil)))) (pss_one (ps_expr (pe_bm PySem.F.plainAttrs_list PySem.F.slot_list_append PySem.F.type_list_append mt_append (pv 5) (pa_cons (pe_op op_sub (pe_op op_add (pe_ix (ixl (K := K)) (pv 2) (pv 8) fun _ _ => rfl) (pe_op op_mul (pv 7) (pv 4))) (pe_op op_mul (pv 6) (pv 3))) pa_nil)))))) (pss_one (ps_ret (pe_c c_ladder_of hr (by decide) rfl (pa_cons (pv 5) (pa_cons (pe_fld (pv 0) rfl) pa_nil))))))), ?_⟩
    refine ⟨(by show 0 ≤ sizeLine; decide), fun D hD => ?_⟩
    have s1 := NF.Same.new (o := .lst []) (Same.refl H) hD
    refine ⟨_, rfl, x, C, dx, _, _, rfl, s1 _ _ hx, hc.cl, hc.wi, e2, _, _, rfl, rfl, Or.inr ⟨by omega, by omega⟩, ((2 * W : Nat) : Int), rfl, by omega, by omega, ?_⟩
    refine for_range (lo := 0) (n := 2 * W) (fun i σ G => Same H G ∧ G D = some (.lst (vI ((List.range i).map (rowR B b lap a lane)))) ∧ ∃ v6 v7 v8, σ = [some (.ref x), some (.int (lane : Int)), some (.ref o), some (.int a), some (.int b), some (.ref D), v6, v7, v8]) ⟨s1, upd_same, none, none, none, rfl⟩ ?_ ?_
    · rintro i σ G hi ⟨sG, hG, v6, v7, v8, rfl⟩
      rw [Int.zero_add]
      have hxG := sG _ _ hx
      have hoG := L2.Same.seq sG ho
      refine ⟨_, rfl, _, rfl, x, C, dx, _, _, rfl, hxG, hc.cl, hc.lp, e1, _, rfl, _, _, rfl, rfl, Or.inr ⟨by omega, by omega⟩, _, _, rfl, rfl, _, rfl, o, _, rfl, Or.inl hoG, ?_⟩
      rw [vI_len]
      have ek : (lane : Int) + (lap : Int) * (i : Int) = ((lane + lap * i : Nat) : Int) := by rw [Int.natCast_add, Int.natCast_mul]
      refine ⟨_, _, rfl, ⟨by omega, by omega⟩, fun p hpn => ?_⟩
      rw [ek] at *
      have s2 := NF.Same.new (o := .tup [V.int (((lane + lap * i : Nat) : Int) / (B.length : Int)), V.int (((lane + lap * i : Nat) : Int) % (B.length : Int))]) (Same.refl G) hpn
      refine ⟨p, _, rfl, SqT.of upd_same, rfl, _, _, rfl, ?_⟩
      refine ⟨_, _, rfl, ?_⟩
      refine ⟨rfl, ?_⟩
      have hG2 := s2 _ _ hG
      have em : ((lane + lap * i : Nat) : Int) % (B.length : Int) = (((lane + lap * i) % B.length : Nat) : Int) := rfl
      refine ⟨_, rfl, .inl ⟨rfl, _, SqL.of hG2⟩, _, rfl, _, rfl, o, _, _, _, rfl, rfl, L2.Same.seq s2 hoG, at_int em (Nat.mod_lt _ l0), _, rfl, _, rfl, _, _, rfl, rfl, Or.inr ⟨by omega, by omega⟩, _, _, rfl, rfl, _, rfl, _, rfl, _, _, rfl, rfl, Or.inr ⟨by omega, by omega⟩, _, _, rfl, rfl, D, _, _, rfl, rfl, hG2, ?_, ?_⟩
      · rw [vI_len, List.length_map, List.length_range]
        exact Nat.lt_of_le_of_lt (show i ≤ 2000 by omega) (by decide)
      · refine ⟨NF.Same.mut (Same.trans sG s2) (L2.Same.free (Same.refl H) hD), ?_, _, _, _, rfl⟩
        have ev : B.getD ((lane + lap * i) % B.length) 0 + ((lane + lap * i : Nat) : Int) / (B.length : Int) * b - (i : Int) * a = rowR B b lap a lane i := by
          unfold rowR walk
          rw [Int.mul_comm b]
          rfl
        rw [upd_same, List.range_succ, List.map_append, ← vI_app, show [i].map (rowR B b lap a lane) = [rowR B b lap a lane i] from rfl, ← ev]
        rfl
    · rintro σ G ⟨sG, hG, v6, v7, v8, rfl⟩
      refine ⟨_, rfl, _, rfl, x, C, dx, _, _, rfl, sG _ _ hx, hc.cl, hc.wi, e2, D, _, W, rfl, SqL.of hG, W0, by rw [List.length_map, List.length_range]; omega, by rw [List.length_map, List.length_range]; omega, fun p L w H' hL w1 w2 s3 np la => ?_⟩
      rw [List.length_map, List.length_range] at hL
      refine q p L w H' (hL.congr fun j hj => ?_) w1 w2 (Same.trans sG s3) (L2.Same.free sG np) la
      rw [List.getD_eq_getElem?_getD, List.getElem?_map, List.getElem?_range hj]
      rfl
end
end K05
set_option Elab.async false
set_option linter.all false
set_option maxRecDepth 100000
set_option maxHeartbeats 4000000
namespace NF
open PySem PySem.Spec PyProof.Rows L2 He RZ NT
def RnrAt (K : PySem.W.Frag) (H : Hp) (v : V) (r : Nat × Nat × Int) : Prop := ∃ t, v = .ref t ∧ SqT K H t [.int (r.1 : Int), .int (r.2.1 : Int), .int r.2.2]
inductive Rnrs (K : PySem.W.Frag) (H : Hp) : List V → List (Nat × Nat × Int) → Prop where
  | nil : Rnrs K H [] []
  | cons {v : V} {r : Nat × Nat × Int} {vs : List V} {R : List (Nat × Nat × Int)} (h : RnrAt K H v r) (t : Rnrs K H vs R) : Rnrs K H (v :: vs) (r :: R)
theorem Rnrs.mono {K : PySem.W.Frag} {H H' : Hp} (s : Same H H') : ∀ {vs : List V} {R : List (Nat × Nat × Int)}, Rnrs K H vs R → Rnrs K H' vs R
  | _, _, .nil => .nil
  | _, _, .cons ⟨t, e, h⟩ r => .cons ⟨t, e, NF.Same.tup s h⟩ (Rnrs.mono s r)
theorem Rnrs.put {K : PySem.W.Frag} {H : Hp} {p : Addr} {xs ys : List V} (hp : H p = some (.lst xs)) : ∀ {vs : List V} {R : List (Nat × Nat × Int)}, Rnrs K H vs R → Rnrs K (upd H p (.lst ys)) vs R
  | _, _, .nil => .nil
  | _, _, .cons ⟨t, e, h⟩ r => .cons ⟨t, e, NF.SqT.put h hp trivial⟩ (Rnrs.put hp r)
theorem Rnrs.snoc {K : PySem.W.Frag} {H : Hp} {v : V} {r : Nat × Nat × Int} (h : RnrAt K H v r) : ∀ {vs : List V} {R : List (Nat × Nat × Int)}, Rnrs K H vs R → Rnrs K H (vs ++ [v]) (R ++ [r])
  | _, _, .nil => .cons h .nil
  | _, _, .cons h' t => .cons h' (Rnrs.snoc h t)
theorem Rnrs.len {K : PySem.W.Frag} {H : Hp} : ∀ {vs : List V} {R : List (Nat × Nat × Int)}, Rnrs K H vs R → vs.length = R.length
  | _, _, .nil => rfl
  | _, _, .cons _ t => congrArg (· + 1) (Rnrs.len t)
theorem Rnrs.get {K : PySem.W.Frag} {H : Hp} : ∀ {vs : List V} {R : List (Nat × Nat × Int)}, Rnrs K H vs R → ∀ {i : Nat} {v : V}, vs[i]? = some v → ∃ r, R[i]? = some r ∧ RnrAt K H v r
  | _, _, .cons h t, 0, v, e => by
    obtain rfl := Option.some.inj e
    exact ⟨_, rfl, h⟩
  | _, _, .cons h t, i + 1, v, e => Rnrs.get t (i := i) e
def RunAt (K : PySem.W.Frag) (H : Hp) (p : Addr) (R : List (Nat × Nat × Int)) : Prop := ∃ vs, SqL K H p vs ∧ Rnrs K H vs R
theorem RunAt.mono {K : PySem.W.Frag} {H H' : Hp} {p : Addr} {R : List (Nat × Nat × Int)} (h : RunAt K H p R) (s : Same H H') : RunAt K H' p R := by
  obtain ⟨vs, h1, h2⟩ := h
  exact ⟨vs, L2.Same.seq s h1, h2.mono s⟩
theorem rep_int {M : Nat} {c : Int} : (List.replicate M [V.int c]).flatten = vI (List.replicate M c) := by
  induction M with
  | zero => rfl
  | succ M ih =>
    rw [List.replicate_succ, List.flatten_cons, ih, List.replicate_succ]
    rfl
theorem vI_set {l : List Int} {i : Nat} {v : Int} : (vI l).set i (.int v) = vI (l.set i v) := by
  unfold vI
  rw [List.map_set]
end NF
namespace NT
/-- the step at which a lane comes to a residue -/
def OkAt (L M g W : Nat) (r : Nat) (v : Int) : Prop := ∃ s : Nat, v = (s : Int) ∧ s < W ∧ (r % g + L * s) % M = r
def rnr (A : List Int) (a b : Int) (L M g : Nat) (S : List Int) (at_ : Nat) : Nat × Nat × Int :=
  (at_ % g, (S.getD (at_ % M) 0).toNat, A.getD at_ 0 - S.getD (at_ % M) 0 * a + (((at_ % g : Nat) : Int) + (L : Int) * S.getD (at_ % M) 0 - (at_ : Int)) / (M : Int) * b)
end NT
namespace K05
open PySem PySem.Spec PyProof.Rows L2 He NF RZ NT
def spRunners (K : PySem.W.Frag) (C : Addr) : Sp := fun vs H Q _ => ∃ (x dx ah lp : Addr) (fs : List (Str × V)) (lvs : List V) (L M g W V_ : Nat) (A : List Int) (a b : Int), vs = [.ref x, .ref ah, .int a, .int (M : Int), .int b] ∧ H x = some (.ins C dx fs) ∧ fs.lookup ("lap" : Str) = some (.int (L : Int)) ∧ fs.lookup ("window" : Str) = some (.int (W : Int)) ∧ fs.lookup ("ladders" : Str) = some (.ref lp) ∧
  SqL K H lp lvs ∧ lvs.length = g ∧ SqL K H ah (vI A) ∧ A.length = L ∧ Ln L M g W V_ ∧ M ≤ 1000 ∧ L ≤ 1000 ∧ -1000000 ≤ a ∧ a ≤ 1000000 ∧ -1000000 ≤ b ∧ b ≤ 1000000 ∧
  ∀ p S R H', (∀ r, r < M → OkAt L M g W r (S.getD r 0)) → R = (List.range L).map (rnr A a b L M g S) → Same H H' → RunAt K H' p R → Q (.ref p) H'
theorem sc_Chase_runners_of : FnScope ["self", "ahead", "climb", "many", "climb_other", "lanes", "step_at", "lane", "found", "step", "at", "value", "turns"] ["self", "ahead", "climb", "many", "climb_other"] (defScope s_Chase_runners_of) := ⟨rfl, rfl, rfl, by decide +kernel, rfl, by decide +kernel, by decide +kernel⟩
section
variable {P : Program} {w : World} {K : PySem.W.Frag} {mg : Str → Option Value} {base : Heap} {gs fs : List Str} {C : Addr}
theorem ok_Chase_runners_of {f : Addr} {fd : FuncData} (F : FunD K "runners_of" "Chase.runners_of" (defArgs s_Chase_runners_of) (defBody s_Chase_runners_of) (defScope s_Chase_runners_of) [] [] f fd) (T : Txt K mg gs FS) (hc : ChC K C) : FnOk P w K mg base CX0 1 f fd ["self", "ahead", "climb", "many", "climb_other"] (spRunners K C) := by
  refine F.ok sc_Chase_runners_of (fun vs H Q E h => ?_) (fun cdv A outer s H vs Q E hr h => ?_)
  · obtain ⟨x, dx, ah, lp, fs, lvs, L, M, g, W, V_, A, a, b, rfl, _⟩ := h
    rfl
  · obtain ⟨x, dx, ah, lp, fs, lvs, L, M, g, W, V_, A', a, b, rfl, hx, e1, e2, e3, hlp, hg, hah, hA, ln, M1, L1, a0, a1, b0, b1, q⟩ := h
    refine ⟨_, PSs.nox (pss_cons (ps_set (i := 5) sc_Chase_runners_of.nd rfl (Or.inl rfl) (pe_callB call_len_seq rfl (T.fr _ (by decide +kernel)) boot_len (pa_cons (pe_fld (pv 0) rfl) pa_nil))) (pss_cons (ps_set (i := 6) sc_Chase_runners_of.nd rfl (Or.inl rfl) (pe_op op_rep (pe_lst (pa_cons pe_int pa_nil)) (pv 3))) (pss_cons (ps_for PassesOwn.never rfl (pi_range1 rfl (T.fr _ (by decide +kernel)) (pa_cons (pv 5) pa_nil)) (pg_name (i := 7) sc_Chase_runners_of.nd rfl (Or.inl rfl)) (pss_one (ps_for PassesOwn.never rfl (pi_range1 rfl (T.fr _ (by decide +kernel)) (pa_cons (pe_fld (pv 0) rfl) pa_nil)) (pg_name (i := 9) sc_Chase_runners_of.nd rfl (Or.inl rfl)) (pss_one (ps_asg (pv 9) (pg_sub (pv 6) (pe_op op_mod (pe_op op_add (pv 7) (pe_op op_mul (pe_fld (pv 0) rfl) (pv 9))) (pv 3)) set_list)))))) (pss_cons (ps_set (i := 8) sc_Chase_runners_of.nd rfl (Or.inl rfl) (pe_lst pa_nil)) (pss_cons (ps_for PassesOwn.never rfl (pi_enum rfl (T.fr _ (by decide +kernel)) (pa_cons (pv 1) pa_nil)) (pgt (K := K) (n := 2) rfl rfl (pgs_cons (pg_name (i := 10) sc_Chase_runners_of.nd rfl (Or.inl rfl)) (pgs_cons (pg_name (i := 11) sc_Chase_runners_of.nd rfl (Or.inl rfl)) pgs_nil))) (pss_cons (ps_set (i := 7) sc_Chase_runners_of.nd rfl (Or.inl rfl) (pe_op op_mod (pv 10) (pv 5))) (pss_cons (ps_set (i := 9) sc_Chase_runners_of.nd rfl (Or.inl rfl) (pe_ix (ixl (K := K)) (pv 6) (pe_op op_mod (pv 10) (pv 3)) fun _ _ => rfl)) (pss_cons (ps_set (i := 12) sc_Chase_runners_of.nd rfl (Or.inl rfl) (pe_op op_fdiv (pe_op op_sub (pe_op op_add (pv 7) (pe_op op_mul (pe_fld (pv 0) rfl) (pv 9))) (pv 10)) (pv 3))) (pss_one (ps_expr (pe_bm PySem.F.plainAttrs_list PySem.F.slot_list_append PySem.F.type_list_append mt_append (pv 8) (pa_cons (pe_tup (pa_cons (pv 7) (pa_cons (pv 9) (pa_cons (pe_op op_add (pe_op op_sub (pv 11) (pe_op op_mul (pv 9) (pv 2))) (pe_op op_mul (pv 12) (pv 4))) pa_nil)))) pa_nil)))))))) (pss_one (ps_ret (pv 8)))))))), ?_⟩
    refine ⟨_, rfl, x, C, dx, _, _, rfl, hx, hc.cl, hc.ls, e3, lp, _, rfl, Or.inl hlp, ?_⟩
    rw [hg]
    refine ⟨(by show 1 ≤ sizeLine; decide), fun t ht => ?_⟩
    have s1 := NF.Same.new (o := .lst [V.int 0]) (Same.refl H) ht
    refine ⟨_, rfl, t, (M : Int), [V.int 0], rfl, rfl, upd_same, by omega, by omega, ?_, fun D hD => ?_⟩
    · rw [Int.toNat_natCast]
      exact Nat.le_trans (show 1 * M ≤ 1000 by omega) (by decide)
    rw [Int.toNat_natCast, rep_int]
    have s2 := NF.Same.new (o := .lst (vI (List.replicate M 0))) s1 hD
    have hDH : H D = none := L2.Same.free s1 hD
    have g0 := ln.g0
    have m0 := ln.m0
    have w0 := ln.w0
    have gM : g ≤ M := by rw [ln.eM]; exact Nat.le_mul_of_pos_right _ w0
    have WM : W ≤ M := by rw [ln.eM]; exact Nat.le_mul_of_pos_left _ g0
    have dv : g ∣ M := ⟨W, ln.eM⟩
    refine ⟨_, rfl, (g : Int), rfl, by omega, by omega, ?_⟩
    refine for_range (lo := 0) (n := g) (fun i σ G => Same H G ∧ ∃ S : List Int, G D = some (.lst (vI S)) ∧ S.length = M ∧ (∀ l s, l < i → s < W → OkAt L M g W ((l + L * s) % M) (S.getD ((l + L * s) % M) 0)) ∧ ∃ v7 v9, σ = [some (.ref x), some (.ref ah), some (.int a), some (.int (M : Int)), some (.int b), some (.int (g : Int)), some (.ref D), v7, none, v9, none, none, none]) ⟨s2, List.replicate M 0, upd_same, List.length_replicate, fun l s z => absurd z (Nat.not_lt_zero _), none, none, rfl⟩ ?_ ?_
    · rintro i σ G hi ⟨sG, S, hG, hS, ok, v7, v9, rfl⟩
      rw [Int.zero_add]
      refine ⟨_, rfl, x, C, dx, _, _, rfl, sG _ _ hx, hc.cl, hc.wi, e2, (W : Int), rfl, by omega, by omega, ?_⟩
      refine for_range (lo := 0) (n := W) (fun j σ G => Same H G ∧ ∃ S : List Int, G D = some (.lst (vI S)) ∧ S.length = M ∧ (∀ l s, l < i → s < W → OkAt L M g W ((l + L * s) % M) (S.getD ((l + L * s) % M) 0)) ∧ (∀ s, s < j → OkAt L M g W ((i + L * s) % M) (S.getD ((i + L * s) % M) 0)) ∧ ∃ v9, σ = [some (.ref x), some (.ref ah), some (.int a), some (.int (M : Int)), some (.int b), some (.int (g : Int)), some (.ref D), some (.int (i : Int)), none, v9, none, none, none]) ⟨sG, S, hG, hS, ok, fun s z => absurd z (Nat.not_lt_zero _), v9, rfl⟩ ?_ ?_
      · rintro j σ G' hj ⟨sG', S', hG', hS', ok', okj, v9', rfl⟩
        rw [Int.zero_add]
        have ek : (i : Int) + (L : Int) * (j : Int) = ((i + L * j : Nat) : Int) := by rw [Int.natCast_add, Int.natCast_mul]
        have elt := Nat.mod_lt (i + L * j) m0
        have em : ((i : Int) + (L : Int) * (j : Int)) % (M : Int) = (((i + L * j) % M : Nat) : Int) := by rw [ek]; rfl
        refine ⟨_, rfl, _, rfl, _, rfl, _, rfl, x, C, dx, _, _, rfl, sG' _ _ hx, hc.cl, hc.lp, e1, _, rfl, _, _, rfl, rfl, Or.inr ⟨by omega, by omega⟩, _, _, rfl, rfl, _, rfl, _, _, rfl, rfl, (by omega), ?_⟩
        refine ⟨D, _, _, (i + L * j) % M, rfl, rfl, hG', ?_, ?_⟩
        · rw [em]
          unfold ixN
          rw [if_pos (by omega), if_pos (by rw [vI_len, hS']; omega)]
          rfl
        · have ok1 : OkAt L M g W ((i + L * j) % M) ((j : Nat) : Int) := ⟨j, rfl, hj, by rw [← ln.lane hi (Nat.mod_mod (i + L * j) M).symm]⟩
          have put : ∀ r, OkAt L M g W r (S'.getD r 0) → OkAt L M g W r ((S'.set ((i + L * j) % M) (j : Int)).getD r 0) := fun r h => by
            by_cases c : (i + L * j) % M = r
            · rw [← c, List.getD_eq_getElem?_getD, List.getElem?_set_self (by omega)]
              exact ok1
            · rw [List.getD_eq_getElem?_getD, List.getElem?_set_ne c, ← List.getD_eq_getElem?_getD]
              exact h
          refine ⟨NF.Same.mut sG' hDH, S'.set ((i + L * j) % M) (j : Int), ?_, by rw [List.length_set]; exact hS', fun l s h1 h2 => put _ (ok' l s h1 h2), fun s h1 => ?_, _, rfl⟩
          · rw [upd_same, vI_set]
          · rcases Nat.lt_or_ge s j with c | c
            · exact put _ (okj s c)
            · rw [show s = j by omega, List.getD_eq_getElem?_getD, List.getElem?_set_self (by omega)]
              exact ok1
      · rintro σ G' ⟨sG', S', hG', hS', ok', okj, v9', rfl⟩
        refine ⟨sG', S', hG', hS', fun l s h1 h2 => ?_, _, _, rfl⟩
        rcases Nat.lt_or_ge l i with c | c
        · exact ok' l s c h2
        · rw [show l = i by omega]
          exact okj s h2
    · rintro σ G ⟨sG, S, hG, hS, ok, v7, v9, rfl⟩
      have okS : ∀ r, r < M → OkAt L M g W r (S.getD r 0) := fun r hr => by
        obtain ⟨s, s1, s2⟩ := ln.reach r hr
        have := ok (r % g) s (Nat.mod_lt _ g0) s1
        rw [s2] at this
        exact this
      refine ⟨(by show 0 ≤ sizeLine; decide), fun Fd hFd => ?_⟩
      have s3 := NF.Same.new (o := .lst []) (Same.refl G) hFd
      have hFH : H Fd = none := L2.Same.free sG hFd
      have nDF : D ≠ Fd := ne_of_none hG hFd
      refine ⟨_, rfl, ah, _, rfl, L2.Same.seq (Same.trans sG s3) hah, ?_⟩
      refine for_it (walk_enum (xs := vI A')) (fun i σ G' => Same H G' ∧ G' D = some (.lst (vI S)) ∧ ∃ vs : List V, G' Fd = some (.lst vs) ∧ Rnrs K G' vs ((List.range i).map (rnr A' a b L M g S)) ∧ ∃ v7 v9 v10 v11 v12, σ = [some (.ref x), some (.ref ah), some (.int a), some (.int (M : Int)), some (.int b), some (.int (g : Int)), some (.ref D), v7, some (.ref Fd), v9, v10, v11, v12])
        ⟨Same.trans sG s3, s3 _ _ hG, [], upd_same, .nil, _, _, _, _, _, rfl⟩ (fun i σ G' _ z => L2.Same.seq z.1 hah) ?_ ?_
      · rintro i y σ G' G'' hi ⟨sG', hD', vs, hF', hR, v7, v9, v10, v11, v12, rfl⟩ ⟨U, x1, y1, rfl, hU, rfl, hx1, hy1⟩
        rw [vI_len] at hi
        obtain rfl : V.int ((i : Nat) : Int) = x1 := Option.some.inj hx1
        obtain rfl : V.int (A'.getD i 0) = y1 := by
          have hy1 : (vI A')[i]? = some y1 := hy1
          rw [List.getElem?_map, List.getElem?_eq_getElem hi] at hy1
          rw [List.getD_eq_getElem?_getD, List.getElem?_eq_getElem hi]
          exact Option.some.inj hy1
        have s4 := NF.Same.new (o := .tup [V.int ((i : Nat) : Int), V.int (A'.getD i 0)]) (Same.refl G') hU
        have sH4 := Same.trans sG' s4
        obtain ⟨st, est, stW, sty⟩ := okS (i % M) (Nat.mod_lt _ m0)
        have elane : ((i : Nat) : Int) % (g : Int) = ((i % g : Nat) : Int) := rfl
        have eres : ((i : Nat) : Int) % (M : Int) = ((i % M : Nat) : Int) := rfl
        refine ⟨U, _, rfl, SqT.of upd_same, rfl, _, _, rfl, ?_⟩
        refine ⟨_, _, rfl, ?_⟩
        refine ⟨rfl, ?_⟩
        refine ⟨_, rfl, _, rfl, _, _, rfl, rfl, (by omega), ?_⟩
        refine ⟨_, rfl, _, rfl, _, rfl, _, _, rfl, rfl, (by omega), D, _, _, _, rfl, rfl, SqL.of (s4 _ _ hD'), at_int eres (by rw [hS]; exact Nat.mod_lt _ m0), ?_⟩
        refine ⟨_, rfl, _, rfl, x, C, dx, _, _, rfl, sH4 _ _ hx, hc.cl, hc.lp, e1, _, rfl, _, _, rfl, rfl, Or.inr ⟨by omega, by omega⟩, _, _, rfl, rfl, _, rfl, _, _, rfl, rfl, _, rfl, _, _, rfl, rfl, ⟨by omega, by omega⟩, ?_⟩
        refine ⟨_, rfl, .inl ⟨rfl, _, SqL.of (s4 _ _ hF')⟩, _, rfl, _, rfl, _, rfl, _, rfl, _, rfl, _, _, rfl, rfl, Or.inr ⟨by omega, by omega⟩, _, _, rfl, rfl, _, rfl, _, rfl, _, _, rfl, rfl, Or.inr ⟨by omega, by omega⟩, _, _, rfl, rfl, (by show 3 ≤ sizeLine; decide), fun t5 ht5 => ?_⟩
        have er : [V.int (((i : Nat) : Int) % (g : Int)), V.int (S.getD (i % M) 0), V.int (A'.getD i 0 - S.getD (i % M) 0 * a + (((i : Nat) : Int) % (g : Int) + (L : Int) * S.getD (i % M) 0 - ((i : Nat) : Int)) / (M : Int) * b)] = [V.int (((rnr A' a b L M g S i).1 : Nat) : Int), V.int (((rnr A' a b L M g S i).2.1 : Nat) : Int), V.int (rnr A' a b L M g S i).2.2] := by
          unfold rnr
          dsimp only
          rw [est, Int.toNat_natCast]
          rfl
        have s5 := NF.Same.new (o := .tup [V.int (((i : Nat) : Int) % (g : Int)), V.int (S.getD (i % M) 0), V.int (A'.getD i 0 - S.getD (i % M) 0 * a + (((i : Nat) : Int) % (g : Int) + (L : Int) * S.getD (i % M) 0 - ((i : Nat) : Int)) / (M : Int) * b)]) s4 ht5
        have hF5 := s5 _ _ hF'
        have r5 : RnrAt K (upd (upd G' U (.tup [V.int ((i : Nat) : Int), V.int (A'.getD i 0)])) t5 (.tup [V.int (((i : Nat) : Int) % (g : Int)), V.int (S.getD (i % M) 0), V.int (A'.getD i 0 - S.getD (i % M) 0 * a + (((i : Nat) : Int) % (g : Int) + (L : Int) * S.getD (i % M) 0 - ((i : Nat) : Int)) / (M : Int) * b)])) (.ref t5) (rnr A' a b L M g S i) := ⟨t5, rfl, SqT.of (upd_same.trans (congrArg (fun z => some (HO.tup z)) er))⟩
        refine ⟨Fd, _, _, rfl, rfl, hF5, ?_, ?_⟩
        · rw [hR.len, List.length_map, List.length_range]
          exact Nat.lt_of_le_of_lt (show i ≤ 1000 by omega) (by decide)
        · refine ⟨NF.Same.mut (Same.trans sG' s5) hFH, (upd_ne nDF).trans (s5 _ _ hD'), vs ++ [.ref t5], upd_same, ?_, _, _, _, _, _, rfl⟩
          rw [List.range_succ, List.map_append]
          exact Rnrs.put hF5 (Rnrs.snoc r5 (hR.mono s5))
      · rintro σ G' ⟨sG', hD', vs, hF', hR, v7, v9, v10, v11, v12, rfl⟩
        refine ⟨_, rfl, q Fd S _ G' okS ?_ sG' ⟨vs, SqL.of hF', hR⟩⟩
        rw [vI_len, hA]
end
end K05
set_option Elab.async false
set_option linter.all false
set_option maxRecDepth 100000
set_option maxHeartbeats 4000000
namespace NF
open PySem PySem.Spec PyProof.Rows L2 He RZ NT
theorem SqL.put {K : PySem.W.Frag} {H : Hp} {a D : Addr} {o : HO} {xs acc : List V} (h : SqL K H a xs) (hD : H D = some (.lst acc)) (n : xs ≠ acc) : SqL K (upd H D o) a xs := by
  rcases h with h | h
  · by_cases e : a = D
    · subst e
      rcases h with h | ⟨z, h⟩
      · rw [h] at hD
        injection hD with hD
        injection hD with hD
        exact absurd hD n
      · rw [h] at hD
        injection hD with hD
        cases hD
    · refine .inl ?_
      rcases h with h | ⟨z, h⟩
      · exact .inl ((upd_ne e).trans h)
      · exact .inr ⟨z, (upd_ne e).trans h⟩
  · exact .inr h
theorem LadAt.put {K : PySem.W.Frag} {H : Hp} {p D : Addr} {o : HO} {L : List (Nat × List Int)} {acc : List V} (h : LadAt K H p L) (hD : H D = some (.lst acc)) (hp : ∀ vs, SqL K H p vs → SqL K (upd H D o) p vs) (ho : match o with | .lst _ => True | _ => False) (hm : ∀ r ∈ L, r.2 ≠ []) (ha : ∀ v ∈ acc, ∃ q, v = .ref q) : LadAt K (upd H D o) p L := by
  obtain ⟨vs, h1, h2⟩ := h
  refine ⟨vs, hp vs h1, ?_⟩
  clear h1
  induction h2 with
  | nil => exact .nil
  | @cons v r vs L hv _ ih =>
    obtain ⟨t, q, e, ht, hq⟩ := hv
    refine .cons ⟨t, q, e, ?_, SqL.put hq hD fun z => ?_⟩ (ih fun r hr => hm r (List.mem_cons_of_mem _ hr))
    · cases o with
      | lst ys => exact NF.SqT.put ht hD trivial
      | _ => exact ho.elim
    · have hne := hm r (List.mem_cons_self ..)
      cases hr : r.2 with
      | nil => exact hne hr
      | cons x xs =>
        rw [hr] at z
        obtain ⟨q', e'⟩ := ha (.int x) (by rw [← z]; exact List.mem_cons_self ..)
        cases e'
end NF
namespace NT
theorem Lad.rows {f : Nat → Int} {n w : Nat} {L : List (Nat × List Int)} (h : Lad f n w L) : ∀ r ∈ L, r.2 ≠ [] := by
  have one : ∀ {w : Nat} {m : List Int}, Rung f n w m → m ≠ [] := fun {w m} h z => by
    have hl := h.len
    have hw := h.wn
    rw [z] at hl
    have hl : 0 = n + 1 - w := hl
    omega
  induction h with
  | one h =>
    intro r hr
    rw [List.mem_singleton.mp hr]
    exact one h
  | two h _ ih =>
    intro r hr
    rcases List.mem_cons.mp hr with rfl | hr
    · exact one h
    · exact ih r hr
end NT
namespace NF
open PySem PySem.Spec PyProof.Rows L2 He RZ NT
theorem SqL.putI {K : PySem.W.Frag} {H : Hp} {a x C dx : Addr} {o : HO} {xs : List V} {fs : List (Str × V)} (h : SqL K H a xs) (hx : H x = some (.ins C dx fs)) : SqL K (upd H x o) a xs := by
  rcases h with h | h
  · by_cases e : a = x
    · subst e
      rcases h with h | ⟨z, h⟩ <;> (rw [h] at hx; injection hx with hx; cases hx)
    · refine .inl ?_
      rcases h with h | ⟨z, h⟩
      · exact .inl ((upd_ne e).trans h)
      · exact .inr ⟨z, (upd_ne e).trans h⟩
  · exact .inr h
theorem SqL.upd_ne {K : PySem.W.Frag} {H : Hp} {a D : Addr} {o : HO} {xs : List V} (h : SqL K H a xs) (n : a ≠ D) : SqL K (upd H D o) a xs := by
  rcases h with h | h
  · refine .inl ?_
    rcases h with h | ⟨z, h⟩
    · exact .inl ((L2.upd_ne n).trans h)
    · exact .inr ⟨z, (L2.upd_ne n).trans h⟩
  · exact .inr h
theorem Rungs.putI {K : PySem.W.Frag} {H : Hp} {x C dx : Addr} {fs fs' : List (Str × V)} {dx' : Addr} (hx : H x = some (.ins C dx fs)) : ∀ {vs : List V} {L : List (Nat × List Int)}, Rungs K H vs L → Rungs K (upd H x (.ins C dx' fs')) vs L
  | _, _, .nil => .nil
  | _, _, .cons ⟨t, q, e, ht, hq⟩ r => .cons ⟨t, q, e, NF.SqT.put ht hx trivial, SqL.putI hq hx⟩ (Rungs.putI hx r)
theorem LadAt.putI {K : PySem.W.Frag} {H : Hp} {p x C dx : Addr} {fs fs' : List (Str × V)} {dx' : Addr} {L : List (Nat × List Int)} (h : LadAt K H p L) (hx : H x = some (.ins C dx fs)) : LadAt K (upd H x (.ins C dx' fs')) p L := by
  obtain ⟨vs, h1, h2⟩ := h
  exact ⟨vs, SqL.putI h1 hx, h2.putI hx⟩
theorem Rnrs.putI {K : PySem.W.Frag} {H : Hp} {x C dx : Addr} {fs fs' : List (Str × V)} {dx' : Addr} (hx : H x = some (.ins C dx fs)) : ∀ {vs : List V} {R : List (Nat × Nat × Int)}, Rnrs K H vs R → Rnrs K (upd H x (.ins C dx' fs')) vs R
  | _, _, .nil => .nil
  | _, _, .cons ⟨t, e, ht⟩ r => .cons ⟨t, e, NF.SqT.put ht hx trivial⟩ (Rnrs.putI hx r)
theorem RunAt.putI {K : PySem.W.Frag} {H : Hp} {p x C dx : Addr} {fs fs' : List (Str × V)} {dx' : Addr} {R : List (Nat × Nat × Int)} (h : RunAt K H p R) (hx : H x = some (.ins C dx fs)) : RunAt K (upd H x (.ins C dx' fs')) p R := by
  obtain ⟨vs, h1, h2⟩ := h
  exact ⟨vs, SqL.putI h1 hx, h2.putI hx⟩
theorem both7 {X : Prop} {R : List Int → List Int → Int → Int → Addr → Addr → Hp → Prop} (P : List Int → List Int → Int → Int → Addr → Addr → Hp → Prop) (h1 : (∀ A B a b qa qb G, P A B a b qa qb G → R A B a b qa qb G) → X) (h2 : ∀ A B a b qa qb G, P A B a b qa qb G → R A B a b qa qb G) : X := h1 h2
end NF
namespace K05
open PySem PySem.Spec PyProof.Rows L2 He NF RZ NT
/-- which rows a chase compares -/
def Cond (l1 l2 : List Int) (r1 r2 : Int) (A1 A2 : List Int) (A B : List Int) (a b : Int) : Prop :=
  (l2.length ≤ l1.length ∧ A = A1 ∧ B = A2 ∧ a = r1 ∧ b = r2) ∨ (l1.length < l2.length ∧ A = A2.map (- ·) ∧ B = A1.map (- ·) ∧ a = -r2 ∧ b = -r1)
def ChAt (K : PySem.W.Frag) (C : Addr) (H : Hp) (x : Addr) (st : Nat) (A : List Int) (a : Int) (B : List Int) (b : Int) : Prop :=
  ∃ (dx lp rp : Addr) (lvs : List V) (g W V_ : Nat) (S : List Int), H x = some (.ins C dx [("start", .int (st : Int)), ("lap", .int (A.length : Int)), ("window", .int (W : Int)), ("drift", .int (a * (W : Int) - b * (V_ : Int))), ("ladders", .ref lp), ("runners", .ref rp)]) ∧
    Ln A.length B.length g W V_ ∧ SqL K H lp lvs ∧ lvs.length = g ∧ (∀ lane v, lvs[lane]? = some v → ∃ p L w, v = .ref p ∧ LadAt K H p L ∧ Lad (rowR B b A.length a lane) (2 * W) w L ∧ w ≤ W ∧ W < 2 * w) ∧
    (∀ r, r < B.length → OkAt A.length B.length g W r (S.getD r 0)) ∧ RunAt K H rp ((List.range A.length).map (rnr A a b A.length B.length g S))
def spChase (K : PySem.W.Frag) (CT C : Addr) : Sp := fun vs H Q _ => ∃ (x dx x1 x2 : Addr) (y1 y2 : List Int × List Int × Int) (st : Nat), vs = [.ref x, .ref x1, .ref x2, .int (st : Int)] ∧ H x = some (.ins C dx []) ∧ TabAt K CT H x1 y1 ∧ TabAt K CT H x2 y2 ∧ y1.2.1 ≠ [] ∧ y2.2.1 ≠ [] ∧ 0 ≤ y1.2.2 ∧ y1.2.2 ≤ 100000 ∧ 0 ≤ y2.2.2 ∧ y2.2.2 ≤ 100000 ∧
  y1.1.length ≤ 10000 ∧ y1.2.1.length ≤ 400 ∧ y2.1.length ≤ 10000 ∧ y2.2.1.length ≤ 400 ∧ st ≤ 10000 ∧
  ∀ A a B b H', Cond y1.2.1 y2.2.1 y1.2.2 y2.2.2 (segN (at_ y1.1 y1.2.1 y1.2.2) st y1.2.1.length) (segN (at_ y2.1 y2.2.1 y2.2.2) st y2.2.1.length) A B a b → Same (NF.wo H x) H' → ChAt K C H' x st A a B b → Q .non H'
theorem sc_Chase___init__ : FnScope ["self", "first", "second", "start", "ahead", "other", "lanes", "climb", "climb_other", "lane", "value"] ["self", "first", "second", "start"] (defScope s_Chase_init) := ⟨rfl, rfl, rfl, by decide +kernel, rfl, by decide +kernel, by decide +kernel⟩
section
variable {P : Program} {w : World} {K : PySem.W.Frag} {mg : Str → Option Value} {base : Heap} {gs fs : List Str} {C CT : Addr}
theorem ok_Chase_init {f : Addr} {fd : FuncData} (F : FunD K "__init__" "Chase.__init__" (defArgs s_Chase_init) (defBody s_Chase_init) (defScope s_Chase_init) [] [] f fd) (T : Txt K mg gs FS) (h_gcd : mg "gcd" = some (.builtin "math.gcd")) (tc : TabC K CT) (hc : ChC K C) (c_values_from : Cal P w K mg base 2 "values_from" (spFrom K CT)) (o_ladder_from : MetC P w K mg base 2 C "ladder_from" (spLadFrom K C)) (o_runners_of : MetC P w K mg base 1 C "runners_of" (spRunners K C)) : FnOk P w K mg base CX0 3 f fd ["self", "first", "second", "start"] (spChase K CT C) := by
  refine F.ok sc_Chase___init__ (fun vs H Q E h => ?_) (fun cdv A outer s H vs Q E hr h => ?_)
  · obtain ⟨x, dx, x1, x2, y1, y2, st, rfl, _⟩ := h
    rfl
  · obtain ⟨x, dx, x1, x2, ⟨h1, l1, r1⟩, ⟨h2, l2, r2⟩, st, rfl, hx, tb1, tb2, n1, n2, r10, r11, r20, r21, b1, b2, b3, b4, st1, q⟩ := h
    dsimp only at n1 n2 r10 r11 r20 r21 b1 b2 b3 b4 q
    obtain ⟨dx1, ta1, la1, hx1, hta1, hla1⟩ := id tb1
    obtain ⟨dx2, ta2, la2, hx2, hta2, hla2⟩ := id tb2
    dsimp only at hx1 hta1 hla1 hx2 hta2 hla2
    have l10 := len_pos n1
    have l20 := len_pos n2
    refine ⟨_, PSs.nox (pss_cons (ps_set (i := 4) sc_Chase___init__.nd rfl (Or.inl rfl) (pe_c c_values_from hr (by decide) rfl (pa_cons (pv 1) (pa_cons (pe_op op_add (pv 3) pe_int) (pa_cons (pe_callB call_len_seq rfl (T.fr _ (by decide +kernel)) boot_len (pa_cons (pe_fld (pv 1) rfl) pa_nil)) pa_nil))))) (pss_cons (ps_set (i := 5) sc_Chase___init__.nd rfl (Or.inr rfl) (pe_c c_values_from hr (by decide) rfl (pa_cons (pv 2) (pa_cons (pe_op op_add (pv 3) pe_int) (pa_cons (pe_callB call_len_seq rfl (T.fr _ (by decide +kernel)) boot_len (pa_cons (pe_fld (pv 2) rfl) pa_nil)) pa_nil))))) (pss_cons (ps_asg (pe_tup (pa_cons (pe_fld (pv 1) rfl) (pa_cons (pe_fld (pv 2) rfl) pa_nil))) (pgt (K := K) (n := 2) rfl rfl (pgs_cons (pg_name (i := 7) sc_Chase___init__.nd rfl (Or.inr rfl)) (pgs_cons (pg_name (i := 8) sc_Chase___init__.nd rfl (Or.inr rfl)) pgs_nil)))) (pss_cons (ps_if (pt_cmpR op_lt (pe_callB call_len_seq rfl (T.fr _ (by decide +kernel)) boot_len (pa_cons (pv 4) pa_nil)) (pe_callB call_len_seq rfl (T.fr _ (by decide +kernel)) boot_len (pa_cons (pv 5) pa_nil)) (nomark _)) (pss_cons (ps_asg (pe_tup (pa_cons (pe_lc (own := [("value", 10)]) rfl sc_Chase___init__.nd (pi_list (pv 5)) (blkOk_by (N := ["self", "first", "second", "start", "ahead", "other", "lanes", "climb", "climb_other", "lane", "value"]) (sc := defScope s_Chase_init) (by decide +kernel)) (fun _ _ _ _ _ => by exact (pg_name (i := 10) sc_Chase___init__.nd rfl (Or.inl rfl))) (fun _ _ _ _ _ => by exact pts_nil) (fun _ _ _ _ _ => by exact (pe_un un_neg (pv 10)))) (pa_cons (pe_lc (own := [("value", 10)]) rfl sc_Chase___init__.nd (pi_list (pv 4)) (blkOk_by (N := ["self", "first", "second", "start", "ahead", "other", "lanes", "climb", "climb_other", "lane", "value"]) (sc := defScope s_Chase_init) (by decide +kernel)) (fun _ _ _ _ _ => by exact (pg_name (i := 10) sc_Chase___init__.nd rfl (Or.inl rfl))) (fun _ _ _ _ _ => by exact pts_nil) (fun _ _ _ _ _ => by exact (pe_un un_neg (pv 10)))) pa_nil))) (pgt (K := K) (n := 2) rfl rfl (pgs_cons (pg_name (i := 4) sc_Chase___init__.nd rfl (Or.inl rfl)) (pgs_cons (pg_name (i := 5) sc_Chase___init__.nd rfl (Or.inr rfl)) pgs_nil)))) (pss_one (ps_asg (pe_tup (pa_cons (pe_un un_neg (pe_fld (pv 2) rfl)) (pa_cons (pe_un un_neg (pe_fld (pv 1) rfl)) pa_nil))) (pgt (K := K) (n := 2) rfl rfl (pgs_cons (pg_name (i := 7) sc_Chase___init__.nd rfl (Or.inr rfl)) (pgs_cons (pg_name (i := 8) sc_Chase___init__.nd rfl (Or.inr rfl)) pgs_nil)))))) pss_nil) (pss_cons (ps_set (i := 6) sc_Chase___init__.nd rfl (Or.inl rfl) (pe_callBfun cr_gcd rfl h_gcd (pa_cons (pe_callB call_len_seq rfl (T.fr _ (by decide +kernel)) boot_len (pa_cons (pv 4) pa_nil)) (pa_cons (pe_callB call_len_seq rfl (T.fr _ (by decide +kernel)) boot_len (pa_cons (pv 5) pa_nil)) pa_nil)))) (pss_cons (ps_fld (pv 0) (pv 3) rfl) (pss_cons (ps_fld (pv 0) (pe_callB call_len_seq rfl (T.fr _ (by decide +kernel)) boot_len (pa_cons (pv 4) pa_nil)) rfl) (pss_cons (ps_fld (pv 0) (pe_op op_fdiv (pe_callB call_len_seq rfl (T.fr _ (by decide +kernel)) boot_len (pa_cons (pv 5) pa_nil)) (pv 6)) rfl) (pss_cons (ps_fld (pv 0) (pe_op op_fdiv (pe_op op_sub (pe_op op_mul (pv 7) (pe_callB call_len_seq rfl (T.fr _ (by decide +kernel)) boot_len (pa_cons (pv 5) pa_nil))) (pe_op op_mul (pv 8) (pe_callB call_len_seq rfl (T.fr _ (by decide +kernel)) boot_len (pa_cons (pv 4) pa_nil)))) (pv 6)) rfl) (pss_cons (ps_fld (pv 0) (pe_lc (own := [("lane", 9)]) rfl sc_Chase___init__.nd (pi_range1 rfl (T.fr _ (by decide +kernel)) (pa_cons (pv 6) pa_nil)) (blkOk_by (N := ["self", "first", "second", "start", "ahead", "other", "lanes", "climb", "climb_other", "lane", "value"]) (sc := defScope s_Chase_init) (by decide +kernel)) (fun _ _ _ _ _ => by exact (pg_name (i := 9) sc_Chase___init__.nd rfl (Or.inl rfl))) (fun _ _ _ _ _ => by exact pts_nil) (fun _ _ _ _ _ => by exact (pe_mt (pv 0) o_ladder_from hr (by decide) (pa_cons (pv 9) (pa_cons (pv 5) (pa_cons (pv 7) (pa_cons (pv 8) pa_nil))))))) rfl) (pss_one (ps_fld (pv 0) (pe_mt (pv 0) o_runners_of hr (by decide) (pa_cons (pv 4) (pa_cons (pv 7) (pa_cons (pe_callB call_len_seq rfl (T.fr _ (by decide +kernel)) boot_len (pa_cons (pv 5) pa_nil)) (pa_cons (pv 8) pa_nil))))) rfl)))))))))))), ?_⟩
    refine ⟨_, rfl, _, rfl, _, _, rfl, rfl, _, rfl, x1, CT, dx1, _, _, rfl, hx1, tc.cl, tc.lp, rfl, la1, _, rfl, Or.inr hla1, ?_⟩
    rw [vI_len]
    refine ⟨x1, _, st, l1.length, rfl, tb1, .inl n1, r10, by dsimp only; omega, b1, by dsimp only; omega, by omega, by omega, fun q1 H1 s1 hq1 => ?_⟩
    have hx21 := s1 _ _ hx2
    have hla21 := NF.Same.tup s1 hla2
    refine ⟨_, rfl, _, rfl, _, _, rfl, rfl, _, rfl, x2, CT, dx2, _, _, rfl, hx21, tc.cl, tc.lp, rfl, la2, _, rfl, Or.inr hla21, ?_⟩
    rw [vI_len]
    refine ⟨x2, _, st, l2.length, rfl, tb2.mono s1, .inl n2, r20, by dsimp only; omega, b3, by dsimp only; omega, by omega, by omega, fun q2 H2 s2 hq2 => ?_⟩
    have s12 := Same.trans s1 s2
    have hq1' := s2 _ _ hq1
    refine ⟨_, rfl, x1, CT, dx1, _, _, rfl, s12 _ _ hx1, tc.cl, tc.ri, rfl, _, rfl, x2, CT, dx2, _, _, rfl, s12 _ _ hx2, tc.cl, tc.ri, rfl, (by show 2 ≤ sizeLine; decide), fun p3 hp3 => ?_⟩
    have s3 := NF.Same.new (o := .tup [V.int r1, V.int r2]) (Same.refl H2) hp3
    refine ⟨p3, _, rfl, SqT.of upd_same, rfl, _, _, rfl, ?_⟩
    refine ⟨_, _, rfl, ?_⟩
    refine ⟨rfl, ?_⟩
    dsimp only at hq1' hq2
    have hq13 := s3 _ _ hq1'
    have hq23 := s3 _ _ hq2
    have s13 := Same.trans s12 s3
    generalize upd H2 p3 (.tup [V.int r1, V.int r2]) = H3 at s3 s13 hq13 hq23
    refine' both7 (fun A B a b qa qb G => Same H G ∧ G qa = some (.lst (vI A)) ∧ G qb = some (.lst (vI B)) ∧ Cond l1 l2 r1 r2 (segN (at_ h1 l1 r1) st l1.length) (segN (at_ h2 l2 r2) st l2.length) A B a b) (fun kk => ?A1) (fun A B a b qa qb G hP => ?B1)
    case A1 =>
      refine ⟨_, rfl, q1, _, rfl, Or.inl (SqL.of hq13), _, rfl, q2, _, rfl, Or.inl (SqL.of hq23), ?_⟩
      rw [vI_len, vI_len, segN_len, segN_len]
      refine ⟨_, _, rfl, rfl, _, rfl, ite2 (fun c => ?T1) (fun c => ?F1)⟩
      case F1 =>
        have le : l2.length ≤ l1.length := by
          have : ¬ ((l1.length : Int) < (l2.length : Int)) := fun z => c (decide_eq_true z)
          omega
        obtain ⟨A, hA⟩ : ∃ A, A = segN (at_ h1 l1 r1) st l1.length := ⟨_, rfl⟩
        obtain ⟨B, hB⟩ : ∃ B, B = segN (at_ h2 l2 r2) st l2.length := ⟨_, rfl⟩
        dsimp only [List.set, L2.start]
        generalize ea : r1 = a
        generalize eb : r2 = b
        generalize eqa : q1 = qa
        generalize eqb : q2 = qb
        generalize eG : H3 = G
        refine kk A B a b qa qb G ⟨?_, ?_, ?_, .inl ⟨le, hA, hB, ea.symm, eb.symm⟩⟩
        · rw [← eG]; exact s13
        · rw [← eG, ← eqa, hA]; exact hq13
        · rw [← eG, ← eqb, hB]; exact hq23
      case T1 =>
        have lt : l1.length < l2.length := by
          have := of_decide_eq_true c
          omega
        -- the rows with their signs turned
        refine ⟨_, rfl, q2, rfl, ⟨_, SqL.of hq23⟩, fun D1 hD1 => ?_⟩
        refine lc_list (xs := vI (segN (at_ h2 l2 r2) st l2.length)) (fun j G => Same H3 G ∧ G D1 = some (.lst (vI (((segN (at_ h2 l2 r2) st l2.length).take j).map (- ·))))) ⟨NF.Same.new (Same.refl H3) hD1, upd_same⟩ (fun i G _ z => SqL.of (z.1 _ _ hq23)) ?_ ?_
        · rintro j v G hv ⟨sG, hG⟩
          have hj := (List.getElem?_eq_some_iff.mp hv).1
          rw [vI_len] at hj
          obtain rfl : V.int ((segN (at_ h2 l2 r2) st l2.length)[j]) = v := by
            rw [List.getElem?_map, List.getElem?_eq_getElem hj] at hv
            exact Option.some.inj hv
          refine ⟨rfl, _, rfl, _, rfl, _, hG, ?_, NF.Same.mut sG hD1, ?_⟩
          · rw [vI_len, List.length_map, List.length_take, segN_len]
            exact Nat.lt_of_le_of_lt (show min j l2.length ≤ 400 by omega) (by decide)
          · rw [upd_same, List.take_add_one, List.getElem?_eq_getElem hj, List.map_append, ← vI_app]
            rfl
        · rintro G4 ⟨s4, h4⟩
          rw [vI_len, List.take_length] at h4
          have hq14 := s4 _ _ hq13
          refine ⟨_, rfl, q1, rfl, ⟨_, SqL.of hq14⟩, fun D2 hD2 => ?_⟩
          refine lc_list (xs := vI (segN (at_ h1 l1 r1) st l1.length)) (fun j G => Same G4 G ∧ G D2 = some (.lst (vI (((segN (at_ h1 l1 r1) st l1.length).take j).map (- ·))))) ⟨NF.Same.new (Same.refl G4) hD2, upd_same⟩ (fun i G _ z => SqL.of (z.1 _ _ hq14)) ?_ ?_
          · rintro j v G hv ⟨sG, hG⟩
            have hj := (List.getElem?_eq_some_iff.mp hv).1
            rw [vI_len] at hj
            obtain rfl : V.int ((segN (at_ h1 l1 r1) st l1.length)[j]) = v := by
              rw [List.getElem?_map, List.getElem?_eq_getElem hj] at hv
              exact Option.some.inj hv
            refine ⟨rfl, _, rfl, _, rfl, _, hG, ?_, NF.Same.mut sG hD2, ?_⟩
            · rw [vI_len, List.length_map, List.length_take, segN_len]
              exact Nat.lt_of_le_of_lt (show min j l1.length ≤ 400 by omega) (by decide)
            · rw [upd_same, List.take_add_one, List.getElem?_eq_getElem hj, List.map_append, ← vI_app]
              rfl
          · rintro G5 ⟨s5, h5⟩
            rw [vI_len, List.take_length] at h5
            refine ⟨(by show 2 ≤ sizeLine; decide), fun p5 hp5 => ?_⟩
            have s6 := NF.Same.new (o := .tup [V.ref D1, V.ref D2]) (Same.refl G5) hp5
            refine ⟨p5, _, rfl, SqT.of upd_same, rfl, _, _, rfl, ?_⟩
            refine ⟨_, _, rfl, ?_⟩
            refine ⟨rfl, ?_⟩
            have s36 : Same H3 (upd G5 p5 (.tup [V.ref D1, V.ref D2])) := Same.trans s4 (Same.trans s5 s6)
            have h46 := s6 _ _ (s5 _ _ h4)
            have h56 := s6 _ _ h5
            generalize upd G5 p5 (.tup [V.ref D1, V.ref D2]) = G6 at s6 s36 h46 h56
            have sH6 := Same.trans s13 s36
            refine ⟨_, rfl, x2, CT, dx2, _, _, rfl, sH6 _ _ hx2, tc.cl, tc.ri, rfl, _, rfl, _, rfl, x1, CT, dx1, _, _, rfl, sH6 _ _ hx1, tc.cl, tc.ri, rfl, _, rfl, (by show 2 ≤ sizeLine; decide), fun p7 hp7 => ?_⟩
            have s7 := NF.Same.new (o := .tup [V.int (-r2), V.int (-r1)]) (Same.refl G6) hp7
            refine ⟨p7, _, rfl, SqT.of upd_same, rfl, _, _, rfl, ?_⟩
            refine ⟨_, _, rfl, ?_⟩
            refine ⟨rfl, ?_⟩
            have h47 := s7 _ _ h46
            have h57 := s7 _ _ h56
            have sH7 := Same.trans sH6 s7
            generalize upd G6 p7 (.tup [V.int (-r2), V.int (-r1)]) = G7 at s7 h47 h57 sH7
            obtain ⟨A, hA⟩ : ∃ A, A = (segN (at_ h2 l2 r2) st l2.length).map (- ·) := ⟨_, rfl⟩
            obtain ⟨B, hB⟩ : ∃ B, B = (segN (at_ h1 l1 r1) st l1.length).map (- ·) := ⟨_, rfl⟩
            dsimp only [List.set, L2.start]
            generalize ea : -r2 = a
            generalize eb : -r1 = b
            refine kk A B a b D1 D2 G7 ⟨sH7, ?_, ?_, .inr ⟨lt, hA, hB, ea.symm, eb.symm⟩⟩
            · rw [hA]; exact h47
            · rw [hB]; exact h57
    case B1 =>
      obtain ⟨sG, hqa, hqb, hcond⟩ := hP
      have bnd : A.length ≤ 400 ∧ B.length ≤ 400 ∧ 0 < B.length ∧ 0 < A.length ∧ -100000 ≤ a ∧ a ≤ 100000 ∧ -100000 ≤ b ∧ b ≤ 100000 := by
        rcases hcond with ⟨_, rfl, rfl, rfl, rfl⟩ | ⟨_, rfl, rfl, rfl, rfl⟩
        · rw [segN_len, segN_len]
          omega
        · rw [List.length_map, List.length_map, segN_len, segN_len]
          omega
      obtain ⟨bA, bB, B0, A0, ba0, ba1, bb0, bb1⟩ := bnd
      have ln := ln_of A0 B0
      obtain ⟨g, hg⟩ : ∃ g, g = Nat.gcd A.length B.length := ⟨_, rfl⟩
      obtain ⟨W, hW⟩ : ∃ W, W = B.length / g := ⟨_, rfl⟩
      obtain ⟨V_, hV⟩ : ∃ V_, V_ = A.length / g := ⟨_, rfl⟩
      rw [← hg, ← hW, ← hV] at ln
      have g0 := ln.g0
      have w0 := ln.w0
      have gB : g ≤ B.length := by rw [ln.eM]; exact Nat.le_mul_of_pos_right _ w0
      have WB : W ≤ B.length := by rw [ln.eM]; exact Nat.le_mul_of_pos_left _ g0
      have nx0 : (NF.wo H x) x = none := wo_none
      refine ⟨_, rfl, qa, _, rfl, Or.inl (SqL.of hqa), _, rfl, qb, _, rfl, Or.inl (SqL.of hqb), ?_⟩
      rw [vI_len, vI_len]
      refine ⟨_, _, rfl, ?_⟩
      have eg : ((Nat.gcd ((A.length : Nat) : Int).natAbs ((B.length : Nat) : Int).natAbs : Nat) : Int) = (g : Int) := by rw [hg, Int.natAbs_natCast, Int.natAbs_natCast]
      show gName 6 (V.int ((Nat.gcd ((A.length : Nat) : Int).natAbs ((B.length : Nat) : Int).natAbs : Nat) : Int)) _ _ _
      rw [eg]
      have hxG := sG _ _ hx
      have w1 : Same (NF.wo H x) G := Same.trans wo_same' sG
      -- the four numbers
      refine ⟨_, rfl, _, rfl, x, C, dx, _, rfl, hxG, hc.cl, hc.st, (by show 0 < 1000; decide), ?_⟩
      have ha1 : SqL K (upd G x (.ins C dx [("start", .int (st : Int))])) qa (vI A) := SqL.putI (SqL.of hqa) hxG
      have hb1 : SqL K (upd G x (.ins C dx [("start", .int (st : Int))])) qb (vI B) := SqL.putI (SqL.of hqb) hxG
      have hx1' : (upd G x (.ins C dx [("start", .int (st : Int))])) x = some (.ins C dx [("start", .int (st : Int))]) := upd_same
      have w2 := NF.Same.mut (o := .ins C dx [("start", .int (st : Int))]) w1 nx0
      refine ⟨_, rfl, qa, _, rfl, Or.inl ha1, ?_⟩
      rw [vI_len]
      refine ⟨_, rfl, x, C, dx, _, rfl, hx1', hc.cl, hc.lp, (by show 1 < 1000; decide), ?_⟩
      have hb2 : SqL K (upd (upd G x (.ins C dx [("start", .int (st : Int))])) x (.ins C dx [("start", .int (st : Int)), ("lap", .int (A.length : Int))])) qb (vI B) := SqL.putI hb1 hx1'
      have ha2 : SqL K (upd (upd G x (.ins C dx [("start", .int (st : Int))])) x (.ins C dx [("start", .int (st : Int)), ("lap", .int (A.length : Int))])) qa (vI A) := SqL.putI ha1 hx1'
      have hx2' : (upd (upd G x (.ins C dx [("start", .int (st : Int))])) x (.ins C dx [("start", .int (st : Int)), ("lap", .int (A.length : Int))])) x = some (.ins C dx [("start", .int (st : Int)), ("lap", .int (A.length : Int))]) := upd_same
      have w3 := NF.Same.mut (o := .ins C dx [("start", .int (st : Int)), ("lap", .int (A.length : Int))]) w2 nx0
      refine ⟨_, rfl, qb, _, rfl, Or.inl hb2, ?_⟩
      rw [vI_len]
      refine ⟨_, rfl, _, _, rfl, rfl, ⟨by omega, by omega⟩, _, rfl, x, C, dx, _, rfl, hx2', hc.cl, hc.wi, (by show 2 < 1000; decide), ?_⟩
      have hb3 : SqL K (upd (upd (upd G x (.ins C dx [("start", .int (st : Int))])) x (.ins C dx [("start", .int (st : Int)), ("lap", .int (A.length : Int))])) x (.ins C dx [("start", .int (st : Int)), ("lap", .int (A.length : Int)), ("window", .int ((B.length : Int) / (g : Int)))])) qb (vI B) := SqL.putI hb2 hx2'
      have ha3 : SqL K (upd (upd (upd G x (.ins C dx [("start", .int (st : Int))])) x (.ins C dx [("start", .int (st : Int)), ("lap", .int (A.length : Int))])) x (.ins C dx [("start", .int (st : Int)), ("lap", .int (A.length : Int)), ("window", .int ((B.length : Int) / (g : Int)))])) qa (vI A) := SqL.putI ha2 hx2'
      have hx3 : (upd (upd (upd G x (.ins C dx [("start", .int (st : Int))])) x (.ins C dx [("start", .int (st : Int)), ("lap", .int (A.length : Int))])) x (.ins C dx [("start", .int (st : Int)), ("lap", .int (A.length : Int)), ("window", .int ((B.length : Int) / (g : Int)))])) x = some (.ins C dx [("start", .int (st : Int)), ("lap", .int (A.length : Int)), ("window", .int ((B.length : Int) / (g : Int)))]) := upd_same
      have w4 := NF.Same.mut (o := .ins C dx [("start", .int (st : Int)), ("lap", .int (A.length : Int)), ("window", .int ((B.length : Int) / (g : Int)))]) w3 nx0
      refine ⟨_, rfl, _, rfl, qb, _, rfl, Or.inl hb3, ?_⟩
      rw [vI_len]
      refine ⟨_, _, rfl, rfl, Or.inr ⟨by omega, by omega⟩, _, rfl, _, rfl, qa, _, rfl, Or.inl ha3, ?_⟩
      rw [vI_len]
      refine ⟨_, _, rfl, rfl, Or.inr ⟨by omega, by omega⟩, _, _, rfl, rfl, _, rfl, _, _, rfl, rfl, ⟨by omega, by omega⟩, _, rfl, x, C, dx, _, rfl, hx3, hc.cl, hc.dr, (by show 3 < 1000; decide), ?_⟩
      have hb4 : SqL K (upd (upd (upd (upd G x (.ins C dx [("start", .int (st : Int))])) x (.ins C dx [("start", .int (st : Int)), ("lap", .int (A.length : Int))])) x (.ins C dx [("start", .int (st : Int)), ("lap", .int (A.length : Int)), ("window", .int ((B.length : Int) / (g : Int)))])) x (.ins C dx [("start", .int (st : Int)), ("lap", .int (A.length : Int)), ("window", .int ((B.length : Int) / (g : Int))), ("drift", .int ((a * (B.length : Int) - b * (A.length : Int)) / (g : Int)))])) qb (vI B) := SqL.putI hb3 hx3
      have ha4 : SqL K (upd (upd (upd (upd G x (.ins C dx [("start", .int (st : Int))])) x (.ins C dx [("start", .int (st : Int)), ("lap", .int (A.length : Int))])) x (.ins C dx [("start", .int (st : Int)), ("lap", .int (A.length : Int)), ("window", .int ((B.length : Int) / (g : Int)))])) x (.ins C dx [("start", .int (st : Int)), ("lap", .int (A.length : Int)), ("window", .int ((B.length : Int) / (g : Int))), ("drift", .int ((a * (B.length : Int) - b * (A.length : Int)) / (g : Int)))])) qa (vI A) := SqL.putI ha3 hx3
      have hx4 : (upd (upd (upd (upd G x (.ins C dx [("start", .int (st : Int))])) x (.ins C dx [("start", .int (st : Int)), ("lap", .int (A.length : Int))])) x (.ins C dx [("start", .int (st : Int)), ("lap", .int (A.length : Int)), ("window", .int ((B.length : Int) / (g : Int)))])) x (.ins C dx [("start", .int (st : Int)), ("lap", .int (A.length : Int)), ("window", .int ((B.length : Int) / (g : Int))), ("drift", .int ((a * (B.length : Int) - b * (A.length : Int)) / (g : Int)))])) x = some (.ins C dx [("start", .int (st : Int)), ("lap", .int (A.length : Int)), ("window", .int ((B.length : Int) / (g : Int))), ("drift", .int ((a * (B.length : Int) - b * (A.length : Int)) / (g : Int)))]) := upd_same
      have w5 := NF.Same.mut (o := .ins C dx [("start", .int (st : Int)), ("lap", .int (A.length : Int)), ("window", .int ((B.length : Int) / (g : Int))), ("drift", .int ((a * (B.length : Int) - b * (A.length : Int)) / (g : Int)))]) w4 nx0
      rw [show putF ("start" : Str) (V.int (st : Int)) [] = ([("start", .int (st : Int))] : List (Str × V)) from rfl, show putF ("lap" : Str) (V.int (A.length : Int)) ([("start", .int (st : Int))] : List (Str × V)) = ([("start", .int (st : Int)), ("lap", .int (A.length : Int))] : List (Str × V)) from rfl, show putF ("window" : Str) (V.int ((B.length : Int) / (g : Int))) ([("start", .int (st : Int)), ("lap", .int (A.length : Int))] : List (Str × V)) = ([("start", .int (st : Int)), ("lap", .int (A.length : Int)), ("window", .int ((B.length : Int) / (g : Int)))] : List (Str × V)) from rfl, show putF ("drift" : Str) (V.int ((a * (B.length : Int) - b * (A.length : Int)) / (g : Int))) ([("start", .int (st : Int)), ("lap", .int (A.length : Int)), ("window", .int ((B.length : Int) / (g : Int)))] : List (Str × V)) = ([("start", .int (st : Int)), ("lap", .int (A.length : Int)), ("window", .int ((B.length : Int) / (g : Int))), ("drift", .int ((a * (B.length : Int) - b * (A.length : Int)) / (g : Int)))] : List (Str × V)) from rfl]
      generalize hG4 : (upd (upd (upd (upd G x (.ins C dx [("start", .int (st : Int))])) x (.ins C dx [("start", .int (st : Int)), ("lap", .int (A.length : Int))])) x (.ins C dx [("start", .int (st : Int)), ("lap", .int (A.length : Int)), ("window", .int ((B.length : Int) / (g : Int)))])) x (.ins C dx [("start", .int (st : Int)), ("lap", .int (A.length : Int)), ("window", .int ((B.length : Int) / (g : Int))), ("drift", .int ((a * (B.length : Int) - b * (A.length : Int)) / (g : Int)))])) = G4 at hb4 ha4 hx4 w5
      have eW : (B.length : Int) / (g : Int) = (W : Int) := by rw [hW]; rfl
      have hD0 := fun (D : Addr) (hD : G4 D = none) => (L2.Same.free w5 hD : (NF.wo H x) D = none)
      refine ⟨_, rfl, (g : Int), rfl, by omega, by omega, fun D hD => ?_⟩
      refine lc_range (lo := 0) (n := g) (fun j G' => Same G4 G' ∧ ∃ acc : List V, G' D = some (.lst acc) ∧ acc.length = j ∧ ∀ lane v, acc[lane]? = some v → ∃ p L w, v = .ref p ∧ p ≠ D ∧ LadAt K G' p L ∧ Lad (rowR B b A.length a lane) (2 * W) w L ∧ w ≤ W ∧ W < 2 * w) ⟨NF.Same.new (Same.refl G4) hD, [], upd_same, rfl, fun lane v hv => by simp at hv⟩ ?_ ?_
      · rintro j G' hj ⟨sG', acc, hacc, hal, hok⟩
        rw [Int.zero_add]
        refine ⟨rfl, _, rfl, x, dx, _, rfl, sG' _ _ hx4, rfl, _, rfl, _, rfl, _, rfl, _, rfl, ?_⟩
        refine ⟨x, dx, qb, _, j, A.length, W, B, a, b, rfl, sG' _ _ hx4, rfl, (congrArg (fun z => some (V.int z)) eW), L2.Same.seq sG' hb4, (fun z => by rw [z] at B0; simp at B0), w0, by omega, by omega, by omega, by omega, by omega, by omega, by omega, by omega, fun p L wd H' hL w1' w2' s' np la => ?_⟩
        have hacc' := s' _ _ hacc
        have npD : p ≠ D := fun z => by
          rw [z] at np
          rw [np] at hacc
          cases hacc
        have href : ∀ v ∈ acc, ∃ q, v = .ref q := fun v hv => by
          obtain ⟨i, hi, e⟩ := List.getElem_of_mem hv
          obtain ⟨p', _, _, e', _⟩ := hok i v (by rw [List.getElem?_eq_getElem hi, e])
          exact ⟨p', e'⟩
        refine ⟨acc, hacc', ?_, NF.Same.mut (Same.trans sG' s') hD, acc ++ [.ref p], upd_same, by rw [List.length_append, hal]; rfl, fun lane v hv => ?_⟩
        · rw [hal]
          exact Nat.lt_of_le_of_lt (show j ≤ 400 by omega) (by decide)
        · rcases Nat.lt_or_ge lane acc.length with c | c
          · rw [List.getElem?_append_left c] at hv
            obtain ⟨p', L', w', e', n', la', r'⟩ := hok lane v hv
            exact ⟨p', L', w', e', n', (la'.mono s').put hacc' (fun vs h => SqL.upd_ne h n') trivial r'.1.rows href, r'⟩
          · rw [List.getElem?_append_right c] at hv
            have e0 : lane = acc.length := by
              have := (List.getElem?_eq_some_iff.mp hv).1
              simp at this
              omega
            subst e0
            simp at hv
            subst hv
            rw [hal]
            exact ⟨p, L, wd, rfl, npD, la.put hacc' (fun vs h => SqL.upd_ne h npD) trivial hL.rows href, hL, w1', w2'⟩
      · rintro G5 ⟨s5, acc, hacc, hal, hok⟩
        have hx5 := s5 _ _ hx4
        have nDx : D ≠ x := fun z => by rw [z, hx4] at hD; cases hD
        refine ⟨_, rfl, x, C, dx, _, rfl, hx5, hc.cl, hc.ls, (by show 4 < 1000; decide), ?_⟩
        have hx6 : (upd G5 x (.ins C dx [("start", .int (st : Int)), ("lap", .int (A.length : Int)), ("window", .int ((B.length : Int) / (g : Int))), ("drift", .int ((a * (B.length : Int) - b * (A.length : Int)) / (g : Int))), ("ladders", .ref D)])) x = some (.ins C dx [("start", .int (st : Int)), ("lap", .int (A.length : Int)), ("window", .int ((B.length : Int) / (g : Int))), ("drift", .int ((a * (B.length : Int) - b * (A.length : Int)) / (g : Int))), ("ladders", .ref D)]) := upd_same
        have hD6 : (upd G5 x (.ins C dx [("start", .int (st : Int)), ("lap", .int (A.length : Int)), ("window", .int ((B.length : Int) / (g : Int))), ("drift", .int ((a * (B.length : Int) - b * (A.length : Int)) / (g : Int))), ("ladders", .ref D)])) D = some (.lst acc) := (upd_ne nDx).trans hacc
        have hb6 : SqL K (upd G5 x (.ins C dx [("start", .int (st : Int)), ("lap", .int (A.length : Int)), ("window", .int ((B.length : Int) / (g : Int))), ("drift", .int ((a * (B.length : Int) - b * (A.length : Int)) / (g : Int))), ("ladders", .ref D)])) qb (vI B) := SqL.putI (L2.Same.seq s5 hb4) hx5
        have ha6 : SqL K (upd G5 x (.ins C dx [("start", .int (st : Int)), ("lap", .int (A.length : Int)), ("window", .int ((B.length : Int) / (g : Int))), ("drift", .int ((a * (B.length : Int) - b * (A.length : Int)) / (g : Int))), ("ladders", .ref D)])) qa (vI A) := SqL.putI (L2.Same.seq s5 ha4) hx5
        have hok6 : ∀ lane v, acc[lane]? = some v → ∃ p L w, v = .ref p ∧ LadAt K (upd G5 x (.ins C dx [("start", .int (st : Int)), ("lap", .int (A.length : Int)), ("window", .int ((B.length : Int) / (g : Int))), ("drift", .int ((a * (B.length : Int) - b * (A.length : Int)) / (g : Int))), ("ladders", .ref D)])) p L ∧ Lad (rowR B b A.length a lane) (2 * W) w L ∧ w ≤ W ∧ W < 2 * w := fun lane v hv => by
          obtain ⟨p', L', w', e', _, la', r'⟩ := hok lane v hv
          exact ⟨p', L', w', e', la'.putI hx5, r'⟩
        have w6 := NF.Same.mut (o := .ins C dx [("start", .int (st : Int)), ("lap", .int (A.length : Int)), ("window", .int ((B.length : Int) / (g : Int))), ("drift", .int ((a * (B.length : Int) - b * (A.length : Int)) / (g : Int))), ("ladders", .ref D)]) (Same.trans w5 s5) nx0
        refine ⟨_, rfl, x, dx, _, rfl, hx6, rfl, _, rfl, _, rfl, _, rfl, qb, _, rfl, Or.inl hb6, ?_⟩
        rw [vI_len]
        refine ⟨_, rfl, ?_⟩
        refine ⟨x, dx, qa, D, _, acc, A.length, B.length, g, W, V_, A, a, b, rfl, hx6, rfl, (congrArg (fun z => some (V.int z)) eW), rfl, SqL.of hD6, hal, ha6, rfl, ln, by omega, by omega, by omega, by omega, by omega, by omega, fun p6 S R H7 okS hR s7 hrun => ?_⟩
        have hx7 := s7 _ _ hx6
        refine ⟨_, rfl, x, C, dx, _, rfl, hx7, hc.cl, hc.ru, (by show 5 < 1000; decide), ?_⟩
        have nd : a * (W : Int) - b * (V_ : Int) = ((a * (B.length : Int) - b * (A.length : Int)) / (g : Int)) := (drift_is ln).symm
        refine q A a B b _ hcond (NF.Same.mut (Same.trans w6 s7) nx0) ⟨dx, D, p6, acc, g, W, V_, S, ?_, ln, SqL.putI (SqL.of (s7 _ _ hD6)) hx7, hal, fun lane v hv => ?_, okS, ?_⟩
        · rw [nd, ← eW]
          exact upd_same
        · obtain ⟨p', L', w', e', la', r'⟩ := hok6 lane v hv
          exact ⟨p', L', w', e', (la'.mono s7).putI hx7, r'⟩
        · rw [← hR]
          exact hrun.putI hx7
end
end K05
set_option linter.all false
set_option maxHeartbeats 4000000
/-! The last lead: of a row that repeats with a drift upwards, the last step under a limit. -/
namespace NT
section
variable {f : Nat → Int} {W : Nat} {dr lim v : Int} {i : Nat}
theorem last_ex (lo : IsLo f i W v) (h : v < lim) : ∃ t, Last f lim i (i + W) (i + t) ∧ t < W := by
  obtain ⟨j, j1, j2, j3⟩ := lo.at_
  obtain ⟨m, ⟨m1, m2⟩, _, m4⟩ := least_of (p := fun m => m < W ∧ f (i + (W - 1 - m)) < lim) (W - 1 - (j - i)) ⟨by omega, by
    rw [show i + (W - 1 - (W - 1 - (j - i))) = j by omega, j3]
    exact h⟩
  refine ⟨W - 1 - m, ⟨by omega, by omega, m2, fun k k1 k2 => ?_⟩, by omega⟩
  refine Int.le_of_not_gt fun z => ?_
  have := m4 (W - 1 - (k - i)) ⟨by omega, by
    rw [show i + (W - 1 - (W - 1 - (k - i))) = k by omega]
    exact z⟩
  omega
theorem last_later (hw : 0 < W) (hp : ∀ s, f (s + W) = f s - dr) (lo : IsLo f i W v) (hv : v < lim) (hd : dr < 0) {t n : Nat} (hn : (n : Int) = (lim - v - 1) / -dr) (F : Last f (lim + (n : Int) * dr) i (i + W) (i + t)) :
    f (i + (t + W * n)) < lim ∧ ∀ s', t + W * n < s' → lim ≤ f (i + s') := by
  refine ⟨?_, fun s' hs => ?_⟩
  · rw [← Nat.add_assoc, per_drift hp]
    have := F.at_
    rw [Int.mul_comm (n : Int) dr] at this
    omega
  · obtain ⟨o, u, rfl, ho⟩ := lapOf hw s'
    rw [← Nat.add_assoc, per_drift hp]
    have h1 := lo.le (i + o) (by omega) (by omega)
    by_cases hu : n < u
    · have h2 : -dr * ((n : Int) + 1) ≤ -dr * (u : Int) := Int.mul_le_mul_of_nonneg_left (by omega) (by omega)
      have h3 : lim - v - 1 < -dr * ((lim - v - 1) / -dr) + -dr := Int.lt_mul_ediv_self_add (by omega)
      rw [← hn] at h3
      rw [Int.mul_add, Int.mul_one] at h2
      rw [Int.neg_mul, Int.neg_mul] at h2
      rw [Int.neg_mul] at h3
      omega
    · have hu2 : u = n := by
        refine Nat.le_antisymm (by omega) (Nat.le_of_not_lt fun z => ?_)
        have : W * (u + 1) ≤ W * n := Nat.mul_le_mul_left _ z
        rw [Nat.mul_succ] at this
        have := F.ge
        omega
      subst hu2
      have := F.no (i + o) (by omega) (by omega)
      rw [Int.mul_comm (u : Int) dr] at this
      omega
/-- no step is under the limit -/
theorem last_never (hw : 0 < W) (hp : ∀ s, f (s + W) = f s - dr) (lo : IsLo f i W v) (hv : lim ≤ v) (hd : dr ≤ 0) (s' : Nat) : lim ≤ f (i + s') := lead_never hw hp lo hv hd s'
end
/-- the greatest number with P, or none -/
def GreatP (P : Nat → Prop) : Option Nat → Prop
  | some s => P s ∧ ∀ s', s < s' → ¬ P s'
  | none => ∀ s, ¬ P s
theorem great_runner {P : Nat → Prop} {L : Nat} (hL : 0 < L) {st : Nat → Option Nat} (h : ∀ at_, at_ < L → GreatP (fun s => P (at_ + L * s)) (st at_)) :
    (∀ r, (∃ at_ s, at_ < L ∧ st at_ = some s ∧ r = at_ + L * s) → (∀ at_ s, at_ < L → st at_ = some s → at_ + L * s ≤ r) → GreatP P (some r)) ∧ ((∀ at_, at_ < L → st at_ = none) → GreatP P none) := by
  refine ⟨fun r ⟨at_, s, h1, h2, h3⟩ hmax => ⟨?_, fun k hk hP => ?_⟩, fun hn k hP => ?_⟩
  · have := h at_ h1
    rw [h2] at this
    rw [h3]
    exact this.1
  · obtain ⟨o, u, rfl, ho⟩ := lapOf hL k
    have := h o ho
    cases e : st o with
    | none =>
      rw [e] at this
      exact this u hP
    | some s2 =>
      rw [e] at this
      have h4 := hmax o s2 ho e
      have h5 : s2 < u := Nat.lt_of_mul_lt_mul_left (a := L) (by omega)
      exact this.2 u h5 hP
  · obtain ⟨o, u, rfl, ho⟩ := lapOf hL k
    have := h o ho
    rw [hn o ho] at this
    exact this u hP
end NT
set_option linter.all false
set_option maxHeartbeats 4000000
/-! The least and the greatest place with a lead, gathered from the runners' own. Plain Lean. -/
namespace NT
theorem first_all {P : Nat → Prop} {L st : Nat} (hL : 0 < L) {ps : List Int} (h1 : ∀ y ∈ ps, ∃ o s, o < L ∧ P (o + L * s) ∧ y = ((st + 1 + (o + L * s) : Nat) : Int)) (h2 : ∀ o, o < L → (∀ s, ¬ P (o + L * s)) ∨ ∃ s, (∀ s', s' < s → ¬ P (o + L * s')) ∧ ((st + 1 + (o + L * s) : Nat) : Int) ∈ ps) :
    (ps = [] → LeastP P none) ∧ ∀ m ∈ ps, (∀ y ∈ ps, m ≤ y) → ∃ s, LeastP P (some s) ∧ m = ((st + 1 + s : Nat) : Int) := by
  refine ⟨fun e k hP => ?_, fun m hm hmin => ?_⟩
  · obtain ⟨o, u, rfl, ho⟩ := lapOf hL k
    rcases h2 o ho with h | ⟨s, _, h⟩
    · exact h u hP
    · rw [e] at h
      cases h
  · obtain ⟨o, s, ho, hP, rfl⟩ := h1 m hm
    refine ⟨_, ⟨hP, fun k hk hk2 => ?_⟩, rfl⟩
    obtain ⟨o2, u, rfl, ho2⟩ := lapOf hL k
    rcases h2 o2 ho2 with h | ⟨s2, h3, h4⟩
    · exact h u hk2
    · have h5 := hmin _ h4
      refine h3 u (Nat.lt_of_mul_lt_mul_left (a := L) ?_) hk2
      omega
theorem last_all {P : Nat → Prop} {L st : Nat} (hL : 0 < L) {ps : List Int} (h1 : ∀ y ∈ ps, ∃ o s, o < L ∧ P (o + L * s) ∧ y = ((st + 1 + (o + L * s) : Nat) : Int)) (h2 : ∀ o, o < L → (∀ s, ¬ P (o + L * s)) ∨ ∃ s, (∀ s', s < s' → ¬ P (o + L * s')) ∧ ((st + 1 + (o + L * s) : Nat) : Int) ∈ ps) :
    (ps = [] → GreatP P none) ∧ ∀ m ∈ ps, (∀ y ∈ ps, y ≤ m) → ∃ s, GreatP P (some s) ∧ m = ((st + 1 + s : Nat) : Int) := by
  refine ⟨fun e k hP => ?_, fun m hm hmin => ?_⟩
  · obtain ⟨o, u, rfl, ho⟩ := lapOf hL k
    rcases h2 o ho with h | ⟨s, _, h⟩
    · exact h u hP
    · rw [e] at h
      cases h
  · obtain ⟨o, s, ho, hP, rfl⟩ := h1 m hm
    refine ⟨_, ⟨hP, fun k hk hk2 => ?_⟩, rfl⟩
    obtain ⟨o2, u, rfl, ho2⟩ := lapOf hL k
    rcases h2 o2 ho2 with h | ⟨s2, h3, h4⟩
    · exact h u hk2
    · have h5 := hmin _ h4
      refine h3 u (Nat.lt_of_mul_lt_mul_left (a := L) ?_) hk2
      omega
/-- what the runners so far have: their own best steps -/
structure Got (R : Nat → Nat → Prop) (P : Nat → Prop) (L st j : Nat) (ps : List Int) : Prop where
  len : ps.length ≤ j
  some : ∀ y ∈ ps, ∃ o s, o < j ∧ P (o + L * s) ∧ y = ((st + 1 + (o + L * s) : Nat) : Int)
  all : ∀ o, o < j → (∀ s, ¬ P (o + L * s)) ∨ ∃ s, (∀ s', R s' s → ¬ P (o + L * s')) ∧ ((st + 1 + (o + L * s) : Nat) : Int) ∈ ps
section
variable {R : Nat → Nat → Prop} {P : Nat → Prop} {L st j : Nat} {ps : List Int}
theorem Got.nil : Got R P L st 0 [] := ⟨Nat.le_refl _, (fun y hy => nomatch hy), fun o ho => absurd ho (Nat.not_lt_zero _)⟩
theorem Got.skip (h : Got R P L st j ps) (n : ∀ s, ¬ P (j + L * s)) : Got R P L st (j + 1) ps := by
  refine ⟨by have := h.len; omega, fun y hy => ?_, fun o ho => ?_⟩
  · obtain ⟨o, s, h1, h2⟩ := h.some y hy
    exact ⟨o, s, by omega, h2⟩
  · by_cases c : o < j
    · exact h.all o c
    · rw [show o = j by omega]
      exact .inl n
theorem Got.add (h : Got R P L st j ps) {s : Nat} {y : Int} (hP : P (j + L * s)) (n : ∀ s', R s' s → ¬ P (j + L * s')) (e : y = ((st + 1 + (j + L * s) : Nat) : Int)) : Got R P L st (j + 1) (ps ++ [y]) := by
  subst e
  refine ⟨by rw [List.length_append]; exact Nat.succ_le_succ h.len, fun y hy => ?_, fun o ho => ?_⟩
  · rcases List.mem_append.mp hy with hy | hy
    · obtain ⟨o, s, h1, h2⟩ := h.some y hy
      exact ⟨o, s, by omega, h2⟩
    · rw [List.mem_singleton.mp hy]
      exact ⟨j, s, by omega, hP, rfl⟩
  · by_cases c : o < j
    · rcases h.all o c with h | ⟨s2, h1, h2⟩
      · exact .inl h
      · exact .inr ⟨s2, h1, List.mem_append.mpr (.inl h2)⟩
    · rw [show o = j by omega]
      exact .inr ⟨s, n, List.mem_append.mpr (.inr (List.mem_singleton.mpr rfl))⟩
end
end NT
set_option Elab.async false
set_option linter.all false
set_option maxRecDepth 100000
set_option maxHeartbeats 4000000
/-! min(xs, default=None), max(xs, default=None) of a list of ints. -/
namespace NF
open PySem PySem.Spec PySem.W PyProof.Rows L2 He RZ
theorem reads_ints {h : Heap} : ∀ {ns : List Int} {its : List Value}, Vals (ns.map V.int) its → ReadsAll h its (ns.map PyData.int) []
  | [], _, .nil => .nil
  | n :: ns, _, .cons ⟨t, e⟩ r => by
    subst e
    exact ReadsAll.cons (as := []) (bs := []) (.int n t) (reads_ints r)
theorem alike_ints (ns : List Int) : AlikeAll (ns.map PyData.int) := by
  refine ⟨fun x hx y hy => ?_, fun x hx => ?_⟩
  · obtain ⟨a, _, rfl⟩ := List.mem_map.mp hx
    obtain ⟨b, _, rfl⟩ := List.mem_map.mp hy
    rfl
  · obtain ⟨a, _, rfl⟩ := List.mem_map.mp hx
    exact fun z => by cases z
theorem int_at {ns : List Int} {its : List Value} (r : Vals (ns.map V.int) its) {i : Nat} {v : Value} (h : its[i]? = some v) : ∃ k t, ns[i]? = some k ∧ v = .int k t := by
  induction i generalizing ns its with
  | zero =>
    cases ns with
    | nil => cases r; simp at h
    | cons n ns =>
      cases r with
      | cons e r =>
        obtain ⟨t, rfl⟩ := e
        exact ⟨n, t, rfl, (Option.some.inj h).symm⟩
  | succ i ih =>
    cases ns with
    | nil => cases r; simp at h
    | cons n ns =>
      cases r with
      | cons e r => exact ih r h
theorem fold_min : ∀ (ns : List Int) (n : Int), ns.foldl min n ∈ n :: ns ∧ ∀ y ∈ n :: ns, ns.foldl min n ≤ y
  | [], n => ⟨List.mem_cons_self .., fun y hy => by rw [List.mem_singleton.mp hy]; exact Int.le_refl _⟩
  | k :: ns, n => by
    obtain ⟨h1, h2⟩ := fold_min ns (min n k)
    have hm : (k :: ns).foldl min n = ns.foldl min (min n k) := rfl
    rw [hm]
    refine ⟨?_, fun y hy => ?_⟩
    · rcases List.mem_cons.mp h1 with e | e
      · rw [e]
        rcases Int.le_total n k with c | c
        · rw [Int.min_eq_left c]
          exact List.mem_cons_self ..
        · rw [Int.min_eq_right c]
          exact List.mem_cons_of_mem _ (List.mem_cons_self ..)
      · exact List.mem_cons_of_mem _ (List.mem_cons_of_mem _ e)
    · have h0 := h2 (min n k) (List.mem_cons_self ..)
      rcases List.mem_cons.mp hy with rfl | hy
      · exact Int.le_trans h0 (Int.min_le_left _ _)
      · rcases List.mem_cons.mp hy with rfl | hy
        · exact Int.le_trans h0 (Int.min_le_right _ _)
        · exact h2 y (List.mem_cons_of_mem _ hy)
theorem fold_max : ∀ (ns : List Int) (n : Int), ns.foldl max n ∈ n :: ns ∧ ∀ y ∈ n :: ns, y ≤ ns.foldl max n
  | [], n => ⟨List.mem_cons_self .., fun y hy => by rw [List.mem_singleton.mp hy]; exact Int.le_refl _⟩
  | k :: ns, n => by
    obtain ⟨h1, h2⟩ := fold_max ns (max n k)
    have hm : (k :: ns).foldl max n = ns.foldl max (max n k) := rfl
    rw [hm]
    refine ⟨?_, fun y hy => ?_⟩
    · rcases List.mem_cons.mp h1 with e | e
      · rw [e]
        rcases Int.le_total n k with c | c
        · rw [Int.max_eq_right c]
          exact List.mem_cons_of_mem _ (List.mem_cons_self ..)
        · rw [Int.max_eq_left c]
          exact List.mem_cons_self ..
      · exact List.mem_cons_of_mem _ (List.mem_cons_of_mem _ e)
    · have h0 := h2 (max n k) (List.mem_cons_self ..)
      rcases List.mem_cons.mp hy with rfl | hy
      · exact Int.le_trans (Int.le_max_left _ _) h0
      · rcases List.mem_cons.mp hy with rfl | hy
        · exact Int.le_trans (Int.le_max_right _ _) h0
        · exact h2 y (List.mem_cons_of_mem _ hy)
def rMinD (K : PySem.W.Frag) : List V → List V → Hp → VK → Prop := fun vs zs H Q => ∃ (a : Addr) (ns : List Int), vs = [V.ref a] ∧ zs = [.non] ∧ SqL K H a (ns.map V.int) ∧ (ns = [] → Q .non H) ∧ ∀ m, m ∈ ns → (∀ y, y ∈ ns → m ≤ y) → Q (.int m) H
def rMaxD (K : PySem.W.Frag) : List V → List V → Hp → VK → Prop := fun vs zs H Q => ∃ (a : Addr) (ns : List Int), vs = [V.ref a] ∧ zs = [.non] ∧ SqL K H a (ns.map V.int) ∧ (ns = [] → Q .non H) ∧ ∀ m, m ∈ ns → (∀ y, y ∈ ns → y ≤ m) → Q (.int m) H
section
variable {X : Cx}
theorem cr_minD (hc : X.calm = true) (hu : X.A.units + 64 < cLine) : CallRK X (.builtin "min") [Str.ofString "default"] (rMinD X.K) := by
  intro pins s σ H vs zs us ws Q I r rz h
  obtain ⟨a, ns, rfl, rfl, hs, q0, q⟩ := h
  obtain rfl := Vals.ref1 r
  obtain ⟨w1, rfl, e1⟩ := vals1 rz
  obtain rfl : w1 = Value.none := e1
  obtain ⟨its, rv, hl, _⟩ := I.list hs
  refine min_list_default (xs := ns.map PyData.int) (as := []) (I.ok.hd hc) hl.isList (reads_ints rv) (alike_ints ns) ?_ (fun e h' tk hk => ?_) fun y ys i v h' tk bs e hv hr hk => ?_
  · rw [depth_ints]
    omega
  · exact ⟨.non, H, I.kept hk, rfl, q0 (List.map_eq_nil_iff.mp e)⟩
  · cases ns with
    | nil => cases e
    | cons n ns =>
      injection e with e1 e2
      subst e1 e2
      rw [minD_ints] at hr
      obtain ⟨k, t, _, rfl⟩ := int_at rv (by simpa using hv)
      have ek : k = ns.foldl min n := by cases hr; rfl
      subst ek
      obtain ⟨m1, m2⟩ := fold_min ns n
      exact ⟨.int _, H, I.kept hk, ⟨_, rfl⟩, q _ m1 fun y hy => m2 y hy⟩
theorem cr_maxD (hc : X.calm = true) (hu : X.A.units + 64 < cLine) : CallRK X (.builtin "max") [Str.ofString "default"] (rMaxD X.K) := by
  intro pins s σ H vs zs us ws Q I r rz h
  obtain ⟨a, ns, rfl, rfl, hs, q0, q⟩ := h
  obtain rfl := Vals.ref1 r
  obtain ⟨w1, rfl, e1⟩ := vals1 rz
  obtain rfl : w1 = Value.none := e1
  obtain ⟨its, rv, hl, _⟩ := I.list hs
  refine max_list_default (xs := ns.map PyData.int) (as := []) (I.ok.hd hc) hl.isList (reads_ints rv) (alike_ints ns) ?_ (fun e h' tk hk => ?_) fun y ys i v h' tk bs e hv hr hk => ?_
  · rw [depth_ints]
    omega
  · exact ⟨.non, H, I.kept hk, rfl, q0 (List.map_eq_nil_iff.mp e)⟩
  · cases ns with
    | nil => cases e
    | cons n ns =>
      injection e with e1 e2
      subst e1 e2
      rw [maxD_ints] at hr
      obtain ⟨k, t, _, rfl⟩ := int_at rv (by simpa using hv)
      have ek : k = ns.foldl max n := by cases hr; rfl
      subst ek
      obtain ⟨m1, m2⟩ := fold_max ns n
      exact ⟨.int _, H, I.kept hk, ⟨_, rfl⟩, q _ m1 fun y hy => m2 y hy⟩
end
end NF
set_option Elab.async false
set_option linter.all false
set_option maxRecDepth 100000
set_option maxHeartbeats 4000000
namespace NT
theorem rnr_lead {A B : List Int} {a b : Int} {g W V : Nat} {S : List Int} (h : Ln A.length B.length g W V) {i : Nat} (hi : i < A.length) (ok : OkAt A.length B.length g W (i % B.length) (S.getD (i % B.length) 0)) :
    (rnr A a b A.length B.length g S i).1 < g ∧ (rnr A a b A.length B.length g S i).2.1 < W ∧ ∀ s, leadD A a B b (i + A.length * s) = (rnr A a b A.length B.length g S i).2.2 - rowR B b A.length a (rnr A a b A.length B.length g S i).1 ((rnr A a b A.length B.length g S i).2.1 + s) := by
  obtain ⟨s0, e, hs, hr⟩ := ok
  have dv : g ∣ B.length := ⟨W, h.eM⟩
  rw [Nat.mod_mod_of_dvd _ dv] at hr
  unfold rnr
  dsimp only
  rw [e, Int.toNat_natCast]
  refine ⟨Nat.mod_lt _ h.g0, hs, fun s => ?_⟩
  have t := turns_of h.m0 hr
  have ek : ((i % g + A.length * s0 : Nat) : Int) = ((i % g : Nat) : Int) + (A.length : Int) * (s0 : Int) := by rw [Int.natCast_add, Int.natCast_mul]
  rw [lead_at h hi t, ek]
end NT
namespace K05
open PySem PySem.Spec PyProof.Rows L2 He NF RZ NT
def spFirst (K : PySem.W.Frag) (C : Addr) : Sp := fun vs H Q _ => ∃ (x : Addr) (st : Nat) (A B : List Int) (a b k : Int), vs = [.ref x, .int k] ∧ ChAt K C H x st A a B b ∧ A.length ≤ 400 ∧ B.length ≤ 400 ∧ -100000 ≤ a ∧ a ≤ 100000 ∧ -100000 ≤ b ∧ b ≤ 100000 ∧
  ∀ o H', LeastP (fun s => k < leadD A a B b s) o → Same H H' → Q (vN (o.map fun s => st + 1 + s)) H'
theorem sc_Chase_first_lead : FnScope ["self", "k", "places", "at", "ladder", "limit", "least", "lane", "step", "reach", "turns", "found"] ["self", "k"] (defScope s_Chase_first_lead) := ⟨rfl, rfl, rfl, by decide +kernel, rfl, by decide +kernel, by decide +kernel⟩
section
variable {P : Program} {w : World} {K : PySem.W.Frag} {mg : Str → Option Value} {base : Heap} {gs fs : List Str} {C : Addr}
theorem ok_Chase_first_lead {f : Addr} {fd : FuncData} (F : FunD K "first_lead" "Chase.first_lead" (defArgs s_Chase_first_lead) (defBody s_Chase_first_lead) (defScope s_Chase_first_lead) [] [] f fd) (T : Txt K mg gs FS) (hc : ChC K C) (o_place_of : MetC P w K mg base 1 C "place_of" (spPlaceOf K C)) (c_least_in : Cal P w K mg base 1 "least_in" (spLeast K)) (c_first_under : Cal P w K mg base 1 "first_under" (spFirstU K)) : FnOk P w K mg base CX0 2 f fd ["self", "k"] (spFirst K C) := by
  refine F.ok sc_Chase_first_lead (fun vs H Q E h => ?_) (fun cdv A outer s H vs Q E hr h => ?_)
  · obtain ⟨x, st, A, B, a, b, k, rfl, _⟩ := h
    rfl
  · obtain ⟨x, st, A', B, a, b, k, rfl, ch, bA, bB, ba0, ba1, bb0, bb1, q⟩ := h
    obtain ⟨dx, lp, rp, lvs, g, W, V_, S, hx, ln, hlp, hlen, hlad, okS, vs, hrp, hR⟩ := ch
    have hu := hr.units
    refine ⟨_, PSs.nox (pss_cons (ps_set (i := 2) sc_Chase_first_lead.nd rfl (Or.inl rfl) (pe_lst pa_nil)) (pss_cons (ps_for PassesOwn.never rfl (pi_enum rfl (T.fr _ (by decide +kernel)) (pa_cons (pe_fld (pv 0) rfl) pa_nil)) (pgt (K := K) (n := 2) rfl rfl (pgs_cons (pg_name (i := 3) sc_Chase_first_lead.nd rfl (Or.inl rfl)) (pgs_cons (pgt (K := K) (n := 3) rfl rfl (pgs_cons (pg_name (i := 7) sc_Chase_first_lead.nd rfl (Or.inl rfl)) (pgs_cons (pg_name (i := 8) sc_Chase_first_lead.nd rfl (Or.inl rfl)) (pgs_cons (pg_name (i := 9) sc_Chase_first_lead.nd rfl (Or.inl rfl)) pgs_nil)))) pgs_nil))) (pss_cons (ps_set (i := 4) sc_Chase_first_lead.nd rfl (Or.inl rfl) (pe_ix (ixl (K := K)) (pe_fld (pv 0) rfl) (pv 7) fun _ _ => rfl)) (pss_cons (ps_set (i := 5) sc_Chase_first_lead.nd rfl (Or.inl rfl) (pe_op op_sub (pv 9) (pv 1))) (pss_cons (ps_set (i := 6) sc_Chase_first_lead.nd rfl (Or.inl rfl) (pe_c c_least_in hr (by decide) rfl (pa_cons (pv 4) (pa_cons (pv 8) (pa_cons (pe_fld (pv 0) rfl) pa_nil))))) (pss_one (ps_if (pt_cmpR op_lt (pv 6) (pv 5) (nomark _)) (pss_one (ps_expr (pe_bm PySem.F.plainAttrs_list PySem.F.slot_list_append PySem.F.type_list_append mt_append (pv 2) (pa_cons (pe_mt (pv 0) o_place_of hr (by decide) (pa_cons (pv 3) (pa_cons (pe_op op_sub (pe_c c_first_under hr (by decide) rfl (pa_cons (pv 4) (pa_cons (pv 8) (pa_cons (pv 5) pa_nil)))) (pv 8)) pa_nil))) pa_nil)))) (pss_one (ps_if (pt_cmpR op_gt (pe_fld (pv 0) rfl) pe_int (nomark _)) (pss_cons (ps_set (i := 10) sc_Chase_first_lead.nd rfl (Or.inl rfl) (pe_op op_add (pe_op op_fdiv (pe_op op_sub (pv 6) (pv 5)) (pe_fld (pv 0) rfl)) pe_int)) (pss_cons (ps_set (i := 11) sc_Chase_first_lead.nd rfl (Or.inl rfl) (pe_c c_first_under hr (by decide) rfl (pa_cons (pv 4) (pa_cons (pv 8) (pa_cons (pe_op op_add (pv 5) (pe_op op_mul (pv 10) (pe_fld (pv 0) rfl))) pa_nil))))) (pss_one (ps_expr (pe_bm PySem.F.plainAttrs_list PySem.F.slot_list_append PySem.F.type_list_append mt_append (pv 2) (pa_cons (pe_mt (pv 0) o_place_of hr (by decide) (pa_cons (pv 3) (pa_cons (pe_op op_add (pe_op op_sub (pv 11) (pv 8)) (pe_op op_mul (pv 10) (pe_fld (pv 0) rfl))) pa_nil))) pa_nil)))))) pss_nil)))))))) (pss_one (ps_ret (pe_callBK (cr_minD rfl hu) rfl (T.fr _ (by decide +kernel)) (by decide +kernel) (pa_cons (pv 2) pa_nil) (pk_cons pe_non pk_nil)))))), ?_⟩
    refine ⟨(by show 0 ≤ sizeLine; decide), fun D hD => ?_⟩
    have s1 := NF.Same.new (o := .lst []) (Same.refl H) hD
    have g0 := ln.g0
    have m0 := ln.m0
    have w0 := ln.w0
    have l0 := ln.l0
    refine ⟨_, rfl, x, C, dx, _, _, rfl, s1 _ _ hx, hc.cl, hc.ru, rfl, rp, _, rfl, L2.Same.seq s1 hrp, ?_⟩
    obtain ⟨P, hP⟩ : ∃ P : Nat → Prop, P = fun s => k < leadD A' a B b s := ⟨_, rfl⟩
    rw [← hP] at q
    refine for_it (walk_enum (xs := vs)) (fun i σ G => Same H G ∧ ∃ ps : List Int, G D = some (.lst (vI ps)) ∧ Got (fun s' s => s' < s) P A'.length st i ps ∧ ∃ v3 v4 v5 v6 v7 v8 v9 v10 v11, σ = [some (.ref x), some (.int k), some (.ref D), v3, v4, v5, v6, v7, v8, v9, v10, v11])
      ⟨s1, [], upd_same, Got.nil, none, none, none, none, none, none, none, none, none, rfl⟩ (fun i σ G _ z => L2.Same.seq z.1 hrp) ?_ ?_
    · rintro i y σ G G' hi ⟨sG, ps, hG, got, v3, v4, v5, v6, v7, v8, v9, v10, v11, rfl⟩ ⟨U, x1, y1, rfl, hU, rfl, hx1, hy1⟩
      obtain rfl : V.int ((i : Nat) : Int) = x1 := Option.some.inj hx1
      obtain ⟨r, hr1, t, rfl, ht⟩ := hR.get hy1
      have hiL : i < A'.length := by
        have := hR.len
        rw [List.length_map, List.length_range] at this
        omega
      rw [List.getElem?_map, List.getElem?_range hiL] at hr1
      obtain rfl : rnr A' a b A'.length B.length g S i = r := Option.some.inj hr1
      obtain ⟨rg, rW, hlead⟩ := rnr_lead (a := a) (b := b) ln hiL (okS _ (Nat.mod_lt i m0))
      generalize rnr A' a b A'.length B.length g S i = r at rg rW hlead ht
      obtain ⟨lane, step, reach⟩ := r
      dsimp only at rg rW hlead ht
      have elv : lvs[lane]? = some lvs[lane] := List.getElem?_eq_getElem (by omega)
      obtain ⟨p, L, wd, epv, la, lad, wd1, wd2⟩ := hlad lane _ elv
      rw [epv] at elv
      have s2 := NF.Same.new (o := .tup [V.int ((i : Nat) : Int), V.ref t]) sG hU
      have hx2 := s2 _ _ hx
      refine ⟨U, _, rfl, SqT.of upd_same, rfl, _, _, rfl, ?_⟩
      refine ⟨_, _, rfl, ?_⟩
      refine ⟨t, _, rfl, NF.Same.tup s2 ht, rfl, _, _, rfl, ?_⟩
      refine ⟨_, _, rfl, ?_⟩
      refine ⟨_, _, rfl, ?_⟩
      refine ⟨rfl, ?_⟩
      refine ⟨rfl, ?_⟩
      refine ⟨_, rfl, x, C, dx, _, _, rfl, hx2, hc.cl, hc.ls, rfl, _, rfl, lp, _, _, _, rfl, rfl, L2.Same.seq s2 hlp, atI_nat elv, ?_⟩
      refine ⟨_, rfl, _, rfl, _, _, rfl, rfl, ?_⟩
      obtain ⟨m, L', rfl, m1, m2, lo⟩ := lad.least (i := step) wd1 wd2 (by omega)
      refine ⟨_, rfl, _, rfl, _, rfl, x, C, dx, _, _, rfl, hx2, hc.cl, hc.wi, rfl, ?_⟩
      refine ⟨p, wd, m, L', step, W, rfl, la.mono s2, m1, wd1, m2, ?_⟩
      generalize mn (m.getD step 0) (m.getD (step + (W - wd)) 0) = v at lo
      have hp := rowR_per (a := a) (b := b) ln lane
      have eP : ∀ s, P (i + A'.length * s) ↔ rowR B b A'.length a lane (step + s) < reach - k := fun s => by
        rw [hP]
        show k < leadD A' a B b (i + A'.length * s) ↔ _
        rw [hlead s]
        omega
      generalize hf : rowR B b A'.length a lane = f at lo lad hp eP
      generalize hdr : a * (W : Int) - b * (V_ : Int) = dr at hp hx hx2
      have hGU : (upd G U (.tup [V.int ((i : Nat) : Int), V.ref t])) D = some (.lst (vI ps)) := (upd_ne (ne_of_none hG hU)).trans hG
      generalize upd G U (.tup [V.int ((i : Nat) : Int), V.ref t]) = G2 at s2 hx2 hGU
      have pl := got.len
      have dr0 : -100000000 ≤ dr ∧ dr ≤ 100000000 := by
        have WB : W ≤ 400 := by
          have : W ≤ B.length := by rw [ln.eM]; exact Nat.le_mul_of_pos_left _ g0
          omega
        have VB : V_ ≤ 400 := by
          have : V_ ≤ A'.length := by rw [ln.eL]; exact Nat.le_mul_of_pos_left _ g0
          omega
        have c1 : -100000 * (W : Int) ≤ a * (W : Int) ∧ a * (W : Int) ≤ 100000 * (W : Int) := ⟨Int.mul_le_mul_of_nonneg_right ba0 (by omega), Int.mul_le_mul_of_nonneg_right ba1 (by omega)⟩
        have c2 : -100000 * (V_ : Int) ≤ b * (V_ : Int) ∧ b * (V_ : Int) ≤ 100000 * (V_ : Int) := ⟨Int.mul_le_mul_of_nonneg_right bb0 (by omega), Int.mul_le_mul_of_nonneg_right bb1 (by omega)⟩
        omega
      refine ⟨_, rfl, _, rfl, _, _, rfl, rfl, _, rfl, ite2 (fun c1 => ?T) (fun c1 => ?F)⟩
      case T =>
        have c : v < reach - k := of_decide_eq_true c1
        obtain ⟨t2, F2, t3⟩ := first_ex lo c
        have eu := under_ok lad F2 (by omega) (by omega)
        obtain ⟨s3, rfl⟩ : ∃ s3, t2 = step + s3 := ⟨t2 - step, by have := F2.le; omega⟩
        obtain ⟨d1, d2⟩ := lead_now F2
        refine ⟨_, rfl, .inl ⟨rfl, _, SqL.of hGU⟩, _, rfl, x, dx, _, rfl, hx2, rfl, _, rfl, _, rfl, _, rfl, _, rfl, ?_⟩
        refine ⟨p, _, step, reach - k, rfl, la.mono s2, ?_⟩
        rw [eu]
        refine ⟨_, rfl, _, _, rfl, rfl, ?_⟩
        refine ⟨x, dx, _, (st : Int), (i : Int), _, (A'.length : Int), rfl, hx2, rfl, rfl, by omega, by omega, ?_⟩
        have ey : (st : Int) + 1 + (i : Int) + (((step + s3 : Nat) : Int) - (step : Int)) * (A'.length : Int) = ((st + 1 + (i + A'.length * s3) : Nat) : Int) := by
          rw [show ((step + s3 : Nat) : Int) - (step : Int) = (s3 : Int) by omega, Int.mul_comm]
          simp only [Int.natCast_add, Int.natCast_mul]
          omega
        refine ⟨D, _, _, rfl, rfl, hGU, ?_, ?_⟩
        · rw [vI_len]
          exact Nat.lt_of_le_of_lt (show ps.length ≤ 400 by omega) (by decide)
        · refine ⟨NF.Same.mut s2 hD, ps ++ [((st : Int) + 1 + (i : Int) + (((step + s3 : Nat) : Int) - (step : Int)) * (A'.length : Int))], ?_, got.add ((eP s3).mpr d1) (fun s' h z => ?_) ey, _, _, _, _, _, _, _, _, _, rfl⟩
          · rw [upd_same, ← vI_app]
            rfl
          · have := d2 s' h
            have := (eP s').mp z
            omega
      case F =>
        have c : ¬ v < reach - k := fun z => c1 (decide_eq_true z)
        refine ⟨_, rfl, x, C, dx, _, _, rfl, hx2, hc.cl, hc.dr, rfl, _, _, rfl, rfl, _, rfl, ite2 (fun c2 => ?T2) (fun c2 => ?F2)⟩
        case F2 =>
          have d : ¬ 0 < dr := fun z => c2 (decide_eq_true z)
          refine ⟨s2, ps, hGU, got.skip fun s' z => ?_, _, _, _, _, _, _, _, _, _, rfl⟩
          have := lead_never w0 hp lo (show reach - k ≤ v by omega) (show dr ≤ 0 by omega) s'
          have := (eP s').mp z
          omega
        case T2 =>
          have d : 0 < dr := of_decide_eq_true c2
          have q0 : 0 ≤ (v - (reach - k)) / dr := Int.ediv_nonneg (by omega) (by omega)
          obtain ⟨n, hn⟩ : ∃ n : Nat, (n : Int) = (v - (reach - k)) / dr + 1 := ⟨((v - (reach - k)) / dr + 1).toNat, by omega⟩
          have nd : v < reach - k + (n : Int) * dr := by
            have h3 : v - (reach - k) < dr * ((v - (reach - k)) / dr) + dr := Int.lt_mul_ediv_self_add d
            rw [hn, Int.add_mul, Int.one_mul, Int.mul_comm _ dr]
            omega
          obtain ⟨t2, F2, t3⟩ := first_ex lo nd
          have eu := under_ok lad F2 (by omega) (by omega)
          obtain ⟨s3, rfl⟩ : ∃ s3, t2 = step + s3 := ⟨t2 - step, by have := F2.le; omega⟩
          obtain ⟨d1, d2⟩ := lead_later w0 hp lo (show reach - k ≤ v by omega) d hn F2 (by omega)
          refine ⟨_, rfl, _, rfl, _, _, rfl, rfl, _, rfl, x, C, dx, _, _, rfl, hx2, hc.cl, hc.dr, rfl, _, _, rfl, rfl, ⟨d, by omega⟩, _, _, rfl, rfl, ?_⟩
          show gName 10 (V.int ((v - (reach - k)) / dr + 1)) _ _ _
          rw [← hn]
          refine ⟨_, rfl, _, rfl, _, rfl, _, rfl, _, rfl, x, C, dx, _, _, rfl, hx2, hc.cl, hc.dr, rfl, _, _, rfl, rfl, Or.inr ⟨by omega, by omega⟩, _, _, rfl, rfl, ?_⟩
          refine ⟨p, _, step, _, rfl, la.mono s2, ?_⟩
          rw [eu]
          have WB : W ≤ 400 := by
            have : W ≤ B.length := by rw [ln.eM]; exact Nat.le_mul_of_pos_left _ g0
            omega
          refine ⟨_, rfl, .inl ⟨rfl, _, SqL.of hGU⟩, _, rfl, x, dx, _, rfl, hx2, rfl, _, rfl, _, rfl, _, rfl, _, _, rfl, rfl, _, rfl, _, rfl, x, C, dx, _, _, rfl, hx2, hc.cl, hc.wi, rfl, _, _, rfl, rfl, Or.inr ⟨by omega, by omega⟩, _, _, rfl, rfl, ?_⟩
          refine ⟨x, dx, _, (st : Int), (i : Int), _, (A'.length : Int), rfl, hx2, rfl, rfl, by omega, by omega, ?_⟩
          have ey : (st : Int) + 1 + (i : Int) + (((step + s3 : Nat) : Int) - (step : Int) + (n : Int) * (W : Int)) * (A'.length : Int) = ((st + 1 + (i + A'.length * (s3 + W * n)) : Nat) : Int) := by
            rw [show ((step + s3 : Nat) : Int) - (step : Int) = (s3 : Int) by omega, Int.mul_comm _ (A'.length : Int), Int.mul_comm (n : Int)]
            simp only [Int.natCast_add, Int.natCast_mul]
            omega
          refine ⟨D, _, _, rfl, rfl, hGU, ?_, ?_⟩
          · rw [vI_len]
            exact Nat.lt_of_le_of_lt (show ps.length ≤ 400 by omega) (by decide)
          · refine ⟨NF.Same.mut s2 hD, ps ++ [((st : Int) + 1 + (i : Int) + (((step + s3 : Nat) : Int) - (step : Int) + (n : Int) * (W : Int)) * (A'.length : Int))], ?_, got.add ((eP (s3 + W * n)).mpr d1) (fun s' h z => ?_) ey, _, _, _, _, _, _, _, _, _, rfl⟩
            · rw [upd_same, ← vI_app]
              rfl
            · have := d2 s' h
              have := (eP s').mp z
              omega
    · rintro σ G ⟨sG, ps, hG, got, v3, v4, v5, v6, v7, v8, v9, v10, v11, rfl⟩
      have eL : vs.length = A'.length := by
        have := hR.len
        rw [List.length_map, List.length_range] at this
        exact this
      rw [eL] at got
      obtain ⟨e1, e2⟩ := first_all l0 got.some got.all
      refine ⟨_, rfl, D, ps, rfl, rfl, SqL.of hG, fun e => q none G (e1 e) sG, fun m hm hmin => ?_⟩
      obtain ⟨s3, f1, rfl⟩ := e2 m hm hmin
      exact q (some s3) G f1 sG
end
end K05
set_option Elab.async false
set_option linter.all false
set_option maxRecDepth 100000
set_option maxHeartbeats 4000000
namespace NT
theorem Lad.all {f : Nat → Int} {n w : Nat} {L : List (Nat × List Int)} (h : Lad f n w L) : ∀ r ∈ L, r.2.length + r.1 = n + 1 ∧ 0 < r.1 := by
  have one : ∀ {w : Nat} {m : List Int}, Rung f n w m → m.length + w = n + 1 ∧ 0 < w := fun {w m} h => ⟨by have := h.len; have := h.wn; omega, h.w0⟩
  induction h with
  | one h =>
    intro r hr
    rw [List.mem_singleton.mp hr]
    exact one h
  | two h _ ih =>
    intro r hr
    rcases List.mem_cons.mp hr with rfl | hr
    · exact one h
    · exact ih r hr
end NT
namespace K05
open PySem PySem.Spec PyProof.Rows L2 He NF RZ NT
def spLastL (K : PySem.W.Frag) (C : Addr) : Sp := fun vs H Q _ => ∃ (x : Addr) (st : Nat) (A B : List Int) (a b : Int), vs = [.ref x] ∧ ChAt K C H x st A a B b ∧ A.length ≤ 400 ∧ B.length ≤ 400 ∧ -100000 ≤ a ∧ a ≤ 100000 ∧ -100000 ≤ b ∧ b ≤ 100000 ∧ a * (B.length : Int) - b * (A.length : Int) < 0 ∧
  ∀ o H', GreatP (fun s => 0 < leadD A a B b s) o → Same H H' → Q (vN (o.map fun s => st + 1 + s)) H'
theorem sc_Chase_last_lead : FnScope ["self", "places", "at", "ladder", "least", "lane", "step", "reach", "turns", "found"] ["self"] (defScope s_Chase_last_lead) := ⟨rfl, rfl, rfl, by decide +kernel, rfl, by decide +kernel, by decide +kernel⟩
section
variable {P : Program} {w : World} {K : PySem.W.Frag} {mg : Str → Option Value} {base : Heap} {gs fs : List Str} {C : Addr}
theorem ok_Chase_last_lead {f : Addr} {fd : FuncData} (F : FunD K "last_lead" "Chase.last_lead" (defArgs s_Chase_last_lead) (defBody s_Chase_last_lead) (defScope s_Chase_last_lead) [] [] f fd) (T : Txt K mg gs FS) (hc : ChC K C) (o_place_of : MetC P w K mg base 1 C "place_of" (spPlaceOf K C)) (c_least_in : Cal P w K mg base 1 "least_in" (spLeast K)) (c_last_under : Cal P w K mg base 1 "last_under" (spLastU K)) : FnOk P w K mg base CX0 2 f fd ["self"] (spLastL K C) := by
  refine F.ok sc_Chase_last_lead (fun vs H Q E h => ?_) (fun cdv A outer s H vs Q E hr h => ?_)
  · obtain ⟨x, st, A, B, a, b, rfl, _⟩ := h
    rfl
  · obtain ⟨x, st, A', B, a, b, rfl, ch, bA, bB, ba0, ba1, bb0, bb1, dneg, q⟩ := h
    obtain ⟨dx, lp, rp, lvs, g, W, V_, S, hx, ln, hlp, hlen, hlad, okS, vs, hrp, hR⟩ := ch
    have hu := hr.units
    refine ⟨_, PSs.nox (pss_cons (ps_set (i := 1) sc_Chase_last_lead.nd rfl (Or.inl rfl) (pe_lst pa_nil)) (pss_cons (ps_for PassesOwn.never rfl (pi_enum rfl (T.fr _ (by decide +kernel)) (pa_cons (pe_fld (pv 0) rfl) pa_nil)) (pgt (K := K) (n := 2) rfl rfl (pgs_cons (pg_name (i := 2) sc_Chase_last_lead.nd rfl (Or.inl rfl)) (pgs_cons (pgt (K := K) (n := 3) rfl rfl (pgs_cons (pg_name (i := 5) sc_Chase_last_lead.nd rfl (Or.inl rfl)) (pgs_cons (pg_name (i := 6) sc_Chase_last_lead.nd rfl (Or.inl rfl)) (pgs_cons (pg_name (i := 7) sc_Chase_last_lead.nd rfl (Or.inl rfl)) pgs_nil)))) pgs_nil))) (pss_cons (ps_set (i := 3) sc_Chase_last_lead.nd rfl (Or.inl rfl) (pe_ix (ixl (K := K)) (pe_fld (pv 0) rfl) (pv 5) fun _ _ => rfl)) (pss_cons (ps_set (i := 4) sc_Chase_last_lead.nd rfl (Or.inl rfl) (pe_c c_least_in hr (by decide) rfl (pa_cons (pv 3) (pa_cons (pv 6) (pa_cons (pe_fld (pv 0) rfl) pa_nil))))) (pss_one (ps_if (pt_cmpR op_lt (pv 4) (pv 7) (nomark _)) (pss_cons (ps_set (i := 8) sc_Chase_last_lead.nd rfl (Or.inl rfl) (pe_op op_fdiv (pe_op op_sub (pe_op op_sub (pv 7) (pv 4)) pe_int) (pe_un un_neg (pe_fld (pv 0) rfl)))) (pss_cons (ps_set (i := 9) sc_Chase_last_lead.nd rfl (Or.inl rfl) (pe_c c_last_under hr (by decide) rfl (pa_cons (pv 3) (pa_cons (pv 6) (pa_cons (pe_fld (pv 0) rfl) (pa_cons (pe_op op_add (pv 7) (pe_op op_mul (pv 8) (pe_fld (pv 0) rfl))) pa_nil)))))) (pss_one (ps_expr (pe_bm PySem.F.plainAttrs_list PySem.F.slot_list_append PySem.F.type_list_append mt_append (pv 1) (pa_cons (pe_mt (pv 0) o_place_of hr (by decide) (pa_cons (pv 2) (pa_cons (pe_op op_add (pe_op op_sub (pv 9) (pv 6)) (pe_op op_mul (pv 8) (pe_fld (pv 0) rfl))) pa_nil))) pa_nil)))))) pss_nil))))) (pss_one (ps_ret (pe_callBK (cr_maxD rfl hu) rfl (T.fr _ (by decide +kernel)) (by decide +kernel) (pa_cons (pv 1) pa_nil) (pk_cons pe_non pk_nil)))))), ?_⟩
    refine ⟨(by show 0 ≤ sizeLine; decide), fun D hD => ?_⟩
    have s1 := NF.Same.new (o := .lst []) (Same.refl H) hD
    have g0 := ln.g0
    have m0 := ln.m0
    have w0 := ln.w0
    have l0 := ln.l0
    refine ⟨_, rfl, x, C, dx, _, _, rfl, s1 _ _ hx, hc.cl, hc.ru, rfl, rp, _, rfl, L2.Same.seq s1 hrp, ?_⟩
    obtain ⟨P, hP⟩ : ∃ P : Nat → Prop, P = fun s => 0 < leadD A' a B b s := ⟨_, rfl⟩
    rw [← hP] at q
    refine for_it (walk_enum (xs := vs)) (fun i σ G => Same H G ∧ ∃ ps : List Int, G D = some (.lst (vI ps)) ∧ Got (fun s' s => s < s') P A'.length st i ps ∧ ∃ v3 v4 v5 v6 v7 v8 v9 v10, σ = [some (.ref x), some (.ref D), v3, v4, v5, v6, v7, v8, v9, v10])
      ⟨s1, [], upd_same, Got.nil, none, none, none, none, none, none, none, none, rfl⟩ (fun i σ G _ z => L2.Same.seq z.1 hrp) ?_ ?_
    · rintro i y σ G G' hi ⟨sG, ps, hG, got, v3, v4, v5, v6, v7, v8, v9, v10, rfl⟩ ⟨U, x1, y1, rfl, hU, rfl, hx1, hy1⟩
      obtain rfl : V.int ((i : Nat) : Int) = x1 := Option.some.inj hx1
      obtain ⟨r, hr1, t, rfl, ht⟩ := hR.get hy1
      have hiL : i < A'.length := by
        have := hR.len
        rw [List.length_map, List.length_range] at this
        omega
      rw [List.getElem?_map, List.getElem?_range hiL] at hr1
      obtain rfl : rnr A' a b A'.length B.length g S i = r := Option.some.inj hr1
      obtain ⟨rg, rW, hlead⟩ := rnr_lead (a := a) (b := b) ln hiL (okS _ (Nat.mod_lt i m0))
      generalize rnr A' a b A'.length B.length g S i = r at rg rW hlead ht
      obtain ⟨lane, step, reach⟩ := r
      dsimp only at rg rW hlead ht
      have elv : lvs[lane]? = some lvs[lane] := List.getElem?_eq_getElem (by omega)
      obtain ⟨p, L, wd, epv, la, lad, wd1, wd2⟩ := hlad lane _ elv
      rw [epv] at elv
      have s2 := NF.Same.new (o := .tup [V.int ((i : Nat) : Int), V.ref t]) sG hU
      have hx2 := s2 _ _ hx
      refine ⟨U, _, rfl, SqT.of upd_same, rfl, _, _, rfl, ?_⟩
      refine ⟨_, _, rfl, ?_⟩
      refine ⟨t, _, rfl, NF.Same.tup s2 ht, rfl, _, _, rfl, ?_⟩
      refine ⟨_, _, rfl, ?_⟩
      refine ⟨_, _, rfl, ?_⟩
      refine ⟨rfl, ?_⟩
      refine ⟨rfl, ?_⟩
      refine ⟨_, rfl, x, C, dx, _, _, rfl, hx2, hc.cl, hc.ls, rfl, _, rfl, lp, _, _, _, rfl, rfl, L2.Same.seq s2 hlp, atI_nat elv, ?_⟩
      obtain ⟨m, L', rfl, m1, m2, lo⟩ := lad.least (i := step) wd1 wd2 (by omega)
      refine ⟨_, rfl, _, rfl, _, rfl, x, C, dx, _, _, rfl, hx2, hc.cl, hc.wi, rfl, ?_⟩
      refine ⟨p, wd, m, L', step, W, rfl, la.mono s2, m1, wd1, m2, ?_⟩
      generalize mn (m.getD step 0) (m.getD (step + (W - wd)) 0) = v at lo
      have hp := rowR_per (a := a) (b := b) ln lane
      have eP : ∀ s, P (i + A'.length * s) ↔ rowR B b A'.length a lane (step + s) < reach := fun s => by
        rw [hP]
        show 0 < leadD A' a B b (i + A'.length * s) ↔ _
        rw [hlead s]
        omega
      generalize hf : rowR B b A'.length a lane = f at lo lad hp eP
      generalize hdr : a * (W : Int) - b * (V_ : Int) = dr at hp hx hx2
      have hGU : (upd G U (.tup [V.int ((i : Nat) : Int), V.ref t])) D = some (.lst (vI ps)) := (upd_ne (ne_of_none hG hU)).trans hG
      generalize upd G U (.tup [V.int ((i : Nat) : Int), V.ref t]) = G2 at s2 hx2 hGU
      have pl := got.len
      have dr0 : -100000000 ≤ dr ∧ dr ≤ 100000000 := by
        have WB : W ≤ 400 := by
          have : W ≤ B.length := by rw [ln.eM]; exact Nat.le_mul_of_pos_left _ g0
          omega
        have VB : V_ ≤ 400 := by
          have : V_ ≤ A'.length := by rw [ln.eL]; exact Nat.le_mul_of_pos_left _ g0
          omega
        have c1 : -100000 * (W : Int) ≤ a * (W : Int) ∧ a * (W : Int) ≤ 100000 * (W : Int) := ⟨Int.mul_le_mul_of_nonneg_right ba0 (by omega), Int.mul_le_mul_of_nonneg_right ba1 (by omega)⟩
        have c2 : -100000 * (V_ : Int) ≤ b * (V_ : Int) ∧ b * (V_ : Int) ≤ 100000 * (V_ : Int) := ⟨Int.mul_le_mul_of_nonneg_right bb0 (by omega), Int.mul_le_mul_of_nonneg_right bb1 (by omega)⟩
        omega
      have d : dr < 0 := by
        rw [← hdr]
        have e : a * (B.length : Int) - b * (A'.length : Int) = (g : Int) * (a * (W : Int) - b * (V_ : Int)) := by
          have e1 : (B.length : Int) = (g : Int) * (W : Int) := by rw [← Int.natCast_mul, ← ln.eM]
          have e2 : (A'.length : Int) = (g : Int) * (V_ : Int) := by rw [← Int.natCast_mul, ← ln.eL]
          rw [e1, e2, Int.mul_sub, Int.mul_left_comm, Int.mul_left_comm b]
        refine Int.lt_of_not_ge fun z => ?_
        have := Int.mul_nonneg (show 0 ≤ (g : Int) by omega) (show 0 ≤ a * (W : Int) - b * (V_ : Int) by omega)
        omega
      refine ⟨_, rfl, _, rfl, _, _, rfl, rfl, _, rfl, ite2 (fun c1 => ?T) (fun c1 => ?F)⟩
      case F =>
        have c : ¬ v < reach := fun z => c1 (decide_eq_true z)
        refine ⟨s2, ps, hGU, got.skip fun s' z => ?_, _, _, _, _, _, _, _, _, rfl⟩
        have := last_never w0 hp lo (show reach ≤ v by omega) (show dr ≤ 0 by omega) s'
        have := (eP s').mp z
        omega
      case T =>
        have c : v < reach := of_decide_eq_true c1
        have q0 : 0 ≤ (reach - v - 1) / -dr := Int.ediv_nonneg (by omega) (by omega)
        obtain ⟨n, hn⟩ : ∃ n : Nat, (n : Int) = (reach - v - 1) / -dr := ⟨((reach - v - 1) / -dr).toNat, by omega⟩
        have nd : v < reach + (n : Int) * dr := by
          have h3 : -dr * ((reach - v - 1) / -dr) ≤ reach - v - 1 := Int.mul_ediv_self_le (by omega)
          rw [← hn, Int.neg_mul, Int.mul_comm] at h3
          omega
        obtain ⟨t2, F2, t3⟩ := last_ex lo nd
        have eu := underB_ok lad F2 (by omega) (by omega)
        obtain ⟨d1, d2⟩ := last_later w0 hp lo c d hn F2
        refine ⟨_, rfl, _, rfl, _, _, rfl, rfl, _, _, rfl, rfl, _, rfl, x, C, dx, _, _, rfl, hx2, hc.cl, hc.dr, rfl, _, rfl, _, _, rfl, rfl, ⟨by omega, by omega⟩, ?_⟩
        show gName 8 (V.int ((reach - v - 1) / -dr)) _ _ _
        rw [← hn]
        refine ⟨_, rfl, _, rfl, _, rfl, x, C, dx, _, _, rfl, hx2, hc.cl, hc.wi, rfl, _, rfl, _, rfl, _, rfl, x, C, dx, _, _, rfl, hx2, hc.cl, hc.dr, rfl, _, _, rfl, rfl, Or.inr ⟨by omega, by omega⟩, _, _, rfl, rfl, ?_⟩
        refine ⟨p, _, step, W, _, rfl, la.mono s2, fun r hr => ?_, fun r hr => (lad.all r hr).2, ?_⟩
        · have := (lad.all r hr).1
          omega
        rw [eu]
        have WB : W ≤ 400 := by
          have : W ≤ B.length := by rw [ln.eM]; exact Nat.le_mul_of_pos_left _ g0
          omega
        refine ⟨_, rfl, .inl ⟨rfl, _, SqL.of hGU⟩, _, rfl, x, dx, _, rfl, hx2, rfl, _, rfl, _, rfl, _, rfl, _, _, rfl, rfl, _, rfl, _, rfl, x, C, dx, _, _, rfl, hx2, hc.cl, hc.wi, rfl, _, _, rfl, rfl, Or.inr ⟨by omega, by omega⟩, _, _, rfl, rfl, ?_⟩
        refine ⟨x, dx, _, (st : Int), (i : Int), _, (A'.length : Int), rfl, hx2, rfl, rfl, by omega, by omega, ?_⟩
        have ey : (st : Int) + 1 + (i : Int) + (((step + t2 + 1 : Nat) : Int) - 1 - (step : Int) + (n : Int) * (W : Int)) * (A'.length : Int) = ((st + 1 + (i + A'.length * (t2 + W * n)) : Nat) : Int) := by
          rw [show ((step + t2 + 1 : Nat) : Int) - 1 - (step : Int) = (t2 : Int) by omega, Int.mul_comm _ (A'.length : Int), Int.mul_comm (n : Int)]
          simp only [Int.natCast_add, Int.natCast_mul]
          omega
        refine ⟨D, _, _, rfl, rfl, hGU, ?_, ?_⟩
        · rw [vI_len]
          exact Nat.lt_of_le_of_lt (show ps.length ≤ 400 by omega) (by decide)
        · refine ⟨NF.Same.mut s2 hD, ps ++ [((st : Int) + 1 + (i : Int) + (((step + t2 + 1 : Nat) : Int) - 1 - (step : Int) + (n : Int) * (W : Int)) * (A'.length : Int))], ?_, got.add ((eP (t2 + W * n)).mpr d1) (fun s' h z => ?_) ey, _, _, _, _, _, _, _, _, rfl⟩
          · rw [upd_same, ← vI_app]
            rfl
          · have := d2 s' h
            have := (eP s').mp z
            omega
    · rintro σ G ⟨sG, ps, hG, got, v3, v4, v5, v6, v7, v8, v9, v10, rfl⟩
      have eL : vs.length = A'.length := by
        have := hR.len
        rw [List.length_map, List.length_range] at this
        exact this
      rw [eL] at got
      obtain ⟨e1, e2⟩ := last_all l0 got.some got.all
      refine ⟨_, rfl, D, ps, rfl, rfl, SqL.of hG, fun e => q none G (e1 e) sG, fun m hm hmin => ?_⟩
      obtain ⟨s3, f1, rfl⟩ := e2 m hm hmin
      exact q (some s3) G f1 sG
end
end K05
set_option linter.all false
set_option maxHeartbeats 4000000
/-! The greater and the lesser one of two rows of values, never on top. Plain Lean. -/
namespace NT
/-- the greater, or the lesser, of two -/
def cho (g : Bool) (x y : Int) : Int := if g then (if x < y then y else x) else (if x < y then x else y)
def chO : Bool → Option Int → Option Int → Option Int
  | true, some x, some y => some (cho true x y)
  | true, _, _ => none
  | false, some x, some y => some (cho false x y)
  | false, some x, none => some x
  | false, none, o => o
def leO (a b : Option Int) : Prop := b = none ∨ ∃ x y, a = some x ∧ b = some y ∧ x ≤ y
theorem leO.refl (a : Option Int) : leO a a := by
  cases a with
  | none => exact .inl rfl
  | some x => exact .inr ⟨x, x, rfl, rfl, Int.le_refl _⟩
theorem leO.trans {a b c : Option Int} (h : leO a b) (k : leO b c) : leO a c := by
  rcases k with rfl | ⟨x, y, rfl, rfl, k⟩
  · exact .inl rfl
  · rcases h with h | ⟨u, v, rfl, e, h⟩
    · cases h
    · injection e with e
      exact .inr ⟨u, y, rfl, rfl, by omega⟩
theorem leO.total (a b : Option Int) : leO a b ∨ leO b a := by
  cases b with
  | none => exact .inl (.inl rfl)
  | some y =>
    cases a with
    | none => exact .inr (.inl rfl)
    | some x =>
      rcases Int.le_total x y with h | h
      · exact .inl (.inr ⟨x, y, rfl, rfl, h⟩)
      · exact .inr (.inr ⟨y, x, rfl, rfl, h⟩)
theorem cho_le {x y : Int} (h : x ≤ y) : cho true x y = y ∧ cho false x y = x := by
  show (if x < y then y else x) = y ∧ (if x < y then x else y) = x
  split <;> exact ⟨by omega, by omega⟩
theorem cho_comm (g : Bool) (x y : Int) : cho g x y = cho g y x := by
  cases g
  · show (if x < y then x else y) = (if y < x then y else x)
    split <;> split <;> omega
  · show (if x < y then y else x) = (if y < x then x else y)
    split <;> split <;> omega
theorem chO_le {a b : Option Int} (h : leO a b) : chO true a b = b ∧ chO false a b = a := by
  rcases h with rfl | ⟨x, y, rfl, rfl, h⟩
  · cases a <;> exact ⟨rfl, rfl⟩
  · exact ⟨congrArg some (cho_le h).1, congrArg some (cho_le h).2⟩
theorem chO_comm (g : Bool) (a b : Option Int) : chO g a b = chO g b a := by
  cases g <;> cases a <;> cases b <;> first | rfl | exact congrArg some (cho_comm ..)
theorem chO_ge {a b : Option Int} (h : leO b a) : chO true a b = a ∧ chO false a b = b := by
  rw [chO_comm, chO_comm false]
  exact chO_le h
theorem chO_some {g : Bool} {x y : Int} : chO g (some x) (some y) = some (cho g x y) := by cases g <;> rfl
theorem cho_add {g : Bool} {x y c : Int} : cho g (x + c) (y + c) = cho g x y + c := by
  cases g
  · show (if x + c < y + c then x + c else y + c) = (if x < y then x else y) + c
    split <;> split <;> omega
  · show (if x + c < y + c then y + c else x + c) = (if x < y then y else x) + c
    split <;> split <;> omega
theorem asc_cho {F G : Nat → Option Int} (A : Asc F) (B : Asc G) (g : Bool) : Asc fun n => chO g (F n) (G n) := by
  have lw : ∀ {x y : Int}, cho true x y = x ∧ y ≤ x ∧ cho false x y = y ∨ cho true x y = y ∧ x ≤ y ∧ cho false x y = x := fun {x y} => by
    rcases Int.le_total x y with h | h
    · exact .inr ⟨(cho_le h).1, h, (cho_le h).2⟩
    · have := cho_le h
      rw [cho_comm true, cho_comm false]
      exact .inl ⟨this.1, h, this.2⟩
  refine ⟨fun n v hn e => ?_, fun n v hn e => ?_⟩
  · cases ef : F n with
    | none =>
      rw [ef] at e
      cases eg : G n with
      | none => rw [eg] at e; cases g <;> cases e
      | some y =>
        rw [eg] at e
        cases g
        · injection e with e
          exact e ▸ B.ge n y hn eg
        · cases e
    | some x =>
      rw [ef] at e
      have x0 := A.ge n x hn ef
      cases eg : G n with
      | none =>
        rw [eg] at e
        cases g
        · injection e with e
          omega
        · cases e
      | some y =>
        rw [eg, chO_some] at e
        injection e with e
        have y0 := B.ge n y hn eg
        cases g <;> rcases @lw x y with ⟨h1, _, h2⟩ | ⟨h1, _, h2⟩ <;> omega
  · have up := fun (u : Int) (h : F (n + 1) = some u) => A.up n u hn h
    have vp := fun (u : Int) (h : G (n + 1) = some u) => B.up n u hn h
    show ∃ u, chO g (F n) (G n) = some u ∧ u ≤ v
    have e : chO g (F (n + 1)) (G (n + 1)) = some v := e
    cases ef : F (n + 1) with
    | none =>
      rw [ef] at e
      cases eg : G (n + 1) with
      | none => rw [eg] at e; cases g <;> cases e
      | some y =>
        rw [eg] at e
        obtain ⟨w, hw, le⟩ := vp y eg
        rw [hw]
        cases g
        · injection e with e
          subst e
          cases F n with
          | none => exact ⟨w, rfl, le⟩
          | some z =>
            refine ⟨_, rfl, ?_⟩
            rcases @lw z w with ⟨h1, _, h2⟩ | ⟨h1, _, h2⟩ <;> omega
        · cases e
    | some x =>
      rw [ef] at e
      obtain ⟨u, hu, lx⟩ := up x ef
      rw [hu]
      cases eg : G (n + 1) with
      | none =>
        rw [eg] at e
        cases g
        · injection e with e
          subst e
          cases G n with
          | none => exact ⟨u, rfl, lx⟩
          | some z =>
            refine ⟨_, rfl, ?_⟩
            rcases @lw u z with ⟨h1, _, h2⟩ | ⟨h1, _, h2⟩ <;> omega
        · cases e
      | some y =>
        rw [eg, chO_some] at e
        obtain ⟨w, hw, ly⟩ := vp y eg
        rw [hw, chO_some]
        injection e with e
        subst e
        refine ⟨_, rfl, ?_⟩
        cases g <;> rcases @lw x y with ⟨h1, _, h2⟩ | ⟨h1, _, h2⟩ <;> rcases @lw u w with ⟨k1, _, k2⟩ | ⟨k1, _, k2⟩ <;> omega
/-- behind N one of two rows is nowhere above the other one, or they go side by side -/
def Dom (F G : Nat → Option Int) (N : Nat) : Prop := (∀ n, N < n → leO (F n) (G n)) ∨ (∀ n, N < n → leO (G n) (F n)) ∨
  ∃ (m : Nat) (c : Int), 0 < m ∧ ∀ n, N < n → ∃ u v, F n = some u ∧ G n = some v ∧ F (n + m) = some (u + c) ∧ G (n + m) = some (v + c)
theorem Dom.symm {F G : Nat → Option Int} {N : Nat} (h : Dom F G N) : Dom G F N := by
  rcases h with h | h | ⟨m, c, hm, h⟩
  · exact .inr (.inl h)
  · exact .inl h
  · exact .inr (.inr ⟨m, c, hm, fun n hn => by obtain ⟨u, v, a, b, d, e⟩ := h n hn; exact ⟨v, u, b, a, e, d⟩⟩)
theorem Dom.self (F : Nat → Option Int) (N : Nat) : Dom F F N := .inl fun n _ => leO.refl _
theorem Dom.congr {F G F' : Nat → Option Int} {N : Nat} (h : Dom F G N) (e : ∀ n, N < n → F' n = F n) : Dom F' G N := by
  rcases h with h | h | ⟨m, c, hm, h⟩
  · exact .inl fun n hn => by rw [e n hn]; exact h n hn
  · exact .inr (.inl fun n hn => by rw [e n hn]; exact h n hn)
  · exact .inr (.inr ⟨m, c, hm, fun n hn => by rw [e n hn, e (n + m) (by omega)]; exact h n hn⟩)
theorem par_mul {F : Nat → Option Int} {N m : Nat} {c : Int} (h : ∀ n, N < n → ∃ u, F n = some u ∧ F (n + m) = some (u + c)) (j : Nat) : ∀ n, N < n → ∃ u, F n = some u ∧ F (n + m * j) = some (u + c * (j : Int)) := by
  induction j with
  | zero =>
    intro n hn
    obtain ⟨u, a, _⟩ := h n hn
    exact ⟨u, a, by simpa using a⟩
  | succ j ih =>
    intro n hn
    obtain ⟨u, a, b⟩ := ih n hn
    obtain ⟨v, a2, b2⟩ := h (n + m * j) (by omega)
    rw [b] at a2
    injection a2 with a2
    refine ⟨u, a, ?_⟩
    rw [Nat.mul_succ, ← Nat.add_assoc, b2, ← a2, Int.natCast_succ, Int.mul_add]
    congr 1
    omega
/-- side by side with one that goes side by side with a third one -/
theorem par_three {F G H : Nat → Option Int} {N m m' : Nat} {c c' : Int} (hm : 0 < m) (hm' : 0 < m') (h : ∀ n, N < n → ∃ u v, F n = some u ∧ G n = some v ∧ F (n + m) = some (u + c) ∧ G (n + m) = some (v + c)) (h' : ∀ n, N < n → ∃ u v, G n = some u ∧ H n = some v ∧ G (n + m') = some (u + c') ∧ H (n + m') = some (v + c')) :
    ∃ (k : Nat) (d : Int), 0 < k ∧ ∀ n, N < n → ∃ u v w, F n = some u ∧ G n = some v ∧ H n = some w ∧ F (n + k) = some (u + d) ∧ G (n + k) = some (v + d) ∧ H (n + k) = some (w + d) := by
  have pF := par_mul (F := F) (N := N) (m := m) (c := c) (fun n hn => by obtain ⟨u, v, a, b, x, y⟩ := h n hn; exact ⟨u, a, x⟩) m'
  have pG := par_mul (F := G) (N := N) (m := m) (c := c) (fun n hn => by obtain ⟨u, v, a, b, x, y⟩ := h n hn; exact ⟨v, b, y⟩) m'
  have pG' := par_mul (F := G) (N := N) (m := m') (c := c') (fun n hn => by obtain ⟨u, v, a, b, x, y⟩ := h' n hn; exact ⟨u, a, x⟩) m
  have pH := par_mul (F := H) (N := N) (m := m') (c := c') (fun n hn => by obtain ⟨u, v, a, b, x, y⟩ := h' n hn; exact ⟨v, b, y⟩) m
  refine ⟨m * m', c * (m' : Int), Nat.mul_pos hm hm', fun n hn => ?_⟩
  obtain ⟨u, a1, a2⟩ := pF n hn
  obtain ⟨v, b1, b2⟩ := pG n hn
  obtain ⟨v', b1', b2'⟩ := pG' n hn
  obtain ⟨w, d1, d2⟩ := pH n hn
  rw [b1] at b1'
  injection b1' with b1'
  subst b1'
  rw [Nat.mul_comm m' m] at b2' d2
  rw [b2] at b2'
  injection b2' with b2'
  have e : c' * (m : Int) = c * (m' : Int) := by omega
  rw [e] at d2
  exact ⟨u, v, w, a1, b1, d1, a2, b2, d2⟩
theorem dom_cho {F G H : Nat → Option Int} {N : Nat} (g : Bool) (fg : Dom F G N) (fh : Dom F H N) (gh : Dom G H N) : Dom (fun n => chO g (F n) (G n)) H N := by
  rcases fg with h | h | ⟨m, c, hm, h⟩
  · cases g
    · exact fh.congr fun n hn => (chO_le (h n hn)).2
    · exact gh.congr fun n hn => (chO_le (h n hn)).1
  · cases g
    · exact gh.congr fun n hn => (chO_ge (h n hn)).2
    · exact fh.congr fun n hn => (chO_ge (h n hn)).1
  · -- side by side
    have side : ∀ {m' : Nat} {c' : Int}, 0 < m' → (∀ n, N < n → ∃ u v, G n = some u ∧ H n = some v ∧ G (n + m') = some (u + c') ∧ H (n + m') = some (v + c')) → Dom (fun n => chO g (F n) (G n)) H N := fun {m' c'} hm' h' => by
      obtain ⟨k, d, hk, p⟩ := par_three hm hm' h h'
      refine .inr (.inr ⟨k, d, hk, fun n hn => ?_⟩)
      obtain ⟨u, v, w, a1, a2, a3, b1, b2, b3⟩ := p n hn
      refine ⟨cho g u v, w, ?_, a3, ?_, b3⟩
      · show chO g (F n) (G n) = _
        rw [a1, a2, chO_some]
      · show chO g (F (n + k)) (G (n + k)) = _
        rw [b1, b2, chO_some, cho_add]
    have side2 : ∀ {m' : Nat} {c' : Int}, 0 < m' → (∀ n, N < n → ∃ u v, F n = some u ∧ H n = some v ∧ F (n + m') = some (u + c') ∧ H (n + m') = some (v + c')) → Dom (fun n => chO g (F n) (G n)) H N := fun {m' c'} hm' h' => by
      obtain ⟨k, d, hk, p⟩ := par_three (F := G) (G := F) hm hm' (fun n hn => by obtain ⟨u, v, a, b, x, y⟩ := h n hn; exact ⟨v, u, b, a, y, x⟩) h'
      refine .inr (.inr ⟨k, d, hk, fun n hn => ?_⟩)
      obtain ⟨u, v, w, a1, a2, a3, b1, b2, b3⟩ := p n hn
      refine ⟨cho g v u, w, ?_, a3, ?_, b3⟩
      · show chO g (F n) (G n) = _
        rw [a1, a2, chO_some]
      · show chO g (F (n + k)) (G (n + k)) = _
        rw [b1, b2, chO_some, cho_add]
    rcases gh with gh | gh | ⟨m', c', hm', gh⟩
    · rcases fh with fh | fh | ⟨m', c', hm', fh⟩
      · -- both below H
        refine .inl fun n hn => ?_
        show leO (chO _ (F n) (G n)) (H n)
        rcases leO.total (F n) (G n) with q | q
        · cases g
          · rw [(chO_le q).2]; exact fh n hn
          · rw [(chO_le q).1]; exact gh n hn
        · cases g
          · rw [(chO_ge q).2]; exact gh n hn
          · rw [(chO_ge q).1]; exact fh n hn
      · cases g
        · -- the lesser one is below H
          refine .inl fun n hn => ?_
          show leO (chO _ (F n) (G n)) (H n)
          rcases leO.total (F n) (G n) with q | q
          · rw [(chO_le q).2]; exact q.trans (gh n hn)
          · rw [(chO_ge q).2]; exact gh n hn
        · refine .inr (.inl fun n hn => ?_)
          show leO (H n) (chO _ (F n) (G n))
          rcases leO.total (F n) (G n) with q | q
          · rw [(chO_le q).1]; exact (fh n hn).trans q
          · rw [(chO_ge q).1]; exact fh n hn
      · exact side2 hm' fh
    · rcases fh with fh | fh | ⟨m', c', hm', fh⟩
      · cases g
        · refine .inl fun n hn => ?_
          show leO (chO _ (F n) (G n)) (H n)
          rcases leO.total (F n) (G n) with q | q
          · rw [(chO_le q).2]; exact fh n hn
          · rw [(chO_ge q).2]; exact q.trans (fh n hn)
        · refine .inr (.inl fun n hn => ?_)
          show leO (H n) (chO _ (F n) (G n))
          rcases leO.total (F n) (G n) with q | q
          · rw [(chO_le q).1]; exact gh n hn
          · rw [(chO_ge q).1]; exact (gh n hn).trans q
      · refine .inr (.inl fun n hn => ?_)
        show leO (H n) (chO _ (F n) (G n))
        rcases leO.total (F n) (G n) with q | q
        · cases g
          · rw [(chO_le q).2]; exact fh n hn
          · rw [(chO_le q).1]; exact gh n hn
        · cases g
          · rw [(chO_ge q).2]; exact gh n hn
          · rw [(chO_ge q).1]; exact fh n hn
      · exact side2 hm' fh
    · exact side hm' gh
end NT
set_option Elab.async false
set_option linter.all false
set_option maxRecDepth 100000
set_option maxHeartbeats 4000000
/-! zip of a tuple and a list. -/
namespace NF
open PySem PySem.Spec PyProof.Rows L2 He RZ
/-- a tuple at a, a list at b, the items in new pairs -/
def Izm (K : PySem.W.Frag) (a b : Addr) : It where
  go i H := ∃ us vs : List V, SqT K H a us ∧ SqL K H b vs ∧ i < us.length ∧ i < vs.length
  yld i H v H' := ∃ T x y, v = .ref T ∧ H T = none ∧ H' = upd H T (.tup [x, y]) ∧ (∀ us, SqT K H a us → us[i]? = some x) ∧ ∀ vs, SqL K H b vs → vs[i]? = some y
  stop i H := ∃ us vs : List V, SqT K H a us ∧ SqL K H b vs ∧ i ≤ us.length ∧ i ≤ vs.length ∧ (i = us.length ∨ i = vs.length)
/-- how the iterators stand -/
def ZmAt (z TI TO i1 i2 a b : Addr) (i : Nat) (h : Heap) : Prop := IsZip h z TI TO .none ∧ IsTupOf2 h TI (.ref i1) (.ref i2) ∧ (∃ x y, IsTupOf2 h TO x y) ∧ h.IsTupleIter i1 a i ∧ h.IsListIter i2 b i
theorem five {c z t u v w : Addr} (h : c ∈ [z, t, u, v, w]) : c = z ∨ c = t ∨ c = u ∨ c = v ∨ c = w := by simpa using h
theorem turn_zm {P : Program} {w : World} {K : PySem.W.Frag} {elts : List Expr} {kk : Nat} {tpos : Pos} {a b z TI TO i1 i2 : Addr} (S : ZipSep2 z TI TO i1 i2 [i1, a] [i2, b]) (na : a ≠ i1) (nb : b ≠ i2) :
    Turn P w K (.Tuple elts kk tpos) (Izm K a b) [z, TI, TO, i1, i2] z (ZmAt z TI TO i1 i2 a b) := by
  have z1 := S.zi1
  have z2 := S.zi2
  have t1 := S.Ti1
  have t2 := S.Ti2
  refine ⟨List.mem_cons_self .., fun i h st c hc => ?_, fun i h h' st k => ?_, ?_, ?_, fun A i s Q E st h => wpAny_pyIter_zip st.1 h⟩
  · obtain ⟨hz, hI, ⟨x, y, hO⟩, ⟨o1, e1, _, d1⟩, o2, e2, _, d2⟩ := st
    rcases five hc with rfl | rfl | rfl | rfl | rfl
    · exact ⟨_, hz, fun v q => nomatch q⟩
    · exact ⟨_, hI, fun v q => nomatch q⟩
    · exact ⟨_, hO, fun v q => nomatch q⟩
    · exact ⟨o1, e1, fun v q => by rw [d1] at q; cases q⟩
    · exact ⟨o2, e2, fun v q => by rw [d2] at q; cases q⟩
  · obtain ⟨hz, hI, ⟨x, y, hO⟩, h1, h2⟩ := st
    exact ⟨k z (by simp) _ hz, k TI (by simp) _ hI, ⟨x, y, k TO (by simp) _ hO⟩, h1.at fun o q => k i1 (by simp) o q, h2.at fun o q => k i2 (by simp) o q⟩
  · intro X hP hw hK hc i pins s σ H E I hf st hg
    subst hP hw hK
    obtain ⟨hz, hI, ⟨x0, y0, hO⟩, h1, h2⟩ := st
    obtain ⟨us, vs, ha, hb, iu, iv⟩ := hg
    obtain ⟨as, ra, pa, _⟩ := I.tuple ha
    obtain ⟨bs, rb, pb, _⟩ := I.list hb
    have la := ra.length
    have lb := rb.length
    have hd : X.A.in1.handled = none := I.ok.hd hc
    have zs : z < s.heap.objs.size := Heap.lt_size hz
    refine wpAny_pyNext_zipD2_item (a1 := x0) (a2 := y0) (i := i) S (Draws.tuple hd i1 a na as.toArray) (Draws.list hd i2 b nb bs.toArray) hz hI hO ⟨h1, pa⟩ ⟨h2, pb.isList⟩ (by simp; omega) (by simp; omega) fun v1 v2 h' tk p1 p2 z' TO' s1' s2' hT hsz hk => ?_
    refine ⟨_, rfl, wpAny_letOwnedTupleGo_zip (s := { s with heap := h', toks := tk }) z' fun g' gz sb => ?_⟩
    obtain ⟨x, hx⟩ : ∃ x, us[i]? = some x := ⟨_, List.getElem?_eq_getElem iu⟩
    obtain ⟨y, hy⟩ : ∃ y, vs[i]? = some y := ⟨_, List.getElem?_eq_getElem iv⟩
    obtain ⟨u1, hu1, r1⟩ := ra.get hx
    obtain ⟨u2, hu2, r2⟩ := rb.get hy
    have p1 : as[i]? = some v1 := by simpa using p1
    have p2 : bs[i]? = some v2 := by simpa using p2
    obtain rfl : u1 = v1 := Option.some.inj (hu1.symm.trans p1)
    obtain rfl : u2 = v2 := Option.some.inj (hu2.symm.trans p2)
    have gT : g'.get? s.heap.objs.size = some { cls := .type "tuple", data := .seq #[u1, u2] } := (sb.2 _ (Nat.ne_of_gt zs)).trans hT
    have ob : ObjOk X.prog X.w (upd H s.heap.objs.size (.tup [x, y])) g' s.heap.objs.size (.tup [x, y]) :=
      ⟨(by decide : 2 ≤ sizeLine), [u1, u2], .cons r1 (.cons r2 .nil), _, gT, rfl, _, rfl⟩
    have far : ∀ c o, c ∉ [z, TI, TO, i1, i2] → s.heap.get? c = some o → g'.get? c = some o := fun c o nc q => by
      have n1 : c ≠ z := fun e => nc (by simp [e])
      refine (sb.2 c n1).trans (hk c o n1 ?_ ?_ ?_ q)
      · exact fun e => nc (by simp [e])
      · exact fun e => nc (by simp [e])
      · exact fun e => nc (by simp [e])
    have I' : Inv X pins σ (upd H s.heap.objs.size (.tup [x, y])) { s with heap := g', toks := tk } := I.turnedNew (t' := tk) far hf (Nat.le_refl _) ob
    have free : H s.heap.objs.size = none := I.hok.fresh (Nat.le_refl _)
    refine ⟨.ref s.heap.objs.size, _, I', rfl, ⟨_, x, y, rfl, free, rfl, fun l hl => ?_, fun l hl => ?_⟩, ⟨gz, ?_, ⟨u1, u2, ?_⟩, ?_, ?_⟩, fun c hcm => ?_⟩
    · rw [I.tuple_inj hl ha, hx]
    · rw [I.list_inj hl hb, hy]
    · exact (sb.2 TI S.TIz).trans (hk TI _ S.TIz S.TITO S.TIi1 S.TIi2 hI)
    · exact (sb.2 TO S.TOz).trans TO'
    · exact s1'.1.at fun o q => (sb.2 i1 z1.symm).trans q
    · exact s2'.1.at fun o q => (sb.2 i2 z2.symm).trans q
    · have lt : c < s.heap.objs.size := by
        obtain ⟨o1, e1, _⟩ := h1
        obtain ⟨o2, e2, _⟩ := h2
        rcases five hcm with rfl | rfl | rfl | rfl | rfl
        · exact zs
        · exact Heap.lt_size hI
        · exact Heap.lt_size hO
        · exact Heap.lt_size e1
        · exact Heap.lt_size e2
      rw [upd_ne (Nat.ne_of_lt lt)]
      exact (hf c hcm).1
  · intro X hP hw hK hc i pins s σ H E I hf st hg
    subst hP hw hK
    obtain ⟨hz, hI, ⟨x0, y0, hO⟩, h1, h2⟩ := st
    obtain ⟨us, vs, ha, hb, iu, iv, hend⟩ := hg
    obtain ⟨as, ra, pa, _⟩ := I.tuple ha
    obtain ⟨bs, rb, pb, _⟩ := I.list hb
    have la := ra.length
    have lb := rb.length
    have hd : X.A.in1.handled = none := I.ok.hd hc
    refine wpAny_pyNext_zipD2_end (a1 := x0) (a2 := y0) (i := i) S (Draws.tuple hd i1 a na as.toArray) (Draws.list hd i2 b nb bs.toArray) hz hI hO ⟨h1, pa⟩ ⟨h2, pb.isList⟩ (by simp; omega) (by simp; omega) (by simp; omega) fun h' tk hk => ⟨rfl, ?_⟩
    refine I.turnedL (t' := tk) (ch := [z, TI, TO, i1, i2]) (fun c o nc q => ?_) hf
    refine hk c o ?_ ?_ ?_ ?_ q
    · exact fun e => nc (by simp [e])
    · exact fun e => nc (by simp [e])
    · exact fun e => nc (by simp [e])
    · exact fun e => nc (by simp [e])
/-- zip of a list or a tuple with a list -/
def iZipM (K : PySem.W.Frag) (ta : TA) : TI := fun σ H R => ta σ H fun ws G => ∃ a b us vs, ws = [.ref a, .ref b] ∧ SqL K G b vs ∧ ((SqL K G a us ∧ R (Itz K a b) G) ∨ (SqT K G a us ∧ R (Izm K a b) G))
theorem pi_zipM {X : Cx} {e e' : Expr} {ta : TA} {p pos tp : Pos} {elts : List Expr} {kk : Nat} (gl : Gl X "zip") (nm : X.mg "zip" = none) (args : PA X [e, e'] ta)
    (st : starEach [e, e'] X.env = (false, eval e X.env) :: starEach [e'] X.env := by rfl) (pl : (backTo pos (starEach [e'] X.env)).any (·.1) = false := by rfl) :
    PI X (.Tuple elts kk tp) (.Call (.Name "zip" p) [e, e'] [] pos) (iZipM X.K ta) := by
  constructor
  intro pins s σ H R I h
  refine Call_ (ld_blt I gl nm PyProof.Rows.boot_zip (PyProof.Rows.callWith_type1 (thn (args.run pos pins s σ H _ I h) ?_) st pl))
  rintro us t ⟨ws, G, J, rw, a, b, xs, ys, rfl, hb, q⟩
  obtain ⟨u1, u2, rfl, e1, e2⟩ : ∃ u1 u2, us = [u1, u2] ∧ u1 = .ref a ∧ u2 = .ref b := by
    cases rw with
    | cons r rr =>
      cases rr with
      | cons r' rr =>
        cases rr
        exact ⟨_, _, rfl, r, r'⟩
  subst e1 e2
  obtain ⟨bs, rb, pb, _⟩ := J.list hb
  generalize hN : t.heap.objs.size = N
  have new : ∀ c, c ∈ [N + 4, N + 2, N + 3, N, N + 1] → FpOk X pins G c := fun c hc => by
    have le : N ≤ c := by
      rcases five hc with rfl | rfl | rfl | rfl | rfl <;> first | exact Nat.le_refl _ | exact Nat.le_add_right _ _
    rw [← hN] at le
    exact J.fpOk le (J.hok.fresh le)
  rcases q with ⟨ha, q⟩ | ⟨ha, q⟩
  · obtain ⟨as, ra, pa, _⟩ := J.list ha
    refine call_zip_2 pa.isList pb.isList fun h' hz hI hO h1 h2 _ hk => wpAny_pyIter_zip hz ?_
    rw [hN] at hz hI hO h1 h2 ⊢
    exact ⟨N + 4, _, _, _, G, rfl, J.kept (t' := t.toks) hk, turn_zip (by rw [← hN]; exact PySem.W.ktu_apart t.heap.objs.size a b pa.lt pb.lt), ⟨hz, hI, ⟨_, _, hO⟩, h1, h2⟩, new, q⟩
  · obtain ⟨as, ra, pa, _⟩ := J.tuple ha
    obtain ⟨oa, hoa, _⟩ := id pa
    have la : a < N := by rw [← hN]; exact Heap.lt_size hoa
    have lb : b < N := by rw [← hN]; exact pb.lt
    refine zip_begins2 (begins_tuple a as.toArray) (begins_list b bs.toArray) pa pb.isList fun h' hz hI hO h1 h2 _ hk => wpAny_pyIter_zip hz ?_
    rw [hN] at hz hI hO h1 h2 ⊢
    refine ⟨N + 4, _, _, _, G, rfl, J.kept (t' := t.toks) hk, turn_zm (zip_sep2 (N := N) (fp1 := [a]) (fp2 := [b]) (fun c hc => ?_) (fun c hc => ?_)) (Nat.ne_of_lt la) ?_, ⟨hz, hI, ⟨_, _, hO⟩, ⟨_, h1, rfl, rfl⟩, ⟨_, h2, rfl, rfl⟩⟩, new, q⟩
    · rw [List.mem_singleton.mp hc]; exact la
    · rw [List.mem_singleton.mp hc]; exact lb
    · exact Nat.ne_of_lt (Nat.lt_succ_of_lt lb)
/-- .. of one length -/
theorem walk_zm {K : PySem.W.Frag} {a b : Addr} {us vs : List V} (hl : us.length = vs.length) : Walk (Izm K a b) us.length (fun H => SqT K H a us ∧ SqL K H b vs) (YPair (fun i => us[i]?) (fun i => vs[i]?)) := by
  refine ⟨fun i _ hi q => ⟨us, vs, q.1, q.2, hi, by omega⟩, fun _ q => ⟨us, vs, q.1, q.2, Nat.le_refl _, by omega, .inl rfl⟩, fun i H v H' _ q y => ?_⟩
  obtain ⟨T, x, z, h1, h2, h3, h4, h5⟩ := y
  exact ⟨T, x, z, h1, h2, h3, h4 us q.1, h5 vs q.2⟩
end NF
set_option Elab.async false
set_option linter.all false
set_option maxRecDepth 100000
set_option maxHeartbeats 4000000
namespace K05
open PySem PySem.Spec PyProof.Rows L2 He NF RZ NT
def spDrift (K : PySem.W.Frag) (C : Addr) : Sp := fun vs H Q _ => ∃ x1 x2 y1 y2, vs = [.ref x1, .ref x2] ∧ TabAt K C H x1 y1 ∧ TabAt K C H x2 y2 ∧ Small y1 ∧ Small y2 ∧ Q (.int (y1.2.2 * (y2.2.1.length : Int) - y2.2.2 * (y1.2.1.length : Int))) H
def spLongest (K : PySem.W.Frag) (C : Addr) : Sp := fun vs H Q _ => ∃ x1 x2 y1 y2, vs = [.ref x1, .ref x2] ∧ TabAt K C H x1 y1 ∧ TabAt K C H x2 y2 ∧ Q (.int ((max y1.1.length y2.1.length : Nat) : Int)) H
def spChosen (K : PySem.W.Frag) : Sp := fun vs H Q _ => ∃ (a b : Addr) (g : Bool) (xs ys : List Int), vs = [.ref a, .ref b, .bl g] ∧ (SqL K H a (vI xs) ∨ SqT K H a (vI xs)) ∧ SqL K H b (vI ys) ∧ xs.length = ys.length ∧ xs.length ≤ 100000 ∧ ∀ p H', Same H H' → SqT K H' p (vI (List.zipWith (cho g) xs ys)) → Q (.ref p) H'
theorem sc_drift_of : FnScope ["first", "second"] ["first", "second"] (defScope s_drift_of) := ⟨rfl, rfl, rfl, by decide +kernel, rfl, by decide +kernel, by decide +kernel⟩
theorem sc_longest_head : FnScope ["first", "second"] ["first", "second"] (defScope s_longest_head) := ⟨rfl, rfl, rfl, by decide +kernel, rfl, by decide +kernel, by decide +kernel⟩
theorem sc_chosen : FnScope ["ones", "others", "greater", "one", "other"] ["ones", "others", "greater"] (defScope s_chosen) := ⟨rfl, rfl, rfl, by decide +kernel, rfl, by decide +kernel, by decide +kernel⟩
section
variable {P : Program} {w : World} {K : PySem.W.Frag} {mg : Str → Option Value} {base : Heap} {gs fs : List Str} {C : Addr}
theorem ok_drift_of {f : Addr} {fd : FuncData} (F : FunD K "drift_of" "drift_of" (defArgs s_drift_of) (defBody s_drift_of) (defScope s_drift_of) [] [] f fd) (T : Txt K mg gs FS) (tc : TabC K C) : FnOk P w K mg base CX0 1 f fd ["first", "second"] (spDrift K C) := by
  refine F.ok sc_drift_of (fun vs H Q E h => ?_) (fun cdv A outer s H vs Q E hr h => ?_)
  · obtain ⟨x1, x2, y1, y2, rfl, _⟩ := h
    rfl
  · obtain ⟨x1, x2, ⟨h1, l1, r1⟩, ⟨h2, l2, r2⟩, rfl, ⟨dx1, a1, b1, hx1, ha1, hb1⟩, ⟨dx2, a2, b2, hx2, ha2, hb2⟩, sm1, sm2, q⟩ := h
    have m1 := sm1.l
    have m2 := sm2.l
    dsimp only at hx1 ha1 hb1 hx2 ha2 hb2 q m1 m2
    refine ⟨_, PSs.nox (pss_one (ps_ret (pe_op op_sub (pe_op op_mul (pe_fld (pv 0) rfl) (pe_callB call_len_seq rfl (T.fr _ (by decide +kernel)) boot_len (pa_cons (pe_fld (pv 1) rfl) pa_nil))) (pe_op op_mul (pe_fld (pv 1) rfl) (pe_callB call_len_seq rfl (T.fr _ (by decide +kernel)) boot_len (pa_cons (pe_fld (pv 0) rfl) pa_nil)))))), ?_⟩
    refine ⟨_, rfl, x1, C, dx1, _, _, rfl, hx1, tc.cl, tc.ri, rfl, _, rfl, x2, C, dx2, _, _, rfl, hx2, tc.cl, tc.lp, rfl, b2, _, rfl, Or.inr hb2, ?_⟩
    rw [vI_len]
    refine ⟨_, _, rfl, rfl, Or.inr ⟨by omega, by omega⟩, _, rfl, x2, C, dx2, _, _, rfl, hx2, tc.cl, tc.ri, rfl, _, rfl, x1, C, dx1, _, _, rfl, hx1, tc.cl, tc.lp, rfl, b1, _, rfl, Or.inr hb1, ?_⟩
    rw [vI_len]
    exact ⟨_, _, rfl, rfl, Or.inr ⟨by omega, by omega⟩, _, _, rfl, rfl, q⟩
theorem ok_longest_head {f : Addr} {fd : FuncData} (F : FunD K "longest_head" "longest_head" (defArgs s_longest_head) (defBody s_longest_head) (defScope s_longest_head) [] [] f fd) (T : Txt K mg gs FS) (tc : TabC K C) : FnOk P w K mg base CX0 1 f fd ["first", "second"] (spLongest K C) := by
  refine F.ok sc_longest_head (fun vs H Q E h => ?_) (fun cdv A outer s H vs Q E hr h => ?_)
  · obtain ⟨x1, x2, y1, y2, rfl, _⟩ := h
    rfl
  · obtain ⟨x1, x2, ⟨h1, l1, r1⟩, ⟨h2, l2, r2⟩, rfl, ⟨dx1, a1, b1, hx1, ha1, hb1⟩, ⟨dx2, a2, b2, hx2, ha2, hb2⟩, q⟩ := h
    dsimp only at hx1 ha1 hb1 hx2 ha2 hb2 q
    refine ⟨_, PSs.nox (pss_one (ps_ret (pe_callB (call_max2 rfl) rfl (T.fr _ (by decide +kernel)) (by decide +kernel) (pa_cons (pe_callB call_len_seq rfl (T.fr _ (by decide +kernel)) boot_len (pa_cons (pe_fld (pv 0) rfl) pa_nil)) (pa_cons (pe_callB call_len_seq rfl (T.fr _ (by decide +kernel)) boot_len (pa_cons (pe_fld (pv 1) rfl) pa_nil)) pa_nil))))), ?_⟩
    refine ⟨_, rfl, x1, C, dx1, _, _, rfl, hx1, tc.cl, tc.hd, rfl, a1, _, rfl, Or.inr ha1, _, rfl, x2, C, dx2, _, _, rfl, hx2, tc.cl, tc.hd, rfl, a2, _, rfl, Or.inr ha2, ?_⟩
    rw [vI_len, vI_len]
    refine ⟨_, _, rfl, ?_⟩
    have e : (if (h2.length : Int) > (h1.length : Int) then (h2.length : Int) else (h1.length : Int)) = ((max h1.length h2.length : Nat) : Int) := by
      by_cases c : (h2.length : Int) > (h1.length : Int)
      · rw [if_pos c]; omega
      · rw [if_neg c]; omega
    show Q (V.int (if (h2.length : Int) > (h1.length : Int) then (h2.length : Int) else (h1.length : Int))) H
    rw [e]
    exact q
theorem ok_chosen {f : Addr} {fd : FuncData} (F : FunD K "chosen" "chosen" (defArgs s_chosen) (defBody s_chosen) (defScope s_chosen) [] [] f fd) (T : Txt K mg gs FS) : FnOk P w K mg base CX0 1 f fd ["ones", "others", "greater"] (spChosen K) := by
  refine F.ok sc_chosen (fun vs H Q E h => ?_) (fun cdv A outer s H vs Q E hr h => ?_)
  · obtain ⟨a, b, g, xs, ys, rfl, _⟩ := h
    rfl
  · obtain ⟨a, b, g, xs, ys, rfl, ha, hb, hlen, hl, q⟩ := h
    have zl : (List.zipWith (cho g) xs ys).length = xs.length := by
      rw [List.length_zipWith, ← hlen, Nat.min_self]
    have zg : ∀ {j : Nat}, (h1 : j < xs.length) → (List.zipWith (cho g) xs ys)[j]? = some (cho g (xs.getD j 0) (ys.getD j 0)) := fun {j} h1 => by
      have h2 : j < ys.length := by omega
      rw [List.getElem?_zipWith, List.getElem?_eq_getElem h1, List.getElem?_eq_getElem h2, List.getD_eq_getElem?_getD, List.getD_eq_getElem?_getD, List.getElem?_eq_getElem h1, List.getElem?_eq_getElem h2]
      rfl
    have item : ∀ {l : List Int} {j : Nat} {x : V}, j < l.length → (vI l)[j]? = some x → x = V.int (l.getD j 0) := fun {l j x} hj hx => by
      rw [List.getElem?_map, List.getElem?_eq_getElem hj] at hx
      rw [List.getD_eq_getElem?_getD, List.getElem?_eq_getElem hj]
      exact (Option.some.inj hx).symm
    refine ⟨_, PSs.nox (pss_cons (ps_if (pt_val (pv 2)) (pss_one (ps_ret (pe_callTy cr_tup rfl (T.fr _ (by decide +kernel)) (by decide +kernel) (pa_cons (pe_lc (own := [("one", 3), ("other", 4)]) rfl sc_chosen.nd (pi_zipM rfl (T.fr _ (by decide +kernel)) (pa_cons (pv 0) (pa_cons (pv 1) pa_nil))) (blkOk_by (N := ["ones", "others", "greater", "one", "other"]) (sc := defScope s_chosen) (by decide +kernel)) (fun _ _ _ _ _ => by exact (pgt (K := K) (n := 2) rfl rfl (pgs_cons (pg_name (i := 3) sc_chosen.nd rfl (Or.inl rfl)) (pgs_cons (pg_name (i := 4) sc_chosen.nd rfl (Or.inl rfl)) pgs_nil)))) (fun _ _ _ _ _ => by exact pts_nil) (fun _ _ _ _ _ => by exact (pe_ifExp (pt_cmpR op_lt (pv 3) (pv 4) (nomark _)) (pv 4) (pv 3)))) pa_nil)))) pss_nil) (pss_one (ps_ret (pe_callTy cr_tup rfl (T.fr _ (by decide +kernel)) (by decide +kernel) (pa_cons (pe_lc (own := [("one", 3), ("other", 4)]) rfl sc_chosen.nd (pi_zipM rfl (T.fr _ (by decide +kernel)) (pa_cons (pv 0) (pa_cons (pv 1) pa_nil))) (blkOk_by (N := ["ones", "others", "greater", "one", "other"]) (sc := defScope s_chosen) (by decide +kernel)) (fun _ _ _ _ _ => by exact (pgt (K := K) (n := 2) rfl rfl (pgs_cons (pg_name (i := 3) sc_chosen.nd rfl (Or.inl rfl)) (pgs_cons (pg_name (i := 4) sc_chosen.nd rfl (Or.inl rfl)) pgs_nil)))) (fun _ _ _ _ _ => by exact pts_nil) (fun _ _ _ _ _ => by exact (pe_ifExp (pt_cmpR op_lt (pv 3) (pv 4) (nomark _)) (pv 3) (pv 4)))) pa_nil))))), ?_⟩
    refine ⟨_, rfl, g, rfl, ?_⟩
    cases g with
    | true =>
      refine iteT ?_
      refine ⟨_, rfl, _, rfl, a, b, vI xs, vI ys, rfl, hb, ?_⟩
      rcases ha with ha | ha
      · refine .inl ⟨ha, fun D hD => ?_⟩
        refine lc_it (walk_zip (xs := vI xs) (ys := vI ys) (n := xs.length) (by rw [vI_len, vI_len]; omega)) (fun j G => Same H G ∧ G D = some (.lst (vI ((List.zipWith (cho true) xs ys).take j)))) ⟨NF.Same.new (Same.refl H) hD, upd_same⟩ (fun j G _ z => ⟨L2.Same.seq z.1 ha, L2.Same.seq z.1 hb⟩) ?_ ?_
        · rintro j x G G' hj ⟨sG, hG⟩ ⟨U, x1, y1, rfl, hU, rfl, hx, hy⟩
          obtain rfl := item hj hx
          obtain rfl := item (by omega) hy
          refine ⟨U, _, rfl, SqT.of upd_same, rfl, _, _, rfl, _, _, rfl, rfl, rfl, ?_⟩
          refine ⟨_, rfl, _, rfl, _, _, rfl, rfl, _, rfl, ite2 (fun h1 => ?_) (fun h1 => ?_)⟩
          · have c : xs.getD j 0 < ys.getD j 0 := of_decide_eq_true h1
            refine ⟨_, rfl, _, (upd_ne (ne_of_none hG hU)).trans hG, ?_, NF.Same.mut (NF.Same.new sG hU) hD, ?_⟩
            · rw [vI_len, List.length_take]
              exact Nat.lt_of_le_of_lt (show min j _ ≤ 100000 by omega) (by decide)
            · rw [upd_same, List.take_add_one, zg hj, ← vI_app, show cho true (xs.getD j 0) (ys.getD j 0) = ys.getD j 0 from if_pos c]
              rfl
          · have c : ¬ xs.getD j 0 < ys.getD j 0 := fun z => h1 (decide_eq_true z)
            refine ⟨_, rfl, _, (upd_ne (ne_of_none hG hU)).trans hG, ?_, NF.Same.mut (NF.Same.new sG hU) hD, ?_⟩
            · rw [vI_len, List.length_take]
              exact Nat.lt_of_le_of_lt (show min j _ ≤ 100000 by omega) (by decide)
            · rw [upd_same, List.take_add_one, zg hj, ← vI_app, show cho true (xs.getD j 0) (ys.getD j 0) = xs.getD j 0 from if_neg c]
              rfl
        · rintro G ⟨sG, hG⟩
          rw [List.take_of_length_le (by omega)] at hG
          exact ⟨D, _, rfl, Or.inl (SqL.of hG), fun p H' s' t' => q p H' (Same.trans sG s') t'⟩
      · refine .inr ⟨ha, fun D hD => ?_⟩
        refine lc_it (walk_zm (us := vI xs) (vs := vI ys) (by rw [vI_len, vI_len]; exact hlen)) (fun j G => Same H G ∧ G D = some (.lst (vI ((List.zipWith (cho true) xs ys).take j)))) ⟨NF.Same.new (Same.refl H) hD, upd_same⟩ (fun j G _ z => ⟨NF.Same.tup z.1 ha, L2.Same.seq z.1 hb⟩) ?_ ?_
        · rintro j x G G' hj ⟨sG, hG⟩ ⟨U, x1, y1, rfl, hU, rfl, hx, hy⟩
          rw [vI_len] at hj
          obtain rfl := item hj hx
          obtain rfl := item (by omega) hy
          refine ⟨U, _, rfl, SqT.of upd_same, rfl, _, _, rfl, _, _, rfl, rfl, rfl, ?_⟩
          refine ⟨_, rfl, _, rfl, _, _, rfl, rfl, _, rfl, ite2 (fun h1 => ?_) (fun h1 => ?_)⟩
          · have c : xs.getD j 0 < ys.getD j 0 := of_decide_eq_true h1
            refine ⟨_, rfl, _, (upd_ne (ne_of_none hG hU)).trans hG, ?_, NF.Same.mut (NF.Same.new sG hU) hD, ?_⟩
            · rw [vI_len, List.length_take]
              exact Nat.lt_of_le_of_lt (show min j _ ≤ 100000 by omega) (by decide)
            · rw [upd_same, List.take_add_one, zg hj, ← vI_app, show cho true (xs.getD j 0) (ys.getD j 0) = ys.getD j 0 from if_pos c]
              rfl
          · have c : ¬ xs.getD j 0 < ys.getD j 0 := fun z => h1 (decide_eq_true z)
            refine ⟨_, rfl, _, (upd_ne (ne_of_none hG hU)).trans hG, ?_, NF.Same.mut (NF.Same.new sG hU) hD, ?_⟩
            · rw [vI_len, List.length_take]
              exact Nat.lt_of_le_of_lt (show min j _ ≤ 100000 by omega) (by decide)
            · rw [upd_same, List.take_add_one, zg hj, ← vI_app, show cho true (xs.getD j 0) (ys.getD j 0) = xs.getD j 0 from if_neg c]
              rfl
        · rintro G ⟨sG, hG⟩
          rw [vI_len, List.take_of_length_le (by omega)] at hG
          exact ⟨D, _, rfl, Or.inl (SqL.of hG), fun p H' s' t' => q p H' (Same.trans sG s') t'⟩
    | false =>
      refine iteF ?_
      refine ⟨_, rfl, _, rfl, a, b, vI xs, vI ys, rfl, hb, ?_⟩
      rcases ha with ha | ha
      · refine .inl ⟨ha, fun D hD => ?_⟩
        refine lc_it (walk_zip (xs := vI xs) (ys := vI ys) (n := xs.length) (by rw [vI_len, vI_len]; omega)) (fun j G => Same H G ∧ G D = some (.lst (vI ((List.zipWith (cho false) xs ys).take j)))) ⟨NF.Same.new (Same.refl H) hD, upd_same⟩ (fun j G _ z => ⟨L2.Same.seq z.1 ha, L2.Same.seq z.1 hb⟩) ?_ ?_
        · rintro j x G G' hj ⟨sG, hG⟩ ⟨U, x1, y1, rfl, hU, rfl, hx, hy⟩
          obtain rfl := item hj hx
          obtain rfl := item (by omega) hy
          refine ⟨U, _, rfl, SqT.of upd_same, rfl, _, _, rfl, _, _, rfl, rfl, rfl, ?_⟩
          refine ⟨_, rfl, _, rfl, _, _, rfl, rfl, _, rfl, ite2 (fun h1 => ?_) (fun h1 => ?_)⟩
          · have c : xs.getD j 0 < ys.getD j 0 := of_decide_eq_true h1
            refine ⟨_, rfl, _, (upd_ne (ne_of_none hG hU)).trans hG, ?_, NF.Same.mut (NF.Same.new sG hU) hD, ?_⟩
            · rw [vI_len, List.length_take]
              exact Nat.lt_of_le_of_lt (show min j _ ≤ 100000 by omega) (by decide)
            · rw [upd_same, List.take_add_one, zg hj, ← vI_app, show cho false (xs.getD j 0) (ys.getD j 0) = xs.getD j 0 from if_pos c]
              rfl
          · have c : ¬ xs.getD j 0 < ys.getD j 0 := fun z => h1 (decide_eq_true z)
            refine ⟨_, rfl, _, (upd_ne (ne_of_none hG hU)).trans hG, ?_, NF.Same.mut (NF.Same.new sG hU) hD, ?_⟩
            · rw [vI_len, List.length_take]
              exact Nat.lt_of_le_of_lt (show min j _ ≤ 100000 by omega) (by decide)
            · rw [upd_same, List.take_add_one, zg hj, ← vI_app, show cho false (xs.getD j 0) (ys.getD j 0) = ys.getD j 0 from if_neg c]
              rfl
        · rintro G ⟨sG, hG⟩
          rw [List.take_of_length_le (by omega)] at hG
          exact ⟨D, _, rfl, Or.inl (SqL.of hG), fun p H' s' t' => q p H' (Same.trans sG s') t'⟩
      · refine .inr ⟨ha, fun D hD => ?_⟩
        refine lc_it (walk_zm (us := vI xs) (vs := vI ys) (by rw [vI_len, vI_len]; exact hlen)) (fun j G => Same H G ∧ G D = some (.lst (vI ((List.zipWith (cho false) xs ys).take j)))) ⟨NF.Same.new (Same.refl H) hD, upd_same⟩ (fun j G _ z => ⟨NF.Same.tup z.1 ha, L2.Same.seq z.1 hb⟩) ?_ ?_
        · rintro j x G G' hj ⟨sG, hG⟩ ⟨U, x1, y1, rfl, hU, rfl, hx, hy⟩
          rw [vI_len] at hj
          obtain rfl := item hj hx
          obtain rfl := item (by omega) hy
          refine ⟨U, _, rfl, SqT.of upd_same, rfl, _, _, rfl, _, _, rfl, rfl, rfl, ?_⟩
          refine ⟨_, rfl, _, rfl, _, _, rfl, rfl, _, rfl, ite2 (fun h1 => ?_) (fun h1 => ?_)⟩
          · have c : xs.getD j 0 < ys.getD j 0 := of_decide_eq_true h1
            refine ⟨_, rfl, _, (upd_ne (ne_of_none hG hU)).trans hG, ?_, NF.Same.mut (NF.Same.new sG hU) hD, ?_⟩
            · rw [vI_len, List.length_take]
              exact Nat.lt_of_le_of_lt (show min j _ ≤ 100000 by omega) (by decide)
            · rw [upd_same, List.take_add_one, zg hj, ← vI_app, show cho false (xs.getD j 0) (ys.getD j 0) = xs.getD j 0 from if_pos c]
              rfl
          · have c : ¬ xs.getD j 0 < ys.getD j 0 := fun z => h1 (decide_eq_true z)
            refine ⟨_, rfl, _, (upd_ne (ne_of_none hG hU)).trans hG, ?_, NF.Same.mut (NF.Same.new sG hU) hD, ?_⟩
            · rw [vI_len, List.length_take]
              exact Nat.lt_of_le_of_lt (show min j _ ≤ 100000 by omega) (by decide)
            · rw [upd_same, List.take_add_one, zg hj, ← vI_app, show cho false (xs.getD j 0) (ys.getD j 0) = ys.getD j 0 from if_neg c]
              rfl
        · rintro G ⟨sG, hG⟩
          rw [vI_len, List.take_of_length_le (by omega)] at hG
          exact ⟨D, _, rfl, Or.inl (SqL.of hG), fun p H' s' t' => q p H' (Same.trans sG s') t'⟩
end
end K05
set_option linter.all false
set_option maxHeartbeats 4000000
/-! Which of two loops climbs faster; the tellings of the greater and of the lesser one. Plain Lean. -/
namespace NT
/-- the shared rest of two ways -/
theorem shr {X R : Prop} (h1 : R → X) (h2 : R) : X := h1 h2
section
variable {h l h1 l1 h2 l2 : List Int} {r r1 r2 : Int}
theorem num_walk (hl : l ≠ []) {n : Nat} (hn : h.length < n) : num h l r n = walk l r (n - h.length - 1) := by
  unfold num
  rw [at_loop hl hn]
  rfl
theorem num_per (hl : l ≠ []) {n : Nat} (hn : h.length < n) (j : Nat) : num h l r (n + l.length * j) = num h l r n + r * (j : Int) := by
  rw [num_walk hl hn, num_walk hl (by omega), show n + l.length * j - h.length - 1 = (n - h.length - 1) + l.length * j by omega, walk_add_mul (len_pos hl)]
theorem walk_seg (hl : l ≠ []) {st : Nat} (hs : h.length ≤ st) (s : Nat) : walk (segN (at_ h l r) st l.length) r s = num h l r (st + 1 + s) := by
  have l0 := len_pos hl
  have e : st + 1 + s = (st + s % l.length + 1) + l.length * (s / l.length) := by
    have := Nat.mod_add_div s l.length
    omega
  rw [e, num_per hl (by omega)]
  unfold walk
  rw [segN_len, segN_get (Nat.mod_lt _ l0)]
  rfl
theorem leO_num (n1 : l1 ≠ []) (n2 : l2 ≠ []) (n : Nat) : leO (at_ h1 l1 r1 n) (at_ h2 l2 r2 n) ↔ num h1 l1 r1 n ≤ num h2 l2 r2 n := by
  rw [at_some n (.inr n1), at_some n (.inr n2)]
  constructor
  · intro h
    rcases h with h | ⟨x, y, e1, e2, h⟩
    · cases h
    · injection e1 with e1
      injection e2 with e2
      omega
  · intro h
    exact .inr ⟨_, _, rfl, rfl, h⟩
theorem two_laps (n1 : l1 ≠ []) (n2 : l2 ≠ []) {n : Nat} (b1 : h1.length < n) (b2 : h2.length < n) (t : Nat) :
    num h1 l1 r1 (n + l1.length * l2.length * t) - num h2 l2 r2 (n + l1.length * l2.length * t) = num h1 l1 r1 n - num h2 l2 r2 n + (r1 * (l2.length : Int) - r2 * (l1.length : Int)) * (t : Int) := by
  have e1 := num_per (h := h1) (r := r1) n1 b1 (l2.length * t)
  have e2 := num_per (h := h2) (r := r2) n2 b2 (l1.length * t)
  rw [← Nat.mul_assoc] at e1 e2
  rw [Nat.mul_comm l2.length l1.length] at e2
  rw [e1, e2, Int.natCast_mul, Int.natCast_mul, ← Int.mul_assoc, ← Int.mul_assoc, Int.sub_mul]
  omega
theorem dom_drift (n1 : l1 ≠ []) (n2 : l2 ≠ []) {N : Nat} (b1 : h1.length ≤ N) (b2 : h2.length ≤ N) (d : Dom (at_ h1 l1 r1) (at_ h2 l2 r2) N) (hd : 0 < r1 * (l2.length : Int) - r2 * (l1.length : Int)) {n : Nat} (hn : N < n) : num h2 l2 r2 n ≤ num h1 l1 r1 n := by
  rcases d with d | d | ⟨m, c, hm, d⟩
  · exfalso
    have e := two_laps (h1 := h1) (h2 := h2) (r1 := r1) (r2 := r2) (n := n) n1 n2 (by omega) (by omega) ((num h2 l2 r2 n - num h1 l1 r1 n).toNat + 1)
    have k := (leO_num n1 n2 _).mp (d (n + l1.length * l2.length * ((num h2 l2 r2 n - num h1 l1 r1 n).toNat + 1)) (by omega))
    have k0 := (leO_num n1 n2 _).mp (d n hn)
    generalize r1 * (l2.length : Int) - r2 * (l1.length : Int) = D at e hd
    generalize ht : (num h2 l2 r2 n - num h1 l1 r1 n).toNat + 1 = t at e k
    have h3 : 1 * (t : Int) ≤ D * (t : Int) := Int.mul_le_mul_of_nonneg_right (by omega) (by omega)
    omega
  · exact (leO_num n2 n1 _).mp (d n hn)
  · exfalso
    have p1 := par_mul (F := at_ h1 l1 r1) (N := N) (m := m) (c := c) (fun n hn => by obtain ⟨u, v, a, b, x, y⟩ := d n hn; exact ⟨u, a, x⟩) (l1.length * l2.length) n hn
    have p2 := par_mul (F := at_ h2 l2 r2) (N := N) (m := m) (c := c) (fun n hn => by obtain ⟨u, v, a, b, x, y⟩ := d n hn; exact ⟨v, b, y⟩) (l1.length * l2.length) n hn
    obtain ⟨u, a1, a2⟩ := p1
    obtain ⟨v, c1, c2⟩ := p2
    rw [at_some _ (.inr n1)] at a1 a2
    rw [at_some _ (.inr n2)] at c1 c2
    injection a1 with a1
    injection a2 with a2
    injection c1 with c1
    injection c2 with c2
    have e := two_laps (h1 := h1) (h2 := h2) (r1 := r1) (r2 := r2) (n := n) n1 n2 (by omega) (by omega) m
    rw [show l1.length * l2.length * m = m * (l1.length * l2.length) by rw [Nat.mul_comm]] at e
    generalize r1 * (l2.length : Int) - r2 * (l1.length : Int) = D at e hd
    have h3 : 0 < D * (m : Int) := Int.mul_pos hd (by omega)
    omega
/-! ### tellings of both, of either -/
theorem zip_seg {F G : Nat → Option Int} {g : Bool} {a m : Nat} (hF : ∀ n, a < n → n ≤ a + m → F n ≠ none) (hG : ∀ n, a < n → n ≤ a + m → G n ≠ none) : List.zipWith (cho g) (segN F a m) (segN G a m) = segN (fun n => chO g (F n) (G n)) a m := by
  induction m with
  | zero => rfl
  | succ m ih =>
    rw [segN_succ, segN_succ, segN_succ, List.zipWith_append (by rw [segN_len, segN_len]), ih (fun n h k => hF n h (by omega)) fun n h k => hG n h (by omega)]
    congr 1
    show [cho g (numF F (a + m + 1)) (numF G (a + m + 1))] = [numF (fun n => chO g (F n) (G n)) (a + m + 1)]
    have e : chO g (F (a + m + 1)) (G (a + m + 1)) = some (cho g (numF F (a + m + 1)) (numF G (a + m + 1))) := by
      rw [numF_some (hF (a + m + 1) (by omega) (by omega)), numF_some (hG (a + m + 1) (by omega) (by omega)), chO_some]
    congr 1
    show _ = (chO g (F (a + m + 1)) (G (a + m + 1))).getD 0
    rw [e]
    rfl
/-- a row that goes on as a loop goes on -/
theorem tail_form {F : Nat → Option Int} (A : Asc F) (hl : l ≠ []) {N : Nat} (hN : h.length ≤ N) (s : ∀ n, 1 ≤ n → F n ≠ none) (e : ∀ n, N < n → F n = at_ h l r n) :
    Good (segN F 0 N) (segN (at_ h l r) N l.length) r ∧ ∀ n, 1 ≤ n → at_ (segN F 0 N) (segN (at_ h l r) N l.length) r n = F n := by
  have es : segN (at_ h l r) N l.length = segN F N l.length := by
    unfold segN
    refine List.map_congr_left fun k hk => ?_
    unfold numF
    rw [e (N + k + 1) (by omega)]
  rw [es]
  refine looped A (len_pos hl) s fun n hn => ?_
  unfold numF
  rw [e n hn, e (n + l.length) (by omega)]
  have := num_per (h := h) (r := r) hl (show h.length < n by omega) 1
  rw [Nat.mul_one] at this
  unfold num at this
  rw [this]
  omega
theorem lcm_laps (n1 : l1 ≠ []) (n2 : l2 ≠ []) (e : r1 * (l2.length : Int) = r2 * (l1.length : Int)) {n : Nat} (b1 : h1.length < n) (b2 : h2.length < n) :
    num h1 l1 r1 (n + Nat.lcm l1.length l2.length) = num h1 l1 r1 n + r1 * ((Nat.lcm l1.length l2.length : Nat) : Int) / (l1.length : Int) ∧ num h2 l2 r2 (n + Nat.lcm l1.length l2.length) = num h2 l2 r2 n + r1 * ((Nat.lcm l1.length l2.length : Nat) : Int) / (l1.length : Int) := by
  obtain ⟨p, hp⟩ := Nat.dvd_lcm_left l1.length l2.length
  obtain ⟨q, hq⟩ := Nat.dvd_lcm_right l1.length l2.length
  have l10 := len_pos n1
  have l20 := len_pos n2
  have c1 : r1 * ((Nat.lcm l1.length l2.length : Nat) : Int) / (l1.length : Int) = r1 * (p : Int) := by
    rw [hp, Int.natCast_mul, Int.mul_left_comm]
    exact Int.mul_ediv_cancel_left _ (by omega)
  have c2 : r1 * (p : Int) = r2 * (q : Int) := by
    have h3 : (l1.length : Int) * (p : Int) = (l2.length : Int) * (q : Int) := by rw [← Int.natCast_mul, ← Int.natCast_mul, ← hp, ← hq]
    refine Int.eq_of_mul_eq_mul_left (a := (l1.length : Int)) (by omega) ?_
    calc (l1.length : Int) * (r1 * (p : Int)) = r1 * ((l1.length : Int) * (p : Int)) := Int.mul_left_comm ..
      _ = r1 * ((l2.length : Int) * (q : Int)) := by rw [h3]
      _ = r1 * (l2.length : Int) * (q : Int) := (Int.mul_assoc ..).symm
      _ = r2 * (l1.length : Int) * (q : Int) := by rw [e]
      _ = (l1.length : Int) * (r2 * (q : Int)) := by rw [Int.mul_comm r2, Int.mul_assoc]
  refine ⟨?_, ?_⟩
  · rw [c1, hp, num_per n1 b1]
  · rw [c1, c2]
    conv => lhs; rw [hq]
    rw [num_per n2 b2]
/-- two rows side by side: the lap is the least common one -/
theorem side_form {g : Bool} (g1 : Good h1 l1 r1) (g2 : Good h2 l2 r2) (n1 : l1 ≠ []) (n2 : l2 ≠ []) (e : r1 * (l2.length : Int) = r2 * (l1.length : Int)) {N : Nat} (b1 : h1.length ≤ N) (b2 : h2.length ≤ N) :
    Good (segN (fun n => chO g (at_ h1 l1 r1 n) (at_ h2 l2 r2 n)) 0 N) (segN (fun n => chO g (at_ h1 l1 r1 n) (at_ h2 l2 r2 n)) N (Nat.lcm l1.length l2.length)) (r1 * ((Nat.lcm l1.length l2.length : Nat) : Int) / (l1.length : Int)) ∧
    ∀ n, 1 ≤ n → at_ (segN (fun n => chO g (at_ h1 l1 r1 n) (at_ h2 l2 r2 n)) 0 N) (segN (fun n => chO g (at_ h1 l1 r1 n) (at_ h2 l2 r2 n)) N (Nat.lcm l1.length l2.length)) (r1 * ((Nat.lcm l1.length l2.length : Nat) : Int) / (l1.length : Int)) n = chO g (at_ h1 l1 r1 n) (at_ h2 l2 r2 n) := by
  have A := asc_cho (asc_at g1) (asc_at g2) g
  have eq : ∀ n, chO g (at_ h1 l1 r1 n) (at_ h2 l2 r2 n) = some (cho g (num h1 l1 r1 n) (num h2 l2 r2 n)) := fun n => by rw [at_some n (.inr n1), at_some n (.inr n2), chO_some]
  refine looped A (Nat.lcm_pos (len_pos n1) (len_pos n2)) (fun n _ => by show chO g _ _ ≠ none; rw [eq]; exact fun z => by cases z) fun n hn => ?_
  unfold numF
  dsimp only
  rw [eq, eq]
  obtain ⟨x1, x2⟩ := lcm_laps (h1 := h1) (h2 := h2) n1 n2 e (n := n) (by omega) (by omega)
  show cho g _ _ = cho g _ _ + _
  rw [x1, x2, cho_add]
end
end NT
set_option Elab.async false
set_option linter.all false
set_option maxRecDepth 100000
set_option maxHeartbeats 4000000
namespace NT
theorem GreatP.congr {P P' : Nat → Prop} {o : Option Nat} (h : GreatP P o) (e : ∀ s, P' s = P s) : GreatP P' o := by
  rw [show P' = P from funext e]
  exact h
theorem LeastP.congr {P P' : Nat → Prop} {o : Option Nat} (h : LeastP P o) (e : ∀ s, P' s = P s) : LeastP P' o := by
  rw [show P' = P from funext e]
  exact h
def outL (lead : Nat) : Option Nat → Nat
  | none => lead
  | some s => lead + 1 + s
theorem last_out {F G : Nat → Int} {lead N : Nat} {o : Option Nat} (g : GreatP (fun s => 0 < F (lead + 1 + s) - G (lead + 1 + s)) o) (hN : lead ≤ N) (d : ∀ n, N < n → F n ≤ G n) : ∃ lead', lead' = outL lead o ∧ lead ≤ lead' ∧ lead' ≤ N ∧ ∀ n, lead' < n → F n ≤ G n := by
  refine ⟨_, rfl, ?_⟩
  cases o with
  | none =>
    refine ⟨Nat.le_refl _, hN, fun n hn => ?_⟩
    have hn : lead < n := hn
    have this : ¬ 0 < F (lead + 1 + (n - (lead + 1))) - G (lead + 1 + (n - (lead + 1))) := g (n - (lead + 1))
    rw [show lead + 1 + (n - (lead + 1)) = n by omega] at this
    omega
  | some s =>
    show lead ≤ lead + 1 + s ∧ lead + 1 + s ≤ N ∧ ∀ n, lead + 1 + s < n → F n ≤ G n
    refine ⟨by omega, Nat.le_of_not_lt fun z => ?_, fun n hn => ?_⟩
    · have h1 := g.1
      have h2 := d _ z
      dsimp only at h1
      omega
    · have this : ¬ 0 < F (lead + 1 + (n - (lead + 1))) - G (lead + 1 + (n - (lead + 1))) := g.2 (n - (lead + 1)) (by omega)
      rw [show lead + 1 + (n - (lead + 1)) = n by omega] at this
      omega
end NT
namespace K05
open PySem PySem.Spec PyProof.Rows L2 He NF RZ NT
abbrev Y := List Int × List Int × Int
/-- a table whose loop can be chased -/
structure Fit (y : Y) : Prop where
  g : Good y.1 y.2.1 y.2.2
  h : y.1.length ≤ 10000
  l : y.2.1.length ≤ 400
  r : y.2.2 ≤ 100000
abbrev atY (y : Y) (n : Nat) : Option Int := at_ y.1 y.2.1 y.2.2 n
abbrev numY (y : Y) (n : Nat) : Int := num y.1 y.2.1 y.2.2 n
theorem lead_is {y1 y2 : Y} {A B : List Int} {a b : Int} {st : Nat} (n1 : y1.2.1 ≠ []) (n2 : y2.2.1 ≠ []) (b1 : y1.1.length ≤ st) (b2 : y2.1.length ≤ st) (c : Cond y1.2.1 y2.2.1 y1.2.2 y2.2.2 (segN (atY y1) st y1.2.1.length) (segN (atY y2) st y2.2.1.length) A B a b) (s : Nat) :
    leadD A a B b s = numY y1 (st + 1 + s) - numY y2 (st + 1 + s) := by
  have w1 := walk_seg (r := y1.2.2) n1 b1 s
  have w2 := walk_seg (r := y2.2.2) n2 b2 s
  have ng : ∀ (l : List Int) (r : Int), walk (l.map (- ·)) (-r) s = - walk l r s := fun l r => by
    unfold walk
    rw [List.length_map, List.getD_eq_getElem?_getD, List.getD_eq_getElem?_getD, List.getElem?_map]
    cases l[s % l.length]? with
    | none => show 0 + -r * _ = -(0 + r * _); rw [Int.neg_mul]; omega
    | some v => show -v + -r * _ = -(v + r * _); rw [Int.neg_mul]; omega
  unfold leadD numY
  rcases c with ⟨_, rfl, rfl, rfl, rfl⟩ | ⟨_, rfl, rfl, rfl, rfl⟩
  · rw [w1, w2]
  · rw [ng, ng, w1, w2]
    omega
theorem cond_len {y1 y2 : Y} {A B : List Int} {a b : Int} {st : Nat} (f1 : Fit y1) (f2 : Fit y2) (c : Cond y1.2.1 y2.2.1 y1.2.2 y2.2.2 (segN (atY y1) st y1.2.1.length) (segN (atY y2) st y2.2.1.length) A B a b) :
    A.length ≤ 400 ∧ B.length ≤ 400 ∧ -100000 ≤ a ∧ a ≤ 100000 ∧ -100000 ≤ b ∧ b ≤ 100000 ∧ a * (B.length : Int) - b * (A.length : Int) = y1.2.2 * (y2.2.1.length : Int) - y2.2.2 * (y1.2.1.length : Int) := by
  have r1 := f1.g.r0
  have r2 := f2.g.r0
  have q1 := f1.r
  have q2 := f2.r
  have m1 := f1.l
  have m2 := f2.l
  rcases c with ⟨_, rfl, rfl, rfl, rfl⟩ | ⟨_, rfl, rfl, rfl, rfl⟩
  · rw [segN_len, segN_len]
    exact ⟨m1, m2, by omega, by omega, by omega, by omega, rfl⟩
  · rw [List.length_map, List.length_map, segN_len, segN_len]
    exact ⟨m2, m1, by omega, by omega, by omega, by omega, by rw [Int.neg_mul, Int.neg_mul]; omega⟩
theorem made_same {H : Hp} {x dx : Addr} {o o' : HO} (nx : H x = none) (nd : H dx = none) : Same H (upd (upd H dx o) x o') := fun b u e => by
  rw [upd_ne (ne_of_none e nx), upd_ne (ne_of_none e nd)]
  exact e
def spSettling (K : PySem.W.Frag) (C : Addr) : Sp := fun vs H Q _ => ∃ (x1 x2 : Addr) (y1 y2 : Y) (N : Nat), vs = [.ref x1, .ref x2] ∧ TabAt K C H x1 y1 ∧ TabAt K C H x2 y2 ∧ Fit y1 ∧ Fit y2 ∧ y1.2.1 ≠ [] ∧ y2.2.1 ≠ [] ∧ y1.1.length ≤ N ∧ y2.1.length ≤ N ∧ Dom (atY y1) (atY y2) N ∧
  ∀ p (lead : Nat) u v H', Same H H' → SqT K H' p [.int (lead : Int), u, v] → y1.1.length ≤ lead → y2.1.length ≤ lead → lead ≤ N →
    ((u = .ref x1 ∧ v = .ref x2 ∧ ∀ n, lead < n → numY y1 n ≤ numY y2 n) ∨ (u = .ref x2 ∧ v = .ref x1 ∧ ∀ n, lead < n → numY y2 n ≤ numY y1 n) ∨ (u = .non ∧ v = .non ∧ y1.2.2 * (y2.2.1.length : Int) = y2.2.2 * (y1.2.1.length : Int))) → Q (.ref p) H'
theorem sc_settling : FnScope ["first", "second", "lead", "chase"] ["first", "second"] (defScope s_settling) := ⟨rfl, rfl, rfl, by decide +kernel, rfl, by decide +kernel, by decide +kernel⟩
section
variable {P : Program} {w : World} {K : PySem.W.Frag} {mg : Str → Option Value} {base : Heap} {gs fs : List Str} {C CC : Addr}
theorem ok_settling {f : Addr} {fd : FuncData} (F : FunD K "settling" "settling" (defArgs s_settling) (defBody s_settling) (defScope s_settling) [] [] f fd) (T : Txt K mg gs FS) (c_longest_head : Cal P w K mg base 1 "longest_head" (spLongest K C)) (c_drift_of : Cal P w K mg base 1 "drift_of" (spDrift K C)) (m_Chase : Mak P w K mg base 3 0 "Chase" CC (spChase K C CC) []) (o_last_lead : MetC P w K mg base 2 CC "last_lead" (spLastL K CC)) (o_first_lead : MetC P w K mg base 2 CC "first_lead" (spFirst K CC)) : FnOk P w K mg base CX0 5 f fd ["first", "second"] (spSettling K C) := by
  refine F.ok sc_settling (fun vs H Q E h => ?_) (fun cdv A outer s H vs Q E hr h => ?_)
  · obtain ⟨x1, x2, y1, y2, N, rfl, _⟩ := h
    rfl
  · obtain ⟨x1, x2, y1, y2, N, rfl, tb1, tb2, f1, f2, n1, n2, hN1, hN2, dom, q⟩ := h
    refine ⟨_, PSs.nox (pss_cons (ps_set (i := 2) sc_settling.nd rfl (Or.inl rfl) (pe_c c_longest_head hr (by decide) rfl (pa_cons (pv 0) (pa_cons (pv 1) pa_nil)))) (pss_cons (ps_if (pt_cmpR op_gt (pe_c c_drift_of hr (by decide) rfl (pa_cons (pv 0) (pa_cons (pv 1) pa_nil))) pe_int (nomark _)) (pss_one (ps_ret (pe_tup (pa_cons (pe_callB (call_max2 rfl) rfl (T.fr _ (by decide +kernel)) (by decide +kernel) (pa_cons (pv 2) (pa_cons (pe_orT (pe_mt0 (pe_mk m_Chase hr (by decide) rfl (pa_cons (pv 1) (pa_cons (pv 0) (pa_cons (pv 2) pa_nil)))) o_last_lead hr (by decide)) (pe_one pe_int)) pa_nil))) (pa_cons (pv 1) (pa_cons (pv 0) pa_nil)))))) pss_nil) (pss_cons (ps_set (i := 3) sc_settling.nd rfl (Or.inl rfl) (pe_mk m_Chase hr (by decide) rfl (pa_cons (pv 0) (pa_cons (pv 1) (pa_cons (pv 2) pa_nil))))) (pss_cons (ps_if (pt_cmpR op_lt (pe_c c_drift_of hr (by decide) rfl (pa_cons (pv 0) (pa_cons (pv 1) pa_nil))) pe_int (nomark _)) (pss_one (ps_ret (pe_tup (pa_cons (pe_callB (call_max2 rfl) rfl (T.fr _ (by decide +kernel)) (by decide +kernel) (pa_cons (pv 2) (pa_cons (pe_orT (pe_mt0 (pv 3) o_last_lead hr (by decide)) (pe_one pe_int)) pa_nil))) (pa_cons (pv 0) (pa_cons (pv 1) pa_nil)))))) pss_nil) (pss_cons (ps_if (pt_cmpR op_isN (pe_mt (pv 3) o_first_lead hr (by decide) (pa_cons pe_int pa_nil)) pe_non (nomark _)) (pss_one (ps_ret (pe_tup (pa_cons (pv 2) (pa_cons (pv 0) (pa_cons (pv 1) pa_nil)))))) pss_nil) (pss_cons (ps_if (pt_cmpR op_isN (pe_mt (pe_mk m_Chase hr (by decide) rfl (pa_cons (pv 1) (pa_cons (pv 0) (pa_cons (pv 2) pa_nil)))) o_first_lead hr (by decide) (pa_cons pe_int pa_nil)) pe_non (nomark _)) (pss_one (ps_ret (pe_tup (pa_cons (pv 2) (pa_cons (pv 1) (pa_cons (pv 0) pa_nil)))))) pss_nil) (pss_one (ps_ret (pe_tup (pa_cons (pv 2) (pa_cons pe_non (pa_cons pe_non pa_nil)))))))))))), ?_⟩
    have l1 := f1.l
    have l2 := f2.l
    have k1 := f1.h
    have k2 := f2.h
    have r1 := f1.r
    have r2 := f2.r
    have r10 := f1.g.r0
    have r20 := f2.g.r0
    have sm1 : Small y1 := ⟨f1.h, by omega, r10, by omega⟩
    have sm2 : Small y2 := ⟨f2.h, by omega, r20, by omega⟩
    refine ⟨_, rfl, _, rfl, x1, x2, y1, y2, rfl, tb1, tb2, ?_⟩
    obtain ⟨lead, hlead⟩ : ∃ lead, lead = max y1.1.length y2.1.length := ⟨_, rfl⟩
    rw [← hlead]
    refine ⟨_, rfl, _, rfl, x1, x2, y1, y2, rfl, tb1, tb2, sm1, sm2, _, _, rfl, rfl, _, rfl, ite2 (fun c1 => ?T1) (fun c1 => ?F1)⟩
    case T1 =>
      have c : 0 < y1.2.2 * (y2.2.1.length : Int) - y2.2.2 * (y1.2.1.length : Int) := of_decide_eq_true c1
      refine ⟨_, rfl, _, rfl, _, rfl, _, rfl, fun x dx nx nd ne => ?_⟩
      refine ⟨x, dx, x2, x1, y2, y1, lead, rfl, upd_same, tb2.mono (made_same nx nd), tb1.mono (made_same nx nd), n2, n1, r20, r2, r10, r1, k2, l2, k1, l1, by omega, fun A' a B b H1 cond s1 ch => ⟨rfl, ?_⟩⟩
      have s1' := same_made nx nd s1
      obtain ⟨cA, cB, ca0, ca1, cb0, cb1, cd⟩ := cond_len f2 f1 cond
      obtain ⟨dx2, lp, rp, lvs, g, W, V_, S, hx, _⟩ := id ch
      refine ⟨x, dx2, _, rfl, hx, rfl, ?_⟩
      refine ⟨x, lead, A', B, a, b, rfl, ch, cA, cB, ca0, ca1, cb0, cb1, by omega, fun o H2 gp s2 => ?_⟩
      have ls := lead_is n2 n1 (by omega) (by omega) cond
      have gp2 : GreatP (fun s => 0 < numY y2 (lead + 1 + s) - numY y1 (lead + 1 + s)) o := by
        refine gp.congr fun s => ?_
        rw [ls s]
      obtain ⟨lead', hl, l1', l2', l3'⟩ := last_out (F := numY y2) (G := numY y1) (N := N) gp2 (by omega) fun n hn => dom_drift n1 n2 hN1 hN2 dom (by omega) hn
      have nz : ∀ s3 : Nat, ((((lead + 1 + s3 : Nat) : Int)) != 0) = true := fun s3 => by
        rw [bne_iff_ne]
        omega
      have en : o = none → (if (0 : Int) > (lead : Int) then (0 : Int) else (lead : Int)) = (lead' : Int) := fun z => by
        rw [if_neg (by omega), hl, z]
        rfl
      have es : ∀ s3, o = some s3 → (if ((lead + 1 + s3 : Nat) : Int) > (lead : Int) then ((lead + 1 + s3 : Nat) : Int) else (lead : Int)) = (lead' : Int) := fun s3 z => by
        rw [if_pos (by omega), hl, z]
        rfl
      refine' shr (fun kk => ?A) ?B
      case A =>
        cases o with
        | none =>
          refine ⟨false, rfl, iteF ⟨_, _, rfl, ?_⟩⟩
          rw [en rfl]
          exact kk
        | some s3 =>
          refine ⟨true, (nz s3).symm, iteT ⟨_, _, rfl, ?_⟩⟩
          rw [es s3 rfl]
          exact kk
      case B =>
        refine ⟨_, rfl, _, rfl, (by show 3 ≤ sizeLine; decide), fun p hp => ?_⟩
        exact q p lead' _ _ _ (Same.trans s1' (Same.trans s2 (NF.Same.new (Same.refl H2) hp))) (SqT.of upd_same) (by omega) (by omega) l2' (.inr (.inl ⟨rfl, rfl, l3'⟩))
    case F1 =>
      have c : ¬ 0 < y1.2.2 * (y2.2.1.length : Int) - y2.2.2 * (y1.2.1.length : Int) := fun z => c1 (decide_eq_true z)
      refine ⟨_, rfl, _, rfl, _, rfl, fun x dx nx nd ne => ?_⟩
      refine ⟨x, dx, x1, x2, y1, y2, lead, rfl, upd_same, tb1.mono (made_same nx nd), tb2.mono (made_same nx nd), n1, n2, r10, r1, r20, r2, k1, l1, k2, l2, by omega, fun A' a B b H1 cond s1 ch => ⟨rfl, ?_⟩⟩
      have s1' := same_made nx nd s1
      obtain ⟨cA, cB, ca0, ca1, cb0, cb1, cd⟩ := cond_len f1 f2 cond
      have ls := lead_is n1 n2 (by omega) (by omega) cond
      obtain ⟨dx2, lp, rp, lvs, g, W, V_, S, hx, _⟩ := id ch
      refine ⟨_, rfl, _, rfl, x1, x2, y1, y2, rfl, tb1.mono s1', tb2.mono s1', sm1, sm2, _, _, rfl, rfl, _, rfl, ite2 (fun c2 => ?T2) (fun c2 => ?F2)⟩
      case T2 =>
        have c2 : y1.2.2 * (y2.2.1.length : Int) - y2.2.2 * (y1.2.1.length : Int) < 0 := of_decide_eq_true c2
        refine ⟨_, rfl, _, rfl, x, dx2, _, rfl, hx, rfl, ?_⟩
        refine ⟨x, lead, A', B, a, b, rfl, ch, cA, cB, ca0, ca1, cb0, cb1, by omega, fun o H2 gp s2 => ?_⟩
        have gp2 : GreatP (fun s => 0 < numY y1 (lead + 1 + s) - numY y2 (lead + 1 + s)) o := by
          refine gp.congr fun s => ?_
          rw [ls s]
        obtain ⟨lead', hl, l1', l2', l3'⟩ := last_out (F := numY y1) (G := numY y2) (N := N) gp2 (by omega) fun n hn => dom_drift n2 n1 hN2 hN1 dom.symm (by omega) hn
        have nz : ∀ s3 : Nat, ((((lead + 1 + s3 : Nat) : Int)) != 0) = true := fun s3 => by
          rw [bne_iff_ne]
          omega
        have en : o = none → (if (0 : Int) > (lead : Int) then (0 : Int) else (lead : Int)) = (lead' : Int) := fun z => by
          rw [if_neg (by omega), hl, z]
          rfl
        have es : ∀ s3, o = some s3 → (if ((lead + 1 + s3 : Nat) : Int) > (lead : Int) then ((lead + 1 + s3 : Nat) : Int) else (lead : Int)) = (lead' : Int) := fun s3 z => by
          rw [if_pos (by omega), hl, z]
          rfl
        refine' shr (fun kk => ?A2) ?B2
        case A2 =>
          cases o with
          | none =>
            refine ⟨false, rfl, iteF ⟨_, _, rfl, ?_⟩⟩
            rw [en rfl]
            exact kk
          | some s3 =>
            refine ⟨true, (nz s3).symm, iteT ⟨_, _, rfl, ?_⟩⟩
            rw [es s3 rfl]
            exact kk
        case B2 =>
          refine ⟨_, rfl, _, rfl, (by show 3 ≤ sizeLine; decide), fun p hp => ?_⟩
          exact q p lead' _ _ _ (Same.trans s1' (Same.trans s2 (NF.Same.new (Same.refl H2) hp))) (SqT.of upd_same) (by omega) (by omega) l2' (.inl ⟨rfl, rfl, l3'⟩)
      case F2 =>
        have c2 : ¬ y1.2.2 * (y2.2.1.length : Int) - y2.2.2 * (y1.2.1.length : Int) < 0 := fun z => c2 (decide_eq_true z)
        have e0 : y1.2.2 * (y2.2.1.length : Int) = y2.2.2 * (y1.2.1.length : Int) := by omega
        refine ⟨_, rfl, x, dx2, _, rfl, hx, rfl, ?_⟩
        refine ⟨x, lead, A', B, a, b, 0, rfl, ch, cA, cB, ca0, ca1, cb0, cb1, fun o H2 gp s2 => ?_⟩
        have s2' := Same.trans s1' s2
        refine ⟨rfl, _, rfl, ?_⟩
        cases o with
        | none =>
          refine iteT' (decide_eq_true rfl) ?_
          refine ⟨_, rfl, _, rfl, _, rfl, (by show 3 ≤ sizeLine; decide), fun p hp => ?_⟩
          refine q p lead _ _ _ (Same.trans s2' (NF.Same.new (Same.refl H2) hp)) (SqT.of upd_same) (by omega) (by omega) (by omega) (.inl ⟨rfl, rfl, fun n hn => ?_⟩)
          have := gp (n - (lead + 1))
          dsimp only at this
          rw [ls, show lead + 1 + (n - (lead + 1)) = n by omega] at this
          omega
        | some s3 =>
          refine iteF' (decide_eq_false fun z => by cases z) ?_
          refine ⟨_, rfl, _, rfl, _, rfl, fun x' dx' nx' nd' ne' => ?_⟩
          have tb1' := (tb1.mono s2').mono (made_same (o := .own x') (o' := .ins CC dx' []) nx' nd')
          have tb2' := (tb2.mono s2').mono (made_same (o := .own x') (o' := .ins CC dx' []) nx' nd')
          refine ⟨x', dx', x2, x1, y2, y1, lead, rfl, upd_same, tb2', tb1', n2, n1, r20, r2, r10, r1, k2, l2, k1, l1, by omega, fun A2 a2 B2 b2 H3 cond2 s3' ch2 => ⟨rfl, ?_⟩⟩
          have s4 := Same.trans s2' (same_made nx' nd' s3')
          obtain ⟨cA2, cB2, da0, da1, db0, db1, cd2⟩ := cond_len f2 f1 cond2
          have ls2 := lead_is n2 n1 (by omega) (by omega) cond2
          obtain ⟨dx3, lp3, rp3, lvs3, g3, W3, V3, S3, hx3, _⟩ := id ch2
          refine ⟨x', dx3, _, rfl, hx3, rfl, ?_⟩
          refine ⟨x', lead, A2, B2, a2, b2, 0, rfl, ch2, cA2, cB2, da0, da1, db0, db1, fun o H4 gp2 s5 => ?_⟩
          have s6 := Same.trans s4 s5
          refine ⟨rfl, _, rfl, ?_⟩
          cases o with
          | none =>
            refine iteT' (decide_eq_true rfl) ?_
            refine ⟨_, rfl, _, rfl, _, rfl, (by show 3 ≤ sizeLine; decide), fun p hp => ?_⟩
            refine q p lead _ _ _ (Same.trans s6 (NF.Same.new (Same.refl H4) hp)) (SqT.of upd_same) (by omega) (by omega) (by omega) (.inr (.inl ⟨rfl, rfl, fun n hn => ?_⟩))
            have := gp2 (n - (lead + 1))
            dsimp only at this
            rw [ls2, show lead + 1 + (n - (lead + 1)) = n by omega] at this
            omega
          | some s7 =>
            refine iteF' (decide_eq_false fun z => by cases z) ?_
            refine ⟨_, rfl, (by show 3 ≤ sizeLine; decide), fun p hp => ?_⟩
            exact q p lead _ _ _ (Same.trans s6 (NF.Same.new (Same.refl H4) hp)) (SqT.of upd_same) (by omega) (by omega) (by omega) (.inr (.inr ⟨rfl, rfl, e0⟩))
end
end K05
set_option linter.all false
/-! math.lcm of two ints of at most 64 bits. -/
namespace NF
open PySem PySem.Spec PyProof.Rows L2 He RZ
def rLcm : List V → Hp → VK → Prop := fun vs H Q => ∃ a b : Int, vs = [.int a, .int b] ∧ a.natAbs < 2 ^ 64 ∧ b.natAbs < 2 ^ 64 ∧ Q (.int ((Nat.lcm a.natAbs b.natAbs : Nat) : Int)) H
theorem lcm_small {a b : Nat} (ha : a < 2 ^ 64) (hb : b < 2 ^ 64) : Nat.lcm a b < 2 ^ 128 := by
  rcases Nat.eq_zero_or_pos a with rfl | h0
  · rw [Nat.lcm_zero_left]; decide
  · have h1 : Nat.lcm a b ≤ a * b := Nat.div_le_self _ _
    have h2 : a * b ≤ 2 ^ 64 * b := Nat.mul_le_mul_right _ (Nat.le_of_lt ha)
    have h3 : 2 ^ 64 * b < 2 ^ 64 * 2 ^ 64 := Nat.mul_lt_mul_of_pos_left hb (by decide)
    omega
theorem cr_lcm {X : Cx} : CallR X (.builtin "math.lcm") rLcm := by
  intro pins s σ H vs us Q I r h
  obtain ⟨a, b, rfl, ha, hb, q⟩ := h
  obtain ⟨t, u, rfl⟩ := Vals.int2 r
  have e : (Nat.lcm 1 a.natAbs).lcm b.natAbs = Nat.lcm a.natAbs b.natAbs := by rw [Nat.lcm_one_left]
  refine PySem.W.mg_lcm ha hb ?_ ?_
  · rw [e, Int.natAbs_natCast]
    exact Nat.lt_of_le_of_lt (PySem.W.mg_log (k := 127) (lcm_small ha hb)) (by decide)
  · rw [e]
    exact ⟨.int _, H, I.tok _, ⟨_, rfl⟩, q⟩
end NF
set_option Elab.async false
set_option linter.all false
set_option maxRecDepth 100000
set_option maxHeartbeats 4000000
namespace K05
open PySem PySem.Spec PyProof.Rows L2 He NF RZ NT
/-- a bound of the laps of two tables put together -/
def lb (y1 y2 : Y) : Nat := max (Nat.lcm y1.2.1.length y2.2.1.length) (max y1.2.1.length y2.2.1.length)
/-- a form that tells the greater, or the lesser, one of two tables -/
structure Tell (g : Bool) (y1 y2 : Y) (N : Nat) (u : Y) : Prop where
  gd : Good u.1 u.2.1 u.2.2
  e : ∀ n, 1 ≤ n → atY u n = chO g (atY y1 n) (atY y2 n)
  h : u.1.length ≤ N
  l : u.2.1.length ≤ lb y1 y2
  r : u.2.2 ≤ (y1.2.2 + y2.2.2) * (lb y1 y2 : Int)
theorem atY_ne {y : Y} (n1 : y.2.1 ≠ []) (n : Nat) : atY y n ≠ none := by
  show at_ y.1 y.2.1 y.2.2 n ≠ none
  rw [at_some n (.inr n1)]
  exact fun z => by cases z
theorem rise_tail {r1 r2 r : Int} {b : Nat} (h1 : 0 ≤ r1) (h2 : 0 ≤ r2) (h : r ≤ r1 + r2) (hb : 0 < b) : r ≤ (r1 + r2) * (b : Int) := by
  have : (r1 + r2) * 1 ≤ (r1 + r2) * (b : Int) := Int.mul_le_mul_of_nonneg_left (by omega) (by omega)
  omega
theorem rise_lcm {r1 r2 : Int} {L m b : Nat} (h1 : 0 ≤ r1) (h2 : 0 ≤ r2) (hb : m ≤ b) : r1 * (m : Int) / (L : Int) ≤ (r1 + r2) * (b : Int) := by
  have a1 : r1 * (m : Int) ≤ (r1 + r2) * (m : Int) := Int.mul_le_mul_of_nonneg_right (by omega) (by omega)
  have a2 : (r1 + r2) * (m : Int) ≤ (r1 + r2) * (b : Int) := Int.mul_le_mul_of_nonneg_left (by omega) (by omega)
  have a3 : 0 ≤ r1 * (m : Int) := Int.mul_nonneg h1 (by omega)
  have a4 : r1 * (m : Int) / (L : Int) ≤ r1 * (m : Int) := Int.ediv_le_self _ a3
  omega
def spJoined (K : PySem.W.Frag) (C : Addr) : Sp := fun vs H Q _ => ∃ (x1 x2 : Addr) (y1 y2 : Y) (N : Nat) (g : Bool), vs = [.ref x1, .ref x2, .bl g] ∧ TabAt K C H x1 y1 ∧ TabAt K C H x2 y2 ∧ Fit y1 ∧ Fit y2 ∧ y1.2.1 ≠ [] ∧ y2.2.1 ≠ [] ∧ y1.1.length ≤ N ∧ y2.1.length ≤ N ∧ N ≤ 10000 ∧ Nat.lcm y1.2.1.length y2.2.1.length ≤ 10000 ∧ Dom (atY y1) (atY y2) N ∧
  ∀ p u H', Same H H' → Tell g y1 y2 N u → FormAt K H' p u → Q (.ref p) H'
theorem sc_joined_form : FnScope ["first", "second", "greater", "head", "tail", "lead", "lesser", "larger", "many", "loop"] ["first", "second", "greater"] (defScope s_joined_form) := ⟨rfl, rfl, rfl, by decide +kernel, rfl, by decide +kernel, by decide +kernel⟩
section
variable {P : Program} {w : World} {K : PySem.W.Frag} {mg : Str → Option Value} {base : Heap} {gs fs : List Str} {C : Addr}
theorem ok_joined_form {f : Addr} {fd : FuncData} (F : FunD K "joined_form" "joined_form" (defArgs s_joined_form) (defBody s_joined_form) (defScope s_joined_form) [] [] f fd) (T : Txt K mg gs FS) (h_lcm : mg "lcm" = some (.builtin "math.lcm")) (tc : TabC K C) (c_settling : Cal P w K mg base 5 "settling" (spSettling K C)) (c_values_from : Cal P w K mg base 2 "values_from" (spFrom K C)) (c_chosen : Cal P w K mg base 1 "chosen" (spChosen K)) : FnOk P w K mg base CX0 6 f fd ["first", "second", "greater"] (spJoined K C) := by
  refine F.ok sc_joined_form (fun vs H Q E h => ?_) (fun cdv A outer s H vs Q E hr h => ?_)
  · obtain ⟨x1, x2, y1, y2, N, g, rfl, _⟩ := h
    rfl
  · obtain ⟨x1, x2, y1, y2, N, g, rfl, tb1, tb2, f1, f2, n1, n2, hN1, hN2, hN, hlc, dom, q⟩ := h
    have l1 := f1.l
    have l2 := f2.l
    have k1 := f1.h
    have k2 := f2.h
    have r1 := f1.r
    have r2 := f2.r
    have r10 := f1.g.r0
    have r20 := f2.g.r0
    have l10 := len_pos n1
    have l20 := len_pos n2
    have As := fun g => asc_cho (asc_at f1.g) (asc_at f2.g) g
    have ne : ∀ g n, 1 ≤ n → chO g (atY y1 n) (atY y2 n) ≠ none := fun g n _ => by
      show chO g (at_ _ _ _ n) (at_ _ _ _ n) ≠ none
      rw [at_some n (.inr n1), at_some n (.inr n2), chO_some]
      exact fun z => by cases z
    have lbb : 0 < lb y1 y2 ∧ y1.2.1.length ≤ lb y1 y2 ∧ y2.2.1.length ≤ lb y1 y2 ∧ Nat.lcm y1.2.1.length y2.2.1.length ≤ lb y1 y2 := by
      unfold lb
      omega
    obtain ⟨lbb0, lbb1, lbb2, lbb3⟩ := lbb
    refine ⟨_, PSs.nox (pss_cons (ps_asg (pe_c c_settling hr (by decide) rfl (pa_cons (pv 0) (pa_cons (pv 1) pa_nil))) (pgt (K := K) (n := 3) rfl rfl (pgs_cons (pg_name (i := 5) sc_joined_form.nd rfl (Or.inl rfl)) (pgs_cons (pg_name (i := 6) sc_joined_form.nd rfl (Or.inl rfl)) (pgs_cons (pg_name (i := 7) sc_joined_form.nd rfl (Or.inl rfl)) pgs_nil))))) (pss_cons (ps_set (i := 3) sc_joined_form.nd rfl (Or.inl rfl) (pe_c c_chosen hr (by decide) rfl (pa_cons (pe_c c_values_from hr (by decide) rfl (pa_cons (pv 0) (pa_cons pe_int (pa_cons (pv 5) pa_nil)))) (pa_cons (pe_c c_values_from hr (by decide) rfl (pa_cons (pv 1) (pa_cons pe_int (pa_cons (pv 5) pa_nil)))) (pa_cons (pv 2) pa_nil))))) (pss_cons (ps_if (pt_cmpR op_isN (pv 6) pe_non (nomark _)) (pss_cons (ps_set (i := 8) sc_joined_form.nd rfl (Or.inl rfl) (pe_callBfun cr_lcm rfl h_lcm (pa_cons (pe_callB call_len_seq rfl (T.fr _ (by decide +kernel)) boot_len (pa_cons (pe_fld (pv 0) rfl) pa_nil)) (pa_cons (pe_callB call_len_seq rfl (T.fr _ (by decide +kernel)) boot_len (pa_cons (pe_fld (pv 1) rfl) pa_nil)) pa_nil)))) (pss_cons (ps_set (i := 9) sc_joined_form.nd rfl (Or.inl rfl) (pe_c c_chosen hr (by decide) rfl (pa_cons (pe_c c_values_from hr (by decide) rfl (pa_cons (pv 0) (pa_cons (pe_op op_add (pv 5) pe_int) (pa_cons (pv 8) pa_nil)))) (pa_cons (pe_c c_values_from hr (by decide) rfl (pa_cons (pv 1) (pa_cons (pe_op op_add (pv 5) pe_int) (pa_cons (pv 8) pa_nil)))) (pa_cons (pv 2) pa_nil))))) (pss_one (ps_ret (pe_tup (pa_cons (pv 3) (pa_cons (pv 9) (pa_cons (pe_op op_fdiv (pe_op op_mul (pe_fld (pv 0) rfl) (pv 8)) (pe_callB call_len_seq rfl (T.fr _ (by decide +kernel)) boot_len (pa_cons (pe_fld (pv 0) rfl) pa_nil))) pa_nil)))))))) pss_nil) (pss_cons (ps_set (i := 4) sc_joined_form.nd rfl (Or.inl rfl) (pe_ifExp (pt_val (pv 2)) (pv 7) (pv 6))) (pss_one (ps_ret (pe_tup (pa_cons (pv 3) (pa_cons (pe_callTy cr_tup rfl (T.fr _ (by decide +kernel)) (by decide +kernel) (pa_cons (pe_c c_values_from hr (by decide) rfl (pa_cons (pv 4) (pa_cons (pe_op op_add (pv 5) pe_int) (pa_cons (pe_callB call_len_seq rfl (T.fr _ (by decide +kernel)) boot_len (pa_cons (pe_fld (pv 4) rfl) pa_nil)) pa_nil)))) pa_nil)) (pa_cons (pe_fld (pv 4) rfl) pa_nil)))))))))), ?_⟩
    refine ⟨_, rfl, _, rfl, x1, x2, y1, y2, N, rfl, tb1, tb2, f1, f2, n1, n2, hN1, hN2, dom, fun p lead u v H1 s1 hp le1 le2 leN way => ?_⟩
    refine ⟨p, _, rfl, hp, rfl, _, _, rfl, ?_⟩
    refine ⟨_, _, rfl, ?_⟩
    refine ⟨_, _, rfl, ?_⟩
    refine ⟨rfl, ?_⟩
    refine ⟨_, rfl, _, rfl, x1, y1, 0, lead, rfl, tb1.mono s1, .inl n1, r10, by omega, k1, by omega, by omega, by omega, fun qa H2 s2 hqa => ?_⟩
    have s12 := Same.trans s1 s2
    refine ⟨_, rfl, _, rfl, x2, y2, 0, lead, rfl, tb2.mono s12, .inl n2, r20, by omega, k2, by omega, by omega, by omega, fun qb H3 s3 hqb => ?_⟩
    have s13 := Same.trans s12 s3
    refine ⟨_, rfl, qa, qb, g, _, _, rfl, .inl (SqL.of (s3 _ _ hqa)), SqL.of hqb, by rw [segN_len, segN_len], by rw [segN_len]; omega, fun ph H4 s4 hh => ?_⟩
    rw [zip_seg (fun n _ _ => atY_ne n1 n) fun n _ _ => atY_ne n2 n] at hh
    have s14 := Same.trans s13 s4
    rcases way with ⟨rfl, rfl, way⟩ | ⟨rfl, rfl, way⟩ | ⟨rfl, rfl, way⟩
    · refine ⟨_, rfl, rfl, _, rfl, iteF' (decide_eq_false fun z => by cases z) ?_⟩
      cases g with
      | true =>
        refine ⟨_, rfl, _, rfl, iteT ⟨_, rfl, ?_⟩⟩
        obtain ⟨dx, a', b', hx, ha', hb'⟩ := tb2.mono s14
        refine ⟨_, rfl, _, rfl, _, rfl, _, _, rfl, rfl, ?_⟩
        refine ⟨_, rfl, x2, C, dx, _, _, rfl, hx, tc.cl, tc.lp, rfl, b', _, rfl, Or.inr hb', ?_⟩
        rw [vI_len]
        refine ⟨x2, y2, lead, y2.2.1.length, rfl, tb2.mono s14, .inl n2, r20, by omega, k2, by omega, by omega, by omega, fun qt H5 s5 hqt => ?_⟩
        refine ⟨qt, _, rfl, Or.inl (SqL.of hqt), fun pt H6 s6 hpt => ?_⟩
        have s16 := Same.trans s14 (Same.trans s5 s6)
        obtain ⟨dx6, a6, b6, hx6, ha6, hb6⟩ := tb2.mono s16
        refine ⟨_, rfl, x2, C, dx6, _, _, rfl, hx6, tc.cl, tc.ri, rfl, (by show 3 ≤ sizeLine; decide), fun pr hpr => ?_⟩
        have s7 := NF.Same.new (o := .tup [V.ref ph, V.ref pt, V.int y2.2.2]) (Same.refl H6) hpr
        obtain ⟨t1, t2⟩ := tail_form (h := y2.1) (As true) n2 le2 (ne true) fun n hn => (chO_le ((leO_num n1 n2 n).mpr (way n hn))).1
        exact q pr (segN (fun n => chO true (atY y1 n) (atY y2 n)) 0 lead, segN (atY y2) lead y2.2.1.length, y2.2.2) _ (Same.trans s16 s7) ⟨t1, t2, by rw [segN_len]; exact leN, by rw [segN_len]; omega, rise_tail r10 r20 (by dsimp only; omega) lbb0⟩ ⟨ph, pt, SqT.of upd_same, NF.Same.tup s7 (NF.Same.tup s6 (NF.Same.tup s5 hh)), NF.Same.tup s7 hpt⟩
      | false =>
        refine ⟨_, rfl, _, rfl, iteF ⟨_, rfl, ?_⟩⟩
        obtain ⟨dx, a', b', hx, ha', hb'⟩ := tb1.mono s14
        refine ⟨_, rfl, _, rfl, _, rfl, _, _, rfl, rfl, ?_⟩
        refine ⟨_, rfl, x1, C, dx, _, _, rfl, hx, tc.cl, tc.lp, rfl, b', _, rfl, Or.inr hb', ?_⟩
        rw [vI_len]
        refine ⟨x1, y1, lead, y1.2.1.length, rfl, tb1.mono s14, .inl n1, r10, by omega, k1, by omega, by omega, by omega, fun qt H5 s5 hqt => ?_⟩
        refine ⟨qt, _, rfl, Or.inl (SqL.of hqt), fun pt H6 s6 hpt => ?_⟩
        have s16 := Same.trans s14 (Same.trans s5 s6)
        obtain ⟨dx6, a6, b6, hx6, ha6, hb6⟩ := tb1.mono s16
        refine ⟨_, rfl, x1, C, dx6, _, _, rfl, hx6, tc.cl, tc.ri, rfl, (by show 3 ≤ sizeLine; decide), fun pr hpr => ?_⟩
        have s7 := NF.Same.new (o := .tup [V.ref ph, V.ref pt, V.int y1.2.2]) (Same.refl H6) hpr
        obtain ⟨t1, t2⟩ := tail_form (h := y1.1) (As false) n1 le1 (ne false) fun n hn => (chO_le ((leO_num n1 n2 n).mpr (way n hn))).2
        exact q pr (segN (fun n => chO false (atY y1 n) (atY y2 n)) 0 lead, segN (atY y1) lead y1.2.1.length, y1.2.2) _ (Same.trans s16 s7) ⟨t1, t2, by rw [segN_len]; exact leN, by rw [segN_len]; omega, rise_tail r10 r20 (by dsimp only; omega) lbb0⟩ ⟨ph, pt, SqT.of upd_same, NF.Same.tup s7 (NF.Same.tup s6 (NF.Same.tup s5 hh)), NF.Same.tup s7 hpt⟩
    · refine ⟨_, rfl, rfl, _, rfl, iteF' (decide_eq_false fun z => by cases z) ?_⟩
      cases g with
      | true =>
        refine ⟨_, rfl, _, rfl, iteT ⟨_, rfl, ?_⟩⟩
        obtain ⟨dx, a', b', hx, ha', hb'⟩ := tb1.mono s14
        refine ⟨_, rfl, _, rfl, _, rfl, _, _, rfl, rfl, ?_⟩
        refine ⟨_, rfl, x1, C, dx, _, _, rfl, hx, tc.cl, tc.lp, rfl, b', _, rfl, Or.inr hb', ?_⟩
        rw [vI_len]
        refine ⟨x1, y1, lead, y1.2.1.length, rfl, tb1.mono s14, .inl n1, r10, by omega, k1, by omega, by omega, by omega, fun qt H5 s5 hqt => ?_⟩
        refine ⟨qt, _, rfl, Or.inl (SqL.of hqt), fun pt H6 s6 hpt => ?_⟩
        have s16 := Same.trans s14 (Same.trans s5 s6)
        obtain ⟨dx6, a6, b6, hx6, ha6, hb6⟩ := tb1.mono s16
        refine ⟨_, rfl, x1, C, dx6, _, _, rfl, hx6, tc.cl, tc.ri, rfl, (by show 3 ≤ sizeLine; decide), fun pr hpr => ?_⟩
        have s7 := NF.Same.new (o := .tup [V.ref ph, V.ref pt, V.int y1.2.2]) (Same.refl H6) hpr
        obtain ⟨t1, t2⟩ := tail_form (h := y1.1) (As true) n1 le1 (ne true) fun n hn => (chO_ge ((leO_num n2 n1 n).mpr (way n hn))).1
        exact q pr (segN (fun n => chO true (atY y1 n) (atY y2 n)) 0 lead, segN (atY y1) lead y1.2.1.length, y1.2.2) _ (Same.trans s16 s7) ⟨t1, t2, by rw [segN_len]; exact leN, by rw [segN_len]; omega, rise_tail r10 r20 (by dsimp only; omega) lbb0⟩ ⟨ph, pt, SqT.of upd_same, NF.Same.tup s7 (NF.Same.tup s6 (NF.Same.tup s5 hh)), NF.Same.tup s7 hpt⟩
      | false =>
        refine ⟨_, rfl, _, rfl, iteF ⟨_, rfl, ?_⟩⟩
        obtain ⟨dx, a', b', hx, ha', hb'⟩ := tb2.mono s14
        refine ⟨_, rfl, _, rfl, _, rfl, _, _, rfl, rfl, ?_⟩
        refine ⟨_, rfl, x2, C, dx, _, _, rfl, hx, tc.cl, tc.lp, rfl, b', _, rfl, Or.inr hb', ?_⟩
        rw [vI_len]
        refine ⟨x2, y2, lead, y2.2.1.length, rfl, tb2.mono s14, .inl n2, r20, by omega, k2, by omega, by omega, by omega, fun qt H5 s5 hqt => ?_⟩
        refine ⟨qt, _, rfl, Or.inl (SqL.of hqt), fun pt H6 s6 hpt => ?_⟩
        have s16 := Same.trans s14 (Same.trans s5 s6)
        obtain ⟨dx6, a6, b6, hx6, ha6, hb6⟩ := tb2.mono s16
        refine ⟨_, rfl, x2, C, dx6, _, _, rfl, hx6, tc.cl, tc.ri, rfl, (by show 3 ≤ sizeLine; decide), fun pr hpr => ?_⟩
        have s7 := NF.Same.new (o := .tup [V.ref ph, V.ref pt, V.int y2.2.2]) (Same.refl H6) hpr
        obtain ⟨t1, t2⟩ := tail_form (h := y2.1) (As false) n2 le2 (ne false) fun n hn => (chO_ge ((leO_num n2 n1 n).mpr (way n hn))).2
        exact q pr (segN (fun n => chO false (atY y1 n) (atY y2 n)) 0 lead, segN (atY y2) lead y2.2.1.length, y2.2.2) _ (Same.trans s16 s7) ⟨t1, t2, by rw [segN_len]; exact leN, by rw [segN_len]; omega, rise_tail r10 r20 (by dsimp only; omega) lbb0⟩ ⟨ph, pt, SqT.of upd_same, NF.Same.tup s7 (NF.Same.tup s6 (NF.Same.tup s5 hh)), NF.Same.tup s7 hpt⟩
    · refine ⟨_, rfl, rfl, _, rfl, iteT' (decide_eq_true rfl) ?_⟩
      obtain ⟨dx1, a1, b1, hx1, ha1, hb1⟩ := tb1.mono s14
      obtain ⟨dx2, a2, b2, hx2, ha2, hb2⟩ := tb2.mono s14
      refine ⟨_, rfl, x1, C, dx1, _, _, rfl, hx1, tc.cl, tc.lp, rfl, b1, _, rfl, Or.inr hb1, ?_⟩
      refine ⟨_, rfl, x2, C, dx2, _, _, rfl, hx2, tc.cl, tc.lp, rfl, b2, _, rfl, Or.inr hb2, ?_⟩
      rw [vI_len, vI_len]
      refine ⟨_, _, rfl, by omega, by omega, ?_⟩
      rw [Int.natAbs_natCast, Int.natAbs_natCast]
      generalize hm : Nat.lcm y1.2.1.length y2.2.1.length = m at *
      refine ⟨_, rfl, _, rfl, _, _, rfl, rfl, _, rfl, x1, y1, lead, m, rfl, tb1.mono s14, .inl n1, r10, by omega, k1, by omega, by omega, by omega, fun qc H5 s5 hqc => ?_⟩
      have s15 := Same.trans s14 s5
      refine ⟨_, rfl, _, rfl, _, _, rfl, rfl, _, rfl, x2, y2, lead, m, rfl, tb2.mono s15, .inl n2, r20, by omega, k2, by omega, by omega, by omega, fun qd H6 s6 hqd => ?_⟩
      have s16 := Same.trans s15 s6
      refine ⟨_, rfl, qc, qd, g, _, _, rfl, .inl (SqL.of (s6 _ _ hqc)), SqL.of hqd, by rw [segN_len, segN_len], by rw [segN_len]; omega, fun pt H7 s7 hpt => ?_⟩
      rw [zip_seg (fun n _ _ => atY_ne n1 n) fun n _ _ => atY_ne n2 n] at hpt
      have s17 := Same.trans s16 s7
      obtain ⟨dx7, a7, b7, hx7, ha7, hb7⟩ := tb1.mono s17
      refine ⟨_, rfl, _, rfl, _, rfl, x1, C, dx7, _, _, rfl, hx7, tc.cl, tc.ri, rfl, _, rfl, _, _, rfl, rfl, Or.inl ⟨by omega, by omega⟩, _, rfl, x1, C, dx7, _, _, rfl, hx7, tc.cl, tc.lp, rfl, b7, _, rfl, Or.inr hb7, ?_⟩
      rw [vI_len]
      refine ⟨_, _, rfl, rfl, ⟨by omega, by omega⟩, (by show 3 ≤ sizeLine; decide), fun pr hpr => ?_⟩
      have s8 := NF.Same.new (o := .tup [V.ref ph, V.ref pt, V.int (y1.2.2 * (m : Int) / (y1.2.1.length : Int))]) (Same.refl H7) hpr
      obtain ⟨t1, t2⟩ := side_form (g := g) f1.g f2.g n1 n2 way le1 le2
      rw [hm] at t1 t2
      exact q pr (segN (fun n => chO g (atY y1 n) (atY y2 n)) 0 lead, segN (fun n => chO g (atY y1 n) (atY y2 n)) lead m, y1.2.2 * (m : Int) / (y1.2.1.length : Int)) _ (Same.trans s17 s8) ⟨t1, t2, by rw [segN_len]; exact leN, by rw [segN_len]; exact lbb3, rise_lcm r10 r20 lbb3⟩ ⟨ph, pt, SqT.of upd_same, NF.Same.tup s8 (NF.Same.tup (Same.trans s5 (Same.trans s6 s7)) hh), NF.Same.tup s8 hpt⟩
end
end K05
set_option Elab.async false
set_option linter.all false
/-! Rules within a comprehension: what is read is told by the class's K, not by the block's. -/
namespace NF
open PySem PySem.Spec PyProof.Rows L2 He RZ
theorem call_lenK {X : Cx} {K : PySem.W.Frag} (h : X.K = K := by rfl) : CallR X (.builtin "len") (fun xs H Q => ∃ p ys, xs = [.ref p] ∧ (SqL K H p ys ∨ SqT K H p ys) ∧ Q (.int ys.length) H) := h ▸ call_len_seq
theorem pt_truthK {X : Cx} {K : PySem.W.Frag} {a : Expr} {ta : TE} (ha : PE X a ta) (he : ∀ whole, isTrue a X.env whole = (do let v ← whole; standAt a.pos; holding [v] (truthy v))) (h : X.K = K := by rfl) :
    PT X a (fun σ H Q => ta σ H fun x H' => ∃ k, TruV K x H' k ∧ Q k H') := h ▸ pt_truth ha he
end NF
set_option Elab.async false
set_option linter.all false
set_option maxRecDepth 100000
set_option maxHeartbeats 4000000
namespace K05
open PySem PySem.Spec PyProof.Rows L2 He NF RZ NT
structure Pair (y1 y2 : Y) (N : Nat) : Prop where
  f1 : Fit y1
  f2 : Fit y2
  b1 : y1.1.length ≤ N
  b2 : y2.1.length ≤ N
  n0 : N ≤ 10000
  lc : Nat.lcm y1.2.1.length y2.2.1.length ≤ 10000
  dom : Dom (atY y1) (atY y2) N
def spBoth (K : PySem.W.Frag) (C : Addr) (g : Bool) : Sp := fun vs H Q _ => ∃ (x1 x2 : Addr) (y1 y2 : Y) (N : Nat), vs = [.ref x1, .ref x2] ∧ TabAt K C H x1 y1 ∧ TabAt K C H x2 y2 ∧ Pair y1 y2 N ∧ ∀ p u H', Same H H' → Tell g y1 y2 N u → FormAt K H' p u → Q (.ref p) H'
theorem sc_both_form : FnScope ["first", "second", "lead", "table"] ["first", "second"] (defScope s_both_form) := ⟨rfl, rfl, rfl, by decide +kernel, rfl, by decide +kernel, by decide +kernel⟩
section
variable {P : Program} {w : World} {K : PySem.W.Frag} {mg : Str → Option Value} {base : Heap} {gs fs : List Str} {C : Addr}
theorem ok_both_form {f : Addr} {fd : FuncData} (F : FunD K "both_form" "both_form" (defArgs s_both_form) (defBody s_both_form) (defScope s_both_form) [] [] f fd) (T : Txt K mg gs FS) (tc : TabC K C) (c_joined_form : Cal P w K mg base 6 "joined_form" (spJoined K C)) (c_values_from : Cal P w K mg base 2 "values_from" (spFrom K C)) (c_chosen : Cal P w K mg base 1 "chosen" (spChosen K)) : FnOk P w K mg base CX0 7 f fd ["first", "second"] (spBoth K C true) := by
  refine F.ok sc_both_form (fun vs H Q E h => ?_) (fun cdv A outer s H vs Q E hr h => ?_)
  · obtain ⟨x1, x2, y1, y2, N, rfl, _⟩ := h
    rfl
  · obtain ⟨x1, x2, y1, y2, N, rfl, tb1, tb2, pr, q⟩ := h
    have f1 := pr.f1
    have f2 := pr.f2
    have n0 := pr.n0
    have l1 := f1.l
    have l2 := f2.l
    have k1 := f1.h
    have k2 := f2.h
    have r1 := f1.r
    have r2 := f2.r
    have r10 := f1.g.r0
    have r20 := f2.g.r0
    refine ⟨_, PSs.nox (pss_cons (ps_if (PW.pt (pw_and (pt_truth (pe_fld (pv 0) rfl) (fun _ => rfl)) (pw_and1 (pt_truth (pe_fld (pv 1) rfl) (fun _ => rfl))))) (pss_one (ps_ret (pe_c c_joined_form hr (by decide) rfl (pa_cons (pv 0) (pa_cons (pv 1) (pa_cons pe_bl pa_nil)))))) pss_nil) (pss_cons (ps_set (i := 2) sc_both_form.nd rfl (Or.inl rfl) (pe_callB (cr_min rfl) rfl (T.fr _ (by decide +kernel)) (by decide +kernel) (pa_cons (pe_lc (own := [("table", 3)]) rfl sc_both_form.nd (pi_tup (pe_tup (pa_cons (pv 0) (pa_cons (pv 1) pa_nil)))) (blkOk_by (N := ["first", "second", "lead", "table"]) (sc := defScope s_both_form) (by decide +kernel)) (fun _ _ _ _ _ => by exact (pg_name (i := 3) sc_both_form.nd rfl (Or.inl rfl))) (fun _ _ _ _ _ => by exact (pts_one (pt_not (pt_truthK (K := K) (pe_fldK (K := K) (pv 3) rfl) (fun _ => rfl))))) (fun _ _ _ _ _ => by exact (pe_callB (call_lenK (K := K)) rfl (T.fr _ (by decide +kernel)) boot_len (pa_cons (pe_fldK (K := K) (pv 3) rfl) pa_nil)))) pa_nil))) (pss_one (ps_ret (pe_tup (pa_cons (pe_c c_chosen hr (by decide) rfl (pa_cons (pe_c c_values_from hr (by decide) rfl (pa_cons (pv 0) (pa_cons pe_int (pa_cons (pv 2) pa_nil)))) (pa_cons (pe_c c_values_from hr (by decide) rfl (pa_cons (pv 1) (pa_cons pe_int (pa_cons (pv 2) pa_nil)))) (pa_cons pe_bl pa_nil)))) (pa_cons (pe_tup pa_nil) (pa_cons pe_int pa_nil)))))))), ?_⟩
    by_cases c : y1.2.1 ≠ [] ∧ y2.2.1 ≠ []
    · obtain ⟨dx1, a1, b1, hx1, ha1, hb1⟩ := id tb1
      obtain ⟨dx2, a2, b2, hx2, ha2, hb2⟩ := id tb2
      refine ⟨_, rfl, x1, C, dx1, _, _, rfl, hx1, tc.cl, tc.lp, rfl, _, tru_tup hb1, ?_⟩
      rw [ne_nil c.1]
      refine iteT ⟨_, rfl, x2, C, dx2, _, _, rfl, hx2, tc.cl, tc.lp, rfl, _, tru_tup hb2, ?_⟩
      rw [ne_nil c.2]
      refine iteT ⟨_, rfl, _, rfl, x1, x2, y1, y2, N, true, rfl, tb1, tb2, f1, f2, c.1, c.2, pr.b1, pr.b2, n0, pr.lc, pr.dom, q⟩
    · refine' shr (fun kk => ?A) ?B
      case A =>
        obtain ⟨dx1, a1, b1, hx1, ha1, hb1⟩ := id tb1
        obtain ⟨dx2, a2, b2, hx2, ha2, hb2⟩ := id tb2
        refine ⟨_, rfl, x1, C, dx1, _, _, rfl, hx1, tc.cl, tc.lp, rfl, _, tru_tup hb1, ?_⟩
        by_cases c1 : y1.2.1 = []
        · rw [is_nil c1]
          exact iteF (iteF kk)
        · rw [ne_nil c1]
          refine iteT ⟨_, rfl, x2, C, dx2, _, _, rfl, hx2, tc.cl, tc.lp, rfl, _, tru_tup hb2, ?_⟩
          rw [is_nil (Classical.byContradiction fun z => c ⟨c1, z⟩)]
          exact iteF kk
      case B =>
        refine ⟨_, rfl, _, rfl, (by show 2 ≤ sizeLine; decide), fun p hp => ?_⟩
        have s1 := NF.Same.new (o := .tup [V.ref x1, V.ref x2]) (Same.refl H) hp
        refine ⟨p, rfl, ⟨_, SqT.of upd_same⟩, fun D hD => ?_⟩
        have s2 := NF.Same.new (o := .lst []) s1 hD
        have hp2 : (upd (upd H p (.tup [V.ref x1, V.ref x2])) D (.lst [])) p = some (.tup [V.ref x1, V.ref x2]) := (NF.Same.new (o := .lst []) (Same.refl _) hD) _ _ upd_same
        have acl : ∀ j, (((([y1, y2] : List Y).take j).map fun y => if y.2.1 = [] then [(y.1.length : Int)] else []).flatten).length ≤ 2 := fun j => by
          match j with
          | 0 => exact Nat.zero_le _
          | 1 =>
            show ((if y1.2.1 = [] then [(y1.1.length : Int)] else []) ++ []).length ≤ 2
            split <;> simp
          | j + 2 =>
            rw [show ([y1, y2] : List Y).take (j + 2) = [y1, y2] from List.take_of_length_le (by show 2 ≤ j + 2; omega)]
            show ((if y1.2.1 = [] then [(y1.1.length : Int)] else []) ++ ((if y2.2.1 = [] then [(y2.1.length : Int)] else []) ++ [])).length ≤ 2
            split <;> split <;> simp
        have acs1 : (((([y1, y2] : List Y).take (0 + 1)).map fun y => if y.2.1 = [] then [(y.1.length : Int)] else []).flatten) = (((([y1, y2] : List Y).take 0).map fun y => if y.2.1 = [] then [(y.1.length : Int)] else []).flatten) ++ (if y1.2.1 = [] then [(y1.1.length : Int)] else []) := by
          show (if y1.2.1 = [] then [(y1.1.length : Int)] else []) ++ [] = [] ++ _
          rw [List.append_nil, List.nil_append]
        have acs2 : (((([y1, y2] : List Y).take (1 + 1)).map fun y => if y.2.1 = [] then [(y.1.length : Int)] else []).flatten) = (((([y1, y2] : List Y).take 1).map fun y => if y.2.1 = [] then [(y.1.length : Int)] else []).flatten) ++ (if y2.2.1 = [] then [(y2.1.length : Int)] else []) := by
          show (if y1.2.1 = [] then [(y1.1.length : Int)] else []) ++ ((if y2.2.1 = [] then [(y2.1.length : Int)] else []) ++ []) = ((if y1.2.1 = [] then [(y1.1.length : Int)] else []) ++ []) ++ _
          rw [List.append_nil, List.append_nil]
        refine lc_tup (xs := [V.ref x1, V.ref x2]) (fun j G => Same (upd H p (.tup [V.ref x1, V.ref x2])) G ∧ G D = some (.lst (vI (((([y1, y2] : List Y).take j).map fun y => if y.2.1 = [] then [(y.1.length : Int)] else []).flatten)))) ⟨NF.Same.new (Same.refl _) hD, upd_same⟩ (fun i G _ z => NF.Same.tup z.1 (SqT.of upd_same)) ?_ ?_
        · rintro i v G hv ⟨sG, hG⟩
          match i, hv, hG with
          | 0, hv, hG =>
            obtain rfl : V.ref x1 = v := Option.some.inj hv
            obtain ⟨dx, a', b', hx, ha, hb⟩ := tb1.mono (Same.trans s1 sG)
            refine ⟨rfl, _, rfl, x1, C, dx, _, _, rfl, hx, tc.cl, tc.lp, rfl, _, tru_tup hb, ?_⟩
            by_cases c1 : y1.2.1 = []
            · rw [is_nil c1]
              refine iteT' rfl ⟨_, rfl, x1, C, dx, _, _, rfl, hx, tc.cl, tc.hd, rfl, a', _, rfl, Or.inr ha, ?_⟩
              rw [vI_len]
              refine ⟨_, hG, ?_, NF.Same.mut sG hD, ?_⟩
              · rw [vI_len]
                exact Nat.lt_of_le_of_lt (acl 0) (by decide)
              · rw [upd_same, acs1, if_pos c1, ← vI_app]
                rfl
            · rw [ne_nil c1]
              refine iteF' rfl ⟨sG, ?_⟩
              rw [hG, acs1, if_neg c1, List.append_nil]
          | 1, hv, hG =>
            obtain rfl : V.ref x2 = v := Option.some.inj hv
            obtain ⟨dx, a', b', hx, ha, hb⟩ := tb2.mono (Same.trans s1 sG)
            refine ⟨rfl, _, rfl, x2, C, dx, _, _, rfl, hx, tc.cl, tc.lp, rfl, _, tru_tup hb, ?_⟩
            by_cases c1 : y2.2.1 = []
            · rw [is_nil c1]
              refine iteT' rfl ⟨_, rfl, x2, C, dx, _, _, rfl, hx, tc.cl, tc.hd, rfl, a', _, rfl, Or.inr ha, ?_⟩
              rw [vI_len]
              refine ⟨_, hG, ?_, NF.Same.mut sG hD, ?_⟩
              · rw [vI_len]
                exact Nat.lt_of_le_of_lt (acl 1) (by decide)
              · rw [upd_same, acs2, if_pos c1, ← vI_app]
                rfl
            · rw [ne_nil c1]
              refine iteF' rfl ⟨sG, ?_⟩
              rw [hG, acs2, if_neg c1, List.append_nil]
          | i + 2, hv, hG => cases hv
        · rintro G ⟨sG, hG⟩
          have sG1 := Same.trans s1 sG
          have mem : ∀ m, m ∈ (((([y1, y2] : List Y).take 2).map fun y => if y.2.1 = [] then [(y.1.length : Int)] else []).flatten) ↔ (y1.2.1 = [] ∧ m = (y1.1.length : Int)) ∨ (y2.2.1 = [] ∧ m = (y2.1.length : Int)) := fun m => by
            by_cases c1 : y1.2.1 = [] <;> by_cases c2 : y2.2.1 = [] <;> simp [c1, c2]
          refine ⟨D, _, rfl, SqL.of hG, ?_, fun m hm hmin => ?_⟩
          · by_cases c1 : y1.2.1 = []
            · exact List.length_pos_of_mem ((mem _).mpr (.inl ⟨c1, rfl⟩))
            · exact List.length_pos_of_mem ((mem _).mpr (.inr ⟨Classical.byContradiction fun z => c ⟨c1, z⟩, rfl⟩))
          have hm' := (mem m).mp hm
          obtain ⟨M, rfl⟩ : ∃ M : Nat, m = (M : Int) := by
            rcases hm' with ⟨_, rfl⟩ | ⟨_, rfl⟩ <;> exact ⟨_, rfl⟩
          have m1 : y1.2.1 = [] → M ≤ y1.1.length := fun z => by
            have := hmin _ ((mem _).mpr (.inl ⟨z, rfl⟩))
            omega
          have m2 : y2.2.1 = [] → M ≤ y2.1.length := fun z => by
            have := hmin _ ((mem _).mpr (.inr ⟨z, rfl⟩))
            omega
          have hMN : M ≤ N := by
            have := pr.b1
            have := pr.b2
            rcases hm' with ⟨_, z⟩ | ⟨_, z⟩ <;> omega
          have o1 : y1.2.1 ≠ [] ∨ 0 + M ≤ y1.1.length := by
            by_cases z : y1.2.1 = []
            · exact .inr (by have := m1 z; omega)
            · exact .inl z
          have o2 : y2.2.1 ≠ [] ∨ 0 + M ≤ y2.1.length := by
            by_cases z : y2.2.1 = []
            · exact .inr (by have := m2 z; omega)
            · exact .inl z
          have e1 : ∀ n, n ≤ M → atY y1 n = some (numY y1 n) := fun n hn => at_some n (o1.symm.imp (fun z => by omega) id)
          have e2 : ∀ n, n ≤ M → atY y2 n = some (numY y2 n) := fun n hn => at_some n (o2.symm.imp (fun z => by omega) id)
          have As := asc_cho (asc_at f1.g) (asc_at f2.g) true
          have sF : ∀ n, 1 ≤ n → n ≤ M → chO true (atY y1 n) (atY y2 n) ≠ none := fun n _ hn => by
            rw [e1 n hn, e2 n hn]
            exact fun z => by cases z
          have nF : ∀ n, M < n → chO true (atY y1 n) (atY y2 n) = none := fun n hn => by
            rcases hm' with ⟨z, z2⟩ | ⟨z, z2⟩
            · have : atY y1 n = none := by
                show at_ y1.1 y1.2.1 y1.2.2 n = none
                unfold at_
                rw [if_neg (by omega), if_pos z]
              rw [this]
              rfl
            · have : atY y2 n = none := by
                show at_ y2.1 y2.2.1 y2.2.2 n = none
                unfold at_
                rw [if_neg (by omega), if_pos z]
              rw [this]
              cases atY y1 n <;> rfl
          refine ⟨_, rfl, _, rfl, x1, y1, 0, M, rfl, tb1.mono sG1, o1, r10, by omega, k1, by omega, by omega, by omega, fun qa H2 s2 hqa => ?_⟩
          have s12 := Same.trans sG1 s2
          refine ⟨_, rfl, _, rfl, x2, y2, 0, M, rfl, tb2.mono s12, o2, r20, by omega, k2, by omega, by omega, by omega, fun qb H3 s3 hqb => ?_⟩
          have s13 := Same.trans s12 s3
          refine ⟨qa, qb, true, _, _, rfl, .inl (SqL.of (s3 _ _ hqa)), SqL.of hqb, by rw [segN_len, segN_len], by rw [segN_len]; omega, fun ph H4 s4 hh => ?_⟩
          rw [zip_seg (fun n _ h => by rw [show at_ y1.1 y1.2.1 y1.2.2 n = _ from e1 n (by omega)]; exact fun z => by cases z) fun n _ h => by rw [show at_ y2.1 y2.2.1 y2.2.2 n = _ from e2 n (by omega)]; exact fun z => by cases z] at hh
          have s14 := Same.trans s13 s4
          refine ⟨(by show 0 ≤ sizeLine; decide), fun pe hpe => ⟨(by show 3 ≤ sizeLine; decide), fun pr' hpr => ?_⟩⟩
          have s5 := NF.Same.new (o := .tup []) (Same.refl H4) hpe
          have s6 := NF.Same.new (o := .tup [V.ref ph, V.ref pe, V.int 0]) (Same.refl _) hpr
          refine q pr' (segN (fun n => chO true (atY y1 n) (atY y2 n)) 0 M, [], 0) _ (Same.trans s14 (Same.trans s5 s6)) ⟨ended As sF, fun n hn => at_ended sF nF hn, by rw [segN_len]; exact hMN, Nat.zero_le _, Int.mul_nonneg (by omega) (by omega)⟩ ⟨ph, pe, SqT.of upd_same, NF.Same.tup s6 (NF.Same.tup s5 hh), NF.Same.tup s6 (SqT.of upd_same)⟩
end
end K05
set_option Elab.async false
set_option linter.all false
set_option maxRecDepth 100000
set_option maxHeartbeats 4000000
namespace NT
theorem head_segA {h l : List Int} {r : Int} : h = segN (at_ h l r) 0 h.length := by
  rw [← seg_head (show 0 + h.length ≤ h.length by omega), List.drop_zero, List.take_length]
theorem segN_congr {F G : Nat → Option Int} {a m : Nat} (e : ∀ n, a < n → n ≤ a + m → F n = G n) : segN F a m = segN G a m := by
  unfold segN
  refine List.map_congr_left fun k hk => ?_
  rw [List.mem_range] at hk
  unfold numF
  rw [e (a + k + 1) (by omega) (by omega)]
end NT
namespace K05
open PySem PySem.Spec PyProof.Rows L2 He NF RZ NT
def spEithA (K : PySem.W.Frag) (C : Addr) : Sp := fun vs H Q _ => ∃ (x1 x2 : Addr) (y1 y2 : Y) (N : Nat), vs = [.ref x1, .ref x2] ∧ TabAt K C H x1 y1 ∧ TabAt K C H x2 y2 ∧ Pair y1 y2 N ∧ y1.2.1 = [] ∧ (y2.2.1 ≠ [] ∨ y1.1.length ≤ y2.1.length) ∧ ∀ p u H', Same H H' → Tell false y1 y2 N u → FormAt K H' p u → Q (.ref p) H'
theorem sc_either_form : FnScope ["first", "second", "lead", "head", "rest"] ["first", "second"] (defScope s_either_form) := ⟨rfl, rfl, rfl, by decide +kernel, rfl, by decide +kernel, by decide +kernel⟩
section
variable {P : Program} {w : World} {K : PySem.W.Frag} {mg : Str → Option Value} {base : Heap} {gs fs : List Str} {C : Addr}
theorem ok_either_formA {f : Addr} {fd : FuncData} (F : FunD K "either_form" "either_form" (defArgs s_either_form) (defBody s_either_form) (defScope s_either_form) [] [] f fd) (T : Txt K mg gs FS) (tc : TabC K C) (c_joined_form : Cal P w K mg base 6 "joined_form" (spJoined K C)) (c_values_from : Cal P w K mg base 2 "values_from" (spFrom K C)) (c_chosen : Cal P w K mg base 1 "chosen" (spChosen K)) : FnOk P w K mg base CX0 7 f fd ["first", "second"] (spEithA K C) := by
  refine F.ok sc_either_form (fun vs H Q E h => ?_) (fun cdv A outer s H vs Q E hr h => ?_)
  · obtain ⟨x1, x2, y1, y2, N, rfl, _⟩ := h
    rfl
  · obtain ⟨x1, x2, y1, y2, N, rfl, tb1, tb2, pr, e1, e2, q⟩ := h
    have f1 := pr.f1
    have f2 := pr.f2
    have n0 := pr.n0
    have l1 := f1.l
    have l2 := f2.l
    have k1 := f1.h
    have k2 := f2.h
    have r1 := f1.r
    have r2 := f2.r
    have r10 := f1.g.r0
    have r20 := f2.g.r0
    have pb1 := pr.b1
    have pb2 := pr.b2
    obtain ⟨dx1, a1, b1, hx1, ha1, hb1⟩ := id tb1
    obtain ⟨dx2, a2, b2, hx2, ha2, hb2⟩ := id tb2
    refine ⟨_, PSs.nox (pss_cons (ps_if (PW.pt (pw_and (pt_truth (pe_fld (pv 0) rfl) (fun _ => rfl)) (pw_and1 (pt_truth (pe_fld (pv 1) rfl) (fun _ => rfl))))) (pss_one (ps_ret (pe_c c_joined_form hr (by decide) rfl (pa_cons (pv 0) (pa_cons (pv 1) (pa_cons pe_bl pa_nil)))))) pss_nil) (pss_cons (ps_if (PW.pt (pw_or (pt_truth (pe_fld (pv 0) rfl) (fun _ => rfl)) (pw_or1 (PW.pt (pw_and (pt_cmpR op_gt (pe_callB call_len_seq rfl (T.fr _ (by decide +kernel)) boot_len (pa_cons (pe_fld (pv 0) rfl) pa_nil)) (pe_callB call_len_seq rfl (T.fr _ (by decide +kernel)) boot_len (pa_cons (pe_fld (pv 1) rfl) pa_nil)) (nomark _)) (pw_and1 (pt_not (pt_truth (pe_fld (pv 1) rfl) (fun _ => rfl))))))))) (pss_one ps_never) pss_nil) (pss_cons (ps_set (i := 2) sc_either_form.nd rfl (Or.inl rfl) (pe_callB call_len_seq rfl (T.fr _ (by decide +kernel)) boot_len (pa_cons (pe_fld (pv 0) rfl) pa_nil))) (pss_cons (ps_set (i := 3) sc_either_form.nd rfl (Or.inl rfl) (pe_c c_chosen hr (by decide) rfl (pa_cons (pe_fld (pv 0) rfl) (pa_cons (pe_c c_values_from hr (by decide) rfl (pa_cons (pv 1) (pa_cons pe_int (pa_cons (pv 2) pa_nil)))) (pa_cons pe_bl pa_nil))))) (pss_cons (ps_set (i := 4) sc_either_form.nd rfl (Or.inl rfl) (pe_callB (call_max2 rfl) rfl (T.fr _ (by decide +kernel)) (by decide +kernel) (pa_cons pe_int (pa_cons (pe_op op_sub (pe_callB call_len_seq rfl (T.fr _ (by decide +kernel)) boot_len (pa_cons (pe_fld (pv 1) rfl) pa_nil)) (pv 2)) pa_nil)))) (pss_cons (ps_if (pt_not (pt_truth (pe_fld (pv 1) rfl) (fun _ => rfl))) (pss_one (ps_ret (pe_tup (pa_cons (pe_op op_catA (pv 3) (pe_slice sl_tupA (pe_fld (pv 1) rfl) (po_some (pv 2)) po_none)) (pa_cons (pe_tup pa_nil) (pa_cons pe_int pa_nil)))))) pss_nil) (pss_one (ps_ret (pe_tup (pa_cons (pe_op op_catA (pv 3) (pe_callTy cr_tup rfl (T.fr _ (by decide +kernel)) (by decide +kernel) (pa_cons (pe_c c_values_from hr (by decide) rfl (pa_cons (pv 1) (pa_cons (pe_op op_add (pv 2) pe_int) (pa_cons (pv 4) pa_nil)))) pa_nil))) (pa_cons (pe_callTy cr_tup rfl (T.fr _ (by decide +kernel)) (by decide +kernel) (pa_cons (pe_c c_values_from hr (by decide) rfl (pa_cons (pv 1) (pa_cons (pe_op op_add (pe_op op_add (pv 2) (pv 4)) pe_int) (pa_cons (pe_callB call_len_seq rfl (T.fr _ (by decide +kernel)) boot_len (pa_cons (pe_fld (pv 1) rfl) pa_nil)) pa_nil)))) pa_nil)) (pa_cons (pe_fld (pv 1) rfl) pa_nil)))))))))))), ?_⟩
    refine ⟨_, rfl, x1, C, dx1, _, _, rfl, hx1, tc.cl, tc.lp, rfl, _, tru_tup hb1, ?_⟩
    rw [is_nil e1]
    refine iteF (iteF ?_)
    refine ⟨_, rfl, x1, C, dx1, _, _, rfl, hx1, tc.cl, tc.lp, rfl, _, tru_tup hb1, ?_⟩
    rw [is_nil e1]
    refine iteF ?_
    refine ⟨_, rfl, x1, C, dx1, _, _, rfl, hx1, tc.cl, tc.hd, rfl, a1, _, rfl, Or.inr ha1, ?_⟩
    refine ⟨_, rfl, x2, C, dx2, _, _, rfl, hx2, tc.cl, tc.hd, rfl, a2, _, rfl, Or.inr ha2, ?_⟩
    rw [vI_len, vI_len]
    refine ⟨_, _, rfl, rfl, _, rfl, ?_⟩
    have el : y2.1.length < y1.1.length → y2.2.1 ≠ [] := fun z => e2.resolve_right (by omega)
    refine' shr (fun kk => ?A) ?B
    case A =>
      by_cases c : (y2.1.length : Int) < (y1.1.length : Int)
      · refine iteT' (decide_eq_true c) ⟨_, rfl, x2, C, dx2, _, _, rfl, hx2, tc.cl, tc.lp, rfl, _, tru_tup hb2, ?_⟩
        rw [ne_nil (el (Int.ofNat_lt.mp c))]
        exact iteF' rfl kk
      · exact iteF' (decide_eq_false c) (iteF kk)
    case B =>
      refine ⟨_, rfl, x1, C, dx1, _, _, rfl, hx1, tc.cl, tc.hd, rfl, a1, _, rfl, Or.inr ha1, ?_⟩
      rw [vI_len]
      refine ⟨_, rfl, x1, C, dx1, _, _, rfl, hx1, tc.cl, tc.hd, rfl, _, rfl, _, rfl, x2, y2, 0, y1.1.length, rfl, tb2, e2.imp id (fun z => by omega), r20, by omega, k2, by omega, by omega, by omega, fun qb H1 s1 hqb => ?_⟩
      have ha11 := NF.Same.tup s1 ha1
      rw [show vI y1.1 = vI (segN (at_ y1.1 y1.2.1 y1.2.2) 0 y1.1.length) from congrArg vI head_segA] at ha11
      have one : ∀ n, n ≤ y1.1.length → atY y1 n = some (numY y1 n) := fun n hn => at_some n (.inl hn)
      have two : ∀ n, n ≤ y1.1.length → atY y2 n = some (numY y2 n) := fun n hn => at_some n (e2.symm.imp (fun z => by omega) id)
      have far : ∀ n, y1.1.length < n → chO false (atY y1 n) (atY y2 n) = atY y2 n := fun n hn => by
        have : atY y1 n = none := by
          show at_ y1.1 y1.2.1 y1.2.2 n = none
          unfold at_
          rw [if_neg (by omega), if_pos e1]
        rw [this]
        rfl
      have As := asc_cho (asc_at f1.g) (asc_at f2.g) false
      refine ⟨a1, qb, false, _, _, rfl, .inr ha11, SqL.of hqb, by rw [segN_len, segN_len], by rw [segN_len]; omega, fun ph H2 s2 hh => ?_⟩
      rw [zip_seg (fun n _ h => by rw [show at_ y1.1 y1.2.1 y1.2.2 n = _ from one n (by omega)]; exact fun z => by cases z) fun n _ h => by rw [show at_ y2.1 y2.2.1 y2.2.2 n = _ from two n (by omega)]; exact fun z => by cases z] at hh
      have s12 := Same.trans s1 s2
      have hx22 := s12 _ _ hx2
      have ha22 := NF.Same.tup s12 ha2
      have hb22 := NF.Same.tup s12 hb2
      obtain ⟨rest, hrest⟩ : ∃ rest, rest = y2.1.length - y1.1.length := ⟨_, rfl⟩
      have er : (if (y2.1.length : Int) - (y1.1.length : Int) > 0 then (y2.1.length : Int) - (y1.1.length : Int) else 0) = (rest : Int) := by
        split <;> omega
      refine ⟨_, rfl, x2, C, dx2, _, _, rfl, hx22, tc.cl, tc.hd, rfl, a2, _, rfl, Or.inr ha22, _, rfl, _, _, rfl, rfl, _, _, rfl, ?_⟩
      rw [vI_len]
      show gName 4 (V.int (if (y2.1.length : Int) - (y1.1.length : Int) > 0 then (y2.1.length : Int) - (y1.1.length : Int) else 0)) _ _ _
      rw [er]
      refine ⟨_, rfl, x2, C, dx2, _, _, rfl, hx22, tc.cl, tc.lp, rfl, _, tru_tup hb22, ?_⟩
      by_cases c2 : y2.2.1 = []
      · rw [is_nil c2]
        have le12 : y1.1.length ≤ y2.1.length := e2.resolve_left (fun z => z c2)
        refine iteT' rfl ⟨_, rfl, _, rfl, x2, C, dx2, _, _, rfl, hx22, tc.cl, tc.hd, rfl, _, rfl, _, rfl, ?_⟩
        refine slA_from (K := K) ha22 fun p3 H3 s3 t3 => ?_
        have ed : y2.1.drop y1.1.length = segN (at_ y2.1 y2.2.1 y2.2.2) y1.1.length rest := by
          rw [← seg_head (show y1.1.length + rest ≤ y2.1.length by omega), List.take_of_length_le (by rw [List.length_drop]; omega)]
        rw [cut_from, vI_drop, ed] at t3
        have nx : segN (at_ y2.1 y2.2.1 y2.2.2) y1.1.length rest = segN (fun n => chO false (atY y1 n) (atY y2 n)) (0 + y1.1.length) rest := by
          rw [Nat.zero_add]
          exact segN_congr fun n h1 _ => (far n h1).symm
        rw [nx] at t3
        refine catA_done (K := K) (NF.Same.tup s3 hh) t3 (Nat.le_trans (show (vI (segN _ 0 y1.1.length)).length + (vI (segN _ (0 + y1.1.length) rest)).length ≤ 30000 by rw [vI_len, vI_len, segN_len, segN_len]; omega) (by decide)) fun p4 H4 s4 t4 => ?_
        rw [vI_app, ← segN_add] at t4
        refine ⟨(by show 0 ≤ sizeLine; decide), fun pe hpe => ⟨(by show 3 ≤ sizeLine; decide), fun pr' hpr => ?_⟩⟩
        have s5 := NF.Same.new (o := .tup []) (Same.refl H4) hpe
        have s6 := NF.Same.new (o := .tup [V.ref p4, V.ref pe, V.int 0]) (Same.refl _) hpr
        have sF : ∀ n, 1 ≤ n → n ≤ y1.1.length + rest → chO false (atY y1 n) (atY y2 n) ≠ none := fun n _ hn => by
          by_cases c3 : n ≤ y1.1.length
          · rw [one n c3, two n c3]
            exact fun z => by cases z
          · rw [far n (by omega), show atY y2 n = _ from at_some n (.inl (by omega))]
            exact fun z => by cases z
        have nF : ∀ n, y1.1.length + rest < n → chO false (atY y1 n) (atY y2 n) = none := fun n hn => by
          rw [far n (by omega)]
          show at_ y2.1 y2.2.1 y2.2.2 n = none
          unfold at_
          rw [if_neg (by omega), if_pos c2]
        exact q pr' (segN (fun n => chO false (atY y1 n) (atY y2 n)) 0 (y1.1.length + rest), [], 0) _ (Same.trans s12 (Same.trans s3 (Same.trans s4 (Same.trans s5 s6)))) ⟨ended As sF, fun n hn => at_ended sF nF hn, by rw [segN_len]; omega, Nat.zero_le _, Int.mul_nonneg (by omega) (by omega)⟩ ⟨p4, pe, SqT.of upd_same, NF.Same.tup s6 (NF.Same.tup s5 t4), NF.Same.tup s6 (SqT.of upd_same)⟩
      · rw [ne_nil c2]
        refine iteF' rfl ?_
        have l20 := len_pos c2
        refine ⟨_, rfl, _, rfl, _, rfl, _, _, rfl, rfl, _, rfl, x2, y2, y1.1.length, rest, rfl, tb2.mono s12, .inl c2, r20, by omega, k2, by omega, by omega, by omega, fun qc H3 s3 hqc => ?_⟩
        refine ⟨qc, _, rfl, Or.inl (SqL.of hqc), fun pt H4 s4 hpt => ?_⟩
        have s34 := Same.trans s3 s4
        have nx : segN (at_ y2.1 y2.2.1 y2.2.2) y1.1.length rest = segN (fun n => chO false (atY y1 n) (atY y2 n)) (0 + y1.1.length) rest := by
          rw [Nat.zero_add]
          exact segN_congr fun n h1 _ => (far n h1).symm
        rw [nx] at hpt
        refine catA_done (K := K) (NF.Same.tup s34 hh) hpt (Nat.le_trans (show (vI (segN _ 0 y1.1.length)).length + (vI (segN _ (0 + y1.1.length) rest)).length ≤ 30000 by rw [vI_len, vI_len, segN_len, segN_len]; omega) (by decide)) fun p5 H5 s5 t5 => ?_
        rw [vI_app, ← segN_add] at t5
        have s15 := Same.trans s12 (Same.trans s34 s5)
        refine ⟨_, rfl, _, rfl, _, rfl, _, _, rfl, rfl, _, _, rfl, rfl, _, rfl, x2, C, dx2, _, _, rfl, s15 _ _ hx2, tc.cl, tc.lp, rfl, b2, _, rfl, Or.inr (NF.Same.tup s15 hb2), ?_⟩
        rw [vI_len]
        refine ⟨x2, y2, y1.1.length + rest, y2.2.1.length, rfl, tb2.mono s15, .inl c2, r20, by omega, k2, by omega, by omega, by omega, fun qd H6 s6 hqd => ?_⟩
        refine ⟨qd, _, rfl, Or.inl (SqL.of hqd), fun pl H7 s7 hpl => ?_⟩
        have s17 := Same.trans s15 (Same.trans s6 s7)
        refine ⟨_, rfl, x2, C, dx2, _, _, rfl, s17 _ _ hx2, tc.cl, tc.ri, rfl, (by show 3 ≤ sizeLine; decide), fun pr' hpr => ?_⟩
        have s8 := NF.Same.new (o := .tup [V.ref p5, V.ref pl, V.int y2.2.2]) (Same.refl H7) hpr
        have lbb : 0 < lb y1 y2 ∧ y2.2.1.length ≤ lb y1 y2 := by
          unfold lb
          omega
        obtain ⟨t1, t2⟩ := tail_form (h := y2.1) (N := y1.1.length + rest) As c2 (by omega) (fun n _ => by
          by_cases c3 : n ≤ y1.1.length
          · show chO false (atY y1 n) (atY y2 n) ≠ none
            rw [one n c3, two n c3]
            exact fun z => by cases z
          · show chO false (atY y1 n) (atY y2 n) ≠ none
            rw [far n (by omega)]
            exact atY_ne c2 n) fun n hn => far n (by omega)
        exact q pr' (segN (fun n => chO false (atY y1 n) (atY y2 n)) 0 (y1.1.length + rest), segN (atY y2) (y1.1.length + rest) y2.2.1.length, y2.2.2) _ (Same.trans s17 s8) ⟨t1, t2, by rw [segN_len]; omega, by rw [segN_len]; exact lbb.2, rise_tail r10 r20 (by dsimp only; omega) lbb.1⟩ ⟨p5, pl, SqT.of upd_same, NF.Same.tup s8 (NF.Same.tup (Same.trans s6 s7) t5), NF.Same.tup s8 hpl⟩
end
end K05
set_option Elab.async false
set_option linter.all false
set_option maxRecDepth 100000
set_option maxHeartbeats 4000000
namespace K05
open PySem PySem.Spec PyProof.Rows L2 He NF RZ NT
theorem lb_comm (y1 y2 : Y) : lb y1 y2 = lb y2 y1 := by
  unfold lb
  rw [Nat.lcm_comm, Nat.max_comm y1.2.1.length]
theorem Tell.symm {g : Bool} {y1 y2 : Y} {N : Nat} {u : Y} (t : Tell g y1 y2 N u) : Tell g y2 y1 N u :=
  ⟨t.gd, fun n hn => by rw [t.e n hn, chO_comm], t.h, by rw [lb_comm]; exact t.l, by rw [lb_comm, Int.add_comm]; exact t.r⟩
theorem Pair.symm {y1 y2 : Y} {N : Nat} (p : Pair y1 y2 N) : Pair y2 y1 N := ⟨p.f2, p.f1, p.b2, p.b1, p.n0, by rw [Nat.lcm_comm]; exact p.lc, p.dom.symm⟩
section
variable {P : Program} {w : World} {K : PySem.W.Frag} {mg : Str → Option Value} {base : Heap} {gs fs : List Str} {C : Addr}
theorem ok_either_form {f : Addr} {fd : FuncData} (F : FunD K "either_form" "either_form" (defArgs s_either_form) (defBody s_either_form) (defScope s_either_form) [] [] f fd) (T : Txt K mg gs FS) (tc : TabC K C) (c_joined_form : Cal P w K mg base 6 "joined_form" (spJoined K C)) (c_values_from : Cal P w K mg base 2 "values_from" (spFrom K C)) (c_chosen : Cal P w K mg base 1 "chosen" (spChosen K)) (c_either_formA : Cal P w K mg base 7 "either_form" (spEithA K C)) : FnOk P w K mg base CX0 8 f fd ["first", "second"] (spBoth K C false) := by
  refine F.ok sc_either_form (fun vs H Q E h => ?_) (fun cdv A outer s H vs Q E hr h => ?_)
  · obtain ⟨x1, x2, y1, y2, N, rfl, _⟩ := h
    rfl
  · obtain ⟨x1, x2, y1, y2, N, rfl, tb1, tb2, pr, q⟩ := h
    have f1 := pr.f1
    have f2 := pr.f2
    have n0 := pr.n0
    have l1 := f1.l
    have l2 := f2.l
    have k1 := f1.h
    have k2 := f2.h
    have r1 := f1.r
    have r2 := f2.r
    have r10 := f1.g.r0
    have r20 := f2.g.r0
    have pb1 := pr.b1
    have pb2 := pr.b2
    obtain ⟨dx1, a1, b1, hx1, ha1, hb1⟩ := id tb1
    obtain ⟨dx2, a2, b2, hx2, ha2, hb2⟩ := id tb2
    refine ⟨_, PSs.nox (pss_cons (ps_if (PW.pt (pw_and (pt_truth (pe_fld (pv 0) rfl) (fun _ => rfl)) (pw_and1 (pt_truth (pe_fld (pv 1) rfl) (fun _ => rfl))))) (pss_one (ps_ret (pe_c c_joined_form hr (by decide) rfl (pa_cons (pv 0) (pa_cons (pv 1) (pa_cons pe_bl pa_nil)))))) pss_nil) (pss_cons (ps_if (PW.pt (pw_or (pt_truth (pe_fld (pv 0) rfl) (fun _ => rfl)) (pw_or1 (PW.pt (pw_and (pt_cmpR op_gt (pe_callB call_len_seq rfl (T.fr _ (by decide +kernel)) boot_len (pa_cons (pe_fld (pv 0) rfl) pa_nil)) (pe_callB call_len_seq rfl (T.fr _ (by decide +kernel)) boot_len (pa_cons (pe_fld (pv 1) rfl) pa_nil)) (nomark _)) (pw_and1 (pt_not (pt_truth (pe_fld (pv 1) rfl) (fun _ => rfl))))))))) (pss_one (ps_ret (pe_c c_either_formA hr (by decide) rfl (pa_cons (pv 1) (pa_cons (pv 0) pa_nil))))) pss_nil) (pss_cons (ps_set (i := 2) sc_either_form.nd rfl (Or.inl rfl) (pe_callB call_len_seq rfl (T.fr _ (by decide +kernel)) boot_len (pa_cons (pe_fld (pv 0) rfl) pa_nil))) (pss_cons (ps_set (i := 3) sc_either_form.nd rfl (Or.inl rfl) (pe_c c_chosen hr (by decide) rfl (pa_cons (pe_fld (pv 0) rfl) (pa_cons (pe_c c_values_from hr (by decide) rfl (pa_cons (pv 1) (pa_cons pe_int (pa_cons (pv 2) pa_nil)))) (pa_cons pe_bl pa_nil))))) (pss_cons (ps_set (i := 4) sc_either_form.nd rfl (Or.inl rfl) (pe_callB (call_max2 rfl) rfl (T.fr _ (by decide +kernel)) (by decide +kernel) (pa_cons pe_int (pa_cons (pe_op op_sub (pe_callB call_len_seq rfl (T.fr _ (by decide +kernel)) boot_len (pa_cons (pe_fld (pv 1) rfl) pa_nil)) (pv 2)) pa_nil)))) (pss_cons (ps_if (pt_not (pt_truth (pe_fld (pv 1) rfl) (fun _ => rfl))) (pss_one (ps_ret (pe_tup (pa_cons (pe_op op_catA (pv 3) (pe_slice sl_tupA (pe_fld (pv 1) rfl) (po_some (pv 2)) po_none)) (pa_cons (pe_tup pa_nil) (pa_cons pe_int pa_nil)))))) pss_nil) (pss_one (ps_ret (pe_tup (pa_cons (pe_op op_catA (pv 3) (pe_callTy cr_tup rfl (T.fr _ (by decide +kernel)) (by decide +kernel) (pa_cons (pe_c c_values_from hr (by decide) rfl (pa_cons (pv 1) (pa_cons (pe_op op_add (pv 2) pe_int) (pa_cons (pv 4) pa_nil)))) pa_nil))) (pa_cons (pe_callTy cr_tup rfl (T.fr _ (by decide +kernel)) (by decide +kernel) (pa_cons (pe_c c_values_from hr (by decide) rfl (pa_cons (pv 1) (pa_cons (pe_op op_add (pe_op op_add (pv 2) (pv 4)) pe_int) (pa_cons (pe_callB call_len_seq rfl (T.fr _ (by decide +kernel)) boot_len (pa_cons (pe_fld (pv 1) rfl) pa_nil)) pa_nil)))) pa_nil)) (pa_cons (pe_fld (pv 1) rfl) pa_nil)))))))))))), ?_⟩
    refine ⟨_, rfl, x1, C, dx1, _, _, rfl, hx1, tc.cl, tc.lp, rfl, _, tru_tup hb1, ?_⟩
    by_cases e1 : y1.2.1 = []
    · rw [is_nil e1]
      refine iteF (iteF ?_)
      refine ⟨_, rfl, x1, C, dx1, _, _, rfl, hx1, tc.cl, tc.lp, rfl, _, tru_tup hb1, ?_⟩
      rw [is_nil e1]
      refine iteF ?_
      refine ⟨_, rfl, x1, C, dx1, _, _, rfl, hx1, tc.cl, tc.hd, rfl, a1, _, rfl, Or.inr ha1, ?_⟩
      refine ⟨_, rfl, x2, C, dx2, _, _, rfl, hx2, tc.cl, tc.hd, rfl, a2, _, rfl, Or.inr ha2, ?_⟩
      rw [vI_len, vI_len]
      refine ⟨_, _, rfl, rfl, _, rfl, ?_⟩
      by_cases e2 : y2.2.1 ≠ [] ∨ y1.1.length ≤ y2.1.length
      · have el : y2.1.length < y1.1.length → y2.2.1 ≠ [] := fun z => e2.resolve_right (by omega)
        refine' shr (fun kk => ?A) ?B
        case A =>
          by_cases c : (y2.1.length : Int) < (y1.1.length : Int)
          · refine iteT' (decide_eq_true c) ⟨_, rfl, x2, C, dx2, _, _, rfl, hx2, tc.cl, tc.lp, rfl, _, tru_tup hb2, ?_⟩
            rw [ne_nil (el (Int.ofNat_lt.mp c))]
            exact iteF' rfl kk
          · exact iteF' (decide_eq_false c) (iteF kk)
        case B =>
          refine ⟨_, rfl, x1, C, dx1, _, _, rfl, hx1, tc.cl, tc.hd, rfl, a1, _, rfl, Or.inr ha1, ?_⟩
          rw [vI_len]
          refine ⟨_, rfl, x1, C, dx1, _, _, rfl, hx1, tc.cl, tc.hd, rfl, _, rfl, _, rfl, x2, y2, 0, y1.1.length, rfl, tb2, e2.imp id (fun z => by omega), r20, by omega, k2, by omega, by omega, by omega, fun qb H1 s1 hqb => ?_⟩
          have ha11 := NF.Same.tup s1 ha1
          rw [show vI y1.1 = vI (segN (at_ y1.1 y1.2.1 y1.2.2) 0 y1.1.length) from congrArg vI head_seg] at ha11
          have one : ∀ n, n ≤ y1.1.length → atY y1 n = some (numY y1 n) := fun n hn => at_some n (.inl hn)
          have two : ∀ n, n ≤ y1.1.length → atY y2 n = some (numY y2 n) := fun n hn => at_some n (e2.symm.imp (fun z => by omega) id)
          have far : ∀ n, y1.1.length < n → chO false (atY y1 n) (atY y2 n) = atY y2 n := fun n hn => by
            have : atY y1 n = none := by
              show at_ y1.1 y1.2.1 y1.2.2 n = none
              unfold at_
              rw [if_neg (by omega), if_pos e1]
            rw [this]
            rfl
          have As := asc_cho (asc_at f1.g) (asc_at f2.g) false
          refine ⟨a1, qb, false, _, _, rfl, .inr ha11, SqL.of hqb, by rw [segN_len, segN_len], by rw [segN_len]; omega, fun ph H2 s2 hh => ?_⟩
          rw [zip_seg (fun n _ h => by rw [show at_ y1.1 y1.2.1 y1.2.2 n = _ from one n (by omega)]; exact fun z => by cases z) fun n _ h => by rw [show at_ y2.1 y2.2.1 y2.2.2 n = _ from two n (by omega)]; exact fun z => by cases z] at hh
          have s12 := Same.trans s1 s2
          have hx22 := s12 _ _ hx2
          have ha22 := NF.Same.tup s12 ha2
          have hb22 := NF.Same.tup s12 hb2
          obtain ⟨rest, hrest⟩ : ∃ rest, rest = y2.1.length - y1.1.length := ⟨_, rfl⟩
          have er : (if (y2.1.length : Int) - (y1.1.length : Int) > 0 then (y2.1.length : Int) - (y1.1.length : Int) else 0) = (rest : Int) := by
            split <;> omega
          refine ⟨_, rfl, x2, C, dx2, _, _, rfl, hx22, tc.cl, tc.hd, rfl, a2, _, rfl, Or.inr ha22, _, rfl, _, _, rfl, rfl, _, _, rfl, ?_⟩
          rw [vI_len]
          show gName 4 (V.int (if (y2.1.length : Int) - (y1.1.length : Int) > 0 then (y2.1.length : Int) - (y1.1.length : Int) else 0)) _ _ _
          rw [er]
          refine ⟨_, rfl, x2, C, dx2, _, _, rfl, hx22, tc.cl, tc.lp, rfl, _, tru_tup hb22, ?_⟩
          by_cases c2 : y2.2.1 = []
          · rw [is_nil c2]
            have le12 : y1.1.length ≤ y2.1.length := e2.resolve_left (fun z => z c2)
            refine iteT' rfl ⟨_, rfl, _, rfl, x2, C, dx2, _, _, rfl, hx22, tc.cl, tc.hd, rfl, _, rfl, _, rfl, ?_⟩
            refine slA_from (K := K) ha22 fun p3 H3 s3 t3 => ?_
            have ed : y2.1.drop y1.1.length = segN (at_ y2.1 y2.2.1 y2.2.2) y1.1.length rest := by
              rw [← seg_head (show y1.1.length + rest ≤ y2.1.length by omega), List.take_of_length_le (by rw [List.length_drop]; omega)]
            rw [cut_from, vI_drop, ed] at t3
            have nx : segN (at_ y2.1 y2.2.1 y2.2.2) y1.1.length rest = segN (fun n => chO false (atY y1 n) (atY y2 n)) (0 + y1.1.length) rest := by
              rw [Nat.zero_add]
              exact segN_congr fun n h1 _ => (far n h1).symm
            rw [nx] at t3
            refine catA_done (K := K) (NF.Same.tup s3 hh) t3 (Nat.le_trans (show (vI (segN _ 0 y1.1.length)).length + (vI (segN _ (0 + y1.1.length) rest)).length ≤ 30000 by rw [vI_len, vI_len, segN_len, segN_len]; omega) (by decide)) fun p4 H4 s4 t4 => ?_
            rw [vI_app, ← segN_add] at t4
            refine ⟨(by show 0 ≤ sizeLine; decide), fun pe hpe => ⟨(by show 3 ≤ sizeLine; decide), fun pr' hpr => ?_⟩⟩
            have s5 := NF.Same.new (o := .tup []) (Same.refl H4) hpe
            have s6 := NF.Same.new (o := .tup [V.ref p4, V.ref pe, V.int 0]) (Same.refl _) hpr
            have sF : ∀ n, 1 ≤ n → n ≤ y1.1.length + rest → chO false (atY y1 n) (atY y2 n) ≠ none := fun n _ hn => by
              by_cases c3 : n ≤ y1.1.length
              · rw [one n c3, two n c3]
                exact fun z => by cases z
              · rw [far n (by omega), show atY y2 n = _ from at_some n (.inl (by omega))]
                exact fun z => by cases z
            have nF : ∀ n, y1.1.length + rest < n → chO false (atY y1 n) (atY y2 n) = none := fun n hn => by
              rw [far n (by omega)]
              show at_ y2.1 y2.2.1 y2.2.2 n = none
              unfold at_
              rw [if_neg (by omega), if_pos c2]
            exact q pr' (segN (fun n => chO false (atY y1 n) (atY y2 n)) 0 (y1.1.length + rest), [], 0) _ (Same.trans s12 (Same.trans s3 (Same.trans s4 (Same.trans s5 s6)))) ⟨ended As sF, fun n hn => at_ended sF nF hn, by rw [segN_len]; omega, Nat.zero_le _, Int.mul_nonneg (by omega) (by omega)⟩ ⟨p4, pe, SqT.of upd_same, NF.Same.tup s6 (NF.Same.tup s5 t4), NF.Same.tup s6 (SqT.of upd_same)⟩
          · rw [ne_nil c2]
            refine iteF' rfl ?_
            have l20 := len_pos c2
            refine ⟨_, rfl, _, rfl, _, rfl, _, _, rfl, rfl, _, rfl, x2, y2, y1.1.length, rest, rfl, tb2.mono s12, .inl c2, r20, by omega, k2, by omega, by omega, by omega, fun qc H3 s3 hqc => ?_⟩
            refine ⟨qc, _, rfl, Or.inl (SqL.of hqc), fun pt H4 s4 hpt => ?_⟩
            have s34 := Same.trans s3 s4
            have nx : segN (at_ y2.1 y2.2.1 y2.2.2) y1.1.length rest = segN (fun n => chO false (atY y1 n) (atY y2 n)) (0 + y1.1.length) rest := by
              rw [Nat.zero_add]
              exact segN_congr fun n h1 _ => (far n h1).symm
            rw [nx] at hpt
            refine catA_done (K := K) (NF.Same.tup s34 hh) hpt (Nat.le_trans (show (vI (segN _ 0 y1.1.length)).length + (vI (segN _ (0 + y1.1.length) rest)).length ≤ 30000 by rw [vI_len, vI_len, segN_len, segN_len]; omega) (by decide)) fun p5 H5 s5 t5 => ?_
            rw [vI_app, ← segN_add] at t5
            have s15 := Same.trans s12 (Same.trans s34 s5)
            refine ⟨_, rfl, _, rfl, _, rfl, _, _, rfl, rfl, _, _, rfl, rfl, _, rfl, x2, C, dx2, _, _, rfl, s15 _ _ hx2, tc.cl, tc.lp, rfl, b2, _, rfl, Or.inr (NF.Same.tup s15 hb2), ?_⟩
            rw [vI_len]
            refine ⟨x2, y2, y1.1.length + rest, y2.2.1.length, rfl, tb2.mono s15, .inl c2, r20, by omega, k2, by omega, by omega, by omega, fun qd H6 s6 hqd => ?_⟩
            refine ⟨qd, _, rfl, Or.inl (SqL.of hqd), fun pl H7 s7 hpl => ?_⟩
            have s17 := Same.trans s15 (Same.trans s6 s7)
            refine ⟨_, rfl, x2, C, dx2, _, _, rfl, s17 _ _ hx2, tc.cl, tc.ri, rfl, (by show 3 ≤ sizeLine; decide), fun pr' hpr => ?_⟩
            have s8 := NF.Same.new (o := .tup [V.ref p5, V.ref pl, V.int y2.2.2]) (Same.refl H7) hpr
            have lbb : 0 < lb y1 y2 ∧ y2.2.1.length ≤ lb y1 y2 := by
              unfold lb
              omega
            obtain ⟨t1, t2⟩ := tail_form (h := y2.1) (N := y1.1.length + rest) As c2 (by omega) (fun n _ => by
              by_cases c3 : n ≤ y1.1.length
              · show chO false (atY y1 n) (atY y2 n) ≠ none
                rw [one n c3, two n c3]
                exact fun z => by cases z
              · show chO false (atY y1 n) (atY y2 n) ≠ none
                rw [far n (by omega)]
                exact atY_ne c2 n) fun n hn => far n (by omega)
            exact q pr' (segN (fun n => chO false (atY y1 n) (atY y2 n)) 0 (y1.1.length + rest), segN (atY y2) (y1.1.length + rest) y2.2.1.length, y2.2.2) _ (Same.trans s17 s8) ⟨t1, t2, by rw [segN_len]; omega, by rw [segN_len]; exact lbb.2, rise_tail r10 r20 (by dsimp only; omega) lbb.1⟩ ⟨p5, pl, SqT.of upd_same, NF.Same.tup s8 (NF.Same.tup (Same.trans s6 s7) t5), NF.Same.tup s8 hpl⟩
      · have z2 : y2.2.1 = [] := Classical.byContradiction fun z => e2 (.inl z)
        have z3 : (y2.1.length : Int) < (y1.1.length : Int) := by
          have : ¬ y1.1.length ≤ y2.1.length := fun z => e2 (.inr z)
          omega
        refine iteT' (decide_eq_true z3) ⟨_, rfl, x2, C, dx2, _, _, rfl, hx2, tc.cl, tc.lp, rfl, _, tru_tup hb2, ?_⟩
        rw [is_nil z2]
        refine iteT' rfl ⟨_, rfl, _, rfl, x2, x1, y2, y1, N, rfl, tb2, tb1, pr.symm, z2, .inr (by omega), fun p u H' s' t fo => q p u H' s' t.symm fo⟩
    · rw [ne_nil e1]
      refine iteT ⟨_, rfl, x2, C, dx2, _, _, rfl, hx2, tc.cl, tc.lp, rfl, _, tru_tup hb2, ?_⟩
      by_cases e2 : y2.2.1 = []
      · rw [is_nil e2]
        refine iteF ?_
        refine ⟨_, rfl, x1, C, dx1, _, _, rfl, hx1, tc.cl, tc.lp, rfl, _, tru_tup hb1, ?_⟩
        rw [ne_nil e1]
        refine iteT (iteT ⟨_, rfl, _, rfl, x2, x1, y2, y1, N, rfl, tb2, tb1, pr.symm, e2, .inl e1, fun p u H' s' t fo => q p u H' s' t.symm fo⟩)
      · rw [ne_nil e2]
        exact iteT ⟨_, rfl, _, rfl, x1, x2, y1, y2, N, false, rfl, tb1, tb2, f1, f2, e1, e2, pb1, pb2, n0, pr.lc, pr.dom, q⟩
end
end K05
set_option Elab.async false
set_option linter.all false
set_option maxRecDepth 100000
set_option maxHeartbeats 4000000
namespace K05
open PySem PySem.Spec PyProof.Rows L2 He NF RZ NT
/-- x & y, x | y -/
def spOp (K : PySem.W.Frag) (C : Addr) (g : Bool) : Sp := fun vs H Q _ => ∃ (x1 x2 : Addr) (y1 y2 : Y) (N : Nat), vs = [.ref x1, .ref x2] ∧ TabAt K C H x1 y1 ∧ TabAt K C H x2 y2 ∧ Pair y1 y2 N ∧ N + lb y1 y2 ≤ 10000 ∧
  ∀ x u z H', Tell g y1 y2 N u → IsPlain u.1 u.2.1 u.2.2 z → Same H H' → TabAt K C H' x z → Q (.ref x) H'
theorem sc_Table___and__ : FnScope ["self", "other", "head", "loop", "rise"] ["self", "other"] (defScope s_Table_and) := ⟨rfl, rfl, rfl, by decide +kernel, rfl, by decide +kernel, by decide +kernel⟩
theorem sc_Table___or__ : FnScope ["self", "other", "head", "loop", "rise"] ["self", "other"] (defScope s_Table_or) := ⟨rfl, rfl, rfl, by decide +kernel, rfl, by decide +kernel, by decide +kernel⟩
section
variable {P : Program} {w : World} {K : PySem.W.Frag} {mg : Str → Option Value} {base : Heap} {gs fs : List Str} {C : Addr}
theorem ok_Table_and {f : Addr} {fd : FuncData} (F : FunD K "__and__" "Table.__and__" (defArgs s_Table_and) (defBody s_Table_and) (defScope s_Table_and) [] [] f fd) (T : Txt K mg gs FS) (c_both_form : Cal P w K mg base 7 "both_form" (spBoth K C true)) (m_Table : Mak P w K mg base 4 0 "Table" C (spInit K C) []) : FnOk P w K mg base CX0 10 f fd ["self", "other"] (spOp K C true) := by
  refine F.ok sc_Table___and__ (fun vs H Q E h => ?_) (fun cdv A outer s H vs Q E hr h => ?_)
  · obtain ⟨x1, x2, y1, y2, N, rfl, _⟩ := h
    rfl
  · obtain ⟨x1, x2, y1, y2, N, rfl, tb1, tb2, pr, sz, q⟩ := h
    refine ⟨_, PSs.nox (pss_cons (ps_asg (pe_c c_both_form hr (by decide) rfl (pa_cons (pv 0) (pa_cons (pv 1) pa_nil))) (pgt (K := K) (n := 3) rfl rfl (pgs_cons (pg_name (i := 2) sc_Table___and__.nd rfl (Or.inl rfl)) (pgs_cons (pg_name (i := 3) sc_Table___and__.nd rfl (Or.inl rfl)) (pgs_cons (pg_name (i := 4) sc_Table___and__.nd rfl (Or.inl rfl)) pgs_nil))))) (pss_one (ps_ret (pe_mk m_Table hr (by decide) rfl (pa_cons (pv 2) (pa_cons (pv 3) (pa_cons (pv 4) pa_nil))))))), ?_⟩
    refine ⟨_, rfl, _, rfl, x1, x2, y1, y2, N, rfl, tb1, tb2, pr, fun p u H1 s1 tl ⟨a, b, hp, ha, hb⟩ => ?_⟩
    refine ⟨p, _, rfl, hp, rfl, _, _, rfl, ?_⟩
    refine ⟨_, _, rfl, ?_⟩
    refine ⟨_, _, rfl, ?_⟩
    refine ⟨rfl, ?_⟩
    refine ⟨_, rfl, _, rfl, _, rfl, ?_⟩
    intro x dx nx nd ne
    exact ⟨x, dx, a, b, u.1, u.2.1, u.2.2, rfl, upd_same, row_made nx nd (.inr ha), row_made nx nd (.inr hb), tl.gd, by have := tl.h; have := tl.l; omega, fun z H' hz s tb => ⟨rfl, q x u z H' tl hz (Same.trans s1 (same_made nx nd s)) tb⟩⟩
theorem ok_Table_or {f : Addr} {fd : FuncData} (F : FunD K "__or__" "Table.__or__" (defArgs s_Table_or) (defBody s_Table_or) (defScope s_Table_or) [] [] f fd) (T : Txt K mg gs FS) (c_either_form : Cal P w K mg base 8 "either_form" (spBoth K C false)) (m_Table : Mak P w K mg base 4 0 "Table" C (spInit K C) []) : FnOk P w K mg base CX0 10 f fd ["self", "other"] (spOp K C false) := by
  refine F.ok sc_Table___or__ (fun vs H Q E h => ?_) (fun cdv A outer s H vs Q E hr h => ?_)
  · obtain ⟨x1, x2, y1, y2, N, rfl, _⟩ := h
    rfl
  · obtain ⟨x1, x2, y1, y2, N, rfl, tb1, tb2, pr, sz, q⟩ := h
    refine ⟨_, PSs.nox (pss_cons (ps_asg (pe_c c_either_form hr (by decide) rfl (pa_cons (pv 0) (pa_cons (pv 1) pa_nil))) (pgt (K := K) (n := 3) rfl rfl (pgs_cons (pg_name (i := 2) sc_Table___or__.nd rfl (Or.inl rfl)) (pgs_cons (pg_name (i := 3) sc_Table___or__.nd rfl (Or.inl rfl)) (pgs_cons (pg_name (i := 4) sc_Table___or__.nd rfl (Or.inl rfl)) pgs_nil))))) (pss_one (ps_ret (pe_mk m_Table hr (by decide) rfl (pa_cons (pv 2) (pa_cons (pv 3) (pa_cons (pv 4) pa_nil))))))), ?_⟩
    refine ⟨_, rfl, _, rfl, x1, x2, y1, y2, N, rfl, tb1, tb2, pr, fun p u H1 s1 tl ⟨a, b, hp, ha, hb⟩ => ?_⟩
    refine ⟨p, _, rfl, hp, rfl, _, _, rfl, ?_⟩
    refine ⟨_, _, rfl, ?_⟩
    refine ⟨_, _, rfl, ?_⟩
    refine ⟨rfl, ?_⟩
    refine ⟨_, rfl, _, rfl, _, rfl, ?_⟩
    intro x dx nx nd ne
    exact ⟨x, dx, a, b, u.1, u.2.1, u.2.2, rfl, upd_same, row_made nx nd (.inr ha), row_made nx nd (.inr hb), tl.gd, by have := tl.h; have := tl.l; omega, fun z H' hz s tb => ⟨rfl, q x u z H' tl hz (Same.trans s1 (same_made nx nd s)) tb⟩⟩
end
end K05
set_option linter.all false
set_option maxHeartbeats 4000000
/-! The greater and the lesser one: what both do together. Plain Lean. -/
namespace NT
theorem chO_idem (g : Bool) (a : Option Int) : chO g a a = a := by
  cases g
  · exact (chO_le (leO.refl a)).2
  · exact (chO_le (leO.refl a)).1
theorem leO_max {a b c : Option Int} : leO (chO true a b) c ↔ leO a c ∧ leO b c := by
  rcases leO.total a b with h | h
  · rw [(chO_le h).1]
    exact ⟨fun k => ⟨h.trans k, k⟩, fun k => k.2⟩
  · rw [(chO_ge h).1]
    exact ⟨fun k => ⟨k, h.trans k⟩, fun k => k.1⟩
theorem leO_min {a b c : Option Int} : leO c (chO false a b) ↔ leO c a ∧ leO c b := by
  rcases leO.total a b with h | h
  · rw [(chO_le h).2]
    exact ⟨fun k => ⟨k, k.trans h⟩, fun k => k.1⟩
  · rw [(chO_ge h).2]
    exact ⟨fun k => ⟨k.trans h, k⟩, fun k => k.2⟩
theorem leO.anti {a b : Option Int} (h : leO a b) (k : leO b a) : a = b := by
  rcases h with rfl | ⟨x, y, rfl, rfl, h⟩
  · rcases k with k | ⟨_, _, k, _⟩
    · exact k
    · cases k
  · rcases k with k | ⟨u, v, e1, e2, k⟩
    · cases k
    · injection e1 with e1
      injection e2 with e2
      congr 1
      omega
theorem up_eq {a b : Option Int} (h : ∀ c, leO a c ↔ leO b c) : a = b := ((h b).mpr (leO.refl b)).anti ((h a).mp (leO.refl a))
theorem dn_eq {a b : Option Int} (h : ∀ c, leO c a ↔ leO c b) : a = b := ((h a).mp (leO.refl a)).anti ((h b).mpr (leO.refl b))
theorem chO_assoc (g : Bool) (a b c : Option Int) : chO g (chO g a b) c = chO g a (chO g b c) := by
  cases g
  · exact dn_eq fun d => by rw [leO_min, leO_min, leO_min, leO_min, and_assoc]
  · exact up_eq fun d => by rw [leO_max, leO_max, leO_max, leO_max, and_assoc]
theorem chO_absorb (g : Bool) (a b : Option Int) : chO g a (chO (!g) a b) = a := by
  rcases leO.total a b with h | h <;> cases g
  · show chO false a (chO true a b) = a
    rw [(chO_le h).1, (chO_le h).2]
  · show chO true a (chO false a b) = a
    rw [(chO_le h).2, chO_idem]
  · show chO false a (chO true a b) = a
    rw [(chO_ge h).1, chO_idem]
  · show chO true a (chO false a b) = a
    rw [(chO_ge h).2, (chO_ge h).1]
theorem chO_distr (g : Bool) (a b c : Option Int) : chO g a (chO (!g) b c) = chO (!g) (chO g a b) (chO g a c) := by
  have mono : ∀ {g : Bool} {x y : Option Int}, leO x y → leO (chO g a x) (chO g a y) := fun {g x y} h => by
    cases g
    · exact leO_min.mpr ⟨(leO_min.mp (leO.refl _)).1, (leO_min.mp (leO.refl _)).2.trans h⟩
    · exact leO_max.mpr ⟨(leO_max.mp (leO.refl _)).1, h.trans (leO_max.mp (leO.refl _)).2⟩
  rcases leO.total b c with h | h <;> cases g
  · show chO false a (chO true b c) = chO true (chO false a b) (chO false a c)
    rw [(chO_le h).1, (chO_le (mono h)).1]
  · show chO true a (chO false b c) = chO false (chO true a b) (chO true a c)
    rw [(chO_le h).2, (chO_le (mono h)).2]
  · show chO false a (chO true b c) = chO true (chO false a b) (chO false a c)
    rw [(chO_ge h).1, (chO_ge (mono h)).1]
  · show chO true a (chO false b c) = chO false (chO true a b) (chO true a c)
    rw [(chO_ge h).2, (chO_ge (mono h)).2]
theorem low_arith {Ls Lf rs rf As Af vs vf n : Int} (h1 : Ls = 1 ∨ Ls = 2 ∨ Ls = 3 ∨ Ls = 4) (h2 : Lf = 1 ∨ Lf = 2 ∨ Lf = 3 ∨ Lf = 4) (a1 : Ls * As ≤ rs * n) (a2 : rf * n - 88 ≤ Lf * Af) (v1 : vs ≤ 41) (v2 : 0 ≤ vf) (n0 : 0 ≤ n) (hD : rs * Lf < rf * Ls) :
    Lf * (vs + As - (vf + Af) - 41) ≤ 88 ∧ (844 < n → vs + As ≤ vf + Af) := by
  have hm : n ≤ Ls * (rf * n) - Lf * (rs * n) := by
    have : 1 * n ≤ (rf * Ls - rs * Lf) * n := Int.mul_le_mul_of_nonneg_right (by omega) n0
    rw [Int.sub_mul, Int.mul_comm rf Ls, Int.mul_comm rs Lf, Int.mul_assoc, Int.mul_assoc] at this
    omega
  have he : Ls = Lf → n ≤ rf * n - rs * n := fun e => by
    have k : rs < rf := by
      rw [e] at hD
      rcases h2 with rfl | rfl | rfl | rfl <;> omega
    have : 1 * n ≤ (rf - rs) * n := Int.mul_le_mul_of_nonneg_right (by omega) n0
    rw [Int.sub_mul] at this
    omega
  generalize rs * n = P at *
  generalize rf * n = Q at *
  rcases h1 with rfl | rfl | rfl | rfl <;> rcases h2 with rfl | rfl | rfl | rfl <;> (try have he := he rfl) <;> exact ⟨by omega, fun _ => by omega⟩
theorem lcm12 {a b : Nat} (ha : a ≤ 4) (hb : b ≤ 4) : Nat.lcm a b ≤ 12 := by
  have : ∀ a b : Fin 5, Nat.lcm a.val b.val ≤ 12 := by decide
  exact this ⟨a, by omega⟩ ⟨b, by omega⟩
theorem lcm_le (a b : Nat) : Nat.lcm a b ≤ a * b := Nat.div_le_self _ _
end NT
set_option Elab.async false
set_option linter.all false
set_option maxRecDepth 100000
set_option maxHeartbeats 4000000
namespace K05
open PySem PySem.Spec PyProof.Rows L2 He NF RZ NT
/-- a table that the law compares: few and low entries -/
structure Low (y : Y) : Prop where
  g : Good y.1 y.2.1 y.2.2
  h : y.1.length ≤ 4
  l : y.2.1.length ≤ 4
  r : y.2.2 ≤ 11
  b : ∀ i, i < y.2.1.length → y.2.1.getD i 0 ≤ 41
theorem Low.of {y : Y} (a : Raw0 y) : Low y := ⟨a.g, a.h, a.l, Int.le_trans a.r (by decide), fun i hi => Int.le_trans (a.bl i hi) (by decide)⟩
theorem out_none {h l : List Int} {r : Int} (hl : l = []) {n : Nat} (hn : h.length < n) : at_ h l r n = none := by
  unfold at_
  rw [if_neg (by omega), if_pos hl]
theorem four {n : Nat} (h : 0 < n) (k : n ≤ 4) : (n : Int) = 1 ∨ (n : Int) = 2 ∨ (n : Int) = 3 ∨ (n : Int) = 4 := by omega
theorem num_part {y : Y} (hl : y.2.1 ≠ []) {n : Nat} (hn : y.1.length < n) : ∃ i k : Nat, i < y.2.1.length ∧ n = y.1.length + 1 + i + y.2.1.length * k ∧ numY y n = y.2.1.getD i 0 + y.2.2 * (k : Int) := by
  have l0 := len_pos hl
  refine ⟨(n - y.1.length - 1) % y.2.1.length, (n - y.1.length - 1) / y.2.1.length, Nat.mod_lt _ l0, ?_, ?_⟩
  · have := Nat.mod_add_div (n - y.1.length - 1) y.2.1.length
    omega
  · show num y.1 y.2.1 y.2.2 n = _
    rw [num_walk hl hn]
    rfl
/-- the slower one is not far above, and far out not at all -/
theorem low_far {ys yf : Y} (a : Low ys) (b : Low yf) (ns : ys.2.1 ≠ []) (nf : yf.2.1 ≠ []) (hD : ys.2.2 * (yf.2.1.length : Int) < yf.2.2 * (ys.2.1.length : Int)) {n : Nat} (h1 : ys.1.length < n) (h2 : yf.1.length < n) :
    (yf.2.1.length : Int) * (numY ys n - numY yf n - 41) ≤ 88 ∧ (844 < n → numY ys n ≤ numY yf n) := by
  obtain ⟨i, k, hi, e1, e2⟩ := num_part ns h1
  obtain ⟨j, m, hj, d1, d2⟩ := num_part nf h2
  have ls := len_pos ns
  have lf := len_pos nf
  have rs := a.g.r0
  have rf := b.g.r0
  have rf2 := b.r
  have bh := b.h
  have bl := b.l
  have al := a.l
  have a1 : (ys.2.1.length : Int) * (ys.2.2 * (k : Int)) ≤ ys.2.2 * (n : Int) := by
    rw [Int.mul_left_comm]
    refine Int.mul_le_mul_of_nonneg_left ?_ rs
    rw [e1, ← Int.natCast_mul]
    omega
  have a2 : yf.2.2 * (n : Int) - 88 ≤ (yf.2.1.length : Int) * (yf.2.2 * (m : Int)) := by
    have e : (n : Int) = ((yf.1.length + 1 + j : Nat) : Int) + (yf.2.1.length : Int) * (m : Int) := by rw [← Int.natCast_mul, ← Int.natCast_add, ← d1]
    have le : yf.2.2 * ((yf.1.length + 1 + j : Nat) : Int) ≤ 11 * 8 := Int.mul_le_mul rf2 (by omega) (by omega) (by decide)
    rw [e, Int.mul_add, Int.mul_left_comm (yf.2.1.length : Int)]
    omega
  have := low_arith (four ls al) (four lf bl) a1 a2 (a.b i hi) (climbs_lo b.g.lp hj) (by omega) hD
  rw [e2, d2]
  exact ⟨this.1, fun h => this.2 (by omega)⟩
theorem side_dom {y1 y2 : Y} (n1 : y1.2.1 ≠ []) (n2 : y2.2.1 ≠ []) {N : Nat} (h1 : y1.1.length ≤ N) (h2 : y2.1.length ≤ N) (e : y1.2.2 * (y2.2.1.length : Int) = y2.2.2 * (y1.2.1.length : Int)) : Dom (atY y1) (atY y2) N := by
  refine .inr (.inr ⟨Nat.lcm y1.2.1.length y2.2.1.length, y1.2.2 * ((Nat.lcm y1.2.1.length y2.2.1.length : Nat) : Int) / (y1.2.1.length : Int), Nat.lcm_pos (len_pos n1) (len_pos n2), fun n hn => ?_⟩)
  obtain ⟨x1, x2⟩ := lcm_laps (h1 := y1.1) (h2 := y2.1) (r1 := y1.2.2) (r2 := y2.2.2) n1 n2 e (n := n) (by omega) (by omega)
  refine ⟨numY y1 n, numY y2 n, at_some n (.inr n1), at_some n (.inr n2), ?_, ?_⟩
  · rw [show atY y1 (n + _) = some (numY y1 (n + _)) from at_some _ (.inr n1)]
    exact congrArg some x1
  · rw [show atY y2 (n + _) = some (numY y2 (n + _)) from at_some _ (.inr n2)]
    exact congrArg some x2
theorem dom_low {y1 y2 : Y} (a : Low y1) (b : Low y2) : Dom (atY y1) (atY y2) 844 := by
  have ah := a.h
  have bh := b.h
  by_cases n1 : y1.2.1 = []
  · exact .inr (.inl fun n hn => .inl (out_none n1 (by omega)))
  by_cases n2 : y2.2.1 = []
  · exact .inl fun n hn => .inl (out_none n2 (by omega))
  rcases Int.lt_trichotomy (y1.2.2 * (y2.2.1.length : Int)) (y2.2.2 * (y1.2.1.length : Int)) with h | h | h
  · exact .inl fun n hn => (leO_num n1 n2 n).mpr ((low_far a b n1 n2 h (by omega) (by omega)).2 hn)
  · exact side_dom n1 n2 (by omega) (by omega) h
  · exact .inr (.inl fun n hn => (leO_num n2 n1 n).mpr ((low_far b a n2 n1 h (by omega) (by omega)).2 hn))
/-- z is the plain form of a table whose values are F -/
structure Tb (z : Y) (F : Nat → Option Int) (L : Nat) (R : Int) : Prop where
  p : ∃ u : Y, IsPlain u.1 u.2.1 u.2.2 z
  g : Good z.1 z.2.1 z.2.2
  e : ∀ n, 1 ≤ n → atY z n = F n
  h : z.1.length ≤ 844
  l : z.2.1.length ≤ L
  r : z.2.2 ≤ R
theorem Tb.raw {y z : Y} (g : Good y.1 y.2.1 y.2.2) (h : y.1.length ≤ 4) (l : y.2.1.length ≤ 4) (r : y.2.2 ≤ 11) (p : IsPlain y.1 y.2.1 y.2.2 z) : Tb z (atY y) 4 11 := by
  have q := plain_size p
  have q5 := q.2.2.2.2.1 g.r0
  exact ⟨⟨y, p⟩, (plain_fin g p).1, fun n hn => plain_at p n hn, by have := q.1; omega, by have := q.2.1; omega, by omega⟩
theorem Tb.uniq {z z' : Y} {F F' : Nat → Option Int} {L L' : Nat} {R R' : Int} (a : Tb z F L R) (b : Tb z' F' L' R') (e : ∀ n, 1 ≤ n → F n = F' n) : z = z' := by
  obtain ⟨u, hu⟩ := a.p
  obtain ⟨u', hu'⟩ := b.p
  exact plain_one hu hu' fun n hn => by
    rw [← plain_at hu n hn, ← plain_at hu' n hn]
    exact (a.e n hn).trans ((e n hn).trans (b.e n hn).symm)
theorem Tb.fit {z : Y} {F : Nat → Option Int} {L : Nat} {R : Int} (a : Tb z F L R) (hL : L ≤ 12) (hR : R ≤ 100000) : Fit z := ⟨a.g, Nat.le_trans a.h (by decide), by have := a.l; omega, by have := a.r; omega⟩
theorem Tb.small {z : Y} {F : Nat → Option Int} {L : Nat} {R : Int} (a : Tb z F L R) (hL : L ≤ 144) (hR : R ≤ 100000) : Small z := ⟨Nat.le_trans a.h (by decide), by have := a.l; omega, a.g.r0, by have := a.r; omega⟩
theorem lb_le {z1 z2 : Y} {L1 L2 L : Nat} (h1 : z1.2.1.length ≤ L1) (h2 : z2.2.1.length ≤ L2) (h : (L1 ≤ 4 ∧ L2 ≤ 4 ∧ L = 12) ∨ (L1 ≤ 12 ∧ L2 ≤ 12 ∧ L = 144)) : lb z1 z2 ≤ L := by
  unfold lb
  rcases h with ⟨a, b, rfl⟩ | ⟨a, b, rfl⟩
  · have := lcm12 (show z1.2.1.length ≤ 4 by omega) (show z2.2.1.length ≤ 4 by omega)
    omega
  · have k := lcm_le z1.2.1.length z2.2.1.length
    have k2 : z1.2.1.length * z2.2.1.length ≤ 12 * 12 := Nat.mul_le_mul (by omega) (by omega)
    omega
theorem Tb.pair {z1 z2 : Y} {F1 F2 : Nat → Option Int} {L1 L2 : Nat} {R1 R2 : Int} (a : Tb z1 F1 L1 R1) (b : Tb z2 F2 L2 R2) (d : Dom F1 F2 844) (hL1 : L1 ≤ 12) (hL2 : L2 ≤ 12) (hR1 : R1 ≤ 100000) (hR2 : R2 ≤ 100000) : Pair z1 z2 844 ∧ 844 + lb z1 z2 ≤ 1000 := by
  have k := lb_le a.l b.l (.inr ⟨hL1, hL2, rfl⟩)
  refine ⟨⟨a.fit hL1 hR1, b.fit hL2 hR2, a.h, b.h, by decide, ?_, ?_⟩, by omega⟩
  · unfold lb at k
    omega
  · exact ((d.congr fun n hn => a.e n (by omega)).symm.congr fun n hn => b.e n (by omega)).symm
theorem Tb.op {g : Bool} {z1 z2 u z : Y} {F1 F2 : Nat → Option Int} {L1 L2 L : Nat} {R1 R2 R : Int} (a : Tb z1 F1 L1 R1) (b : Tb z2 F2 L2 R2) (t : Tell g z1 z2 844 u) (p : IsPlain u.1 u.2.1 u.2.2 z) (h : (L1 ≤ 4 ∧ L2 ≤ 4 ∧ L = 12) ∨ (L1 ≤ 12 ∧ L2 ≤ 12 ∧ L = 144)) (hR : (R1 + R2) * (L : Int) ≤ R) : Tb z (fun n => chO g (F1 n) (F2 n)) L R := by
  have q := plain_size p
  have q5 := q.2.2.2.2.1 t.gd.r0
  have k := lb_le a.l b.l h
  have th := t.h
  have tl := t.l
  have tr := t.r
  have ar := a.r
  have br := b.r
  have a0 := a.g.r0
  have b0 := b.g.r0
  refine ⟨⟨u, p⟩, (plain_fin t.gd p).1, fun n hn => ?_, by have := q.1; omega, by have := q.2.1; omega, ?_⟩
  · show at_ z.1 z.2.1 z.2.2 n = _
    rw [plain_at p n hn, show at_ u.1 u.2.1 u.2.2 n = _ from t.e n hn, a.e n hn, b.e n hn]
  · have k1 : (z1.2.2 + z2.2.2) * (lb z1 z2 : Int) ≤ (R1 + R2) * (L : Int) := Int.mul_le_mul (by omega) (by omega) (by omega) (by omega)
    omega
end K05
set_option linter.all false
set_option maxHeartbeats 4000000
/-! One table behind another one: monotonic, grouped, through the greater and the lesser one. Plain Lean. -/
namespace NT
/-- told by its upper bounds that are counts -/
theorem up_some {a b : Option Int} (h : ∀ c : Int, leO a (some c) ↔ leO b (some c)) : a = b := by
  refine up_eq fun c => ?_
  cases c with
  | none => exact ⟨fun _ => .inl rfl, fun _ => .inl rfl⟩
  | some c => exact h c
theorem leO_some {a : Option Int} {c : Int} : leO a (some c) ↔ ∃ v, a = some v ∧ v ≤ c := by
  constructor
  · rintro (z | ⟨x, y, e1, e2, h⟩)
    · cases z
    · injection e2 with e2
      exact ⟨x, e1, by omega⟩
  · rintro ⟨v, e, h⟩
    exact .inr ⟨v, c, e, rfl, h⟩
section
variable {h l : List Int} {r : Int}
theorem asc_le {F : Nat → Option Int} (A : Asc F) {m n : Nat} (hm : 1 ≤ m) (le : m ≤ n) : leO (F m) (F n) := by
  cases e : F n with
  | none => exact .inl rfl
  | some v =>
    obtain ⟨d, rfl⟩ : ∃ d, n = m + d := ⟨n - m, by omega⟩
    obtain ⟨u, hu, le2⟩ := A.below hm e
    exact .inr ⟨u, v, hu, rfl, le2⟩
/-- the end is at most c if all values are -/
theorem fin_le (g : Good h l r) (c : Int) : leO (fin_ l r) (some c) ↔ ∀ n, 1 ≤ n → leO (at_ h l r n) (some c) := by
  constructor
  · intro z n hn
    obtain ⟨v, e, le⟩ := leO_some.mp z
    obtain ⟨u, hu, le2, _⟩ := val_fin g e n
    unfold val_ at hu
    dsimp only at hu
    rw [if_neg (by omega)] at hu
    exact leO_some.mpr ⟨u, hu, by omega⟩
  · intro z
    by_cases q : l = [] ∨ r = 0
    · have := z (h.length + 1) (by omega)
      rw [at_fin g q (by omega)] at this
      exact this
    · exfalso
      have hl : l ≠ [] := fun e => q (.inl e)
      have r0 : r ≠ 0 := fun e => q (.inr e)
      have rp := g.r0
      have l0 := len_pos hl
      obtain ⟨v, e, le⟩ := leO_some.mp (z (h.length + 1 + l.length * (c.toNat + 1)) (by omega))
      rw [at_loop hl (by omega), show h.length + 1 + l.length * (c.toNat + 1) - h.length - 1 = 0 + l.length * (c.toNat + 1) by omega, walk_add_mul l0, walk_lt l0] at e
      injection e with e
      have c0 : 0 ≤ l.getD 0 0 := climbs_lo g.lp l0
      have c1 : 1 * ((c.toNat + 1 : Nat) : Int) ≤ r * ((c.toNat + 1 : Nat) : Int) := Int.mul_le_mul_of_nonneg_right (by omega) (by omega)
      omega
end
/-- less or alike, never the greatest -/
def leE : Option Nat → Option Nat → Prop
  | _, none => True
  | none, some _ => False
  | some a, some b => a ≤ b
theorem toE {a b : Option Int} (h : leO a b) : leE (a.map Int.toNat) (b.map Int.toNat) := by
  rcases h with rfl | ⟨x, y, rfl, rfl, h⟩
  · cases a <;> trivial
  · exact Int.toNat_le_toNat h
theorem val_leE {h l : List Int} {r : Int} (g : Good h l r) {o o' : Option Nat} (e : leE o o') : leO (val_ h l r o) (val_ h l r o') := by
  cases q : val_ h l r o' with
  | none => exact .inl rfl
  | some v =>
    cases o' with
    | none =>
      cases o with
      | none => rw [q]; exact leO.refl _
      | some a =>
        obtain ⟨u, hu, le, _⟩ := val_fin g q a
        exact .inr ⟨u, v, hu, rfl, le⟩
    | some b =>
      cases o with
      | none => exact e.elim
      | some a =>
        obtain ⟨u, hu, le, _⟩ := val_mono g e q
        exact .inr ⟨u, v, hu, rfl, le⟩
theorem mono_chO {f : Option Int → Option Int} (m : ∀ a b, leO a b → leO (f a) (f b)) (g : Bool) (a b : Option Int) : f (chO g a b) = chO g (f a) (f b) := by
  rcases leO.total a b with h | h
  · have k := m _ _ h
    cases g
    · rw [(chO_le h).2, (chO_le k).2]
    · rw [(chO_le h).1, (chO_le k).1]
  · have k := m _ _ h
    cases g
    · rw [(chO_ge h).2, (chO_ge k).2]
    · rw [(chO_ge h).1, (chO_ge k).1]
/-- tables as triples -/
abbrev T3 := List Int × List Int × Int
abbrev vl (y : T3) : Option Nat → Option Int := val_ y.1 y.2.1 y.2.2
abbrev av (y : T3) : Nat → Option Int := at_ y.1 y.2.1 y.2.2
theorem vl_pos {y : T3} {n : Nat} (h : 1 ≤ n) : vl y (some n) = av y n := by
  show (if n = 0 then some 0 else _) = _
  rw [if_neg (by omega)]
theorem vl_zero {y : T3} : vl y (some 0) = some 0 := rfl
theorem chO_zero (g : Bool) : chO g (some 0) (some 0) = some 0 := chO_idem g _
/-- what is told by the greater or the lesser one, everywhere -/
theorem val_chO {g : Bool} {a b u : T3} (ga : Good a.1 a.2.1 a.2.2) (gb : Good b.1 b.2.1 b.2.2) (gu : Good u.1 u.2.1 u.2.2) (e : ∀ n, 1 ≤ n → av u n = chO g (av a n) (av b n)) (o : Option Nat) : vl u o = chO g (vl a o) (vl b o) := by
  cases o with
  | some n =>
    by_cases h : n = 0
    · subst h
      exact (chO_zero g).symm
    · rw [vl_pos (by omega), vl_pos (by omega), vl_pos (by omega), e n (by omega)]
  | none =>
    refine up_some fun c => ?_
    show leO (fin_ u.2.1 u.2.2) (some c) ↔ leO (chO g (fin_ a.2.1 a.2.2) (fin_ b.2.1 b.2.2)) (some c)
    rw [fin_le gu]
    cases g with
    | true =>
      rw [leO_max, fin_le ga, fin_le gb]
      constructor
      · intro z
        exact ⟨fun n hn => (leO_max.mp (by have := z n hn; rw [show at_ u.1 u.2.1 u.2.2 n = _ from e n hn] at this; exact this)).1, fun n hn => (leO_max.mp (by have := z n hn; rw [show at_ u.1 u.2.1 u.2.2 n = _ from e n hn] at this; exact this)).2⟩
      · rintro ⟨z1, z2⟩ n hn
        rw [show at_ u.1 u.2.1 u.2.2 n = _ from e n hn]
        exact leO_max.mpr ⟨z1 n hn, z2 n hn⟩
    | false =>
      constructor
      · intro z
        -- one of the two stays below
        by_cases q : ∀ n, 1 ≤ n → leO (at_ a.1 a.2.1 a.2.2 n) (some c)
        · have k := (fin_le ga c).mpr q
          rcases leO.total (fin_ a.2.1 a.2.2) (fin_ b.2.1 b.2.2) with t | t
          · rw [(chO_le t).2]; exact k
          · rw [(chO_ge t).2]; exact t.trans k
        · have q2 : ∀ n, 1 ≤ n → leO (at_ b.1 b.2.1 b.2.2 n) (some c) := fun n hn => Classical.byContradiction fun y => q fun m hm => Classical.byContradiction fun x => by
            have zz := z (max n m) (by omega)
            rw [show at_ u.1 u.2.1 u.2.2 (max n m) = _ from e _ (by omega)] at zz
            have u1 := asc_le (asc_at ga) hm (show m ≤ max n m by omega)
            have u2 := asc_le (asc_at gb) hn (show n ≤ max n m by omega)
            rcases leO.total (av a (max n m)) (av b (max n m)) with t | t
            · rw [(chO_le t).2] at zz; exact x (u1.trans zz)
            · rw [(chO_ge t).2] at zz; exact y (u2.trans zz)
          have k := (fin_le gb c).mpr q2
          rcases leO.total (fin_ a.2.1 a.2.2) (fin_ b.2.1 b.2.2) with t | t
          · rw [(chO_le t).2]; exact t.trans k
          · rw [(chO_ge t).2]; exact k
      · intro z n hn
        rw [show at_ u.1 u.2.1 u.2.2 n = _ from e n hn]
        rcases leO.total (fin_ a.2.1 a.2.2) (fin_ b.2.1 b.2.2) with t | t
        · rw [(chO_le t).2] at z
          have k := (fin_le ga c).mp z n hn
          rcases leO.total (av a n) (av b n) with s | s
          · rw [(chO_le s).2]; exact k
          · rw [(chO_ge s).2]; exact s.trans k
        · rw [(chO_ge t).2] at z
          have k := (fin_le gb c).mp z n hn
          rcases leO.total (av a n) (av b n) with s | s
          · rw [(chO_le s).2]; exact s.trans k
          · rw [(chO_ge s).2]; exact k
/-- the values of a at those of b -/
def cmp (a b : T3) (o : Option Nat) : Option Int := vl a ((vl b o).map Int.toNat)
theorem beh_cmp {a b : T3} {n : Nat} (h : 1 ≤ n) : beh a.1 a.2.1 a.2.2 b.1 b.2.1 b.2.2 n = cmp a b (some n) := by
  unfold cmp beh
  rw [vl_pos h]
/-- what is told by one table behind another one, everywhere -/
theorem val_cmp {a b u : T3} (ga : Good a.1 a.2.1 a.2.2) (gb : Good b.1 b.2.1 b.2.2) (gu : Good u.1 u.2.1 u.2.2) (e : ∀ n, 1 ≤ n → av u n = cmp a b (some n)) (o : Option Nat) : vl u o = cmp a b o := by
  cases o with
  | some n =>
    by_cases h : n = 0
    · subst h
      rfl
    · rw [vl_pos (by omega), e n (by omega)]
  | none =>
    refine up_some fun c => ?_
    show leO (fin_ u.2.1 u.2.2) (some c) ↔ leO (vl a ((fin_ b.2.1 b.2.2).map Int.toNat)) (some c)
    rw [fin_le gu]
    cases q : fin_ b.2.1 b.2.2 with
    | some v =>
      have qc : b.2.1 = [] ∨ b.2.2 = 0 := by
        by_cases z : b.2.1 = []
        · exact .inl z
        · right
          have := gb.r0
          unfold fin_ at q
          by_cases w : b.2.1 = [] ∨ 0 < b.2.2
          · rw [if_pos w] at q; cases q
          · have : ¬ 0 < b.2.2 := fun y => w (.inr y)
            omega
      constructor
      · intro z
        have := z (b.1.length + 1) (by omega)
        rw [show at_ u.1 u.2.1 u.2.2 _ = _ from e _ (by omega)] at this
        unfold cmp at this
        rw [vl_pos (by omega), show av b (b.1.length + 1) = fin_ b.2.1 b.2.2 from at_fin gb qc (by omega), q] at this
        exact this
      · intro z n hn
        rw [show at_ u.1 u.2.1 u.2.2 n = _ from e n hn]
        refine leO.trans (val_leE ga (toE ?_)) z
        rw [vl_pos hn]
        exact (fin_le gb v).mp (by rw [q]; exact leO.refl _) n hn
    | none =>
      show _ ↔ leO (fin_ a.2.1 a.2.2) (some c)
      rw [fin_le ga]
      constructor
      · intro z m hm
        -- b goes beyond m somewhere
        have : ¬ ∀ n, 1 ≤ n → leO (at_ b.1 b.2.1 b.2.2 n) (some (m : Int)) := fun y => by
          have := (fin_le gb (m : Int)).mpr y
          rw [q] at this
          obtain ⟨v, w, _⟩ := leO_some.mp this
          cases w
        obtain ⟨n, y⟩ := Classical.not_forall.mp this
        obtain ⟨hn, y⟩ := Classical.not_imp.mp y
        have zz := z n hn
        rw [show at_ u.1 u.2.1 u.2.2 n = _ from e n hn] at zz
        unfold cmp at zz
        rw [vl_pos hn] at zz
        have : leO (vl a (some m)) (vl a ((av b n).map Int.toNat)) := val_leE ga (by
          cases w : av b n with
          | none => trivial
          | some v =>
            show m ≤ v.toNat
            have : ¬ v ≤ (m : Int) := fun x => y (leO_some.mpr ⟨v, w, x⟩)
            omega)
        rw [vl_pos hm] at this
        exact this.trans zz
      · intro z n hn
        rw [show at_ u.1 u.2.1 u.2.2 n = _ from e n hn]
        unfold cmp
        cases w : (vl b (some n)).map Int.toNat with
        | none => exact (fin_le ga c).mpr z
        | some k =>
          by_cases k0 : k = 0
          · subst k0
            have := z 1 (Nat.le_refl _)
            refine leO.trans ?_ this
            have := val_leE ga (show leE (some 0) (some 1) from Nat.zero_le _)
            rw [show val_ a.1 a.2.1 a.2.2 (some 1) = at_ a.1 a.2.1 a.2.2 1 from vl_pos (y := a) (Nat.le_refl _)] at this
            exact this
          · rw [vl_pos (by omega)]
            exact z k (by omega)
end NT
namespace NT
theorem cmp_group {a b c ab bc : T3} (h1 : ∀ o, vl ab o = cmp a b o) (h2 : ∀ o, vl bc o = cmp b c o) (o : Option Nat) : cmp ab c o = cmp a bc o := by
  unfold cmp
  rw [h1, h2]
  rfl
theorem cmp_left {g : Bool} {a b c u : T3} (h : ∀ o, vl u o = chO g (vl a o) (vl b o)) (o : Option Nat) : cmp u c o = chO g (cmp a c o) (cmp b c o) := h _
theorem cmp_right {g : Bool} {a b c u : T3} (gc : Good c.1 c.2.1 c.2.2) (h : ∀ o, vl u o = chO g (vl a o) (vl b o)) (o : Option Nat) : cmp c u o = chO g (cmp c a o) (cmp c b o) := by
  unfold cmp
  rw [h]
  exact mono_chO (f := fun x => vl c (x.map Int.toNat)) (fun x y k => val_leE gc (toE k)) g _ _
theorem cmp_mono_left {a b c : T3} (h : ∀ o, leO (vl a o) (vl b o)) (o : Option Nat) : leO (cmp a c o) (cmp b c o) := h _
theorem cmp_mono_right {a b c : T3} (gc : Good c.1 c.2.1 c.2.2) (h : ∀ o, leO (vl a o) (vl b o)) (o : Option Nat) : leO (cmp c a o) (cmp c b o) := val_leE gc (toE (h o))
end NT
set_option Elab.async false
set_option linter.all false
set_option maxRecDepth 100000
set_option maxHeartbeats 4000000
namespace K05
open PySem PySem.Spec PyProof.Rows L2 He NF RZ NT
/-- z is the plain form of a table whose values, at counts and at never, are f -/
structure W (z : Y) (f : Option Nat → Option Int) (hb lb_ : Nat) (rb : Int) : Prop where
  p : ∃ u : Y, IsPlain u.1 u.2.1 u.2.2 z
  g : Good z.1 z.2.1 z.2.2
  e : ∀ o, vl z o = f o
  h : z.1.length ≤ hb
  l : z.2.1.length ≤ lb_
  r : z.2.2 ≤ rb
variable {z z' z1 z2 u : Y} {f f' f1 f2 : Option Nat → Option Int} {h l h' l' h1 l1 h2 l2 N L : Nat} {r r' r1 r2 R : Int}
theorem W.uniq (a : W z f h l r) (b : W z' f' h' l' r') (e : ∀ o, f o = f' o) : z = z' := by
  obtain ⟨u, hu⟩ := a.p
  obtain ⟨u', hu'⟩ := b.p
  exact plain_one hu hu' fun n hn => by
    rw [← plain_at hu n hn, ← plain_at hu' n hn]
    have x1 : at_ z.1 z.2.1 z.2.2 n = vl z (some n) := (vl_pos hn).symm
    have x2 : at_ z'.1 z'.2.1 z'.2.2 n = vl z' (some n) := (vl_pos hn).symm
    rw [x1, x2, a.e, b.e]
    exact e _
theorem W.le (a : W z f h l r) (e1 : h ≤ h') (e2 : l ≤ l') (e3 : r ≤ r') : W z f h' l' r' := ⟨a.p, a.g, a.e, Nat.le_trans a.h e1, Nat.le_trans a.l e2, Int.le_trans a.r e3⟩
theorem W.raw {y : Y} (g : Good y.1 y.2.1 y.2.2) (bh : y.1.length ≤ h) (bl : y.2.1.length ≤ l) (br : y.2.2 ≤ r) (p : IsPlain y.1 y.2.1 y.2.2 z) : W z (vl y) h l r := by
  have q := plain_size p
  have q5 := q.2.2.2.2.1 g.r0
  exact ⟨⟨y, p⟩, (plain_fin g p).1, fun o => val_plain g p o, Nat.le_trans q.1 bh, Nat.le_trans q.2.1 bl, Int.le_trans q5.2 br⟩
theorem W.put (a : W z f h l r) (e1 : h ≤ 1000) (e2 : l ≤ 20) (e3 : r ≤ 1000000) : Put z := ⟨a.g, Nat.le_trans a.h e1, Nat.le_trans a.l e2, Int.le_trans a.r e3⟩
theorem W.fit (a : W z f h l r) (e1 : h ≤ 10000) (e2 : l ≤ 400) (e3 : r ≤ 100000) : Fit z := ⟨a.g, Nat.le_trans a.h e1, Nat.le_trans a.l e2, Int.le_trans a.r e3⟩
theorem W.small (a : W z f h l r) (e1 : h ≤ 10000) (e2 : l ≤ 10000) (e3 : r ≤ 1000000) : Small z := ⟨Nat.le_trans a.h e1, Nat.le_trans a.l e2, a.g.r0, Int.le_trans a.r e3⟩
theorem W.tg (a : W z1 f1 h1 l1 r1) (b : W z2 f2 h2 l2 r2) (e : (h1 + 1) * l2 ≤ 5000) : (z1.1.length + 1) * z2.2.1.length ≤ 5000 :=
  Nat.le_trans (Nat.mul_le_mul (Nat.add_le_add_right a.h 1) b.l) e
theorem W.mul (a : W z1 f1 h1 l1 r1) (b : W z2 f2 h2 l2 r2) (t : Tells z1 z2 u) (p : IsPlain u.1 u.2.1 u.2.2 z) (r0 : 0 ≤ r1) (e1 : h2 + (h1 + 1) * l2 ≤ h) (e2 : 1 + l2 * l1 ≤ l) (e3 : r1 * r2 ≤ r) : W z (fun o => f1 ((f2 o).map Int.toNat)) h l r := by
  obtain ⟨gu, eu, _, s1, s2, s3⟩ := t
  have q := plain_size p
  have q5 := q.2.2.2.2.1 gu.r0
  have ah := a.h
  have al := a.l
  have bh := b.h
  have bl := b.l
  refine ⟨⟨u, p⟩, (plain_fin gu p).1, fun o => ?_, ?_, ?_, ?_⟩
  · have e := val_cmp a.g b.g gu (fun n hn => (eu n hn).trans (beh_cmp hn)) o
    show val_ z.1 z.2.1 z.2.2 o = _
    rw [val_plain gu p o]
    refine e.trans ?_
    unfold cmp
    rw [b.e, a.e]
  · have k : (z1.1.length + 1) * z2.2.1.length ≤ (h1 + 1) * l2 := Nat.mul_le_mul (Nat.add_le_add_right ah 1) bl
    have := q.1
    omega
  · have k : z2.2.1.length * z1.2.1.length ≤ l2 * l1 := Nat.mul_le_mul bl al
    have := q.2.1
    omega
  · have k : z1.2.2 * z2.2.2 ≤ r1 * r2 := Int.mul_le_mul a.r b.r b.g.r0 r0
    omega
theorem W.op {g : Bool} (a : W z1 f1 h1 l1 r1) (b : W z2 f2 h2 l2 r2) (t : Tell g z1 z2 N u) (p : IsPlain u.1 u.2.1 u.2.2 z) (k : lb z1 z2 ≤ L) (hR : (r1 + r2) * (L : Int) ≤ R) : W z (fun o => chO g (f1 o) (f2 o)) N L R := by
  have q := plain_size p
  have q5 := q.2.2.2.2.1 t.gd.r0
  have th := t.h
  have tl := t.l
  have tr := t.r
  have ar := a.r
  have br := b.r
  have a0 := a.g.r0
  have b0 := b.g.r0
  refine ⟨⟨u, p⟩, (plain_fin t.gd p).1, fun o => ?_, by have := q.1; omega, by have := q.2.1; omega, ?_⟩
  · show val_ z.1 z.2.1 z.2.2 o = _
    rw [val_plain t.gd p o]
    refine (val_chO a.g b.g t.gd t.e o).trans ?_
    rw [a.e, b.e]
  · have k1 : (z1.2.2 + z2.2.2) * (lb z1 z2 : Int) ≤ (r1 + r2) * (L : Int) := Int.mul_le_mul (by omega) (by omega) (by omega) (by omega)
    omega
theorem W.lb (a : W z1 f1 h1 l1 r1) (b : W z2 f2 h2 l2 r2) (h : (l1 ≤ 4 ∧ l2 ≤ 4 ∧ L = 12) ∨ (l1 ≤ 17 ∧ l2 ≤ 17 ∧ L = 289)) : lb z1 z2 ≤ L := by
  have ha := a.l
  have hb := b.l
  unfold K05.lb
  rcases h with ⟨x, y, rfl⟩ | ⟨x, y, rfl⟩
  · have := lcm12 (show z1.2.1.length ≤ 4 by omega) (show z2.2.1.length ≤ 4 by omega)
    omega
  · have k := lcm_le z1.2.1.length z2.2.1.length
    have k2 : z1.2.1.length * z2.2.1.length ≤ 17 * 17 := Nat.mul_le_mul (by omega) (by omega)
    omega
theorem W.pair (a : W z1 f1 h1 l1 r1) (b : W z2 f2 h2 l2 r2) (k : K05.lb z1 z2 ≤ L) (hL : L ≤ 1000) (d : Dom (fun n => f1 (some n)) (fun n => f2 (some n)) N) (n0 : N ≤ 9000) (e1 : h1 ≤ N) (e2 : h2 ≤ N) (x1 : l1 ≤ 400) (x2 : l2 ≤ 400) (y1 : r1 ≤ 100000) (y2 : r2 ≤ 100000) : Pair z1 z2 N ∧ N + K05.lb z1 z2 ≤ 10000 := by
  refine ⟨⟨a.fit (by omega) x1 y1, b.fit (by omega) x2 y2, Nat.le_trans a.h e1, Nat.le_trans b.h e2, by omega, ?_, ?_⟩, by omega⟩
  · unfold K05.lb at k
    omega
  · have c1 : ∀ n, N < n → atY z1 n = f1 (some n) := fun n hn => (vl_pos (y := z1) (by omega)).symm.trans (a.e _)
    have c2 : ∀ n, N < n → atY z2 n = f2 (some n) := fun n hn => (vl_pos (y := z2) (by omega)).symm.trans (b.e _)
    exact ((d.congr c1).symm.congr c2).symm
/-! ### how far products are apart -/
theorem vl_none_ge {c : Y} (n : Nat) (h : 1 ≤ n) : vl c (some n) = atY c n := vl_pos h
/-- a loop that rises comes above k -/
theorem rises {c : Y} (g : Good c.1 c.2.1 c.2.2) (nl : c.2.1 ≠ []) (r0 : 0 < c.2.2) {k n : Nat} (hn : c.1.length + 1 + k * c.2.1.length ≤ n) : ∃ v : Nat, atY c n = some (v : Int) ∧ k ≤ v := by
  have l0 := len_pos nl
  have h1 : c.1.length < n := by omega
  refine ⟨(numY c n).toNat, ?_, ?_⟩
  · rw [show atY c n = some (numY c n) from at_some n (.inr nl), Int.toNat_of_nonneg (num_ge g n (by omega))]
  · have e : numY c n = _ := num_walk nl h1
    unfold walk at e
    have i0 : 0 ≤ c.2.1.getD ((n - c.1.length - 1) % c.2.1.length) 0 := climbs_lo g.lp (Nat.mod_lt _ l0)
    have k1 : k ≤ (n - c.1.length - 1) / c.2.1.length := (Nat.le_div_iff_mul_le l0).mpr (by omega)
    have k2 : 1 * (k : Int) ≤ c.2.2 * (((n - c.1.length - 1) / c.2.1.length : Nat) : Int) := Int.mul_le_mul (by omega) (by omega) (by omega) (by omega)
    omega
theorem turn_at {c : Y} (nl : c.2.1 ≠ []) {n : Nat} (hn : c.1.length < n) : ∃ u, atY c n = some u ∧ atY c (n + c.2.1.length) = some (u + c.2.2) := by
  have l0 := len_pos nl
  refine ⟨numY c n, at_some n (.inr nl), ?_⟩
  rw [show atY c (n + c.2.1.length) = some (numY c (n + c.2.1.length)) from at_some _ (.inr nl)]
  congr 1
  show num _ _ _ _ = num _ _ _ _ + _
  rw [num_walk nl (by omega), num_walk nl hn, show n + c.2.1.length - c.1.length - 1 = (n - c.1.length - 1) + c.2.1.length by omega, walk_add l0]
theorem settled_vl {c : Y} (g : Good c.1 c.2.1 c.2.2) (s : c.2.1 = [] ∨ c.2.2 = 0) {n : Nat} (hn : c.1.length < n) : vl c (some n) = vl c none := by
  rw [vl_pos (by omega)]
  exact at_fin g s hn
/-- of two tables behind a third one -/
theorem dom_left {a b c : Y} (gc : Good c.1 c.2.1 c.2.2) (hc : c.1.length ≤ 4) (lc : c.2.1.length ≤ 4) (d : Dom (atY a) (atY b) 844) : Dom (fun n => vl a ((vl c (some n)).map Int.toNat)) (fun n => vl b ((vl c (some n)).map Int.toNat)) 3384 := by
  by_cases s : c.2.1 = [] ∨ c.2.2 = 0
  · have e : ∀ (x : Y) n, 3384 < n → vl x ((vl c (some n)).map Int.toNat) = vl x ((vl c none).map Int.toNat) := fun x n hn => by rw [settled_vl gc s (by omega)]
    rcases leO.total (vl a ((vl c none).map Int.toNat)) (vl b ((vl c none).map Int.toNat)) with k | k
    · exact .inl fun n hn => by
        show leO (vl a ((vl c (some n)).map Int.toNat)) (vl b ((vl c (some n)).map Int.toNat))
        rw [e a n hn, e b n hn]
        exact k
    · exact .inr (.inl fun n hn => by
        show leO (vl b ((vl c (some n)).map Int.toNat)) (vl a ((vl c (some n)).map Int.toNat))
        rw [e a n hn, e b n hn]
        exact k)
  · have nl : c.2.1 ≠ [] := fun z => s (.inl z)
    have r0 : 0 < c.2.2 := by
      have := gc.r0
      have : c.2.2 ≠ 0 := fun z => s (.inr z)
      omega
    have far : ∀ n, 3384 < n → ∃ v : Nat, atY c n = some (v : Int) ∧ 845 ≤ v := fun n hn => rises gc nl r0 (by
      have : 845 * c.2.1.length ≤ 845 * 4 := Nat.mul_le_mul_left _ lc
      omega)
    have val : ∀ (x : Y) (n v : Nat), 3384 < n → 845 ≤ v → atY c n = some (v : Int) → vl x ((vl c (some n)).map Int.toNat) = atY x v := fun x n v hn hv e => by
      rw [vl_pos (by omega), show av c n = some (v : Int) from e]
      show vl x (some (Int.toNat (v : Int))) = _
      rw [Int.toNat_natCast, vl_pos (by omega)]
    rcases d with d | d | ⟨m, k, hm, d⟩
    · exact .inl fun n hn => by
        obtain ⟨v, e, hv⟩ := far n hn
        show leO (vl a ((vl c (some n)).map Int.toNat)) (vl b ((vl c (some n)).map Int.toNat))
        rw [val a n v hn hv e, val b n v hn hv e]
        exact d v (by omega)
    · exact .inr (.inl fun n hn => by
        obtain ⟨v, e, hv⟩ := far n hn
        show leO (vl b ((vl c (some n)).map Int.toNat)) (vl a ((vl c (some n)).map Int.toNat))
        rw [val a n v hn hv e, val b n v hn hv e]
        exact d v (by omega))
    · have l0 := len_pos nl
      refine .inr (.inr ⟨c.2.1.length * m, k * (c.2.2.toNat : Int), Nat.mul_pos l0 hm, fun n hn => ?_⟩)
      obtain ⟨v, e, hv⟩ := far n hn
      obtain ⟨v', e0, e1⟩ := par_mul (F := atY c) (N := c.1.length) (m := c.2.1.length) (c := c.2.2) (fun n hn => turn_at nl hn) m n (by omega)
      rw [e] at e0
      obtain rfl := Option.some.inj e0
      have pa := par_mul (F := atY a) (N := 844) (m := m) (c := k) (fun n hn => by obtain ⟨u, v, x1, _, x3, _⟩ := d n hn; exact ⟨u, x1, x3⟩) c.2.2.toNat v (by omega)
      have pb := par_mul (F := atY b) (N := 844) (m := m) (c := k) (fun n hn => by obtain ⟨u, v, _, x2, _, x4⟩ := d n hn; exact ⟨v, x2, x4⟩) c.2.2.toNat v (by omega)
      obtain ⟨ua, ea, ea'⟩ := pa
      obtain ⟨ub, eb, eb'⟩ := pb
      have e2 : atY c (n + c.2.1.length * m) = some ((v + m * c.2.2.toNat : Nat) : Int) := by
        rw [e1]
        congr 1
        rw [Int.natCast_add, Int.natCast_mul, Int.toNat_of_nonneg gc.r0, Int.mul_comm (m : Int)]
      refine ⟨ua, ub, ?_, ?_, ?_, ?_⟩
      · show vl a ((vl c (some n)).map Int.toNat) = _
        rw [val a n v hn hv e]; exact ea
      · show vl b ((vl c (some n)).map Int.toNat) = _
        rw [val b n v hn hv e]; exact eb
      · show vl a ((vl c (some (n + c.2.1.length * m))).map Int.toNat) = _
        rw [val a _ _ (by omega) (by omega) e2]; exact ea'
      · show vl b ((vl c (some (n + c.2.1.length * m))).map Int.toNat) = _
        rw [val b _ _ (by omega) (by omega) e2]; exact eb'
theorem leE_atY {a b : Y} {n : Nat} (hn : 1 ≤ n) (h : leO (atY a n) (atY b n)) : leE ((vl a (some n)).map Int.toNat) ((vl b (some n)).map Int.toNat) := by
  rw [vl_pos hn, vl_pos hn]
  exact toE h
/-- of a third table behind two -/
theorem dom_right {a b c : Y} (ga : Low a) (gb : Low b) (gc : Good c.1 c.2.1 c.2.2) (hc : c.1.length ≤ 4) : Dom (fun n => vl c ((vl a (some n)).map Int.toNat)) (fun n => vl c ((vl b (some n)).map Int.toNat)) 844 := by
  have ah := ga.h
  have bh := gb.h
  have al := ga.l
  have bl := gb.l
  have up : (∀ n, 844 < n → leO (atY a n) (atY b n)) → Dom (fun n => vl c ((vl a (some n)).map Int.toNat)) (fun n => vl c ((vl b (some n)).map Int.toNat)) 844 := fun h => .inl fun n hn => val_leE gc (leE_atY (by omega) (h n hn))
  have dn : (∀ n, 844 < n → leO (atY b n) (atY a n)) → Dom (fun n => vl c ((vl a (some n)).map Int.toNat)) (fun n => vl c ((vl b (some n)).map Int.toNat)) 844 := fun h => .inr (.inl fun n hn => val_leE gc (leE_atY (by omega) (h n hn)))
  by_cases n1 : a.2.1 = []
  · exact dn fun n hn => .inl (out_none n1 (by omega))
  by_cases n2 : b.2.1 = []
  · exact up fun n hn => .inl (out_none n2 (by omega))
  rcases Int.lt_trichotomy (a.2.2 * (b.2.1.length : Int)) (b.2.2 * (a.2.1.length : Int)) with h | h | h
  · exact up fun n hn => (leO_num n1 n2 n).mpr ((low_far ga gb n1 n2 h (by omega) (by omega)).2 hn)
  · have la := len_pos n1
    have lb := len_pos n2
    by_cases ra : a.2.2 = 0
    · have rb : b.2.2 = 0 := by
        rw [ra, Int.zero_mul] at h
        rcases Int.mul_eq_zero.mp h.symm with z | z
        · exact z
        · omega
      have ea : ∀ n, 844 < n → atY a n = fin_ a.2.1 a.2.2 := fun n hn => at_fin ga.g (.inr ra) (by omega)
      have eb : ∀ n, 844 < n → atY b n = fin_ b.2.1 b.2.2 := fun n hn => at_fin gb.g (.inr rb) (by omega)
      rcases leO.total (fin_ a.2.1 a.2.2) (fin_ b.2.1 b.2.2) with k | k
      · exact up fun n hn => by rw [ea n hn, eb n hn]; exact k
      · exact dn fun n hn => by rw [ea n hn, eb n hn]; exact k
    · have ra : 0 < a.2.2 := by have := ga.g.r0; omega
      have rb : 0 < b.2.2 := by
        have p1 : 0 < a.2.2 * (b.2.1.length : Int) := Int.mul_pos ra (by omega)
        rw [h] at p1
        rcases Int.lt_or_le 0 b.2.2 with z | z
        · exact z
        · have := Int.mul_nonpos_of_nonpos_of_nonneg z (show (0 : Int) ≤ (a.2.1.length : Int) by omega)
          omega
      have fa : ∀ n, 844 < n → ∃ v : Nat, atY a n = some (v : Int) ∧ 5 ≤ v := fun n hn => rises ga.g n1 ra (by
        have : 5 * a.2.1.length ≤ 5 * 4 := Nat.mul_le_mul_left _ al
        omega)
      have fb : ∀ n, 844 < n → ∃ v : Nat, atY b n = some (v : Int) ∧ 5 ≤ v := fun n hn => rises gb.g n2 rb (by
        have : 5 * b.2.1.length ≤ 5 * 4 := Nat.mul_le_mul_left _ bl
        omega)
      have val : ∀ (x : Y) (n v : Nat), 844 < n → 5 ≤ v → atY x n = some (v : Int) → vl c ((vl x (some n)).map Int.toNat) = atY c v := fun x n v hn hv e => by
        rw [vl_pos (by omega), show av x n = some (v : Int) from e]
        show vl c (some (Int.toNat (v : Int))) = _
        rw [Int.toNat_natCast, vl_pos (by omega)]
      by_cases nc : c.2.1 = []
      · refine .inl fun n hn => .inl ?_
        obtain ⟨v, e, hv⟩ := fb n hn
        show vl c ((vl b (some n)).map Int.toNat) = none
        rw [val b n v hn hv e]
        exact out_none nc (by omega)
      · rcases side_dom n1 n2 (N := 844) (by omega) (by omega) h with d | d | ⟨m, k, hm, d⟩
        · exact up d
        · exact dn d
        · have lc := len_pos nc
          have k0 : 0 ≤ k := by
            obtain ⟨u, v, x1, _, x3, _⟩ := d 845 (by omega)
            obtain ⟨w, x4, x5⟩ := (asc_at ga.g).below (m := 845) (d := m) (by omega) x3
            have : atY a 845 = some w := x4
            rw [x1] at this
            injection this with this
            omega
          refine .inr (.inr ⟨m * c.2.1.length, c.2.2 * (k.toNat : Int), Nat.mul_pos hm lc, fun n hn => ?_⟩)
          obtain ⟨va, e, hv⟩ := fa n hn
          obtain ⟨vb, eb, hvb⟩ := fb n hn
          have pa := par_mul (F := atY a) (N := 844) (m := m) (c := k) (fun n hn => by obtain ⟨u, v, x1, _, x3, _⟩ := d n hn; exact ⟨u, x1, x3⟩) c.2.1.length n (by omega)
          have pb := par_mul (F := atY b) (N := 844) (m := m) (c := k) (fun n hn => by obtain ⟨u, v, _, x2, _, x4⟩ := d n hn; exact ⟨v, x2, x4⟩) c.2.1.length n (by omega)
          obtain ⟨ua, ea0, ea⟩ := pa
          obtain ⟨ub, eb0, eb1⟩ := pb
          rw [e] at ea0
          obtain rfl := Option.some.inj ea0
          rw [eb] at eb0
          obtain rfl := Option.some.inj eb0
          have ca := par_mul (F := atY c) (N := c.1.length) (m := c.2.1.length) (c := c.2.2) (fun n hn => turn_at nc hn) k.toNat va (by omega)
          have cb := par_mul (F := atY c) (N := c.1.length) (m := c.2.1.length) (c := c.2.2) (fun n hn => turn_at nc hn) k.toNat vb (by omega)
          obtain ⟨wa, ca0, ca1⟩ := ca
          obtain ⟨wb, cb0, cb1⟩ := cb
          have up2 : ∀ v : Nat, (v : Int) + k * (c.2.1.length : Int) = ((v + c.2.1.length * k.toNat : Nat) : Int) := fun v => by
            rw [Int.natCast_add, Int.natCast_mul, Int.toNat_of_nonneg k0, Int.mul_comm k]
          rw [up2] at ea eb1
          refine ⟨wa, wb, ?_, ?_, ?_, ?_⟩
          · show vl c ((vl a (some n)).map Int.toNat) = _
            rw [val a n va hn hv e]; exact ca0
          · show vl c ((vl b (some n)).map Int.toNat) = _
            rw [val b n vb hn hvb eb]; exact cb0
          · show vl c ((vl a (some (n + m * c.2.1.length))).map Int.toNat) = _
            rw [val a _ _ (by omega) (by omega) ea]; exact ca1
          · show vl c ((vl b (some (n + m * c.2.1.length))).map Int.toNat) = _
            rw [val b _ _ (by omega) (by omega) eb1]; exact cb1
  · exact dn fun n hn => (leO_num n2 n1 n).mpr ((low_far gb ga n2 n1 h (by omega) (by omega)).2 hn)
end K05
set_option Elab.async false
set_option linter.all false
set_option maxRecDepth 100000
set_option maxHeartbeats 4000000
namespace K05
open PySem PySem.Spec PyProof.Rows L2 He NF RZ NT
def spPlainL (K : PySem.W.Frag) : Sp := fun vs H Q _ => ∃ (a b : Addr) (h l : List Int) (r : Int), vs = [.ref a, .ref b, .int r] ∧ SqL K H a (vI h) ∧ SqL K H b (vI l) ∧ h.length ≤ 10000 ∧ l.length ≤ 10000 ∧ ∀ p x H', IsPlain h l r x → Same H H' → FormAt K H' p x → Q (.ref p) H'
section
variable {P : Program} {w : World} {K : PySem.W.Frag} {mg : Str → Option Value} {base : Heap} {gs : List Str}
theorem ok__law_plainL {f : Addr} {fd : FuncData} (F : FunD K "_law_plain" "_law_plain" (defArgs s__law_plain) (defBody s__law_plain) (defScope s__law_plain) [] [] f fd) (T : Txt K mg gs FS) : FnOk P w K mg base CX0 1 f fd ["_law_head", "_law_loop", "_law_rise"] (spPlainL K) := by
  refine F.ok sc__law_plain (fun vs H Q E h => ?_) (fun cdv A outer s H vs Q E hr h => ?_)
  · obtain ⟨a, b, h, l, r, rfl, _⟩ := h
    rfl
  · obtain ⟨a, b, h, l, r, rfl, ha, hb, hh, hll, q⟩ := h
    refine ⟨_, PSs.nox (pss_cons (ps_if (pt_cmpR op_eq (pe_callB call_len_seq rfl (T.fr _ (by decide +kernel)) boot_len (pa_cons (pv 1) pa_nil)) pe_int (nomark _)) (pss_one (ps_ret (pe_tup (pa_cons (pe_callTy cr_tup rfl (T.fr _ (by decide +kernel)) (by decide +kernel) (pa_cons (pv 0) pa_nil)) (pa_cons (pe_tup pa_nil) (pa_cons pe_int pa_nil)))))) pss_nil) (pss_cons (ps_set (i := 3) sc__law_plain.nd rfl (Or.inl rfl) (pe_callB call_len_seq rfl (T.fr _ (by decide +kernel)) boot_len (pa_cons (pv 1) pa_nil))) (pss_cons (ps_for PassesOwn.never rfl (pi_range3 rfl (T.fr _ (by decide +kernel)) (pa_cons (pe_callB call_len_seq rfl (T.fr _ (by decide +kernel)) boot_len (pa_cons (pv 1) pa_nil)) (pa_cons pe_int (pa_cons (pe_un un_neg pe_int) pa_nil)))) (pg_name (i := 4) sc__law_plain.nd rfl (Or.inr rfl)) (pss_cons (ps_set (i := 6) sc__law_plain.nd rfl (Or.inl rfl) (pe_op op_fdiv (pe_callB call_len_seq rfl (T.fr _ (by decide +kernel)) boot_len (pa_cons (pv 1) pa_nil)) (pv 4))) (pss_cons (ps_if (PW.pt (pw_or (pt_cmpR op_ne (pe_op op_mul (pv 6) (pv 4)) (pe_callB call_len_seq rfl (T.fr _ (by decide +kernel)) boot_len (pa_cons (pv 1) pa_nil)) (nomark _)) (pw_or1 (pt_cmpR op_ne (pe_op op_mod (pe_callTy call_int1 rfl (T.fr _ (by decide +kernel)) (by decide +kernel) (pa_cons (pv 2) pa_nil)) (pv 6)) pe_int (nomark _))))) (pss_one ps_continue) pss_nil) (pss_cons (ps_set (i := 7) sc__law_plain.nd rfl (Or.inr rfl) (pe_op op_fdiv (pv 2) (pv 6))) (pss_one (ps_if (pt_val (pe_callB (cr_all rfl) rfl (T.fr _ (by decide +kernel)) (by decide +kernel) (pa_cons (pe_lc (own := [("_law_k", 8)]) rfl sc__law_plain.nd (pi_range1 rfl (T.fr _ (by decide +kernel)) (pa_cons (pe_op op_sub (pe_callB call_len_seq rfl (T.fr _ (by decide +kernel)) boot_len (pa_cons (pv 1) pa_nil)) (pv 4)) pa_nil)) (blkOk_by (N := ["_law_head", "_law_loop", "_law_rise", "_law_size", "_law_many", "_law_row", "_law_turns", "_law_step", "_law_k"]) (sc := defScope s__law_plain) (by decide +kernel)) (fun _ _ _ _ _ => by exact (pg_name (i := 8) sc__law_plain.nd rfl (Or.inl rfl))) (fun _ _ _ _ _ => by exact pts_nil) (fun _ _ _ _ _ => by exact (pe_cmpR op_eq (pe_ix (ixl (K := K)) (pv 1) (pe_op op_add (pv 8) (pv 4)) fun _ _ => rfl) (pe_op op_add (pe_ix (ixl (K := K)) (pv 1) (pv 8) fun _ _ => rfl) (pv 7)) (nomark _)))) pa_nil))) (pss_one (ps_set (i := 3) sc__law_plain.nd rfl (Or.inl rfl) (pv 4))) pss_nil)))))) (pss_cons (ps_set (i := 2) sc__law_plain.nd rfl (Or.inl rfl) (pe_op op_fdiv (pv 2) (pe_op op_fdiv (pe_callB call_len_seq rfl (T.fr _ (by decide +kernel)) boot_len (pa_cons (pv 1) pa_nil)) (pv 3)))) (pss_cons (ps_set (i := 5) sc__law_plain.nd rfl (Or.inl rfl) (pe_op op_cat (pe_callTy call_list_of rfl (T.fr _ (by decide +kernel)) (by decide +kernel) (pa_cons (pv 0) pa_nil)) (pe_callTy call_list_of rfl (T.fr _ (by decide +kernel)) (by decide +kernel) (pa_cons (pe_slice sl_list (pv 1) po_none (po_some (pv 3))) pa_nil)))) (pss_cons (ps_while PassesOwn.never (PW.pt (pw_and (pt_cmpR op_gt (pe_callB call_len_seq rfl (T.fr _ (by decide +kernel)) boot_len (pa_cons (pv 5) pa_nil)) (pv 3) (nomark _)) (pw_and1 (pt_cmpR op_eq (pe_ix (ixl (K := K)) (pv 5) (pe_op op_sub (pe_un un_neg pe_int) (pv 3)) fun _ _ => rfl) (pe_op op_sub (pe_ix (ixl (K := K)) (pv 5) (pe_un un_neg pe_int) fun _ _ => rfl) (pv 2)) (nomark _))))) (pss_one (ps_set (i := 5) sc__law_plain.nd rfl (Or.inl rfl) (pe_slice sl_list (pv 5) po_none (po_some (pe_un un_neg pe_int)))))) (pss_one (ps_ret (pe_tup (pa_cons (pe_callTy cr_tup rfl (T.fr _ (by decide +kernel)) (by decide +kernel) (pa_cons (pe_slice sl_list (pv 5) po_none (po_some (pe_op op_sub (pe_callB call_len_seq rfl (T.fr _ (by decide +kernel)) boot_len (pa_cons (pv 5) pa_nil)) (pv 3)))) pa_nil)) (pa_cons (pe_callTy cr_tup rfl (T.fr _ (by decide +kernel)) (by decide +kernel) (pa_cons (pe_slice sl_list (pv 5) (po_some (pe_op op_sub (pe_callB call_len_seq rfl (T.fr _ (by decide +kernel)) boot_len (pa_cons (pv 5) pa_nil)) (pv 3))) po_none) pa_nil)) (pa_cons (pv 2) pa_nil)))))))))))), ?_⟩
    refine ⟨_, rfl, b, _, rfl, Or.inl hb, rfl, _, rfl, ?_⟩
    by_cases hl : l = []
    · refine (iteT' (decide_eq_true (by rw [hl]; rfl)) ?_)
      subst hl
      refine ⟨_, rfl, a, _, rfl, Or.inl ha, fun p1 G1 s1 t1 => ?_⟩
      refine ⟨(by show 0 ≤ sizeLine; decide), fun p2 hp2 => ?_⟩
      refine ⟨(by show 3 ≤ sizeLine; decide), fun p3 hp3 => ?_⟩
      have s6 := NF.Same.new (o := .tup []) (Same.refl G1) hp2
      have s7 := NF.Same.new (o := .tup [V.ref p1, V.ref p2, V.int 0]) s6 hp3
      exact q p3 (h, [], 0) _ (.inl ⟨rfl, rfl⟩) (Same.trans s1 s7) ⟨p1, p2, SqT.of upd_same, NF.Same.tup s7 t1, SqT.of (by rw [upd_ne (ne_of_none upd_same hp3)]; exact upd_same)⟩
    refine (iteF' (decide_eq_false (fun z => hl ?_)) ?_)
    · injection z with z
      rw [vI_len] at z
      exact List.eq_nil_of_length_eq_zero (by omega)
    have hp := len_pos hl
    refine ⟨_, rfl, b, _, rfl, Or.inl hb, ?_⟩
    refine ⟨_, rfl, b, _, rfl, Or.inl hb, _, rfl, _, _, _, l.length, rfl, ?_, ?_⟩
    · have := RgC.neg (i := ((vI l).length : Int)) (j := 0) (by rw [vI_len]; omega) (by rw [vI_len]; omega) (by omega) (by omega)
      rw [vI_len, Int.sub_zero, Int.toNat_natCast] at this
      rw [vI_len]
      exact this
    -- the shortest lap
    refine for_rangeC (n := l.length) (fun i σ G => Same H G ∧ ∃ s : Nat, (0 < s ∧ s ∣ l.length ∧ Per (walk l r) s ∧ ∀ m', l.length - i < m' → m' ∣ l.length → Per (walk l r) m' → s ≤ m') ∧ ∃ v1 v2 v3 : Option V, σ = [some (.ref a), some (.ref b), some (.int r), some (.int (s : Int)), v1, none, v2, v3, none])
      ⟨Same.refl _, l.length, ⟨hp, Nat.dvd_refl _, per_self hl, fun m' h1 _ _ => by omega⟩, none, none, none, ?_⟩ ?_ ?_
    · rw [vI_len]
      rfl
    · rintro i σ G hi ⟨s1, sz, ⟨z0, z1, z2, z3⟩, v1, v2, v3, rfl⟩
      have hb1 := L2.Same.seq s1 hb
      obtain ⟨m, hm⟩ : ∃ m : Nat, m = l.length - i := ⟨_, rfl⟩
      have m0 : 0 < m := by omega
      have mle : m ≤ l.length := by omega
      have e1 : ((vI l).length : Int) + (i : Int) * (-1) = (m : Int) := by rw [vI_len]; omega
      rw [e1]
      obtain ⟨t, htt⟩ : ∃ t : Nat, t = l.length / m := ⟨_, rfl⟩
      have t0 : 0 < t := by rw [htt]; exact Nat.div_pos mle m0
      have tle : t ≤ l.length := by rw [htt]; exact Nat.div_le_self _ _
      have e2 : ((vI l).length : Int) / (m : Int) = (t : Int) := by rw [vI_len, htt]; rfl
      refine ⟨_, rfl, b, _, rfl, Or.inl hb1, _, rfl, _, _, rfl, rfl, ⟨by omega, by omega⟩, ?_⟩
      show gName 6 (V.int (((vI l).length : Int) / (m : Int))) _ _ _
      rw [e2]
      have hnext : ∀ {v3' : Option V}, ¬ (m ∣ l.length ∧ Per (walk l r) m) → (fun σ G => Same H G ∧ ∃ s : Nat, (0 < s ∧ s ∣ l.length ∧ Per (walk l r) s ∧ ∀ m', l.length - (i + 1) < m' → m' ∣ l.length → Per (walk l r) m' → s ≤ m') ∧ ∃ v1 v2 v3 : Option V, σ = [some (.ref a), some (.ref b), some (.int r), some (.int (s : Int)), v1, none, v2, v3, none])
          [some (.ref a), some (.ref b), some (.int r), some (.int (sz : Int)), some (.int (m : Int)), none, some (.int (t : Int)), v3', none] G := fun hn => by
        refine ⟨s1, sz, ⟨z0, z1, z2, fun m' h1 h2 h3 => ?_⟩, _, _, _, rfl⟩
        by_cases c : m' = m
        · subst c
          exact absurd ⟨h2, h3⟩ hn
        · exact z3 m' (by omega) h2 h3
      refine ⟨_, rfl, _, rfl, _, _, rfl, rfl, Or.inr ⟨by omega, by omega⟩, _, rfl, b, _, rfl, Or.inl hb1, rfl, _, rfl, ?_⟩
      by_cases hd : ¬ m ∣ l.length
      · refine iteT' ?_ (iteT (hnext fun z => hd z.1))
        rw [decide_eq_false (fun z => hd ?_)]
        · rfl
        injection z with z
        rw [vI_len] at z
        have z' : t * m = l.length := Int.ofNat.inj (by rw [← Int.natCast_mul] at z; exact z)
        exact ⟨t, by rw [Nat.mul_comm]; exact z'.symm⟩
      have hd := Classical.not_not.mp hd
      have hmt : m * t = l.length := by rw [htt]; exact Nat.mul_div_cancel' hd
      refine iteF' ?_ ?_
      · rw [decide_eq_true]
        · rfl
        rw [vI_len, ← hmt, Int.natCast_mul, Int.mul_comm]
      have hiff := law_iff (r := r) hl m0 hmt
      refine ⟨_, rfl, Or.inl ⟨_, rfl, _, rfl, _, _, rfl, rfl, (by show (0 : Int) < (t : Int); omega), rfl, _, rfl, ?_⟩⟩
      by_cases hrt : ¬ r % (t : Int) = 0
      · refine iteT' ?_ (hnext fun z => hrt (hiff.mpr z.2).1)
        rw [decide_eq_false (fun z => hrt (by injection z))]
        rfl
      have hrt := Classical.not_not.mp hrt
      refine iteF' ?_ ?_
      · rw [decide_eq_true (congrArg V.int hrt)]
        rfl
      refine ⟨_, rfl, _, rfl, _, _, rfl, rfl, ⟨by omega, by omega⟩, ?_⟩
      -- all
      refine ⟨_, rfl, b, _, rfl, Or.inl hb1, _, rfl, _, _, rfl, rfl, _, rfl, ?_⟩
      rw [vI_len]
      refine ⟨by omega, by omega, fun D hD => ?_⟩
      have en : ((l.length : Int) - (m : Int)).toNat = l.length - m := by omega
      rw [en]
      refine lc_range (lo := 0) (n := l.length - m) (fun j G' => Same G G' ∧ G' D = some (.lst (((List.range j).map fun k => decide (V.int (l.getD (k + m) 0) = V.int (l.getD k 0 + r / (t : Int)))).map V.bl))) ⟨NF.Same.new (Same.refl G) hD, upd_same⟩ ?_ ?_
      · rintro j G' hj ⟨hG, hD2⟩
        have e1 : (0 : Int) + (j : Int) = (j : Int) := Int.zero_add _
        rw [e1]
        have hb2 := L2.Same.seq hG hb1
        refine ⟨rfl, _, rfl, _, rfl, _, rfl, _, _, rfl, rfl, b, _, _, _, rfl, rfl, hb2, at_int (k := j + m) (by omega) (by omega), ?_⟩
        refine ⟨_, rfl, _, rfl, b, _, _, _, rfl, rfl, hb2, at_int (k := j) rfl (by omega), _, rfl, _, _, rfl, rfl, rfl, ?_⟩
        refine ⟨_, hD2, by rw [List.length_map, List.length_map, List.length_range]; exact Nat.lt_of_lt_of_le (show j < 10000 by omega) (by decide), NF.Same.mut hG hD, ?_⟩
        rw [upd_same, List.range_succ, List.map_append, List.map_append]
        rfl
      · rintro G' ⟨hG, hD2⟩
        refine ⟨D, _, rfl, SqL.of hD2, _, rfl, ?_⟩
        have s2 := Same.trans s1 hG
        have hcond : ((List.range (l.length - m)).map fun k => decide (V.int (l.getD (k + m) 0) = V.int (l.getD k 0 + r / (t : Int)))).all id = true ↔ ∀ k, k + m < l.length → l.getD (k + m) 0 = l.getD k 0 + r / (t : Int) := by
          rw [all_range]
          constructor
          · intro hk k hk2
            have := of_decide_eq_true (hk k (by omega))
            injection this
          · intro hk k hk2
            exact decide_eq_true (congrArg V.int (hk k (by omega)))
        refine ite2 (fun hc => ?_) (fun hc => ?_)
        · have hper := hiff.mp ⟨hrt, hcond.mp hc⟩
          refine ⟨_, rfl, s2, m, ⟨m0, hd, hper, fun m' h1 _ _ => by omega⟩, _, _, _, rfl⟩
        · refine ⟨s2, sz, ⟨z0, z1, z2, fun m' h1 h2 h3 => ?_⟩, _, _, _, rfl⟩
          by_cases c : m' = m
          · subst c
            exact absurd (hcond.mpr (hiff.mpr h3).2) hc
          · exact z3 m' (by omega) h2 h3
    · rintro σ G ⟨s1, m, ⟨z0, z1, z2, z3⟩, v1, v2, v3, rfl⟩
      have hm : LapIs l r m := ⟨z0, z1, z2, fun m' h1 h2 h3 => z3 m' (by omega) h2 h3⟩
      have hle : m ≤ l.length := Nat.le_of_dvd hp z1
      obtain ⟨t, ht⟩ := z1
      have t0 : 0 < t := Nat.pos_of_ne_zero fun z => by rw [z, Nat.mul_zero] at ht; omega
      have hc := per_at hl z0 z2 ht.symm
      have ha1 := L2.Same.seq s1 ha
      have hb1 := L2.Same.seq s1 hb
      have e2 : ((vI l).length : Int) / (m : Int) = (t : Int) := by
        rw [vI_len, ht, Int.natCast_mul, Int.mul_ediv_cancel_left _ (by omega)]
      have tle : t ≤ l.length := by rw [ht]; exact Nat.le_mul_of_pos_left _ z0
      refine ⟨_, rfl, _, rfl, b, _, rfl, Or.inl hb1, _, rfl, _, _, rfl, rfl, ⟨by omega, by omega⟩, ?_⟩
      show rI CDiv _ (V.int r) (V.int (((vI l).length : Int) / (m : Int))) _ _
      rw [e2]
      refine ⟨_, _, rfl, rfl, ⟨by omega, by omega⟩, ?_⟩
      show gName 2 (V.int (r / (t : Int))) _ _ _
      generalize hcc : r / (t : Int) = cc at hc
      refine ⟨_, rfl, a, _, rfl, Or.inl ha1, fun q1 hq1 => ?_⟩
      have s2 := NF.Same.new (o := .lst (vI h)) s1 hq1
      refine ⟨_, rfl, _, rfl, _, rfl, ?_⟩
      have hb2 := L2.Same.seq (NF.Same.new (o := .lst (vI h)) (Same.refl G) hq1) hb1
      refine ⟨b, _, rfl, hb2, fun p2 hp2 => ?_⟩
      rw [cut_to, vI_take]
      have s3 := NF.Same.new (o := .lst (vI (l.take m))) (Same.refl (upd G q1 (.lst (vI h)))) hp2
      refine ⟨p2, _, rfl, Or.inl (SqL.of upd_same), fun q2 hq2 => ?_⟩
      generalize hG2 : upd (upd G q1 (.lst (vI h))) p2 (.lst (vI (l.take m))) = G2 at s3 hq2 ⊢
      have hq1' : upd G2 q2 (.lst (vI (l.take m))) q1 = some (.lst (vI h)) := by
        have := s3 _ _ (upd_same (H := G) (a := q1) (o := .lst (vI h)))
        rw [upd_ne (ne_of_none this hq2)]
        exact this
      have hel : (h ++ l.take m).length = h.length + m := by rw [List.length_append, List.length_take, Nat.min_eq_left hle]
      refine ⟨q1, q2, _, _, rfl, rfl, hq1', upd_same, ?_, fun q3 hq3 => ?_⟩
      · rw [vI_len, vI_len, List.length_take]
        exact Nat.le_trans (show h.length + min m l.length ≤ 20000 by omega) (by decide)
      rw [vI_app]
      have s4 : Same H (upd (upd G2 q2 (.lst (vI (l.take m)))) q3 (.lst (vI (h ++ l.take m)))) := NF.Same.new (NF.Same.new (Same.trans s2 s3) hq2) hq3
      refine ⟨fun k σ G' => Same H G' ∧ k ≤ h.length ∧ cut (h ++ l.take m) m cc h.length = cut (h ++ l.take m) m cc k ∧ ∃ pr, G' pr = some (.lst (vI ((h ++ l.take m).take (k + m)))) ∧ σ = [some (.ref a), some (.ref b), some (.int cc), some (.int (m : Int)), v1, some (.ref pr), v2, v3, none],
        ⟨h.length, s4, Nat.le_refl _, rfl, q3, by rw [upd_same, show (h ++ l.take m).take (h.length + m) = h ++ l.take m from List.take_of_length_le (by omega)], rfl⟩, ?_⟩
      rintro k σ G' ⟨s5, hk, hcut, pr, hpr, rfl⟩
      have hlen : ((h ++ l.take m).take (k + m)).length = k + m := by rw [List.length_take, hel]; omega
      -- what is handed back
      have hdone : cut (h ++ l.take m) m cc k = k → (tRet (tTup (tCons (tCB (rTupOf K) (tCons (tSl (rSlL K) (tVar 5) tNoPart (tPart (tOp (rI0 fun i j => .int (i - j)) (tCB (fun xs H Q => ∃ a ys, xs = [.ref a] ∧ (SqL K H a ys ∨ SqT K H a ys) ∧ Q (.int (ys.length : Int)) H) (tCons (tVar 5) tNil)) (tVar 3)))) tNil))
          (tCons (tCB (rTupOf K) (tCons (tSl (rSlL K) (tVar 5) (tPart (tOp (rI0 fun i j => .int (i - j)) (tCB (fun xs H Q => ∃ a ys, xs = [.ref a] ∧ (SqL K H a ys ∨ SqT K H a ys) ∧ Q (.int (ys.length : Int)) H) (tCons (tVar 5) tNil)) (tVar 3))) tNoPart) tNil)) (tCons (tVar 2) tNil))))) { nx := fun _ H' => Q .non H', rt := Q }
          [some (.ref a), some (.ref b), some (.int cc), some (.int (m : Int)), v1, some (.ref pr), v2, v3, none] G' := fun hk2 => by
        have e5 : ((vI ((h ++ l.take m).take (k + m))).length : Int) - (m : Int) = (k : Int) := by rw [vI_len, hlen]; omega
        refine ⟨_, rfl, _, rfl, pr, _, rfl, Or.inl (SqL.of hpr), _, rfl, _, _, rfl, rfl, _, rfl, ?_⟩
        rw [e5]
        refine ⟨pr, _, rfl, SqL.of hpr, fun q1 hq1 => ?_⟩
        rw [cut_to, vI_take, List.take_take, Nat.min_eq_left (by omega)]
        refine ⟨q1, _, rfl, Or.inl (SqL.of upd_same), fun p1 G1 s6 t1 => ?_⟩
        have s06 : Same G' G1 := Same.trans (NF.Same.new (Same.refl G') hq1) s6
        have hpr1 := s06 _ _ hpr
        refine ⟨_, rfl, _, rfl, pr, _, rfl, Or.inl (SqL.of hpr1), _, rfl, _, _, rfl, rfl, _, rfl, ?_⟩
        rw [e5]
        refine ⟨pr, _, rfl, SqL.of hpr1, fun q2 hq2 => ?_⟩
        rw [cut_from, vI_drop]
        refine ⟨q2, _, rfl, Or.inl (SqL.of upd_same), fun p2 G2 s7 t2 => ?_⟩
        have s17 : Same G1 G2 := Same.trans (NF.Same.new (Same.refl G1) hq2) s7
        refine ⟨_, rfl, (by show 3 ≤ sizeLine; decide), fun p6 hp6 => ?_⟩
        have s8 := NF.Same.new (o := .tup [V.ref p1, V.ref p2, V.int cc]) (Same.refl G2) hp6
        have hx := plain_is (h := h) hl hm hc
        rw [hcut, hk2] at hx
        have ew : ((h ++ l.take m).take (k + m)).drop k = win (h ++ l.take m) k m := by
          unfold win
          rw [List.drop_take, Nat.add_sub_cancel_left]
        rw [ew] at t2
        exact q p6 _ _ hx (Same.trans s5 (Same.trans s06 (Same.trans s17 s8))) ⟨p1, p2, SqT.of upd_same, NF.Same.tup (Same.trans s17 s8) t1, NF.Same.tup s8 t2⟩
      refine ⟨_, rfl, pr, _, rfl, Or.inl (SqL.of hpr), _, rfl, _, _, rfl, rfl, _, rfl, ?_⟩
      refine ite2 (fun h1 => ?_) (fun h1 => ?_)
      · have k0 : 0 < k := by
          have := of_decide_eq_true h1
          rw [vI_len, hlen] at this
          omega
        obtain ⟨j, rfl⟩ : ∃ j, k = j + 1 := ⟨k - 1, by omega⟩
        have g1 : ((h ++ l.take m).take (j + 1 + m)).getD j 0 = (h ++ l.take m).getD j 0 := getD_take (by omega)
        have g2 : ((h ++ l.take m).take (j + 1 + m)).getD (j + m) 0 = (h ++ l.take m).getD (j + m) 0 := getD_take (by omega)
        refine ⟨_, rfl, _, rfl, _, rfl, _, _, rfl, rfl, pr, _, _, _, rfl, rfl, SqL.of hpr, at_neg (n := j) (by rw [hlen]; omega) (by omega) (by rw [hlen]; omega), ?_⟩
        refine ⟨_, rfl, _, rfl, pr, _, _, _, rfl, rfl, SqL.of hpr, at_neg (n := j + m) (by rw [hlen]; omega) (by omega) (by rw [hlen]; omega), _, rfl, _, _, rfl, rfl, rfl, _, rfl, ?_⟩
        rw [g1, g2]
        refine ite2 (fun h2 => ?_) (fun h2 => ?_)
        · have h2' : (h ++ l.take m).getD j 0 + cc = (h ++ l.take m).getD (j + m) 0 := by
            have := of_decide_eq_true h2
            injection this
            omega
          refine ⟨fun σ' G2 => Same H G2 ∧ ∃ pr', G2 pr' = some (.lst (vI ((h ++ l.take m).take (j + m)))) ∧ σ' = [some (.ref a), some (.ref b), some (.int cc), some (.int (m : Int)), v1, some (.ref pr'), v2, v3, none], fun σ' G2 ⟨z1, pr', z2, z3⟩ => ⟨j, Nat.lt_succ_self j, z1, by omega, ?_, pr', z2, z3⟩, ?_⟩
          · rw [hcut]
            show (if (h ++ l.take m).getD j 0 + cc = (h ++ l.take m).getD (j + m) 0 then _ else _) = _
            rw [if_pos h2']
          · refine ⟨_, rfl, _, rfl, _, rfl, pr, _, rfl, SqL.of hpr, fun q4 hq4 => ?_⟩
            refine ⟨NF.Same.new s5 hq4, q4, ?_, rfl⟩
            rw [upd_same]
            show some (HO.lst (cutV _ none (some (-((1 : Nat) : Int))))) = _
            rw [cut_toN (by decide), vI_len, hlen, vI_take, List.take_take, Nat.min_eq_left (by omega)]
            congr 4
            omega
        · refine hdone ?_
          show (if (h ++ l.take m).getD j 0 + cc = (h ++ l.take m).getD (j + m) 0 then _ else _) = _
          rw [if_neg fun z => h2 (decide_eq_true (congrArg V.int (by omega)))]
      · have k0 : k = 0 := by
          have : ¬ (m : Int) < ((vI ((h ++ l.take m).take (k + m))).length : Int) := fun z => h1 (decide_eq_true z)
          rw [vI_len, hlen] at this
          omega
        subst k0
        exact hdone rfl
end
end K05
set_option Elab.async false
set_option linter.all false
set_option maxRecDepth 100000
set_option maxHeartbeats 4000000
namespace NT
theorem seg_allK {F : Nat → Option Int} {a m : Nat} (h : ∀ k, k < m → F (a + k + 1) ≠ none) : (seg F a m).map NF.vO = NF.vI (segN F a m) := by
  unfold seg segN NF.vI
  rw [List.map_map, List.map_map]
  refine List.map_congr_left fun k hk => ?_
  show NF.vO (F (a + k + 1)) = .int (numF F (a + k + 1))
  rw [numF_some (h k (List.mem_range.mp hk))]
  rfl
theorem seg_get {F : Nat → Option Int} {a m k : Nat} (hk : k < m) : (seg F a m)[k]? = some (F (a + k + 1)) := by
  unfold seg
  rw [List.getElem?_map, List.getElem?_range hk]
  rfl
theorem segN_take {F : Nat → Option Int} {a b : Nat} : (segN F 0 (a + b)).take a = segN F 0 a := by
  rw [segN_add, List.take_append_of_le_length (by rw [segN_len]; exact Nat.le_refl _), List.take_of_length_le (by rw [segN_len]; exact Nat.le_refl _)]
theorem segN_drop {F : Nat → Option Int} {a b : Nat} : (segN F 0 (a + b)).drop a = segN F a b := by
  rw [segN_add, List.drop_append_of_le_length (by rw [segN_len]; exact Nat.le_refl _), List.drop_of_length_le (by rw [segN_len]; exact Nat.le_refl _), List.nil_append, Nat.zero_add]
end NT
namespace K05
open PySem PySem.Spec PyProof.Rows L2 He NF RZ NT
def spCounts (K : PySem.W.Frag) : Sp := fun vs H Q _ => ∃ (a : Addr) (F : Nat → Option Int) (N : Nat), vs = [.ref a] ∧ SqL K H a ((seg F 0 N).map vO) ∧ Asc F ∧ N ≤ 20000 ∧ ∀ q H', Same H H' → H' q = some (.lst (vI ((seg F 0 N).filterMap id))) → Q (.ref q) H'
def spFit (K : PySem.W.Frag) : Sp := fun vs H Q _ => ∃ (a : Addr) (F : Nat → Option Int) (N m : Nat) (r : Int), vs = [.ref a, .int (m : Int), .int r] ∧ SqL K H a (vI (segN F 0 (N + m))) ∧ N + m ≤ 10000 ∧ ∀ p x H', IsPlain (segN F 0 N) (segN F N m) r x → Same H H' → FormAt K H' p x → Q (.ref p) H'
theorem sc__law_counts : FnScope ["_law_values", "_law_told", "_law_value"] ["_law_values"] (defScope s__law_counts) := ⟨rfl, rfl, rfl, by decide +kernel, rfl, by decide +kernel, by decide +kernel⟩
theorem sc__law_fit : FnScope ["_law_values", "_law_many", "_law_rise"] ["_law_values", "_law_many", "_law_rise"] (defScope s__law_fit) := ⟨rfl, rfl, rfl, by decide +kernel, rfl, by decide +kernel, by decide +kernel⟩
section
variable {P : Program} {w : World} {K : PySem.W.Frag} {mg : Str → Option Value} {base : Heap} {gs fs : List Str} {C : Addr}
theorem ok__law_counts {f : Addr} {fd : FuncData} (F : FunD K "_law_counts" "_law_counts" (defArgs s__law_counts) (defBody s__law_counts) (defScope s__law_counts) [] [] f fd) (T : Txt K mg gs FS) : FnOk P w K mg base CX0 1 f fd ["_law_values"] (spCounts K) := by
  refine F.ok sc__law_counts (fun vs H Q E h => ?_) (fun cdv A outer s H vs Q E hr h => ?_)
  · obtain ⟨a, f, N, rfl, _⟩ := h
    rfl
  · obtain ⟨a, f, N, rfl, ha, As, hN, q⟩ := h
    obtain ⟨M, hM, eM, sM, zM⟩ := cnt_ex As N
    refine ⟨_, PSs.nox (pss_cons (ps_set (i := 1) sc__law_counts.nd rfl (Or.inl rfl) (pe_lst pa_nil)) (pss_cons (ps_for PassesOwn.never rfl (pi_list (pv 0)) (pg_name (i := 2) sc__law_counts.nd rfl (Or.inl rfl)) (pss_cons (ps_if (pt_cmpR op_isN (pv 2) pe_non (nomark _)) (pss_one (ps_ret (pv 1))) pss_nil) (pss_one (ps_expr (pe_bm PySem.F.plainAttrs_list PySem.F.slot_list_append PySem.F.type_list_append mt_append (pv 1) (pa_cons (pv 2) pa_nil)))))) (pss_one (ps_ret (pv 1))))), ?_⟩
    refine ⟨(by show 0 ≤ sizeLine; decide), fun D hD => ?_⟩
    have s1 := NF.Same.new (o := .lst []) (Same.refl H) hD
    refine ⟨_, rfl, a, rfl, ⟨_, L2.Same.seq s1 ha⟩, ?_⟩
    refine for_it (walk_list (xs := (seg f 0 N).map vO)) (fun i σ G => Same H G ∧ i ≤ M ∧ G D = some (.lst (vI (segN f 0 i))) ∧ ∃ v, σ = [some (.ref a), some (.ref D), v]) ⟨s1, Nat.zero_le _, upd_same, none, rfl⟩ (fun i σ G _ z => L2.Same.seq z.1 ha) ?_ ?_
    · rintro i x σ G G' hi ⟨sG, iM, hG, v, rfl⟩ ⟨rfl, hx⟩
      rw [List.length_map, seg_len] at hi
      rw [List.getElem?_map, seg_get hi, show 0 + i + 1 = i + 1 by omega] at hx
      obtain rfl : vO (f (i + 1)) = x := Option.some.inj hx
      cases e : f (i + 1) with
      | none =>
        have : M = i := by
          rcases Nat.lt_or_ge i M with c | c
          · exact absurd e (sM (i + 1) (by omega) (by omega))
          · omega
        refine ⟨_, rfl, rfl, _, rfl, iteT ?_⟩
        refine ⟨_, rfl, q D G' sG ?_⟩
        rw [eM, this]
        exact hG
      | some u =>
        have iM' : i + 1 ≤ M := by
          rcases Nat.lt_or_ge i M with c | c
          · omega
          · have := zM (i + 1) (by omega) (by omega)
            rw [e] at this
            cases this
        refine ⟨_, rfl, rfl, _, rfl, iteF ?_⟩
        refine ⟨_, rfl, .inl ⟨rfl, _, SqL.of hG⟩, _, rfl, D, _, _, rfl, rfl, hG, ?_, ?_⟩
        · rw [vI_len, segN_len]
          exact Nat.lt_of_le_of_lt (show i ≤ 20000 by omega) (by decide)
        · refine ⟨NF.Same.mut sG hD, iM', ?_, _, rfl⟩
          rw [upd_same, segN_succ, ← vI_app, show 0 + i + 1 = i + 1 by omega]
          unfold numF
          rw [e]
          rfl
    · rintro σ G ⟨sG, iM, hG, v, rfl⟩
      rw [List.length_map, seg_len] at iM hG
      refine ⟨_, rfl, q D G sG ?_⟩
      rw [eM, show M = N by omega]
      exact hG
theorem ok__law_fit {f : Addr} {fd : FuncData} (F : FunD K "_law_fit" "_law_fit" (defArgs s__law_fit) (defBody s__law_fit) (defScope s__law_fit) [] [] f fd) (T : Txt K mg gs FS) (c__law_plain : Cal P w K mg base 1 "_law_plain" (spPlainL K)) : FnOk P w K mg base CX0 2 f fd ["_law_values", "_law_many", "_law_rise"] (spFit K) := by
  refine F.ok sc__law_fit (fun vs H Q E h => ?_) (fun cdv A outer s H vs Q E hr h => ?_)
  · obtain ⟨a, f, N, m, r, rfl, _⟩ := h
    rfl
  · obtain ⟨a, f, N, m, r, rfl, ha, hN, q⟩ := h
    refine ⟨_, PSs.nox (pss_one (ps_ret (pe_c c__law_plain hr (by decide) rfl (pa_cons (pe_slice sl_list (pv 0) po_none (po_some (pe_op op_sub (pe_callB call_len_seq rfl (T.fr _ (by decide +kernel)) boot_len (pa_cons (pv 0) pa_nil)) (pv 1)))) (pa_cons (pe_slice sl_list (pv 0) (po_some (pe_op op_sub (pe_callB call_len_seq rfl (T.fr _ (by decide +kernel)) boot_len (pa_cons (pv 0) pa_nil)) (pv 1))) po_none) (pa_cons (pv 2) pa_nil)))))), ?_⟩
    have ei : ((vI (segN f 0 (N + m))).length : Int) - (m : Int) = (N : Int) := by rw [vI_len, segN_len]; omega
    refine ⟨_, rfl, _, rfl, a, _, rfl, Or.inl ha, _, rfl, _, _, rfl, rfl, _, rfl, a, _, rfl, ha, fun p1 h1 => ?_⟩
    rw [ei, cut_to, vI_take, segN_take]
    have s1 := NF.Same.new (o := .lst (vI (segN f 0 N))) (Same.refl H) h1
    have ha1 := L2.Same.seq s1 ha
    refine ⟨_, rfl, _, rfl, a, _, rfl, Or.inl ha1, _, rfl, _, _, rfl, rfl, _, rfl, a, _, rfl, ha1, fun p2 h2 => ?_⟩
    rw [ei, cut_from, vI_drop, segN_drop]
    have s2 := NF.Same.new (o := .lst (vI (segN f N m))) s1 h2
    have hp1 : (upd (upd H p1 (.lst (vI (segN f 0 N)))) p2 (.lst (vI (segN f N m)))) p1 = some (.lst (vI (segN f 0 N))) := by rw [upd_ne (ne_of_none upd_same h2)]; exact upd_same
    exact ⟨_, rfl, p1, p2, _, _, r, rfl, SqL.of hp1, SqL.of upd_same, by rw [segN_len]; omega, by rw [segN_len]; omega, fun p x H' hx s3 fo => q p x H' hx (Same.trans s2 s3) fo⟩
end
end K05
set_option Elab.async false
set_option linter.all false
set_option maxRecDepth 100000
set_option maxHeartbeats 4000000
namespace K05
open PySem PySem.Spec PyProof.Rows L2 He NF RZ NT
/-- a table that the law puts behind another one: short -/
structure Put0 (y : List Int × List Int × Int) : Prop where
  g : Good y.1 y.2.1 y.2.2
  h : y.1.length ≤ 20
  l : y.2.1.length ≤ 20
  r : y.2.2 ≤ 1000000
theorem Put0.small {y : List Int × List Int × Int} (p : Put0 y) : Small y := ⟨Nat.le_trans p.h (by decide), Nat.le_trans p.l (by decide), p.g.r0, p.r⟩
def Tells0 (y1 y2 x : List Int × List Int × Int) : Prop := Good x.1 x.2.1 x.2.2 ∧ (∀ n, 1 ≤ n → at_ x.1 x.2.1 x.2.2 n = beh y1.1 y1.2.1 y1.2.2 y2.1 y2.2.1 y2.2.2 n) ∧ x.1.length + x.2.1.length ≤ 10000
def spLBehind (K : PySem.W.Frag) : Sp := fun vs H Q _ => ∃ (p1 p2 : Addr) (x1 x2 : List Int × List Int × Int), vs = [.ref p1, .ref p2] ∧ FormAt K H p1 x1 ∧ FormAt K H p2 x2 ∧ Put0 x1 ∧ Put0 x2 ∧
  ∀ p u z H', Same H H' → Tells0 x1 x2 u → IsPlain u.1 u.2.1 u.2.2 z → FormAt K H' p z → Q (.ref p) H'
theorem sc__law_behind : FnScope ["_law_first", "_law_second", "_law_start", "_law_turns", "_law_many", "_law_values", "_law_upto", "_law_n"] ["_law_first", "_law_second"] (defScope s__law_behind) := ⟨rfl, rfl, rfl, by decide +kernel, rfl, by decide +kernel, by decide +kernel⟩
theorem ended_tells {y1 y2 : List Int × List Int × Int} (g1 : Put0 y1) (g2 : Put0 y2) {N : Nat} (hN : N ≤ 10000) (z : ∀ n, N < n → beh y1.1 y1.2.1 y1.2.2 y2.1 y2.2.1 y2.2.2 n = none) :
    Tells0 y1 y2 ((seg (beh y1.1 y1.2.1 y1.2.2 y2.1 y2.2.1 y2.2.2) 0 N).filterMap id, [], 0) := by
  have A := beh_asc g1.g g2.g
  obtain ⟨a, b, c, d⟩ := settled_ok A (N := N) (t := none) z
  exact ⟨a, b, by
    have : (settled (seg (beh y1.1 y1.2.1 y1.2.2 y2.1 y2.2.1 y2.2.2) 0 N) none).1.length ≤ N := c
    show ((seg (beh y1.1 y1.2.1 y1.2.2 y2.1 y2.2.1 y2.2.2) 0 N).filterMap id).length + 0 ≤ 10000
    have e : settled (seg (beh y1.1 y1.2.1 y1.2.2 y2.1 y2.2.1 y2.2.2) 0 N) none = ((seg (beh y1.1 y1.2.1 y1.2.2 y2.1 y2.2.1 y2.2.2) 0 N).filterMap id, [], 0) := rfl
    rw [e] at this
    dsimp only at this
    omega⟩
section
variable {P : Program} {w : World} {K : PySem.W.Frag} {mg : Str → Option Value} {base : Heap} {gs fs : List Str} {C : Addr}
theorem ok__law_behind {f : Addr} {fd : FuncData} (F : FunD K "_law_behind" "_law_behind" (defArgs s__law_behind) (defBody s__law_behind) (defScope s__law_behind) [] [] f fd) (T : Txt K mg gs FS) (c__law_at : Cal P w K mg base 2 "_law_at" (spLAt K)) (c__law_gcd : Cal P w K mg base 1 "_law_gcd" spGcd) (c__law_counts : Cal P w K mg base 1 "_law_counts" (spCounts K)) (c__law_fit : Cal P w K mg base 2 "_law_fit" (spFit K)) : FnOk P w K mg base CX0 3 f fd ["_law_first", "_law_second"] (spLBehind K) := by
  refine F.ok sc__law_behind (fun vs H Q E h => ?_) (fun cdv A outer s H vs Q E hr h => ?_)
  · obtain ⟨p1, p2, x1, x2, rfl, _⟩ := h
    rfl
  · obtain ⟨q1, q2, ⟨h1, l1, r1⟩, ⟨h2, l2, r2⟩, rfl, fo1, fo2, p1, p2, q⟩ := h
    have fo10 := fo1
    have fo20 := fo2
    obtain ⟨a1, b1, hq1, ha1, hb1⟩ := fo10
    obtain ⟨a2, b2, hq2, ha2, hb2⟩ := fo20
    have sm1 := p1.small
    have sm2 := p2.small
    have g1 := p1.g
    have g2 := p2.g
    have lh1 := p1.h
    have ll1 := p1.l
    have lr1 := p1.r
    have lh2 := p2.h
    have ll2 := p2.l
    have lr2 := p2.r
    have A := beh_asc g1 g2
    dsimp only at hq1 ha1 hb1 hq2 ha2 hb2 g1 g2 lh1 ll1 lr1 lh2 ll2 lr2 A q
    have r20 := g2.r0
    have r10 := g1.r0
    -- one more value
    have arg : ∀ (n : Nat), [V.ref q1, vO (val_ h2 l2 r2 (some (n + 1)))] = [V.ref q1, vN ((at_ h2 l2 r2 (n + 1)).map Int.toNat)] := fun n => by
      have e : val_ h2 l2 r2 (some (n + 1)) = at_ h2 l2 r2 (n + 1) := by
        unfold val_
        dsimp only
        rw [if_neg (Nat.succ_ne_zero n)]
      rw [e, vO_vN fun i hi => (asc_at g2).ge _ _ (by omega) hi]
    have put : ∀ (D : Addr) (G : Hp) (n : Nat), H D = none → n ≤ 1500 → (Same H G ∧ G D = some (.lst ((seg (beh h1 l1 r1 h2 l2 r2) 0 n).map vO))) → ((seg (beh h1 l1 r1 h2 l2 r2) 0 n).map vO).length < sizeLine ∧ Same H (upd G D (.lst ((seg (beh h1 l1 r1 h2 l2 r2) 0 n).map vO ++ [vO (beh h1 l1 r1 h2 l2 r2 (n + 1))]))) ∧
        (upd G D (.lst ((seg (beh h1 l1 r1 h2 l2 r2) 0 n).map vO ++ [vO (beh h1 l1 r1 h2 l2 r2 (n + 1))]))) D = some (.lst ((seg (beh h1 l1 r1 h2 l2 r2) 0 (n + 1)).map vO)) := fun D G n hD hn z => by
      refine ⟨?_, NF.Same.mut z.1 hD, ?_⟩
      · rw [List.length_map, seg_len]
        exact Nat.lt_of_le_of_lt (show n ≤ 1500 by omega) (by decide)
      · rw [upd_same, seg_succ, List.map_append, show 0 + n + 1 = n + 1 by omega]
        rfl
    refine ⟨_, PSs.nox (pss_cons (ps_if (PW.pt (pw_or (pt_cmpR op_eq (pe_callB call_len_seq rfl (T.fr _ (by decide +kernel)) boot_len (pa_cons (pe_ix (ixt (K := K)) (pv 1) pe_int fun _ _ => rfl) pa_nil)) pe_int (nomark _)) (pw_or1 (pt_cmpR op_eq (pe_ix (ixt (K := K)) (pv 1) pe_int fun _ _ => rfl) pe_int (nomark _))))) (pss_cons (ps_set (i := 6) sc__law_behind.nd rfl (Or.inl rfl) (pe_op op_add (pe_op op_add (pe_callB call_len_seq rfl (T.fr _ (by decide +kernel)) boot_len (pa_cons (pe_ix (ixt (K := K)) (pv 1) pe_int fun _ _ => rfl) pa_nil)) (pe_callB call_len_seq rfl (T.fr _ (by decide +kernel)) boot_len (pa_cons (pe_ix (ixt (K := K)) (pv 1) pe_int fun _ _ => rfl) pa_nil))) pe_int)) (pss_cons (ps_setLc (i := 5) (own := [("_law_n", 7)]) rfl sc__law_behind.nd rfl rfl (sw_true rfl rfl rfl (by decide +kernel)) (pi_range1 rfl (T.fr _ (by decide +kernel)) (pa_cons (pv 6) pa_nil)) (blkOk_by (N := ["_law_first", "_law_second", "_law_start", "_law_turns", "_law_many", "_law_values", "_law_upto", "_law_n"]) (sc := defScope s__law_behind) (by decide +kernel)) (fun _ _ _ _ _ => by exact (pg_name (i := 7) sc__law_behind.nd rfl (Or.inl rfl))) (fun _ _ _ _ _ => by exact pts_nil) (fun _ _ _ _ _ => by exact (pe_c c__law_at hr (by decide) rfl (pa_cons (pv 0) (pa_cons (pe_c c__law_at hr (by decide) rfl (pa_cons (pv 1) (pa_cons (pe_op op_add (pv 7) pe_int) pa_nil))) pa_nil))))) (pss_cons (ps_if (pt_cmpR op_isN (pe_ix (ixl (K := K)) (pv 5) (pe_un un_neg pe_int) fun _ _ => rfl) pe_non (nomark _)) (pss_one (ps_ret (pe_tup (pa_cons (pe_callTy cr_tup rfl (T.fr _ (by decide +kernel)) (by decide +kernel) (pa_cons (pe_c c__law_counts hr (by decide) rfl (pa_cons (pv 5) pa_nil)) pa_nil)) (pa_cons (pe_tup pa_nil) (pa_cons pe_int pa_nil)))))) pss_nil) (pss_one (ps_ret (pe_c c__law_fit hr (by decide) rfl (pa_cons (pv 5) (pa_cons pe_int (pa_cons pe_int pa_nil))))))))) pss_nil) (pss_cons (ps_set (i := 2) sc__law_behind.nd rfl (Or.inl rfl) (pe_callB call_len_seq rfl (T.fr _ (by decide +kernel)) boot_len (pa_cons (pe_ix (ixt (K := K)) (pv 1) pe_int fun _ _ => rfl) pa_nil))) (pss_cons (ps_while PassesOwn.never (pt_cmpR op_le (pe_c c__law_at hr (by decide) rfl (pa_cons (pv 1) (pa_cons (pe_op op_add (pv 2) pe_int) pa_nil))) (pe_callB call_len_seq rfl (T.fr _ (by decide +kernel)) boot_len (pa_cons (pe_ix (ixt (K := K)) (pv 0) pe_int fun _ _ => rfl) pa_nil)) (nomark _)) (pss_one (ps_set (i := 2) sc__law_behind.nd rfl (Or.inl rfl) (pe_op op_add (pv 2) pe_int)))) (pss_cons (ps_if (pt_cmpR op_eq (pe_callB call_len_seq rfl (T.fr _ (by decide +kernel)) boot_len (pa_cons (pe_ix (ixt (K := K)) (pv 0) pe_int fun _ _ => rfl) pa_nil)) pe_int (nomark _)) (pss_cons (ps_setLc (i := 5) (own := [("_law_n", 7)]) rfl sc__law_behind.nd rfl rfl (sw_true rfl rfl rfl (by decide +kernel)) (pi_range1 rfl (T.fr _ (by decide +kernel)) (pa_cons (pe_op op_add (pv 2) pe_int) pa_nil)) (blkOk_by (N := ["_law_first", "_law_second", "_law_start", "_law_turns", "_law_many", "_law_values", "_law_upto", "_law_n"]) (sc := defScope s__law_behind) (by decide +kernel)) (fun _ _ _ _ _ => by exact (pg_name (i := 7) sc__law_behind.nd rfl (Or.inl rfl))) (fun _ _ _ _ _ => by exact pts_nil) (fun _ _ _ _ _ => by exact (pe_c c__law_at hr (by decide) rfl (pa_cons (pv 0) (pa_cons (pe_c c__law_at hr (by decide) rfl (pa_cons (pv 1) (pa_cons (pe_op op_add (pv 7) pe_int) pa_nil))) pa_nil))))) (pss_one (ps_ret (pe_tup (pa_cons (pe_callTy cr_tup rfl (T.fr _ (by decide +kernel)) (by decide +kernel) (pa_cons (pe_c c__law_counts hr (by decide) rfl (pa_cons (pv 5) pa_nil)) pa_nil)) (pa_cons (pe_tup pa_nil) (pa_cons pe_int pa_nil))))))) pss_nil) (pss_cons (ps_set (i := 3) sc__law_behind.nd rfl (Or.inl rfl) (pe_op op_fdiv (pe_callB call_len_seq rfl (T.fr _ (by decide +kernel)) boot_len (pa_cons (pe_ix (ixt (K := K)) (pv 0) pe_int fun _ _ => rfl) pa_nil)) (pe_c c__law_gcd hr (by decide) rfl (pa_cons (pe_callB call_len_seq rfl (T.fr _ (by decide +kernel)) boot_len (pa_cons (pe_ix (ixt (K := K)) (pv 0) pe_int fun _ _ => rfl) pa_nil)) (pa_cons (pe_ix (ixt (K := K)) (pv 1) pe_int fun _ _ => rfl) pa_nil))))) (pss_cons (ps_set (i := 4) sc__law_behind.nd rfl (Or.inl rfl) (pe_op op_mul (pe_callB call_len_seq rfl (T.fr _ (by decide +kernel)) boot_len (pa_cons (pe_ix (ixt (K := K)) (pv 1) pe_int fun _ _ => rfl) pa_nil)) (pv 3))) (pss_cons (ps_setLc (i := 5) (own := [("_law_n", 7)]) rfl sc__law_behind.nd rfl rfl (sw_true rfl rfl rfl (by decide +kernel)) (pi_range1 rfl (T.fr _ (by decide +kernel)) (pa_cons (pe_op op_add (pv 2) (pv 4)) pa_nil)) (blkOk_by (N := ["_law_first", "_law_second", "_law_start", "_law_turns", "_law_many", "_law_values", "_law_upto", "_law_n"]) (sc := defScope s__law_behind) (by decide +kernel)) (fun _ _ _ _ _ => by exact (pg_name (i := 7) sc__law_behind.nd rfl (Or.inl rfl))) (fun _ _ _ _ _ => by exact pts_nil) (fun _ _ _ _ _ => by exact (pe_c c__law_at hr (by decide) rfl (pa_cons (pv 0) (pa_cons (pe_c c__law_at hr (by decide) rfl (pa_cons (pv 1) (pa_cons (pe_op op_add (pv 7) pe_int) pa_nil))) pa_nil))))) (pss_one (ps_ret (pe_c c__law_fit hr (by decide) rfl (pa_cons (pv 5) (pa_cons (pv 4) (pa_cons (pe_op op_mul (pe_ix (ixt (K := K)) (pv 0) pe_int fun _ _ => rfl) (pe_op op_fdiv (pe_op op_mul (pe_ix (ixt (K := K)) (pv 1) pe_int fun _ _ => rfl) (pv 3)) (pe_callB call_len_seq rfl (T.fr _ (by decide +kernel)) boot_len (pa_cons (pe_ix (ixt (K := K)) (pv 0) pe_int fun _ _ => rfl) pa_nil)))) pa_nil))))))))))))), ?_⟩
    by_cases cA : l2 = [] ∨ r2 = 0
    · refine' both1 (fun kA => ?A1) ?B1
      case A1 =>
        refine ⟨_, rfl, q2, _, _, _, rfl, rfl, hq2, at1, b2, _, rfl, Or.inr hb2, rfl, _, rfl, ?_⟩
        rw [vI_len]
        by_cases hl : l2 = []
        · exact iteT' (decide_eq_true (by rw [hl]; rfl)) (iteT kA)
        · refine iteF' (decide_eq_false fun z => hl (by injection z with z; exact List.eq_nil_of_length_eq_zero (by omega))) ?_
          exact ⟨_, rfl, q2, _, _, _, rfl, rfl, hq2, at2, rfl, _, rfl, iteT' (decide_eq_true (congrArg V.int (cA.resolve_left hl))) kA⟩
      case B1 =>
        refine ⟨_, rfl, q2, _, _, _, rfl, rfl, hq2, at0, a2, _, rfl, Or.inr ha2, _, rfl, q2, _, _, _, rfl, rfl, hq2, at1, b2, _, rfl, Or.inr hb2, ?_⟩
        rw [vI_len, vI_len]
        refine ⟨_, _, rfl, rfl, _, _, rfl, rfl, ?_⟩
        obtain ⟨N, hN⟩ : ∃ N, N = h2.length + l2.length := ⟨_, rfl⟩
        have eN : (h2.length : Int) + (l2.length : Int) + 1 = ((N + 1 : Nat) : Int) := by omega
        show gName 6 (V.int ((h2.length : Int) + (l2.length : Int) + 1)) _ _ _
        rw [eN]
        refine ⟨_, rfl, ((N + 1 : Nat) : Int), rfl, by omega, by omega, fun D hD => ?_⟩
        refine lc_range (lo := 0) (n := N + 1) (fun j G => Same H G ∧ G D = some (.lst ((seg (beh h1 l1 r1 h2 l2 r2) 0 j).map vO))) ⟨NF.Same.new (Same.refl H) hD, upd_same⟩ ?_ ?_
        · rintro j G hj hG
          rw [Int.zero_add]
          obtain ⟨n1, n2, n3⟩ := put D G j hD (by omega) hG
          refine ⟨rfl, _, rfl, _, rfl, _, rfl, _, _, rfl, rfl, q2, _, some (j + 1), rfl, fo2.mono hG.1, sm2, ?_⟩
          exact ⟨q1, _, _, arg j, fo1.mono hG.1, sm1, _, hG.2, n1, n2, n3⟩
        · rintro G ⟨sG, hG⟩
          have hF : ∀ n, h2.length < n → beh h1 l1 r1 h2 l2 r2 n = beh h1 l1 r1 h2 l2 r2 (N + 1) := fun n hn => by
            rw [beh_end g2 cA hn, beh_end g2 cA (by omega)]
          have hlast : atI ((seg (beh h1 l1 r1 h2 l2 r2) 0 (N + 1)).map vO) (-1) = some (vO (beh h1 l1 r1 h2 l2 r2 (N + 1))) := by
            unfold atI ixN
            rw [if_neg (by decide), List.length_map, seg_len, if_pos (by omega)]
            show ((seg (beh h1 l1 r1 h2 l2 r2) 0 (N + 1)).map vO)[((-1 : Int) + ((N + 1 : Nat) : Int)).toNat]? = _
            rw [show ((-1 : Int) + ((N + 1 : Nat) : Int)).toNat = N by omega, List.getElem?_map, seg_get (by omega), show 0 + N + 1 = N + 1 by omega]
            rfl
          cases ho : beh h1 l1 r1 h2 l2 r2 (N + 1) with
          | none =>
            rw [ho] at hlast
            refine ⟨_, rfl, _, rfl, D, _, _, _, rfl, rfl, SqL.of hG, hlast, rfl, _, rfl, iteT ?_⟩
            refine ⟨_, rfl, D, _, N + 1, rfl, SqL.of hG, A, by omega, fun q3 H3 s3 h3 => ?_⟩
            refine ⟨q3, _, rfl, .inl (SqL.of h3), fun p4 H4 s4 t4 => ?_⟩
            refine ⟨(by show 0 ≤ sizeLine; decide), fun p5 h5 => ⟨(by show 3 ≤ sizeLine; decide), fun p6 h6 => ?_⟩⟩
            have s5 := NF.Same.new (o := .tup []) (Same.refl H4) h5
            have s6 := NF.Same.new (o := .tup [V.ref p4, V.ref p5, V.int 0]) s5 h6
            refine q p6 ((seg (beh h1 l1 r1 h2 l2 r2) 0 (N + 1)).filterMap id, [], 0) _ _ (Same.trans sG (Same.trans s3 (Same.trans s4 s6))) (ended_tells p1 p2 (N := N + 1) (by omega) fun n hn => (hF n (by omega)).trans ho) (.inl ⟨rfl, rfl⟩) ⟨p4, p5, SqT.of upd_same, NF.Same.tup s6 t4, SqT.of (by rw [upd_ne (ne_of_none upd_same h6)]; exact upd_same)⟩
          | some v =>
            rw [ho] at hlast
            have sall : ∀ n, 1 ≤ n → beh h1 l1 r1 h2 l2 r2 n ≠ none := fun n hn z => by
              by_cases c : n ≤ N + 1
              · have := A.none_up hn z c
                rw [ho] at this
                cases this
              · rw [hF n (by omega), ho] at z
                cases z
            rw [seg_allK fun k hk => sall _ (by omega)] at hG
            refine ⟨_, rfl, _, rfl, D, _, _, _, rfl, rfl, SqL.of (hG.trans (congrArg (fun z => some (HO.lst z)) (seg_allK fun k hk => sall _ (by omega)).symm)), hlast, rfl, _, rfl, iteF ?_⟩
            refine ⟨_, rfl, D, _, N, 1, 0, rfl, SqL.of hG, by omega, fun p x H' hx s' fo => ?_⟩
            have L := looped A (N := N) (m := 1) (c := 0) (by decide) sall fun n hn => by
              unfold numF
              rw [hF n (by omega), hF (n + 1) (by omega)]
              simp
            exact q p (segN (beh h1 l1 r1 h2 l2 r2) 0 N, segN (beh h1 l1 r1 h2 l2 r2) N 1, 0) _ H' (Same.trans sG s') ⟨L.1, L.2, by show (segN _ 0 N).length + (segN _ N 1).length ≤ 10000; rw [segN_len, segN_len]; omega⟩ hx fo
    · have hl2 : l2 ≠ [] := fun z => cA (.inl z)
      have r2p : 0 < r2 := by
        have : r2 ≠ 0 := fun z => cA (.inr z)
        omega
      have l20 := len_pos hl2
      have sall2 : ∀ k, at_ h2 l2 r2 k ≠ none := fun k => by
        rw [at_some _ (.inr hl2)]
        exact fun z => by cases z
      refine ⟨_, rfl, q2, _, _, _, rfl, rfl, hq2, at1, b2, _, rfl, Or.inr hb2, rfl, _, rfl, ?_⟩
      rw [vI_len]
      refine iteF' (decide_eq_false fun z => hl2 (by injection z with z; exact List.eq_nil_of_length_eq_zero (by omega))) ?_
      refine ⟨_, rfl, q2, _, _, _, rfl, rfl, hq2, at2, rfl, _, rfl, iteF' (decide_eq_false fun z => ?_) ?_⟩
      · injection z with z
        omega
      refine ⟨_, rfl, q2, _, _, _, rfl, rfl, hq2, at0, a2, _, rfl, Or.inr ha2, ?_⟩
      rw [vI_len]
      -- where the values are beyond the head of the first one
      obtain ⟨B, hB⟩ : ∃ B, B = h2.length + l2.length * (h1.length + 1) := ⟨_, rfl⟩
      have Ble : B ≤ 440 := by
        have : l2.length * (h1.length + 1) ≤ 20 * 21 := Nat.mul_le_mul ll2 (by omega)
        omega
      have farB : (h1.length : Int) < num h2 l2 r2 (B + 1) := by
        unfold num
        rw [at_loop hl2 (by omega), show B + 1 - h2.length - 1 = 0 + l2.length * (h1.length + 1) by omega, walk_add_mul l20, walk_lt l20]
        show (h1.length : Int) < l2.getD 0 0 + r2 * ((h1.length + 1 : Nat) : Int)
        have c0 : 0 ≤ l2.getD 0 0 := climbs_lo g2.lp l20
        have c1 : 1 * ((h1.length + 1 : Nat) : Int) ≤ r2 * ((h1.length + 1 : Nat) : Int) := Int.mul_le_mul_of_nonneg_right (by omega) (by omega)
        omega
      refine ⟨fun k σ G => Same H G ∧ ∃ st : Nat, k = B - st ∧ h2.length ≤ st ∧ st ≤ B ∧ σ = [some (.ref q1), some (.ref q2), some (.int (st : Int)), none, none, none, none, none], ⟨B - h2.length, Same.refl H, h2.length, rfl, Nat.le_refl _, by omega, rfl⟩, ?_⟩
      rintro k σ G ⟨sG, st, rfl, st1, st2, rfl⟩
      have fo2' := fo2.mono sG
      have evs : val_ h2 l2 r2 (some (st + 1)) = some (num h2 l2 r2 (st + 1)) := by
        unfold val_
        dsimp only
        rw [if_neg (Nat.succ_ne_zero st), at_some _ (.inr hl2)]
      refine ⟨_, rfl, _, rfl, _, _, rfl, rfl, q2, _, some (st + 1), rfl, fo2', sm2, ?_⟩
      rw [evs]
      refine ⟨_, rfl, q1, _, _, _, rfl, rfl, NF.Same.tup sG hq1, at0, a1, _, rfl, Or.inr (NF.Same.tup sG ha1), ?_⟩
      rw [vI_len]
      refine ⟨_, _, rfl, rfl, _, rfl, ite2 (fun h => ?_) (fun h => ?_)⟩
      · have hle := of_decide_eq_true h
        have lt : st < B := by
          rcases Nat.lt_or_ge st B with c | c
          · exact c
          · have : st = B := by omega
            subst this
            omega
        refine ⟨fun σ' G' => G' = G ∧ σ' = [some (.ref q1), some (.ref q2), some (.int ((st + 1 : Nat) : Int)), none, none, none, none, none], fun σ' G' ⟨z1, z2⟩ => ?_, ?_⟩
        · subst z1
          exact ⟨B - (st + 1), by omega, sG, st + 1, rfl, by omega, by omega, z2⟩
        · exact ⟨_, rfl, _, _, rfl, rfl, rfl, rfl⟩
      have hgt : (h1.length : Int) < num h2 l2 r2 (st + 1) := by
        have : ¬ num h2 l2 r2 (st + 1) ≤ (h1.length : Int) := fun z => h (decide_eq_true z)
        omega
      have far := far_of g2 hl2 hgt
      have hq1' := NF.Same.tup sG hq1
      have hb1' := NF.Same.tup sG hb1
      have hq2' := NF.Same.tup sG hq2
      have hb2' := NF.Same.tup sG hb2
      have put' : ∀ (D : Addr) (G' : Hp) (n : Nat), G D = none → n ≤ 1500 → (Same G G' ∧ G' D = some (.lst ((seg (beh h1 l1 r1 h2 l2 r2) 0 n).map vO))) → ((seg (beh h1 l1 r1 h2 l2 r2) 0 n).map vO).length < sizeLine ∧ Same G (upd G' D (.lst ((seg (beh h1 l1 r1 h2 l2 r2) 0 n).map vO ++ [vO (beh h1 l1 r1 h2 l2 r2 (n + 1))]))) ∧
          (upd G' D (.lst ((seg (beh h1 l1 r1 h2 l2 r2) 0 n).map vO ++ [vO (beh h1 l1 r1 h2 l2 r2 (n + 1))]))) D = some (.lst ((seg (beh h1 l1 r1 h2 l2 r2) 0 (n + 1)).map vO)) := fun D G' n hD hn z => by
        obtain ⟨y1, _, y3⟩ := put D G' n (L2.Same.free sG hD) hn ⟨Same.trans sG z.1, z.2⟩
        exact ⟨y1, NF.Same.mut z.1 hD, y3⟩
      refine ⟨_, rfl, q1, _, _, _, rfl, rfl, hq1', at1, b1, _, rfl, Or.inr hb1', rfl, _, rfl, ?_⟩
      rw [vI_len]
      by_cases hl1 : l1 = []
      · refine iteT' (decide_eq_true (by rw [hl1]; rfl)) ?_
        refine ⟨_, rfl, _, _, rfl, rfl, ((st + 1 : Nat) : Int), rfl, by omega, by omega, fun D hD => ?_⟩
        refine lc_range (lo := 0) (n := st + 1) (fun j G' => Same G G' ∧ G' D = some (.lst ((seg (beh h1 l1 r1 h2 l2 r2) 0 j).map vO))) ⟨NF.Same.new (Same.refl G) hD, upd_same⟩ ?_ ?_
        · rintro j G' hj hG
          rw [Int.zero_add]
          obtain ⟨n1, n2, n3⟩ := put' D G' j hD (by omega) hG
          refine ⟨rfl, _, rfl, _, rfl, _, rfl, _, _, rfl, rfl, q2, _, some (j + 1), rfl, fo2'.mono hG.1, sm2, ?_⟩
          exact ⟨q1, _, _, arg j, (fo1.mono sG).mono hG.1, sm1, _, hG.2, n1, n2, n3⟩
        · rintro G' ⟨sG', hG⟩
          refine ⟨_, rfl, D, _, st + 1, rfl, SqL.of hG, A, by omega, fun q3 H3 s3 h3 => ?_⟩
          refine ⟨q3, _, rfl, .inl (SqL.of h3), fun p4 H4 s4 t4 => ?_⟩
          refine ⟨(by show 0 ≤ sizeLine; decide), fun p5 h5 => ⟨(by show 3 ≤ sizeLine; decide), fun p6 h6 => ?_⟩⟩
          have s5 := NF.Same.new (o := .tup []) (Same.refl H4) h5
          have s6 := NF.Same.new (o := .tup [V.ref p4, V.ref p5, V.int 0]) s5 h6
          have ef : fin_ l1 r1 = none := if_pos (.inl hl1)
          refine q p6 ((seg (beh h1 l1 r1 h2 l2 r2) 0 (st + 1)).filterMap id, [], 0) _ _ (Same.trans sG (Same.trans sG' (Same.trans s3 (Same.trans s4 s6)))) (ended_tells p1 p2 (N := st + 1) (by omega) fun n hn => ?_) (.inl ⟨rfl, rfl⟩) ⟨p4, p5, SqT.of upd_same, NF.Same.tup s6 t4, SqT.of (by rw [upd_ne (ne_of_none upd_same h6)]; exact upd_same)⟩
          obtain ⟨v, hv, lv⟩ := far n (by omega)
          exact (beh_flat g1 (.inl hl1) hv lv).trans ef
      · have l10 := len_pos hl1
        refine iteF' (decide_eq_false fun z => hl1 (by injection z with z; exact List.eq_nil_of_length_eq_zero (by omega))) ?_
        obtain ⟨rn, hrn⟩ : ∃ rn : Nat, r2 = (rn : Int) := ⟨r2.toNat, by omega⟩
        obtain ⟨gg, hgg⟩ : ∃ gg, gg = Nat.gcd l1.length rn := ⟨_, rfl⟩
        have gg0 : 0 < gg := by rw [hgg]; exact Nat.gcd_pos_of_pos_left _ l10
        have gg1 : gg ≤ l1.length := by rw [hgg]; exact Nat.gcd_le_left _ l10
        obtain ⟨qq, hqq⟩ : gg ∣ l1.length := by rw [hgg]; exact Nat.gcd_dvd_left _ _
        obtain ⟨rq, hrq⟩ : gg ∣ rn := by rw [hgg]; exact Nat.gcd_dvd_right _ _
        have qq0 : 0 < qq := by
          rcases Nat.eq_zero_or_pos qq with z | z
          · rw [z] at hqq; omega
          · exact z
        have qq1 : qq ≤ l1.length := by rw [hqq]; exact Nat.le_mul_of_pos_left _ gg0
        have rq1 : rq ≤ rn := by rw [hrq]; exact Nat.le_mul_of_pos_left _ gg0
        refine ⟨_, rfl, q1, _, _, _, rfl, rfl, hq1', at1, b1, _, rfl, Or.inr hb1', _, rfl, q1, _, _, _, rfl, rfl, hq1', at1, b1, _, rfl, Or.inr hb1', _, rfl, q2, _, _, _, rfl, rfl, hq2', at2, l1.length, rn, by rw [vI_len, hrn]; rfl, fun G1 s1 => ?_⟩
        rw [vI_len, ← hgg]
        refine ⟨_, _, rfl, rfl, ⟨by omega, by omega⟩, ?_⟩
        have eq' : (l1.length : Int) / (gg : Int) = (qq : Int) := by
          rw [hqq, Int.natCast_mul]
          exact Int.mul_ediv_cancel_left _ (by omega)
        show gName 3 (V.int ((l1.length : Int) / (gg : Int))) _ _ _
        rw [eq']
        have hq1c := NF.Same.tup s1 hq1'
        have hb1c := NF.Same.tup s1 hb1'
        have hq2c := NF.Same.tup s1 hq2'
        have hb2c := NF.Same.tup s1 hb2'
        refine ⟨_, rfl, q2, _, _, _, rfl, rfl, hq2c, at1, b2, _, rfl, Or.inr hb2c, ?_⟩
        rw [vI_len]
        refine ⟨_, rfl, _, _, rfl, rfl, Or.inr ⟨by omega, by omega⟩, ?_⟩
        obtain ⟨many, hmany⟩ : ∃ many, many = l2.length * qq := ⟨_, rfl⟩
        have manyle : many ≤ 400 := by rw [hmany]; exact Nat.mul_le_mul (show l2.length ≤ 20 by omega) (show qq ≤ 20 by omega)
        have many0 : 0 < many := by rw [hmany]; exact Nat.mul_pos l20 qq0
        have em : (l2.length : Int) * (qq : Int) = (many : Int) := by rw [hmany, Int.natCast_mul]
        show gName 4 (V.int ((l2.length : Int) * (qq : Int))) _ _ _
        rw [em]
        refine ⟨_, rfl, _, rfl, _, _, rfl, rfl, ((st + many : Nat) : Int), by rw [Int.natCast_add], by omega, by omega, fun D hD => ?_⟩
        have hDG : G D = none := L2.Same.free s1 hD
        refine lc_range (lo := 0) (n := st + many) (fun j G' => Same G1 G' ∧ G' D = some (.lst ((seg (beh h1 l1 r1 h2 l2 r2) 0 j).map vO))) ⟨NF.Same.new (Same.refl G1) hD, upd_same⟩ ?_ ?_
        · rintro j G' hj hG
          rw [Int.zero_add]
          obtain ⟨n1, n2, n3⟩ := put' D G' j hDG (by omega) ⟨Same.trans s1 hG.1, hG.2⟩
          refine ⟨rfl, _, rfl, _, rfl, _, rfl, _, _, rfl, rfl, q2, _, some (j + 1), rfl, (fo2'.mono s1).mono hG.1, sm2, ?_⟩
          exact ⟨q1, _, _, arg j, ((fo1.mono sG).mono s1).mono hG.1, sm1, _, hG.2, n1, NF.Same.mut hG.1 hD, n3⟩
        · rintro G' ⟨sG', hG⟩
          have ball := fun n => beh_some (h1 := h1) (l1 := l1) (r1 := r1) (h2 := h2) (l2 := l2) (r2 := r2) hl1 hl2 n
          rw [seg_allK fun k hk => ball _] at hG
          have er : r2 * (qq : Int) / (l1.length : Int) = (rq : Int) := by
            rw [hrn, hrq, hqq, Int.natCast_mul, Int.natCast_mul, Int.mul_assoc, Int.mul_comm (rq : Int), ← Int.mul_assoc]
            exact Int.mul_ediv_cancel_left _ (by rw [← Int.natCast_mul, ← hqq]; omega)
          refine ⟨_, rfl, _, rfl, _, rfl, q1, _, _, _, rfl, rfl, NF.Same.tup sG' hq1c, at2, _, rfl, q2, _, _, _, rfl, rfl, NF.Same.tup sG' hq2c, at2, _, rfl, _, _, rfl, rfl, Or.inr ⟨by omega, by omega⟩, _, rfl, q1, _, _, _, rfl, rfl, NF.Same.tup sG' hq1c, at1, b1, _, rfl, Or.inr (NF.Same.tup sG' hb1c), ?_⟩
          rw [vI_len]
          refine ⟨_, _, rfl, rfl, ⟨by omega, by omega⟩, _, _, rfl, rfl, Or.inr ⟨by rw [er]; omega, by rw [er]; omega⟩, ?_⟩
          refine ⟨D, _, st, many, _, rfl, SqL.of hG, by omega, fun p x H' hx s' fo => ?_⟩
          rw [er] at hx
          have L := looped A (N := st) (m := many) (c := r1 * (rq : Int)) many0 (fun n _ => ball n) (fun n hn => by
            rw [hmany]
            exact beh_per hl1 hl2 hqq (by rw [hrn, hrq]) st1 far n hn)
          exact q p (segN (beh h1 l1 r1 h2 l2 r2) 0 st, segN (beh h1 l1 r1 h2 l2 r2) st many, r1 * (rq : Int)) _ H' (Same.trans sG (Same.trans s1 (Same.trans sG' s'))) ⟨L.1, L.2, by show (segN _ 0 st).length + (segN _ st many).length ≤ 10000; rw [segN_len, segN_len]; omega⟩ hx fo
end
end K05
set_option Elab.async false
set_option linter.all false
set_option maxRecDepth 100000
set_option maxHeartbeats 4000000
namespace K05
open PySem PySem.Spec PyProof.Rows L2 He NF RZ NT
def maxO (k : Int) : Int := if 0 > k then 0 else k
/-- what a shift is told by -/
def shHead (k : Int) : List Int := List.replicate (-k).toNat 0
/-- Table.shift(k) of a small number -/
def spShift (K : PySem.W.Frag) (C : Addr) : Sp := fun vs H Q _ => ∃ k : Int, vs = [.int k] ∧ -100 ≤ k ∧ k ≤ 100 ∧ ∀ x y H', IsPlain (shHead k) [1 + maxO k] 1 y → Same H H' → TabAt K C H' x y → Q (.ref x) H'
/-- the shift in plain form -/
def shPlain (k : Int) : List Int × List Int × Int := if 0 ≤ k then ([], [1 + k], 1) else (List.replicate (-k - 1).toNat 0, [0], 1)
def spLShift (K : PySem.W.Frag) : Sp := fun vs H Q _ => ∃ k : Int, vs = [.int k] ∧ -5000 ≤ k ∧ k ≤ 5000 ∧ ∀ p H', Same H H' → FormAt K H' p (shPlain k) → Q (.ref p) H'
theorem sc_Table_shift : FnScope ["k"] ["k"] (defScope s_Table_shift) := ⟨rfl, rfl, rfl, by decide +kernel, rfl, by decide +kernel, by decide +kernel⟩
theorem sc__law_shift : FnScope ["_law_k"] ["_law_k"] (defScope s__law_shift) := ⟨rfl, rfl, rfl, by decide +kernel, rfl, by decide +kernel, by decide +kernel⟩
theorem rep_zero (n : Nat) : (List.replicate n [V.int 0]).flatten = vI (List.replicate n 0) := by
  induction n with
  | zero => rfl
  | succ n ih =>
    rw [List.replicate_succ, List.flatten_cons, ih]
    rfl
theorem climbs_rep (n : Nat) : climbs 0 (List.replicate n 0) := by
  induction n with
  | zero => trivial
  | succ n ih => exact ⟨Int.le_refl _, ih⟩
theorem rep_get (n i : Nat) : (List.replicate n (0 : Int)).getD i 0 = 0 := by
  rw [List.getD_eq_getElem?_getD, List.getElem?_replicate]
  by_cases h : i < n
  · rw [if_pos h]; rfl
  · rw [if_neg h]; rfl
theorem shift_good (k : Int) : Good (shHead k) [1 + maxO k] 1 := by
  have m0 : 0 ≤ maxO k := by
    unfold maxO
    by_cases h : 0 > k
    · rw [if_pos h]; exact Int.le_refl _
    · rw [if_neg h]; omega
  refine ⟨climbs_rep _, ⟨by omega, trivial⟩, fun _ _ => ?_, by decide, (fun z => by cases z), fun _ => ?_⟩
  · unfold shHead
    rw [rep_get]
    show 0 ≤ 1 + maxO k
    omega
  · show 1 + maxO k ≤ 1 + maxO k + 1
    omega
section
variable {P : Program} {w : World} {K : PySem.W.Frag} {mg : Str → Option Value} {base : Heap} {gs : List Str} {C : Addr}
theorem ok_Table_shift {tok : Tok} {f : Addr} {fd : FuncData} (F : FunD K "shift" "Table.shift" (defArgs s_Table_shift) (defBody s_Table_shift) (defScope s_Table_shift) [] [] f fd) (T : Txt K mg gs FS) (hLS : mg "LONGEST_SHIFT" = some (.int 5000 tok)) (c_is_integer : Cal P w K mg base 1 "is_integer" spIsInt) (m_Table : Mak P w K mg base 4 0 "Table" C (spInit K C) []) : FnOk P w K mg base (L2.CX P w) 6 f fd ["k"] (spShift K C) := by
  refine F.ok sc_Table_shift (fun vs H Q E h => ?_) (fun cdv A outer s H vs Q E hr h => ?_)
  · obtain ⟨k, rfl, _⟩ := h
    rfl
  · obtain ⟨k, rfl, k1, k2, q⟩ := h
    refine ⟨_, PSs.nox (pss_cons (ps_if (PW.pt (pw_or (pt_not (pt_val (pe_c c_is_integer hr (by decide) rfl (pa_cons (pv 0) pa_nil)))) (pw_or1 (pt_not (pt_chain op_le op_le (pe_un un_neg (pe_glob (v := .int 5000) rfl hLS ⟨_, rfl⟩)) (pv 0) (pe_glob (v := .int 5000) rfl hLS ⟨_, rfl⟩)))))) (pss_one ps_never) pss_nil) (pss_one (ps_ret (pe_mk m_Table hr (by decide) rfl (pa_cons (pe_op op_repA (pe_tup (pa_cons pe_int pa_nil)) (pe_un un_neg (pv 0))) (pa_cons (pe_tup (pa_cons (pe_op op_add pe_int (pe_callB (call_max2 rfl) rfl (T.fr _ (by decide +kernel)) (by decide +kernel) (pa_cons (pv 0) (pa_cons pe_int pa_nil)))) pa_nil)) (pa_cons pe_int pa_nil))))))), ?_⟩
    refine ⟨_, rfl, k, rfl, _, rfl, iteF ?_⟩
    refine ⟨_, rfl, _, rfl, _, _, rfl, rfl, _, rfl, iteT' (decide_eq_true (by omega)) ?_⟩
    refine ⟨_, _, rfl, rfl, _, rfl, ?_⟩
    rw [decide_eq_true (show k ≤ 5000 by omega)]
    refine iteF ?_
    refine ⟨(by show 1 ≤ sizeLine; decide), fun p1 hp1 => ?_⟩
    have s1 := NF.Same.new (o := .tup [V.int 0]) (Same.refl H) hp1
    refine ⟨_, rfl, _, rfl, p1, -k, [V.int 0], rfl, rfl, SqT.of upd_same, by simp, (show 1 ≤ 100 by decide), by omega, by omega, fun p2 H2 s2 t2 => ?_⟩
    rw [rep_zero] at t2
    refine ⟨_, rfl, k, 0, rfl, _, _, rfl, rfl, (by show 1 ≤ sizeLine; decide), fun p3 hp3 => ?_⟩
    have s3 := NF.Same.new (o := .tup [V.int (1 + if 0 > k then 0 else k)]) (Same.refl H2) hp3
    have t3 : SqT K (upd H2 p3 (.tup [V.int (1 + if 0 > k then 0 else k)])) p3 (vI [1 + maxO k]) := SqT.of upd_same
    intro x dx nx nd ne
    refine ⟨x, dx, p2, p3, shHead k, [1 + maxO k], 1, rfl, upd_same, row_made nx nd (.inr (NF.Same.tup s3 t2)), row_made nx nd (.inr t3), shift_good k, ?_, fun z H' hz s tb => ⟨rfl, q x z H' hz (Same.trans s1 (Same.trans s2 (Same.trans s3 (same_made nx nd s)))) tb⟩⟩
    unfold shHead
    rw [List.length_replicate]
    show (-k).toNat + 1 ≤ 10000
    omega
theorem ok__law_shift {f : Addr} {fd : FuncData} (F : FunD K "_law_shift" "_law_shift" (defArgs s__law_shift) (defBody s__law_shift) (defScope s__law_shift) [] [] f fd) (T : Txt K mg gs FS) : FnOk P w K mg base CX0 1 f fd ["_law_k"] (spLShift K) := by
  refine F.ok sc__law_shift (fun vs H Q E h => ?_) (fun cdv A outer s H vs Q E hr h => ?_)
  · obtain ⟨k, rfl, _⟩ := h
    rfl
  · obtain ⟨k, rfl, k1, k2, q⟩ := h
    refine ⟨_, PSs.nox (pss_cons (ps_if (pt_cmpR op_ge (pv 0) pe_int (nomark _)) (pss_one (ps_ret (pe_tup (pa_cons (pe_tup pa_nil) (pa_cons (pe_tup (pa_cons (pe_op op_add pe_int (pv 0)) pa_nil)) (pa_cons pe_int pa_nil)))))) pss_nil) (pss_one (ps_ret (pe_tup (pa_cons (pe_op op_repA (pe_tup (pa_cons pe_int pa_nil)) (pe_op op_sub (pe_un un_neg (pv 0)) pe_int)) (pa_cons (pe_tup (pa_cons pe_int pa_nil)) (pa_cons pe_int pa_nil))))))), ?_⟩
    refine ⟨_, rfl, _, _, rfl, rfl, _, rfl, ite2 (fun h1 => ?_) (fun h1 => ?_)⟩
    · have h1 : 0 ≤ k := of_decide_eq_true h1
      refine ⟨(by show 0 ≤ sizeLine; decide), fun p1 hp1 => ?_⟩
      have s1 := NF.Same.new (o := .tup []) (Same.refl H) hp1
      refine ⟨_, rfl, _, _, rfl, rfl, (by show 1 ≤ sizeLine; decide), fun p2 hp2 => ?_⟩
      have s2 := NF.Same.new (o := .tup [V.int (1 + k)]) s1 hp2
      have u1 : SqT K (upd (upd H p1 (.tup [])) p2 (.tup [V.int (1 + k)])) p1 (vI []) := NF.Same.tup (NF.Same.new (o := .tup [V.int (1 + k)]) (Same.refl _) hp2) (SqT.of upd_same)
      refine ⟨(by show 3 ≤ sizeLine; decide), fun p3 hp3 => ?_⟩
      have s3 := NF.Same.new (o := .tup [V.ref p1, V.ref p2, V.int 1]) (Same.refl _) hp3
      refine q p3 _ (Same.trans s2 s3) ?_
      unfold shPlain
      rw [if_pos h1]
      exact ⟨p1, p2, SqT.of upd_same, NF.Same.tup s3 u1, NF.Same.tup s3 (SqT.of upd_same)⟩
    · have h1 : ¬ 0 ≤ k := fun z => h1 (decide_eq_true z)
      refine ⟨(by show 1 ≤ sizeLine; decide), fun p0 hp0 => ?_⟩
      have s0 := NF.Same.new (o := .tup [V.int 0]) (Same.refl H) hp0
      refine ⟨_, rfl, _, rfl, _, _, rfl, rfl, p0, -k - 1, [V.int 0], rfl, rfl, SqT.of upd_same, by simp, (show 1 ≤ 100 by decide), by omega, by omega, fun p1 H1 s1 t1 => ?_⟩
      rw [rep_zero] at t1
      refine ⟨(by show 1 ≤ sizeLine; decide), fun p2 hp2 => ?_⟩
      have s2 := NF.Same.new (o := .tup [V.int 0]) (Same.refl H1) hp2
      refine ⟨(by show 3 ≤ sizeLine; decide), fun p3 hp3 => ?_⟩
      have s3 := NF.Same.new (o := .tup [V.ref p1, V.ref p2, V.int 1]) (Same.refl _) hp3
      refine q p3 _ (Same.trans s0 (Same.trans s1 (Same.trans s2 s3))) ?_
      unfold shPlain
      rw [if_neg h1]
      exact ⟨p1, p2, SqT.of upd_same, NF.Same.tup s3 (NF.Same.tup s2 t1), NF.Same.tup s3 (SqT.of upd_same)⟩
end
end K05
set_option Elab.async false
set_option linter.all false
set_option maxRecDepth 100000
set_option maxHeartbeats 4000000
namespace K05
open PySem PySem.Spec PyProof.Rows L2 He NF RZ NT
structure Sm (y : Y) : Prop where
  g : Good y.1 y.2.1 y.2.2
  h : y.1.length ≤ 4
  l : y.2.1.length ≤ 4
  r : y.2.2 ≤ 11
theorem Sm.raw {y : Y} (a : Sm y) : RawOk y := ⟨a.g, Nat.le_trans a.h (by decide), Nat.le_trans a.l (by decide), Int.le_trans a.r (by decide)⟩
theorem Sm.small {y : Y} (a : Sm y) : Small y := ⟨Nat.le_trans a.h (by decide), Nat.le_trans a.l (by decide), a.g.r0, Int.le_trans a.r (by decide)⟩
theorem Sm.tb {y z : Y} (a : Sm y) (p : IsPlain y.1 y.2.1 y.2.2 z) : Tb z (atY y) 4 11 := .raw a.g a.h a.l a.r p
theorem Low.sm {y : Y} (a : Low y) : Sm y := ⟨a.g, a.h, a.l, a.r⟩
theorem vO_sc {o o' : Option Int} (e : o = o') : scal (vO o) (vO o') = true := by
  subst e
  cases o <;> rfl
theorem tab_wo {K : PySem.W.Frag} {C : Addr} {H : Hp} {x p : Addr} {z : Y} (h : TabAt K C H x z) (hs : Src H p) : TabAt K C (NF.wo H p) x z := by
  obtain ⟨_, _, _, hp⟩ := hs
  obtain ⟨dx, a, b, h1, h2, h3⟩ := h
  refine ⟨dx, a, b, ?_, NF.SqT.wo h2 hp trivial, NF.SqT.wo h3 hp trivial⟩
  rw [wo_ne fun e => by rw [e, hp] at h1; cases h1]
  exact h1
theorem Sm.put {y z : Y} (a : Sm y) (p : IsPlain y.1 y.2.1 y.2.2 z) : Put z ∧ z.1.length ≤ 4 ∧ z.2.1.length ≤ 4 ∧ z.2.2 ≤ 11 := by
  obtain ⟨a1, a2, a3, a4, a5, _⟩ := plain_size p
  obtain ⟨b1, b2⟩ := a5 a.g.r0
  have h := a.h
  have l := a.l
  have r := a.r
  exact ⟨⟨(plain_fin a.g p).1, by omega, by omega, by omega⟩, by omega, by omega, by omega⟩
theorem Sm.put0 {y : Y} (a : Sm y) : Put0 y := ⟨a.g, Nat.le_trans a.h (by decide), Nat.le_trans a.l (by decide), Int.le_trans a.r (by decide)⟩
theorem vl_ge {y : Y} (g : Good y.1 y.2.1 y.2.2) {o : Option Nat} {i : Int} (e : vl y o = some i) : 0 ≤ i := by
  cases o with
  | none => exact fin_ge g i e
  | some n =>
    by_cases h : n = 0
    · subst h
      have : (some 0 : Option Int) = some i := e
      injection this with this
      omega
    · rw [vl_pos (by omega)] at e
      exact (asc_at g).ge n i (by omega) e
theorem ne_self {a b : V} (e : a = b) : (!decide (a = b)) = false := by rw [decide_eq_true e]; rfl
/-- the law's own product -/
theorem mul_raw {y1 y2 u z : Y} (g1 : Good y1.1 y1.2.1 y1.2.2) (g2 : Good y2.1 y2.2.1 y2.2.2) (t : Tells0 y1 y2 u) (p : IsPlain u.1 u.2.1 u.2.2 z) : W z (fun o => vl y1 ((vl y2 o).map Int.toNat)) z.1.length z.2.1.length z.2.2 := by
  refine ⟨⟨u, p⟩, (plain_fin t.1 p).1, fun o => ?_, Nat.le_refl _, Nat.le_refl _, Int.le_refl _⟩
  have e := val_cmp g1 g2 t.1 (fun n hn => (t.2.1 n hn).trans (beh_cmp hn)) o
  show val_ z.1 z.2.1 z.2.2 o = _
  rw [val_plain t.1 p o]
  exact e
theorem w_counts {z : Y} {f : Option Nat → Option Int} {h l : Nat} {r : Int} (a : W z f h l r) : Counts z := by
  refine ⟨fun i hi => ?_, a.g.r0⟩
  rcases List.mem_append.mp hi with hi | hi
  · exact climbs_mem a.g.hd i hi
  · exact climbs_mem a.g.lp i hi
def spPut (K : PySem.W.Frag) : Sp := fun vs H Q _ => ∃ (H0 : Hp) (p q1 q2 : Addr) (y1 y2 : Y), vs = [.ref p, .ref q1, .ref q2] ∧ Same H0 H ∧ H0 p = none ∧ Src H p ∧ FormAt K H0 q1 y1 ∧ FormAt K H0 q2 y2 ∧ Sm y1 ∧ Sm y2 ∧
  ∀ H', Same H0 H' → Src H' p → Q (.bl true) H'
theorem sc__law_put : FnScope ["_law_source_here", "_law_first", "_law_second", "_law_told", "_law_places", "_law_place", "_law_one", "_law_other"] ["_law_source_here", "_law_first", "_law_second"] (defScope s__law_put) := ⟨rfl, rfl, rfl, by decide +kernel, rfl, by decide +kernel, by decide +kernel⟩
section
variable {P : Program} {w : World} {K : PySem.W.Frag} {mg : Str → Option Value} {base : Heap} {gs : List Str} {C : Addr}
theorem ok__law_put {f : Addr} {fd : FuncData} (F : FunD K "_law_put" "_law_put" (defArgs s__law_put) (defBody s__law_put) (defScope s__law_put) [] [] f fd) (T : Txt K mg gs FS) (tc : TabC K C) (c__law_pick : Cal P w K mg base 1 "_law_pick" spPick) (c__law_table : Cal P w K mg base 6 "_law_table" (spLTable K C)) (c__law_at : Cal P w K mg base 2 "_law_at" (spLAt K)) (c__law_end : Cal P w K mg base 1 "_law_end" (spLEnd K)) (c__law_same : Cal P w K mg base 3 "_law_same" (spSame K C)) (c__law_behind : Cal P w K mg base 3 "_law_behind" (spLBehind K)) (c__law_plain : Cal P w K mg base 1 "_law_plain" (spPlain K))
    (o_mul : OpC P w K mg base 6 C "__mul__" (spMul K C)) (o_call : CalO P w K mg base 3 C (spAt K C)) : FnOk P w K mg base CX0 7 f fd ["_law_source_here", "_law_first", "_law_second"] (spPut K) := by
  refine F.ok sc__law_put (fun vs H Q E h => ?_) (fun cdv A outer s H vs Q E hr h => ?_)
  · obtain ⟨H0, p, q1, q2, y1, y2, rfl, _⟩ := h
    rfl
  · obtain ⟨H0, p, q1, q2, y1, y2, rfl, s0, n0, hs, fo1, fo2, m1, m2, k⟩ := h
    refine ⟨_, PSs.nox (pss_cons (ps_par (i := 6) (j := 7) (by rfl) sc__law_put.nd rfl rfl (by decide) rfl rfl (pa_cons (pe_c c__law_table hr (by decide) rfl (pa_cons (pv 1) pa_nil)) (pa_cons (pe_c c__law_table hr (by decide) rfl (pa_cons (pv 2) pa_nil)) pa_nil)) (by rfl)) (pss_cons (ps_set (i := 3) sc__law_put.nd rfl (Or.inl rfl) (pe_op (op_bin o_mul hr (by decide)) (pv 6) (pv 7))) (pss_cons (ps_set (i := 4) sc__law_put.nd rfl (Or.inl rfl) (pe_op op_cat (pe_listRg (by rfl) rfl (T.fr _ (by decide +kernel)) (prg_1 rfl (T.fr _ (by decide +kernel)) pe_int)) (pe_lst (pa_cons (pe_op op_add (pe_op op_pow pe_int pe_int) (pe_c c__law_pick hr (by decide) rfl (pa_cons (pv 0) (pa_cons pe_int pa_nil)))) (pa_cons (pe_op op_add (pe_op op_pow pe_int pe_int) (pe_c c__law_pick hr (by decide) rfl (pa_cons (pv 0) (pa_cons pe_int pa_nil)))) (pa_cons pe_non pa_nil)))))) (pss_cons (ps_for PassesOwn.never rfl (pi_list (pv 4)) (pg_name (i := 5) sc__law_put.nd rfl (Or.inl rfl)) (pss_one (ps_if (PW.pt (pw_and (pt_cmpR op_ne (pe_co (pv 3) o_call hr (by decide) (pa_cons (pv 5) pa_nil)) (pe_c c__law_at hr (by decide) rfl (pa_cons (pv 1) (pa_cons (pe_c c__law_at hr (by decide) rfl (pa_cons (pv 2) (pa_cons (pv 5) pa_nil))) pa_nil))) (nomark _)) (pw_and1 (pt_cmpR op_notN (pv 5) pe_non (nomark _))))) (pss_one (ps_ret pe_bl)) pss_nil))) (pss_cons (ps_if (PW.pt (pw_or (pt_not (pt_val (pe_c c__law_same hr (by decide) rfl (pa_cons (pv 3) (pa_cons (pe_c c__law_behind hr (by decide) rfl (pa_cons (pv 1) (pa_cons (pv 2) pa_nil))) pa_nil))))) (pw_or1 (pt_cmpR op_ne (pe_co (pv 3) o_call hr (by decide) (pa_cons pe_non pa_nil)) (pe_c c__law_end hr (by decide) rfl (pa_cons (pe_c c__law_behind hr (by decide) rfl (pa_cons (pv 1) (pa_cons (pv 2) pa_nil))) pa_nil)) (nomark _))))) (pss_one (ps_ret pe_bl)) pss_nil) (pss_one (ps_ret (pe_c c__law_same hr (by decide) rfl (pa_cons (pv 6) (pa_cons (pe_c c__law_plain hr (by decide) rfl (pa_cons (pe_ix (ixt (K := K)) (pv 1) pe_int fun _ _ => rfl) (pa_cons (pe_ix (ixt (K := K)) (pv 1) pe_int fun _ _ => rfl) (pa_cons (pe_ix (ixt (K := K)) (pv 1) pe_int fun _ _ => rfl) pa_nil)))) pa_nil)))))))))), ?_⟩
    refine ⟨_, rfl, q1, y1, rfl, fo1.mono s0, m1.raw, fun x1 z1 H1 hz1 s1 tb1 => ?_⟩
    have s01 := Same.trans s0 s1
    refine ⟨_, rfl, q2, y2, rfl, fo2.mono s01, m2.raw, fun x2 z2 H2 hz2 s2 tb2 => ?_⟩
    have s02 := Same.trans s01 s2
    have tb1 := tb1.mono s2
    have hs2 := Src.mono hs (Same.trans s1 s2)
    refine ⟨_, _, rfl, ?_⟩
    obtain ⟨dx1, _, _, hx1, _, _⟩ := id tb1
    obtain ⟨dx2, _, _, hx2, _, _⟩ := id tb2
    obtain ⟨pt1, b1h, b1l, b1r⟩ := m1.put hz1
    obtain ⟨pt2, b2h, b2l, b2r⟩ := m2.put hz2
    have tg : (z1.1.length + 1) * z2.2.1.length ≤ 5000 := Nat.le_trans (Nat.mul_le_mul (show z1.1.length + 1 ≤ 5 by omega) b2l) (by decide)
    refine ⟨_, rfl, _, rfl, x1, dx1, _, x2, dx2, _, rfl, hx1, rfl, hx2, x1, x2, z1, z2, rfl, tb1, tb2, pt1, pt2, tg, fun xm um zm H4 tlm hzm s4 tbm => ?_⟩
    have s04 := Same.trans s02 s4
    have hs4 := Src.mono hs2 s4
    obtain ⟨dxm, _, _, hxm, _, _⟩ := id tbm
    have w1 := W.raw m1.g m1.h m1.l m1.r hz1
    have w2 := W.raw m2.g m2.h m2.l m2.r hz2
    have wm := w1.mul w2 tlm hzm (by decide) (Nat.le_refl _) (Nat.le_refl _) (Int.le_refl _)
    -- the places
    refine ⟨31, rfl, .of_le (by decide) (by decide) (by decide) (by decide), fun t ht => ?_⟩
    have eR : rgV 0 31 = vI ((List.range 31).map fun i : Nat => (0 : Int) + (i : Int)) := by
      unfold rgV vI
      rw [List.map_map]
      rfl
    rw [eR]
    have tp : t ≠ p := src_ne (o := .lst []) hs4 ht
    have s4t := NF.Same.new (o := .lst (vI ((List.range 31).map fun i : Nat => (0 : Int) + (i : Int)))) (Same.refl H4) ht
    have hT : (upd H4 t (.lst (vI ((List.range 31).map fun i : Nat => (0 : Int) + (i : Int))))) t = some (.lst (vI ((List.range 31).map fun i : Nat => (0 : Int) + (i : Int)))) := upd_same
    have hsT : Src (upd H4 t (.lst (vI ((List.range 31).map fun i : Nat => (0 : Int) + (i : Int))))) p := src_put hs4 tp
    generalize upd H4 t (.lst (vI ((List.range 31).map fun i : Nat => (0 : Int) + (i : Int)))) = GT at s4t hT hsT
    have s0T := Same.trans s04 s4t
    refine ⟨_, _, rfl, rfl, ⟨by decide, by decide, by decide⟩, _, rfl, wo GT p, p, 1000, rfl, wo_same', wo_none, hsT, by decide, by decide, fun d1 G1 d10 _ s5 hs5 => ?_⟩
    have s05 := wo_same s0T n0 s5
    have hT1 := s5 _ _ ((wo_ne tp).trans hT)
    refine ⟨_, _, rfl, rfl, _, _, rfl, rfl, ⟨by decide, by decide, by decide⟩, _, rfl, wo G1 p, p, 7, rfl, wo_same', wo_none, hs5, by decide, by decide, fun d2 G2 d20 _ s6 hs6 => ?_⟩
    have s06 := wo_same s05 n0 s6
    have hT2 := s6 _ _ ((wo_ne tp).trans hT1)
    refine ⟨_, _, rfl, rfl, (by show 3 ≤ sizeLine; decide), fun u hu => ?_⟩
    have hun : t ≠ u := ne_of_none hT2 hu
    refine ⟨t, u, _, [V.int ((10 : Int) ^ (9 : Int).toNat + d1), V.int ((10 : Int) ^ (24 : Int).toNat + d2), V.non], rfl, rfl, (upd_ne hun).trans hT2, upd_same, ?_, fun plc hpl => ?_⟩
    · rw [vI_len, List.length_map, List.length_range]
      exact Nat.le_trans (show 31 + 3 ≤ 34 by decide) (by decide)
    obtain ⟨pls, hpls⟩ : ∃ pls : List (Option Nat), vI ((List.range 31).map fun i : Nat => (0 : Int) + (i : Int)) ++ [V.int ((10 : Int) ^ (9 : Int).toNat + d1), V.int ((10 : Int) ^ (24 : Int).toNat + d2), V.non] = pls.map vN := by
      have b1 : (0 : Int) ≤ (10 : Int) ^ (9 : Int).toNat + d1 := Int.add_nonneg (by decide) d10
      have b2 : (0 : Int) ≤ (10 : Int) ^ (24 : Int).toNat + d2 := Int.add_nonneg (by decide) d20
      generalize (10 : Int) ^ (9 : Int).toNat + d1 = aa at b1
      generalize (10 : Int) ^ (24 : Int).toNat + d2 = bb at b2
      refine ⟨(List.range 31).map some ++ [some aa.toNat, some bb.toNat, none], ?_⟩
      rw [List.map_append]
      congr 1
      show _ = [V.int ((aa.toNat : Nat) : Int), V.int ((bb.toNat : Nat) : Int), V.non]
      rw [Int.toNat_of_nonneg b1, Int.toNat_of_nonneg b2]
    rw [hpls]
    have sn : Same G2 (upd (upd G2 u (.lst [V.int ((10 : Int) ^ (9 : Int).toNat + d1), V.int ((10 : Int) ^ (24 : Int).toNat + d2), V.non])) plc (.lst (pls.map vN))) := NF.Same.new (NF.Same.new (Same.refl G2) hu) hpl
    have hP : (upd (upd G2 u (.lst [V.int ((10 : Int) ^ (9 : Int).toNat + d1), V.int ((10 : Int) ^ (24 : Int).toNat + d2), V.non])) plc (.lst (pls.map vN))) plc = some (.lst (pls.map vN)) := upd_same
    have hsP := Src.mono hs6 sn
    -- what stands since the tables were made
    have sG : ∀ {x : Addr} {z : Y}, TabAt K C H4 x z → TabAt K C (upd (upd G2 u (.lst [V.int ((10 : Int) ^ (9 : Int).toNat + d1), V.int ((10 : Int) ^ (24 : Int).toNat + d2), V.non])) plc (.lst (pls.map vN))) x z := fun {x z} tb => by
      exact TabAt.mono (TabAt.mono (tab_wo (TabAt.mono (tab_wo (tb.mono s4t) hsT) s5) hs5) s6) sn
    have tb1G := sG (tb1.mono s4)
    have tbmG := sG tbm
    have s0G := Same.trans s06 sn
    obtain ⟨GP, hGP⟩ : ∃ GP, GP = upd (upd G2 u (.lst [V.int ((10 : Int) ^ (9 : Int).toNat + d1), V.int ((10 : Int) ^ (24 : Int).toNat + d2), V.non])) plc (.lst (pls.map vN)) := ⟨_, rfl⟩
    have hP0 := hP
    rw [← hGP] at sn hP hsP tb1G tbmG s0G
    have r0 : Same GP (upd (upd G2 u (.lst [V.int ((10 : Int) ^ (9 : Int).toNat + d1), V.int ((10 : Int) ^ (24 : Int).toNat + d2), V.non])) plc (.lst (pls.map vN))) := by
      rw [hGP]
      exact Same.refl _
    clear hGP
    have fo1G := fo1.mono s0G
    have fo2G := fo2.mono s0G
    obtain ⟨dm, _, _, hm, _, _⟩ := id tbmG
    refine ⟨_, rfl, plc, rfl, ⟨_, SqL.of hP0⟩, ?_⟩
    refine for_it (walk_list (xs := pls.map vN)) (fun i σ G => Same GP G ∧ ∃ v5, σ = [some (.ref p), some (.ref q1), some (.ref q2), some (.ref xm), some (.ref plc), v5, some (.ref x1), some (.ref x2)]) ⟨r0, none, rfl⟩ (fun i σ G _ z => SqL.of (z.1 _ _ hP)) ?_ ?_
    · rintro i x σ G G' hi ⟨sG, v5, rfl⟩ ⟨rfl, hx⟩
      rw [List.length_map] at hi
      obtain rfl : vN (pls[i]) = x := by
        rw [List.getElem?_map, List.getElem?_eq_getElem hi] at hx
        exact Option.some.inj hx
      generalize pls[i] = o
      have ev : vl zm o = vl y1 ((vl y2 o).map Int.toNat) := wm.e o
      refine ⟨_, rfl, xm, rfl, _, rfl, Or.inr ⟨dm, _, sG _ _ hm⟩, xm, zm, o, rfl, tbmG.mono sG, wm.small (by decide) (by decide) (by decide), fun G5 s7 => ?_⟩
      have sG5 := Same.trans sG s7
      refine ⟨_, rfl, _, rfl, _, rfl, q2, y2, o, rfl, fo2G.mono sG5, m2.small, ?_⟩
      have en : ∀ i, vl y2 o = some i → 0 ≤ i := fun i hi => vl_ge m2.g hi
      refine ⟨q1, y1, (vl y2 o).map Int.toNat, by rw [← vO_vN en]; rfl, fo1G.mono sG5, m1.small, ?_⟩
      refine ⟨vO_sc ev, _, rfl, iteF' (ne_self (congrArg vO ev)) ?_⟩
      exact iteF ⟨sG5, _, rfl⟩
    · rintro σ G ⟨sG, v5, rfl⟩
      have tm := tbmG.mono sG
      have t1 := tb1G.mono sG
      have f1 := fo1G.mono sG
      have f2 := fo2G.mono sG
      have hsG := Src.mono hsP sG
      have s0F := Same.trans s0G sG
      refine ⟨_, rfl, _, rfl, _, rfl, q1, q2, y1, y2, rfl, f1, f2, m1.put0, m2.put0, fun pb ub zb Gb sb tlb hzb fob => ?_⟩
      obtain rfl : zm = zb := (wm.uniq (mul_raw m1.g m2.g tlb hzb) fun _ => rfl)
      refine ⟨xm, pb, zm, rfl, tm.mono sb, fob, wm.small (by decide) (by decide) (by decide), w_counts wm, fun Gs ss => ⟨true, rfl, iteF' rfl ?_⟩⟩
      have sbs := Same.trans sb ss
      obtain ⟨dm2, _, _, hm2, _, _⟩ := id (tm.mono sbs)
      refine ⟨_, rfl, xm, rfl, Or.inr ⟨dm2, _, hm2⟩, xm, zm, none, rfl, tm.mono sbs, wm.small (by decide) (by decide) (by decide), fun Gt st => ?_⟩
      have sbt := Same.trans sbs st
      refine ⟨_, rfl, _, rfl, q1, q2, y1, y2, rfl, f1.mono sbt, f2.mono sbt, m1.put0, m2.put0, fun pc uc zc Gc sc tlc hzc foc => ?_⟩
      obtain rfl : zm = zc := (wm.uniq (mul_raw m1.g m2.g tlc hzc) fun _ => rfl)
      refine ⟨pc, zm, rfl, foc, ?_⟩
      refine ⟨vO_sc rfl, _, rfl, iteF' (ne_self rfl) ?_⟩
      have sc0 := Same.trans sbt sc
      have f1c := f1.mono sc0
      obtain ⟨ap, bp, hqp, hap, hbp⟩ := id f1c
      refine ⟨_, rfl, _, rfl, q1, _, _, _, rfl, rfl, hqp, at0, _, rfl, q1, _, _, _, rfl, rfl, hqp, at1, _, rfl, q1, _, _, _, rfl, rfl, hqp, at2, ?_⟩
      refine ⟨ap, bp, y1.1, y1.2.1, y1.2.2, rfl, hap, hbp, Nat.le_trans m1.h (by decide), Nat.le_trans m1.l (by decide), fun pp zp Gp hzp sp fop => ?_⟩
      obtain rfl : z1 = zp := (plain_one hzp hz1 fun n _ => rfl).symm
      have scp := Same.trans sc0 sp
      exact ⟨x1, pp, z1, rfl, t1.mono scp, fop, w1.small (by decide) (by decide) (by decide), w_counts w1, fun Gs ss => k _ (Same.trans s0F (Same.trans scp ss)) (Src.mono hsG (Same.trans scp ss))⟩
end
end K05
set_option Elab.async false
set_option linter.all false
set_option maxRecDepth 100000
set_option maxHeartbeats 4000000
namespace NT
def segO (F : Nat → Option Int) (s m : Nat) : List (Option Int) := (List.range m).map fun i => F (s + i + 1)
theorem segO_len {F : Nat → Option Int} {s m : Nat} : (segO F s m).length = m := by unfold segO; rw [List.length_map, List.length_range]
theorem segO_get {F : Nat → Option Int} {s m i : Nat} (h : i < m) : (segO F s m)[i]? = some (F (s + i + 1)) := by
  unfold segO
  rw [List.getElem?_map, List.getElem?_range h]
  rfl
theorem segO_add {F : Nat → Option Int} {s a b : Nat} : segO F s (a + b) = segO F s a ++ segO F (s + a) b := by
  refine List.ext_getElem? fun i => ?_
  by_cases h1 : i < a
  · rw [segO_get (by omega), List.getElem?_append_left (by rw [segO_len]; exact h1), segO_get h1]
  · rw [List.getElem?_append_right (by rw [segO_len]; omega), segO_len]
    by_cases h2 : i < a + b
    · rw [segO_get h2, segO_get (by omega), show s + a + (i - a) + 1 = s + i + 1 by omega]
    · rw [List.getElem?_eq_none (by rw [segO_len]; omega), List.getElem?_eq_none (by rw [segO_len]; omega)]
theorem segO_none {F : Nat → Option Int} {s m : Nat} (h : ∀ i, i < m → F (s + i + 1) = none) : segO F s m = List.replicate m none := by
  refine List.ext_getElem? fun i => ?_
  by_cases h1 : i < m
  · rw [segO_get h1, h i h1, List.getElem?_replicate, if_pos h1]
  · rw [List.getElem?_eq_none (by rw [segO_len]; omega), List.getElem?_eq_none (by rw [List.length_replicate]; omega)]
end NT
namespace NF
open PySem PySem.Spec PyProof.Rows L2 He RZ NT
theorem rep_non {M : Nat} : (List.replicate M [V.non]).flatten = List.replicate M V.non := by
  induction M with
  | zero => rfl
  | succ M ih => rw [List.replicate_succ, List.flatten_cons, ih, List.replicate_succ]; rfl
def vOs (xs : List (Option Int)) : List V := xs.map vO
theorem vOs_len {xs : List (Option Int)} : (vOs xs).length = xs.length := by unfold vOs; rw [List.length_map]
theorem vI_segN {F : Nat → Option Int} {s m : Nat} (h : ∀ i, i < m → F (s + i + 1) ≠ none) : vI (segN F s m) = vOs (segO F s m) := by
  unfold vI vOs segN segO
  rw [List.map_map, List.map_map]
  refine List.map_congr_left fun i hi => ?_
  have hi := List.mem_range.mp hi
  show V.int (numF F (s + i + 1)) = vO (F (s + i + 1))
  unfold numF
  cases e : F (s + i + 1) with
  | none => exact absurd e (h i hi)
  | some v => rfl
end NF
namespace K05
open PySem PySem.Spec PyProof.Rows L2 He NF RZ NT
/-- the values of any table, from a place on -/
def spFromO (K : PySem.W.Frag) (C : Addr) : Sp := fun vs H Q _ => ∃ (x : Addr) (y : List Int × List Int × Int) (s m : Nat), vs = [.ref x, .int ((s + 1 : Nat) : Int), .int (m : Int)] ∧ TabAt K C H x y ∧ 0 ≤ y.2.2 ∧ y.2.2 ≤ 1000000 ∧ y.1.length ≤ 10000 ∧ y.2.1.length ≤ 10000 ∧ s ≤ y.1.length ∧ m ≤ 10000 ∧
  ∀ q H', Same H H' → H' q = some (.lst (vOs (segO (at_ y.1 y.2.1 y.2.2) s m))) → Q (.ref q) H'
/-- .. of a table without a loop, further than its head -/
def spFromL (K : PySem.W.Frag) (C : Addr) : Sp := fun vs H Q _ => ∃ (x : Addr) (y : List Int × List Int × Int) (s m : Nat), vs = [.ref x, .int ((s + 1 : Nat) : Int), .int (m : Int)] ∧ TabAt K C H x y ∧ y.2.1 = [] ∧ (y.1.length < s + m ∧ s ≤ y.1.length) ∧ y.1.length ≤ 10000 ∧ s ≤ 10000 ∧ m ≤ 10000 ∧
  ∀ q H', Same H H' → H' q = some (.lst (vOs (segO (at_ y.1 y.2.1 y.2.2) s m))) → Q (.ref q) H'
section
variable {P : Program} {w : World} {K : PySem.W.Frag} {mg : Str → Option Value} {base : Heap} {gs fs : List Str} {C : Addr}
theorem ok_values_fromL {f : Addr} {fd : FuncData} (F : FunD K "values_from" "values_from" (defArgs s_values_from) (defBody s_values_from) (defScope s_values_from) [] [] f fd) (T : Txt K mg gs FS) (tc : TabC K C) : FnOk P w K mg base CX0 2 f fd ["table", "start", "many"] (spFromL K C) := by
  refine F.ok sc_values_from (fun vs H Q E h => ?_) (fun cdv A outer s H vs Q E hr h => ?_)
  · obtain ⟨x, y, s, m, rfl, _⟩ := h
    rfl
  · obtain ⟨x, ⟨h, l, r⟩, s0, m, rfl, ⟨dx, a, b, hx, ha, hb⟩, hn, ⟨hlm, hsl⟩, lh, ls, lm, q⟩ := h
    dsimp only at hx ha hb hlm lh hn hsl q
    subst hn
    refine ⟨_, PSs.nox (pss_cons (ps_set (i := 3) sc_values_from.nd rfl (Or.inl rfl) (pe_callTy call_list_of rfl (T.fr _ (by decide +kernel)) (by decide +kernel) (pa_cons (pe_slice sl_tupA (pe_fld (pv 0) rfl) (po_some (pe_op op_sub (pv 1) pe_int)) (po_some (pe_op op_add (pe_op op_sub (pv 1) pe_int) (pv 2)))) pa_nil))) (pss_cons (ps_set (i := 4) sc_values_from.nd rfl (Or.inl rfl) (pe_op op_sub (pv 2) (pe_callB call_len_seq rfl (T.fr _ (by decide +kernel)) boot_len (pa_cons (pv 3) pa_nil)))) (pss_cons (ps_if (pt_cmpR op_eq (pv 4) pe_int (nomark _)) (pss_one (ps_ret (pv 3))) pss_nil) (pss_cons (ps_if (pt_not (pt_truth (pe_fld (pv 0) rfl) (fun _ => rfl))) (pss_one (ps_ret (pe_op op_cat (pv 3) (pe_op op_rep (pe_lst (pa_cons pe_non pa_nil)) (pv 4))))) pss_nil) (pss_cons (ps_asg (pe_callB call_divmod rfl (T.fr _ (by decide +kernel)) (by decide +kernel) (pa_cons (pe_op op_sub (pe_op op_sub (pe_op op_add (pv 1) (pe_callB call_len_seq rfl (T.fr _ (by decide +kernel)) boot_len (pa_cons (pv 3) pa_nil))) (pe_callB call_len_seq rfl (T.fr _ (by decide +kernel)) boot_len (pa_cons (pe_fld (pv 0) rfl) pa_nil))) pe_int) (pa_cons (pe_callB call_len_seq rfl (T.fr _ (by decide +kernel)) boot_len (pa_cons (pe_fld (pv 0) rfl) pa_nil)) pa_nil))) (pgt (K := K) (n := 2) rfl rfl (pgs_cons (pg_name (i := 7) sc_values_from.nd rfl (Or.inl rfl)) (pgs_cons (pg_name (i := 8) sc_values_from.nd rfl (Or.inl rfl)) pgs_nil)))) (pss_cons (ps_set (i := 5) sc_values_from.nd rfl (Or.inl rfl) (pe_op op_add (pe_op op_fdiv (pe_op op_sub (pe_op op_add (pv 8) (pv 4)) pe_int) (pe_callB call_len_seq rfl (T.fr _ (by decide +kernel)) boot_len (pa_cons (pe_fld (pv 0) rfl) pa_nil))) pe_int)) (pss_cons (ps_setLc2 (i := 6) (own := [("k", 9), ("entry", 10)]) (vs1 := [10]) rfl sc_values_from.nd rfl rfl (sw_true rfl rfl rfl (by decide +kernel)) (pi_range2 rfl (T.fr _ (by decide +kernel)) (pa_cons (pv 7) (pa_cons (pe_op op_add (pv 7) (pv 5)) pa_nil))) (blkOk_by (N := ["table", "start", "many", "found", "rest", "laps", "turned", "lap", "at", "k", "entry"]) (sc := defScope s_values_from) (by decide +kernel)) (by decide) (fun _ _ _ _ _ => by exact (pg_name (i := 9) sc_values_from.nd rfl (Or.inl rfl))) (fun _ _ _ _ _ => by exact pts_nil) (fun _ _ _ _ _ => by exact (pi_tupK (K := K) (pe_fldK (K := K) (pv 0) rfl))) (fun _ _ _ _ _ => by exact (pg_name (i := 10) sc_values_from.nd rfl (Or.inl rfl))) (fun _ _ _ _ _ => by exact pts_nil) (fun _ _ _ _ _ => by exact (pe_op op_add (pv 10) (pe_op op_mul (pv 9) (pe_fldK (K := K) (pv 0) rfl))))) (pss_one (ps_ret (pe_op op_cat (pv 3) (pe_slice sl_list (pv 6) (po_some (pv 8)) (po_some (pe_op op_add (pv 8) (pv 4)))))))))))))), ?_⟩
    refine ⟨_, rfl, x, C, dx, _, _, rfl, hx, tc.cl, tc.hd, rfl, _, rfl, _, _, rfl, rfl, _, rfl, _, rfl, _, _, rfl, rfl, _, rfl, _, _, rfl, rfl, _, rfl, ?_⟩
    refine slA_done (K := K) ha fun p1 H1 s1 t1 => ?_
    have e1 : ((s0 + 1 : Nat) : Int) - 1 = (s0 : Int) := by omega
    have e2 : (s0 : Int) + (m : Int) = ((s0 + m : Nat) : Int) := by omega
    rw [e1, e2, cut_nm, vI_drop, vI_take, show s0 + m - s0 = m by omega] at t1
    obtain ⟨u, hu⟩ : ∃ u, u = min m (h.length - s0) := ⟨_, rfl⟩
    have ef : (h.drop s0).take m = segN (at_ h [] r) s0 u := by
      by_cases c : s0 ≤ h.length
      · rw [← seg_head (show s0 + u ≤ h.length by omega)]
        rw [List.take_eq_take_iff.mpr]
        rw [List.length_drop]
        omega
      · rw [List.drop_of_length_le (by omega), show u = 0 by omega]
        simp [segN]
    rw [ef] at t1
    refine ⟨p1, _, rfl, Or.inr t1, fun q1 hq1 => ?_⟩
    have s2 : Same H (upd H1 q1 (.lst (vI (segN (at_ h [] r) s0 u)))) := Same.trans s1 (NF.Same.new (Same.refl H1) hq1)
    have hq2 : (upd H1 q1 (.lst (vI (segN (at_ h [] r) s0 u)))) q1 = some (.lst (vI (segN (at_ h [] r) s0 u))) := upd_same
    generalize upd H1 q1 (.lst (vI (segN (at_ h [] r) s0 u))) = H2 at s2 hq2
    have hx2 := s2 _ _ hx
    have ha2 := NF.Same.tup s2 ha
    have hb2 := NF.Same.tup s2 hb
    refine ⟨_, rfl, _, rfl, q1, _, rfl, Or.inl (SqL.of hq2), ?_⟩
    rw [vI_len, segN_len]
    refine ⟨_, _, rfl, rfl, ?_⟩
    obtain ⟨rest, hrest⟩ : ∃ rest, rest = m - u := ⟨_, rfl⟩
    have erest : (m : Int) - (u : Int) = (rest : Int) := by omega
    show gName 4 (V.int ((m : Int) - (u : Int))) _ _ _
    rw [erest]
    refine ⟨_, rfl, rfl, _, rfl, ite2 (fun h1 => ?_) (fun h1 => ?_)⟩
    · refine absurd (of_decide_eq_true h1) fun z => ?_
      injection z with z
      omega
    have hs0 : h.length ≤ s0 + u := by omega
    refine ⟨_, rfl, x, C, dx, _, _, rfl, hx2, tc.cl, tc.lp, rfl, _, tru_tup hb2, ?_⟩
    rw [is_nil rfl]
    refine iteT ?_
    refine ⟨_, rfl, ?_⟩
    refine ⟨(by show 1 ≤ sizeLine; decide), fun D hD => ?_⟩
    refine ⟨_, rfl, ?_⟩
    refine ⟨D, _, _, rfl, rfl, upd_same, by omega, by omega, ?_, fun D2 hD2 => ?_⟩
    · rw [Int.toNat_natCast]
      exact Nat.le_trans (show 1 * rest ≤ 10000 by omega) (by decide)
    have s3 := NF.Same.new (o := .lst [V.non]) s2 hD
    have hq3 := (NF.Same.new (o := .lst [V.non]) (Same.refl H2) hD) _ _ hq2
    generalize upd H2 D (.lst [V.non]) = H3 at s3 hq3 hD2
    rw [Int.toNat_natCast]
    have s4 := NF.Same.new (o := .lst (List.replicate rest [V.non]).flatten) s3 hD2
    have hq4 := (NF.Same.new (o := .lst (List.replicate rest [V.non]).flatten) (Same.refl H3) hD2) _ _ hq3
    refine ⟨q1, D2, _, _, rfl, rfl, hq4, upd_same, ?_, fun q2 hq5 => ?_⟩
    · rw [vI_len, segN_len, rep_non, List.length_replicate]
      exact Nat.le_trans (show u + rest ≤ 10000 by omega) (by decide)
    · refine q q2 _ (NF.Same.new s4 hq5) ?_
      rw [upd_same, rep_non]
      congr 2
      rw [show m = u + rest by omega, segO_add, vI_segN fun i hi => ?_, segO_none (s := s0 + u) fun i hi => ?_]
      · unfold vOs
        rw [List.map_append, List.map_replicate]
        rfl
      · unfold at_
        rw [if_neg (by omega), if_pos rfl]
      · rw [at_some _ (.inl (by omega))]
        exact fun z => nomatch z
end
section
variable {P : Program} {w : World} {K : PySem.W.Frag} {mg : Str → Option Value} {base : Heap} {C : Addr}
theorem from_or {f : Addr} {fd : FuncData} {k : Nat} {ps : List Str} (F1 : FnOk P w K mg base CX0 k f fd ps (spFrom K C)) (F2 : FnOk P w K mg base CX0 k f fd ps (spFromL K C)) : FnOk P w K mg base CX0 k f fd ps (spFromO K C) := by
  have up : ∀ vs H Q E, spFromO K C vs H Q E → spFrom K C vs H Q E ∨ spFromL K C vs H Q E := by
    rintro vs H Q E ⟨x, ⟨h, l, r⟩, s, m, rfl, t, r0, r1, lh, ll, ls, lm, q⟩
    dsimp only at r0 r1 lh ll q
    by_cases e : l ≠ [] ∨ s + m ≤ h.length
    · refine .inl ⟨x, (h, l, r), s, m, rfl, t, e, r0, r1, lh, ll, Nat.le_trans ls lh, lm, fun p H' s1 e1 => q p H' s1 ?_⟩
      rw [e1, vI_segN fun i hi => ?_]
      show at_ h l r (s + i + 1) ≠ none
      rw [at_some _ (e.symm.imp (fun z => by omega) id)]
      exact fun z => nomatch z
    · have e1 : l = [] := Classical.byContradiction fun z => e (.inl z)
      exact .inr ⟨x, (h, l, r), s, m, rfl, t, e1, ⟨Nat.lt_of_not_le fun z => e (.inr z), ls⟩, lh, Nat.le_trans ls lh, lm, q⟩
  refine ⟨fun vs H Q E h => (up _ _ _ _ h).elim (F1.len _ _ _ _) (F2.len _ _ _ _), fun A outer s H args us vs Q E hr he hb hv h => ?_⟩
  rcases up _ _ _ _ h with h | h
  · exact F1.run A outer s H args us vs Q E hr he hb hv h
  · exact F2.run A outer s H args us vs Q E hr he hb hv h
theorem ok_values_fromO {gs : List Str} {f : Addr} {fd : FuncData} (F : FunD K "values_from" "values_from" (defArgs s_values_from) (defBody s_values_from) (defScope s_values_from) [] [] f fd) (T : Txt K mg gs FS) (tc : TabC K C) : FnOk P w K mg base CX0 2 f fd ["table", "start", "many"] (spFromO K C) := by
  exact from_or (ok_values_from F T tc) (ok_values_fromL F T tc)
end
end K05
set_option Elab.async false
set_option linter.all false
set_option maxRecDepth 100000
set_option maxHeartbeats 4000000
/-! list(zip(xs, ys)) of two lists: a list of new pairs. -/
namespace PySem
namespace F
theorem zip_no_len : typeLookup (.type "zip") "__len__" = pure none := am_miss_of_fast (by decide +kernel)
theorem zip_no_hint : typeLookup (.type "zip") "__length_hint__" = pure none := am_miss_of_fast (by decide +kernel)
end F
end PySem
namespace NF
open PySem PySem.Spec PyProof.Rows L2 He RZ
/-- how a zip of two lists stands whose pairs are kept, while the list at S grows -/
def LzAt (z TI TO i1 i2 a b S : Addr) (i : Nat) (h : Heap) : Prop := IsPair h TI (.ref i1) (.ref i2) ∧ h.IsListIter i1 a i ∧ h.IsListIter i2 b i ∧ (∃ oO, h.get? TO = some oO) ∧
  ((IsZip h z TI TO .none ∧ ∃ x y, IsPair h TO x y) ∨ ∃ T f oT, IsZipHeld h z TI TO T f ∧ h.get? T = some oT ∧ T ≠ z ∧ T ≠ i1 ∧ T ≠ i2 ∧ T ≠ S)
/-- the pairs made so far -/
def LzP (H : Hp) (us vs ts : List V) : Prop := ∀ i, i < ts.length → ∃ T x y, ts[i]? = some (.ref T) ∧ us[i]? = some x ∧ vs[i]? = some y ∧ H T = some (.tup [x, y])
theorem LzAt.at {z TI TO i1 i2 a b S : Addr} {i : Nat} {h h' : Heap} (q : LzAt z TI TO i1 i2 a b S i h) (nS : S ∉ [z, TI, TO, i1, i2]) (k : ∀ c o, c ≠ S → h.get? c = some o → h'.get? c = some o) : LzAt z TI TO i1 i2 a b S i h' := by
  obtain ⟨hI, h1, h2, ⟨oO, hoO⟩, hz⟩ := q
  simp only [List.mem_cons, List.not_mem_nil, or_false, not_or] at nS
  obtain ⟨n1, n2, n3, n4, n5⟩ := nS
  refine ⟨k _ _ (Ne.symm n2) hI, h1.at fun o e => k _ o (Ne.symm n4) e, h2.at fun o e => k _ o (Ne.symm n5) e, ⟨oO, k _ _ (Ne.symm n3) hoO⟩, ?_⟩
  rcases hz with ⟨hz, x, y, hO⟩ | ⟨T, f, oT, hz, hT, r1, r2, r3, r4⟩
  · exact .inl ⟨k _ _ (Ne.symm n1) hz, x, y, k _ _ (Ne.symm n3) hO⟩
  · exact .inr ⟨T, f, oT, k _ _ (Ne.symm n1) hz, k _ _ r4 hT, r1, r2, r3, r4⟩
theorem LzP.push {H : Hp} {us vs ts : List V} {T : Addr} {x y : V} (h : LzP H us vs ts) (hT : H T = none) (hx : us[ts.length]? = some x) (hy : vs[ts.length]? = some y) : LzP (upd H T (.tup [x, y])) us vs (ts ++ [.ref T]) := fun i hi => by
  rw [List.length_append, List.length_singleton] at hi
  by_cases e : i = ts.length
  · subst e
    exact ⟨T, x, y, by simp, hx, hy, upd_same⟩
  · have hi' : i < ts.length := by omega
    obtain ⟨T', x', y', e1, e2, e3, e4⟩ := h i hi'
    exact ⟨T', x', y', by rw [List.getElem?_append_left hi']; exact e1, e2, e3, by rw [upd_ne (ne_of_none e4 hT)]; exact e4⟩
section
variable {X : Cx} {pins : List (Addr × Obj)} {σ : L2.St}
theorem lz_loop {A : Around} {R : Result → Shared → Prop} {z TI TO i1 i2 a b S : Addr} {us vs : List V} {G0 : Hp} {res : Value} (hh : A.handled = none) (D : ZipApart z TI TO i1 i2 a b) (nS : S ∉ [z, TI, TO, i1, i2]) (hl : us.length = vs.length) (ha : SqL X.K G0 a us) (hb : SqL X.K G0 b vs)
    (hR : ∀ s' acc c G ts, Inv X pins σ G s' → Same G0 G → s'.heap.get? S = some (lstObj acc c) → Vals ts acc.toList → LzP G us vs ts → ts.length = us.length → FpOk X pins G S → R (.ok (.ret res)) s') :
    ∀ (k : Nat) (s : Shared) (acc : Array Value) (c : Nat) (G : Hp) (ts : List V), us.length - ts.length = k → ts.length ≤ us.length → Inv X pins σ G s → Same G0 G → LzAt z TI TO i1 i2 a b S ts.length s.heap → s.heap.get? S = some (lstObj acc c) → Vals ts acc.toList → LzP G us vs ts →
      (∀ c ∈ [z, TI, TO, i1, i2, S], FpOk X pins G c) → codeAny (model X.prog X.w) A (.builtin "list.extend.loop" ⟨[.ref S, .ref z, res], []⟩) R s := by
  have inO : ∀ c, c ∈ [z, TI, TO, i1, i2] → c ∈ [z, TI, TO, i1, i2, S] := fun c h => by
    simp only [List.mem_cons, List.not_mem_nil, or_false] at h ⊢
    rcases h with h | h | h | h | h <;> simp [h]
  intro k
  induction k with
  | zero =>
    intro s acc c G ts hk hi I sm st hS hv hP hf
    have hin : ts.length = us.length := by omega
    obtain ⟨as, ra, pa, _⟩ := I.list (L2.Same.seq sm ha)
    have la := ra.length
    refine codeAny_builtin F.entry_extend_loop ?_
    rw [Around.under_plainId F.plain_extend_loop _]
    show wpAny _ A.in1 (pyNext (.ref z) >>= _) _ _ s
    obtain ⟨bs, rb, pb, _⟩ := I.list (L2.Same.seq sm hb)
    obtain ⟨hI, h1, h2, ⟨oO, hoO⟩, hz⟩ := st
    have hend : as.toArray[ts.length]? = none ∨ bs.toArray[ts.length]? = none := .inl (by simp; omega)
    have common : ∀ h', (∀ c o, c ∉ [z, TI, TO, i1, i2] → s.heap.get? c = some o → h'.get? c = some o) → R (.ok (.ret res)) { s with heap := h' } := fun h' hk => by
      refine hR _ acc c G ts (I.turnedL (t' := s.toks) (ch := [z, TI, TO, i1, i2]) hk fun c hc => hf c (inO c hc)) sm (hk S _ nS hS) hv hP hin (hf S (by simp))
    rcases hz with ⟨hz, x, y, hO⟩ | ⟨T, f, oT, hz, hT, r1, r2, r3, r4⟩
    · refine wpAny_bind (wpAny_pyNext_zip_end hh D hz hI hO h1 h2 pa.isList pb.isList hend fun h' hk => ?_)
      exact wpAny_pure (common h' fun c o hc e => hk c o (fun x => hc (by simp [x])) (fun x => hc (by simp [x])) (fun x => hc (by simp [x])) (fun x => hc (by simp [x])) e)
    · refine wpAny_bind (wpAny_pyNext_zip_end_held hh D hz hT hI h1 h2 pa.isList pb.isList hend fun h' hk => ?_)
      exact wpAny_pure (common h' fun c o hc e => hk c o (fun x => hc (by simp [x])) (fun x => hc (by simp [x])) (fun x => hc (by simp [x])) e)
  | succ k ih =>
    intro s acc c G ts hk hi I sm st hS hv hP hf
    have lt : ts.length < us.length := by omega
    obtain ⟨as, ra, pa, zu⟩ := I.list (L2.Same.seq sm ha)
    obtain ⟨bs, rb, pb, _⟩ := I.list (L2.Same.seq sm hb)
    have la := ra.length
    have lb := rb.length
    have lv := hv.length
    have la' : acc.size = ts.length := by rw [lv, Array.length_toList]
    refine codeAny_builtin F.entry_extend_loop ?_
    rw [Around.under_plainId F.plain_extend_loop _]
    show wpAny _ A.in1 (pyNext (.ref z) >>= _) _ _ s
    have st0 := st
    obtain ⟨hI, h1, h2, ⟨oO, hoO⟩, hz⟩ := st
    obtain ⟨x, hx⟩ : ∃ x, us[ts.length]? = some x := ⟨_, List.getElem?_eq_getElem lt⟩
    obtain ⟨y, hy⟩ : ∃ y, vs[ts.length]? = some y := ⟨_, List.getElem?_eq_getElem (by omega)⟩
    obtain ⟨u1, hu1, q1⟩ := ra.get hx
    obtain ⟨u2, hu2, q2⟩ := rb.get hy
    have ex : as.toArray[ts.length]? = some u1 := by simpa using hu1
    have ey : bs.toArray[ts.length]? = some u2 := by simpa using hu2
    have lS : S < s.heap.objs.size := Heap.lt_size hS
    have nN : s.heap.objs.size ≠ S := Nat.ne_of_gt lS
    have free : G s.heap.objs.size = none := I.hok.fresh (Nat.le_refl _)
    have big : ∀ c ∈ [z, TI, TO, i1, i2, S], c < s.heap.objs.size := fun c hc => by
      simp only [List.mem_cons, List.not_mem_nil, or_false] at hc
      obtain ⟨o1, e1, _⟩ := id h1
      obtain ⟨o2, e2, _⟩ := id h2
      rcases hz with ⟨hz, x, y, hO⟩ | ⟨T, f, oT, hz, hT, r1, r2, r3, r4⟩
      · rcases hc with rfl | rfl | rfl | rfl | rfl | rfl
        · exact Heap.lt_size hz
        · exact Heap.lt_size hI
        · exact Heap.lt_size hO
        · exact Heap.lt_size e1
        · exact Heap.lt_size e2
        · exact lS
      · rcases hc with rfl | rfl | rfl | rfl | rfl | rfl
        · exact Heap.lt_size hz
        · exact Heap.lt_size hI
        · exact Heap.lt_size hoO
        · exact Heap.lt_size e1
        · exact Heap.lt_size e2
        · exact lS
    have common : ∀ h', LzAt z TI TO i1 i2 a b S (ts.length + 1) h' → IsPair h' s.heap.objs.size u1 u2 → (∀ c o, c ∉ [z, TI, TO, i1, i2] → s.heap.get? c = some o → h'.get? c = some o) →
        wpAny (model X.prog X.w) A.in1 (updateSeq S (·.push (.ref s.heap.objs.size)) >>= fun _ => again (.builtin "list.extend.loop" ⟨[.ref S, .ref z, res], []⟩))
          (fun fin s' => match fin with | .done f => R (.ok f) s' | .again c' => c'.quiet = true ∧ codeAny (model X.prog X.w) A c' R s') (fun e s' => R (.error e) s') { s with heap := h' } := fun h' st' hp hk => by
      have hS' : h'.get? S = some (lstObj acc c) := hk S _ nS hS
      refine wpAny_bind ?_
      refine wpAny_updateSeq hS' rfl (wpAny_pure ⟨plainId_quiet F.plain_extend_loop _, ?_⟩) (by rw [la']; omega) (by show (acc.push _).size ≤ sizeLine + 1; rw [Array.size_push, la']; omega)
      have up : ∀ c o, c ≠ S → h'.get? c = some o → (h'.update S (Obj.mapSeq (·.push (.ref s.heap.objs.size)))).get? c = some o := fun c o n e => (Heap.get?_update_other _ _ (Ne.symm n)).trans e
      have ob : ObjOk X.prog X.w (upd G s.heap.objs.size (.tup [x, y])) (h'.update S (Obj.mapSeq (·.push (.ref s.heap.objs.size)))) s.heap.objs.size (.tup [x, y]) :=
        ⟨(by decide : 2 ≤ sizeLine), [u1, u2], .cons q1 (.cons q2 .nil), _, up _ _ nN hp, rfl, _, rfl⟩
      have I' : Inv X pins σ (upd G s.heap.objs.size (.tup [x, y])) { s with heap := h'.update S (Obj.mapSeq (·.push (.ref s.heap.objs.size))), toks := s.toks } :=
        I.turnedNew (t' := s.toks) (ch := [z, TI, TO, i1, i2, S]) (fun c o nc e => up c o (fun q => nc (by simp [q])) (hk c o (fun q => nc (inO c q)) e)) hf (Nat.le_refl _) ob
      have lts : (ts ++ [V.ref s.heap.objs.size]).length = ts.length + 1 := by simp
      refine ih _ (acc.push (.ref s.heap.objs.size)) _ _ (ts ++ [.ref s.heap.objs.size]) (by rw [lts]; omega) (by rw [lts]; omega) I' (NF.Same.new sm free) ?_ (Heap.get?_update_self _ hS' rfl) ?_ (hP.push free hx hy) fun c hc => ?_
      · rw [lts]
        exact st'.at nS up
      · rw [Array.toList_push]
        exact hv.append (.cons rfl .nil)
      · refine ⟨?_, (hf c hc).2⟩
        rw [upd_ne (Nat.ne_of_lt (big c hc))]
        exact (hf c hc).1
    rcases hz with ⟨hz, x0, y0, hO⟩ | ⟨T, f, oT, hz, hT, r1, r2, r3, r4⟩
    · refine wpAny_bind (wpAny_pyNext_zip_item D hz hI hO h1 h2 pa.isList pb.isList ex ey fun h' a1 a2 a3 a4 a5 a6 hk => ?_)
      exact common h' ⟨hk _ _ D.TIz D.TITO D.TIi1 D.TIi2 hI, a3, a4, ⟨_, a2⟩, .inr ⟨s.heap.objs.size, false, _, a1, a5, Nat.ne_of_gt (big _ (by simp)), Nat.ne_of_gt (big _ (by simp)), Nat.ne_of_gt (big _ (by simp)), nN⟩⟩ a5
        fun c o hc e => hk c o (fun x => hc (by simp [x])) (fun x => hc (by simp [x])) (fun x => hc (by simp [x])) (fun x => hc (by simp [x])) e
    · refine wpAny_bind (wpAny_pyNext_zip_item_held D hz hT hI h1 h2 pa.isList pb.isList ex ey fun h' a1 a3 a4 a5 a6 hk => ?_)
      exact common h' ⟨hk _ _ D.TIz D.TIi1 D.TIi2 hI, a3, a4, ⟨oO, hk _ _ D.TOz D.TOi1 D.TOi2 hoO⟩, .inr ⟨T, true, oT, a1, hk _ _ r1 r2 r3 hT, r1, r2, r3, r4⟩⟩ a5
        fun c o hc e => hk c o (fun x => hc (by simp [x])) (fun x => hc (by simp [x])) (fun x => hc (by simp [x])) e
/-- list(z) of such a zip that has not begun -/
theorem call_lz {A : Around} {s : Shared} {z TI TO i1 i2 a b : Addr} {us vs : List V} {G : Hp} {Q : Value → Shared → Prop} {E : Value → Shared → Prop} (hh : A.handled = none) (D : ZipApart z TI TO i1 i2 a b) (hl : us.length = vs.length) (ha : SqL X.K G a us) (hb : SqL X.K G b vs)
    (I : Inv X pins σ G s) (hz : IsZip s.heap z TI TO .none) (hI : IsPair s.heap TI (.ref i1) (.ref i2)) (hO : ∃ x y, IsPair s.heap TO x y) (h1 : s.heap.IsListIter i1 a 0) (h2 : s.heap.IsListIter i2 b 0) (hf : ∀ c ∈ [z, TI, TO, i1, i2], FpOk X pins G c)
    (hQ : ∀ p ts G' s', Same G G' → G' p = none → LzP G' us vs ts → ts.length = us.length → Inv X pins σ (upd G' p (.lst ts)) s' → Q (.ref p) s') :
    wpAny (model X.prog X.w) A (call (.type "list") [.ref z]) Q E s := by
  obtain ⟨x0, y0, hO⟩ := hO
  have hSz : s.heap.objs.size ≠ z := Nat.ne_of_gt (Heap.lt_size hz)
  have nS : s.heap.objs.size ∉ [z, TI, TO, i1, i2] := fun hc => by
    obtain ⟨o1, e1, _⟩ := id h1
    obtain ⟨o2, e2, _⟩ := id h2
    refine absurd ?_ (Nat.lt_irrefl s.heap.objs.size)
    simp only [List.mem_cons, List.not_mem_nil, or_false] at hc
    rcases hc with q | q | q | q | q
    · exact Nat.lt_of_le_of_lt (Nat.le_of_eq q) (Heap.lt_size hz)
    · exact Nat.lt_of_le_of_lt (Nat.le_of_eq q) (Heap.lt_size hI)
    · exact Nat.lt_of_le_of_lt (Nat.le_of_eq q) (Heap.lt_size hO)
    · exact Nat.lt_of_le_of_lt (Nat.le_of_eq q) (Heap.lt_size e1)
    · exact Nat.lt_of_le_of_lt (Nat.le_of_eq q) (Heap.lt_size e2)
  refine callType_codes (Q₁ := fun obj s₁ => obj = .ref s.heap.objs.size ∧ s₁ = { s with heap := s.heap.push { cls := .type "list", data := .seq #[] } }) F.called_list (F.typeCall_list_1 _) F.entry_list_init
    (code_list_new _ ⟨rfl, rfl⟩) fun obj s₁ h₁ => ?_
  obtain ⟨rfl, rfl⟩ := h₁
  have hS : (s.heap.push { cls := .type "list", data := .seq #[] }).get? s.heap.objs.size = some { cls := .type "list", data := .seq #[] } := Heap.get?_push_size _ rfl
  refine ⟨⟨_, hS, rfl⟩, F.args_list_init_2 _ _, ?_⟩
  show wpAny _ A.in1.in1 (do let old ← Builtin.List.listItems (.ref s.heap.objs.size); Builtin.List.listUpdate (.ref s.heap.objs.size) (fun _ => #[]); letGo old.toList.reverse; Builtin.List.listExtendWith (.ref s.heap.objs.size) (.ref z) .none) _ _ _
  refine wpAny_bind ?_
  unfold Builtin.List.listItems
  refine wpAny_bind (wpAny_seqItems hS rfl (wpAny_pure ?_))
  show wpAny _ A.in1.in1 (updateSeq s.heap.objs.size (fun _ => #[]) >>= fun _ => letGo (#[] : Array Value).toList.reverse >>= fun _ => Builtin.List.listExtendWith (.ref s.heap.objs.size) (.ref z) .none) _ _ _
  refine wpAny_bind (wpAny_updateSeq hS rfl ?_)
  have hS2 := Heap.get?_update_self (Obj.mapSeq (fun _ => (#[] : Array Value))) hS rfl
  refine wpAny_bind (wpAny_letGo ?_)
  unfold Builtin.List.listExtendWith
  have up : ∀ (h : Heap) (f : Obj → Obj), (∀ b o, s.heap.get? b = some o → h.get? b = some o) → ∀ b o, s.heap.get? b = some o → (h.update s.heap.objs.size f).get? b = some o := fun h f q b o e =>
    (Heap.get?_update_other _ _ (Ne.symm (Nat.ne_of_lt (Heap.lt_size e)))).trans (q b o e)
  have k1 : ∀ b o, s.heap.get? b = some o → (s.heap.push { cls := .type "list", data := .seq #[] }).get? b = some o := fun b o e => Heap.get?_push_of_some _ e
  have k2 := up _ (Obj.mapSeq (fun _ => (#[] : Array Value))) k1
  have ty : ∀ {h : Heap}, (∀ b o, s.heap.get? b = some o → h.get? b = some o) → ({ s with heap := h } : Shared).TypeIs (.ref z) "zip" := fun {h} q => ⟨_, q _ _ hz, rfl⟩
  refine wpAny_bind (wpAny_typeOf (ty k2) ?_)
  have e1 : Builtin.List.listSameRef (.ref s.heap.objs.size) (.ref z) = false := by simp [Builtin.List.listSameRef, hSz]
  have e2 : (Value.type "zip" == Value.type "list") = false := by decide
  have e3 : (Value.type "zip" == Value.type "tuple") = false := by decide
  simp only [e1, e2, e3, Bool.or_false, Bool.false_eq_true, if_false]
  refine wpAny_bind (wpAny_pyIter_zip (s := { s with heap := _ }) (k2 _ _ hz) ?_)
  refine wpAny_bind (wpAny_holding ?_)
  unfold Builtin.List.listLengthHint
  refine wpAny_bind (wpAny_specialOf (ty k2) F.zip_no_len ?_)
  show wpAny _ A.in1.in1 (specialOf (Value.ref z) (Str.ofString "__length_hint__") >>= _) _ _ _
  refine wpAny_bind (wpAny_specialOf (ty k2) F.zip_no_hint ?_)
  refine wpAny_pure ?_
  show wpAny _ A.in1.in1 (rule "list.extend.makes-room" >>= fun _ => Builtin.List.listTouch (.ref s.heap.objs.size) >>= fun _ =>
    again (.builtin "list.extend.loop" ⟨[.ref s.heap.objs.size, .ref z, .none], []⟩)) _ _ _
  refine wpAny_bind (wpAny_rule ?_)
  refine wpAny_bind ?_
  show wpAny _ A.in1.in1 (updateSeq s.heap.objs.size (·.push .none) >>= fun _ => updateSeq s.heap.objs.size (·.pop)) _ _ _
  refine wpAny_bind (wpAny_updateSeq hS2 rfl ?_)
  have hS3 := Heap.get?_update_self (Obj.mapSeq (·.push Value.none)) hS2 rfl
  refine wpAny_updateSeq (hz := by seq_fits) hS3 rfl ?_
  have hS4 := Heap.get?_update_self (Obj.mapSeq (·.pop)) hS3 rfl
  have k4 := up _ (Obj.mapSeq (·.pop)) (up _ (Obj.mapSeq (·.push Value.none)) k2)
  refine wpAny_pure ⟨plainId_quiet F.plain_extend_loop _, ?_⟩
  have hfS : FpOk X pins G s.heap.objs.size := I.fpOk (Nat.le_refl _) (I.hok.fresh (Nat.le_refl _))
  refine lz_loop (X := X) (pins := pins) (σ := σ) (A := A.in1) (G0 := G) (us := us) (vs := vs) hh D nS hl ha hb (fun s' acc c G' ts I' sm e hv hP hlen fp => ⟨rfl, hQ _ ts G' s' sm fp.1 hP hlen ?_⟩) us.length _ #[] _ G [] (by simp) (Nat.zero_le _) (I.kept (t' := s.toks) k4) (L2.Same.refl G) ?_ hS4 .nil (fun i hi => absurd hi (Nat.not_lt_zero i)) fun c hc => ?_
  · exact ⟨k4 _ _ hI, h1.at fun o e => k4 _ o e, h2.at fun o e => k4 _ o e, ⟨_, k4 _ _ hO⟩, .inl ⟨k4 _ _ hz, _, _, k4 _ _ hO⟩⟩
  · simp only [List.mem_cons, List.not_mem_nil, or_false] at hc
    rcases hc with rfl | rfl | rfl | rfl | rfl | rfl
    · exact hf _ (by simp)
    · exact hf _ (by simp)
    · exact hf _ (by simp)
    · exact hf _ (by simp)
    · exact hf _ (by simp)
    · exact hfS
  · obtain ⟨_, _, _, zu⟩ := I.list ha
    exact I'.take (t' := s'.toks) (h' := s'.heap) (fun _ _ _ q => q) fp ⟨by rw [hlen]; exact zu, acc.toList, c, hv, by rw [e]⟩
end
/-- list(zip(e, e2)) of two lists of one length -/
def tLz (K : PySem.W.Frag) (ta : TA) : TE := fun σ H Q => ta σ H fun ws G => ∃ a b us vs, ws = [.ref a, .ref b] ∧ SqL K G a us ∧ SqL K G b vs ∧ us.length = vs.length ∧ ∀ p ts G', Same G G' → G' p = none → LzP G' us vs ts → ts.length = us.length → Q (.ref p) (upd G' p (.lst ts))
theorem pe_listZip {X : Cx} {k : Nat} {e e2 : Expr} {ta : TA} {p p2 pos pos2 : Pos} (hr : Room k X.A) (gl : Gl X "list") (nl : X.mg "list" = none) (gz : Gl X "zip") (nz : X.mg "zip" = none) (ha : PA X [e, e2] ta)
    (hs : starEach [e, e2] X.env = (false, eval e X.env) :: starEach [e2] X.env := by rfl) (hpl : (backTo pos2 (starEach [e2] X.env)).any (·.1) = false := by rfl)
    (he : starEach [.Call (.Name "zip" p2) [e, e2] [] pos2] X.env = (false, eval (.Call (.Name "zip" p2) [e, e2] [] pos2) X.env) :: starEach [] X.env := by rfl) :
    PE X (.Call (.Name "list" p) [.Call (.Name "zip" p2) [e, e2] [] pos2] [] pos) (tLz X.K ta) := by
  constructor
  intro pins s σ H Q I h
  refine wpAny_Call_Name_kw (ld_blt I gl nl boot_list ?_)
  refine PyProof.Rows.callWith_type1 ?_ he rfl
  rw [he]
  show wpAny _ _ (spliced ((false, eval (.Call (.Name "zip" p2) [e, e2] [] pos2) X.env) :: backTo pos (starEach [] X.env))) _ _ s
  refine Calls.spliced_cons ?_
  refine Call_ (ld_blt I gz nz PyProof.Rows.boot_zip (PyProof.Rows.callWith_type1 (thn (ha.run pos2 pins s σ H _ I h) ?_) hs hpl))
  rintro ws t ⟨xs, G, J, rw', a, b, us, vs, rfl, sa, sb, hl, q⟩
  obtain ⟨u1, u2, rfl, e1, e2⟩ : ∃ u1 u2, ws = [u1, u2] ∧ u1 = .ref a ∧ u2 = .ref b := by
    cases rw' with
    | cons r rr =>
      cases rr with
      | cons r' rr =>
        cases rr
        exact ⟨_, _, rfl, r, r'⟩
  subst e1 e2
  obtain ⟨as, ra, pa, _⟩ := J.list sa
  obtain ⟨bs, rb, pb, _⟩ := J.list sb
  refine call_zip_2 pa.isList pb.isList fun h' hz hI hO h1 h2 _ hk => Calls.spliced_nil ?_
  have new : ∀ c, c ∈ [t.heap.objs.size + 4, t.heap.objs.size + 2, t.heap.objs.size + 3, t.heap.objs.size, t.heap.objs.size + 1] → FpOk X pins G c := fun c hc => by
    have le : t.heap.objs.size ≤ c := by
      simp only [List.mem_cons, List.not_mem_nil, or_false] at hc
      rcases hc with rfl | rfl | rfl | rfl | rfl <;> first | exact Nat.le_refl _ | exact Nat.le_add_right _ _
    exact J.fpOk le (J.hok.fresh le)
  refine call_lz hr.hd (PySem.W.ktu_apart t.heap.objs.size a b pa.lt pb.lt) hl sa sb (J.kept (t' := t.toks) hk) hz hI ⟨_, _, hO⟩ h1 h2 new fun S ts G' s' sm n hP hlen I' => ?_
  exact ⟨.ref S, _, I', rfl, q S ts G' sm n hP hlen⟩
end NF
set_option Elab.async false
set_option linter.all false
set_option maxRecDepth 100000
set_option maxHeartbeats 4000000
/-! enumerate(xs, start=k) of a list. -/
namespace NF
open PySem PySem.Spec PyProof.Rows L2 He RZ
section
variable {M : Model} {A : Around} {E : Value → Shared → Prop} {s : Shared} {env : Env}
theorem callWith_typeK {pos : Pos} {T : String} {first : List Value} {args : List (Bool × Sem Value)} {keywords : List (Option Str × Sem Value)} {Q : Value → Shared → Prop}
    (hplain : args.any (·.1) = false) (hkw : keywords.any (·.1.isNone) = false)
    (h : wpAny M A (evalArgs (.type T) true args keywords) (fun a s₁ => wpAny M A (call (.type T) (first ++ a.pos) a.kw) Q E s₁) E s) :
    wpAny M A (callWith pos (.type T) first args keywords) Q E s := by
  unfold callWith
  refine wpAny_bind (wpAny_holding (wpAny_mono h (fun a s₁ h₁ => wpAny_bind (wpAny_standAt ?_)) fun _ _ x => x))
  simp only [hplain, hkw, Bool.or_false]
  refine wpAny_bind (wpAny_pure ?_)
  exact wpAny_bind (wpAny_mono h₁ (fun r s₂ hr => wpAny_bind (wpAny_holding (wpAny_point (wpAny_pure hr)))) fun _ _ x => x)
theorem callWith_kwT {pos : Pos} {T : String} {e : Expr} {rest : List Expr} {kws : List Keyword} {Q : Value → Shared → Prop}
    (h : wpAny M A (spliced (backTo pos (starEach (e :: rest) env))) (fun vs s₁ => wpAny M A (evalAll ((backToKw pos (keywordEach kws env)).map (·.2)))
      (fun kvs s₂ => wpAny M A (call (.type T) vs (((backToKw pos (keywordEach kws env)).filterMap (·.1)).zip kvs)) Q E s₂) E s₁) E s)
    (he : backTo pos (starEach (e :: rest) env) = (false, eval e env) :: backTo pos (starEach rest env) := by rfl)
    (hplain : (backTo pos (starEach (e :: rest) env)).any (·.1) = false := by rfl)
    (hall : (backToKw pos (keywordEach kws env)).all (·.1.isSome) = true := by rfl)
    (hkw : (backToKw pos (keywordEach kws env)).any (·.1.isNone) = false := by rfl) :
    wpAny M A (callWith pos (.type T) [] (backTo pos (starEach (e :: rest) env)) (backToKw pos (keywordEach kws env))) Q E s := by
  refine callWith_typeK hplain hkw ?_
  rw [he] at h ⊢
  exact evalArgs_kwB hall h
end
/-- the list at a as it stands at each turn, each item in a new pair behind its number, from k on -/
def Its (K : PySem.W.Frag) (k : Int) (a : Addr) : It :=
  ⟨fun i H => ∃ (xs : List V) (x : V), SqL K H a xs ∧ xs[i]? = some x, fun i H v H' => ∃ T x, v = .ref T ∧ H T = none ∧ H' = upd H T (.tup [.int (k + (i : Nat)), x]) ∧ ∀ xs, SqL K H a xs → xs[i]? = some x, fun i H => ∃ xs : List V, SqL K H a xs ∧ xs.length = i⟩
theorem turn_enumS {P : Program} {w : World} {K : PySem.W.Frag} {elts : List Expr} {kk : Nat} {tpos : Pos} {k : Int} (a e it : Addr) (hne : e ≠ it) (hae : e ≠ a) (hai : a ≠ it) :
    Turn P w K (.Tuple elts kk tpos) (Its K k a) [e, it] e (fun i h => (∃ old, IsEnum h e it (k + (i : Nat)) old) ∧ h.IsListIter it a i) where
  mem := by simp
  obj := fun i h st b hb => by
    obtain ⟨⟨old, he⟩, ⟨o, ho, hc, hd⟩⟩ := st
    have e' : b = e ∨ b = it := by simpa using hb
    rcases e' with z | z
    · rw [z]; exact ⟨_, he, fun v q => nomatch q⟩
    · rw [z]; exact ⟨o, ho, fun v q => by rw [hd] at q; cases q⟩
  keep := fun i h h' st k => let ⟨⟨old, he⟩, hi⟩ := st; ⟨⟨old, k e (by simp) _ he⟩, hi.at fun o q => k it (by simp) o q⟩
  item := by
    intro X hP hw hK hc i pins s σ H E I hf st hg
    subst hP hw hK
    obtain ⟨⟨old, he⟩, hit⟩ := st
    obtain ⟨xs, x, hq, hx⟩ := hg
    obtain ⟨its, rv, p, hz⟩ := I.list hq
    obtain ⟨u, hu, ru⟩ := rv.get hx
    have hel : e < s.heap.objs.size := Heap.lt_size he
    have hil : it < s.heap.objs.size := by obtain ⟨_, q, _⟩ := hit; exact Heap.lt_size q
    have li : i < its.toArray.size := by
      have := (List.getElem?_eq_some_iff.mp hu).1
      simpa using this
    have hd : X.A.in1.handled = none := I.ok.hd hc
    refine wpAny_pyNext_enum_itemC (i := i) (Draws.list hd it a hai its.toArray) he ⟨hit, p.isList⟩ li hne (by simp [hne, hae]) fun x' h' tk hP ho st2 hT hsz hk => ?_
    obtain rfl : u = x' := by
      have : its[i]? = some x' := by simpa using hP
      exact Option.some.inj (hu.symm.trans this)
    refine ⟨_, rfl, wpAny_letOwnedTupleGo_enum (s := { s with heap := h', toks := tk + 1 }) ho fun h'' he' sb => ?_⟩
    have hT2 : h''.get? s.heap.objs.size = some { cls := .type "tuple", data := .seq #[.int (k + (i : Nat)) tk, u] } := (sb.2 _ (Nat.ne_of_gt hel)).trans hT
    have new : ObjOk X.prog X.w (upd H s.heap.objs.size (.tup [.int (k + (i : Nat)), x])) h'' s.heap.objs.size (.tup [.int (k + (i : Nat)), x]) :=
      ⟨by show 2 ≤ sizeLine; decide, [.int (k + (i : Nat)) tk, u], .cons ⟨_, rfl⟩ (.cons ru .nil), ⟨_, hT2, rfl, _, rfl⟩⟩
    have I1 : Inv X pins σ (upd H s.heap.objs.size (.tup [.int (k + (i : Nat)), x])) { s with heap := h'', toks := tk + 1 } :=
      I.turnedNew (ch := [e, it]) (fun b ob hb q => (sb.2 b (fun z => hb (by simp [z]))).trans (hk b ob (fun z => hb (by simp [z])) (fun z => hb (by simp [z])) q)) hf (Nat.le_refl _) new
    refine ⟨.ref s.heap.objs.size, _, I1, rfl, ⟨_, x, rfl, I.hok.fresh (Nat.le_refl _), rfl, fun ys hy => by rw [I.list_inj hy hq]; exact hx⟩, ⟨⟨u, ?_⟩, st2.1.at fun o q => (sb.2 it (Ne.symm hne)).trans q⟩, fun b hb => ?_⟩
    · have e1 : k + ((i + 1 : Nat) : Int) = k + (i : Int) + 1 := by omega
      rw [e1]; exact he'
    · have hb' : b < s.heap.objs.size := by
        have e' : b = e ∨ b = it := by simpa using hb
        rcases e' with z | z
        · rw [z]; exact hel
        · rw [z]; exact hil
      rw [upd_ne (Nat.ne_of_lt hb')]
      exact (hf b hb).1
  done := by
    intro X hP hw hK hc i pins s σ H E I hf st hg
    subst hP hw hK
    obtain ⟨⟨old, he⟩, hit⟩ := st
    obtain ⟨xs, hq, hx⟩ := hg
    obtain ⟨its, rv, p, hz⟩ := I.list hq
    obtain ⟨f0, f1, f2, f3, f4, f5⟩ := hf it (by simp)
    have hl := rv.length
    have hd : X.A.in1.handled = none := I.ok.hd hc
    have en : its.toArray.size = i := by simp; omega
    subst en
    exact wpAny_pyNext_enum_endD (Draws.list hd it a hai its.toArray) he ⟨hit, p.isList⟩ fun h' eb => ⟨rfl, I.turned (t' := s.toks) (fun b o hb q => eb b o hb q) f0 f1 f3 f4 f5⟩
  self := fun A i s Q E st h => let ⟨⟨_, he⟩, _⟩ := st; wpAny_pyIter_enum he h
def iEnumS (K : PySem.W.Frag) (ta tk : TA) : TI := fun σ H R => ta σ H fun vs H1 => tk σ H1 fun zs H2 => ∃ a xs k, vs = [.ref a] ∧ zs = [.int k] ∧ 0 ≤ k ∧ k < 1000000 ∧ SqL K H2 a xs ∧ R (Its K k a) H2
theorem pi_enumS {X : Cx} {e : Expr} {ta tk : TA} {p pos tpos : Pos} {elts : List Expr} {kk : Nat} {kws : List Keyword} (hg : Gl X "enumerate") (hm : X.mg "enumerate" = none) (ha : PA X [e] ta) (hk : PK X kws tk)
    (he : backTo pos (starEach [e] X.env) = (false, eval e X.env) :: backTo pos (starEach [] X.env) := by rfl) (hpl : (backTo pos (starEach [e] X.env)).any (·.1) = false := by rfl)
    (hall : (backToKw pos (keywordEach kws X.env)).all (·.1.isSome) = true := by rfl) (hnone : (backToKw pos (keywordEach kws X.env)).any (·.1.isNone) = false := by rfl) (hks : (backToKw pos (keywordEach kws X.env)).filterMap (·.1) = [Str.ofString "start"] := by rfl) :
    PI X (.Tuple elts kk tpos) (.Call (.Name "enumerate" p) [e] kws pos) (iEnumS X.K ta tk) := by
  refine ⟨fun pins s σ H R I h => ?_⟩
  refine wpAny_Call_Name_kw (ld_blt I hg hm boot_enumerate ?_)
  refine callWith_kwT (thn (ha.run pos pins s σ H _ I h) fun us s1 ⟨vs, H1, I1, r1, q1⟩ => thn (hk.run pos pins s1 σ H1 _ I1 q1) fun ws s2 ⟨zs, H2, I2, r2, a, xs, k, ex, ez, k0, k1, hq, q⟩ => ?_) he hpl hall hnone
  rw [hks]
  subst ex ez
  obtain rfl := Vals.ref1 r1
  obtain ⟨w1, rfl, t, rfl⟩ : ∃ w1, ws = [w1] ∧ ∃ t, w1 = Value.int k t := by
    cases r2 with
    | cons r rr =>
      cases rr
      obtain ⟨t, e⟩ := r
      exact ⟨_, rfl, t, e⟩
  obtain ⟨its, rv, p', hz⟩ := I2.list hq
  show wpAny _ _ (call (.type "enumerate") [.ref a] [(Str.ofString "start", .int k t)]) _ _ s2
  refine enum_begins_start (begins_list a its.toArray) p'.isList (by omega) (by omega) fun h' he' hit hsz hkp => wpAny_pyIter_enum he' ?_
  have I3 : Inv X pins σ H2 { s2 with heap := h' } := I2.kept (t' := s2.toks) hkp
  have la : a < s2.heap.objs.size := p'.lt
  refine ⟨s2.heap.objs.size + 1, [s2.heap.objs.size + 1, s2.heap.objs.size], _, _, H2, rfl, I3, turn_enumS (k := k) a (s2.heap.objs.size + 1) s2.heap.objs.size (Nat.succ_ne_self _) (Nat.ne_of_gt (Nat.lt_succ_of_lt la)) (Nat.ne_of_lt la), ⟨⟨.none, by rw [Int.ofNat_zero, Int.add_zero]; exact he'⟩, ⟨_, hit, rfl, rfl⟩⟩, fun b hb => ?_, q⟩
  have e' : b = s2.heap.objs.size + 1 ∨ b = s2.heap.objs.size := by simpa using hb
  have hle : s2.heap.objs.size ≤ b := by
    rcases e' with z | z
    · rw [z]; exact Nat.le_add_right _ _
    · rw [z]; exact Nat.le_refl _
  exact I2.fpOk hle (I2.hok.fresh hle)
theorem walk_enumS {K : PySem.W.Frag} {k : Int} {a : Addr} {xs : List V} : Walk (Its K k a) xs.length (fun H => SqL K H a xs) (YPair (fun i => some (.int (k + (i : Nat)))) (fun i => xs[i]?)) := by
  refine ⟨fun i _ hi q => ⟨xs, xs[i], q, by simp [hi]⟩, fun _ q => ⟨xs, q, rfl⟩, fun i H v H' _ q y => ?_⟩
  obtain ⟨T, x, h1, h2, h3, h4⟩ := y
  exact ⟨T, .int (k + (i : Nat)), x, h1, h2, h3, rfl, h4 xs q⟩
end NF
set_option Elab.async false
set_option linter.all false
set_option maxRecDepth 100000
set_option maxHeartbeats 4000000
namespace NT
/-- the least one from 1 on, up to a bound -/
def LeastTo (P : Nat → Prop) (N : Nat) : Option Nat → Prop
  | none => ∀ n, 1 ≤ n → n ≤ N → ¬ P n
  | some n => 1 ≤ n ∧ n ≤ N ∧ P n ∧ ∀ m, 1 ≤ m → m < n → ¬ P m
/-- .. of all -/
def Least1 (P : Nat → Prop) : Option Nat → Prop
  | none => ∀ n, 1 ≤ n → ¬ P n
  | some n => 1 ≤ n ∧ P n ∧ ∀ m, 1 ≤ m → m < n → ¬ P m
theorem LeastTo.all {P : Nat → Prop} {N : Nat} {o : Option Nat} (h : LeastTo P N o) (q : ∀ n, N < n → ¬ P n) : Least1 P o := by
  cases o with
  | none => exact fun n h1 => if c : n ≤ N then h n h1 c else q n (by omega)
  | some n => exact ⟨h.1, h.2.2.1, h.2.2.2⟩
/-- the first value is greater than the second one and k, or never -/
def Exc (F G : Nat → Option Int) (k : Int) (n : Nat) : Prop := ∃ b, G n = some b ∧ match F n with
  | none => True
  | some a => b + k < a
theorem exc_none {F G : Nat → Option Int} {k b : Int} {n : Nat} (hG : G n = some b) (hF : F n = none) : Exc F G k n := ⟨b, hG, by rw [hF]; trivial⟩
theorem exc_some {F G : Nat → Option Int} {k a b : Int} {n : Nat} (hG : G n = some b) (hF : F n = some a) : Exc F G k n ↔ b + k < a := by
  constructor
  · rintro ⟨b', e, h⟩
    rw [hG] at e
    obtain rfl := Option.some.inj e
    rw [hF] at h
    exact h
  · intro h
    exact ⟨b, hG, by rw [hF]; exact h⟩
theorem exc_never {F G : Nat → Option Int} {k : Int} {n : Nat} (hG : G n = none) : ¬ Exc F G k n := by
  rintro ⟨b, e, _⟩
  rw [hG] at e
  cases e
end NT
namespace K05
open PySem PySem.Spec PyProof.Rows L2 He NF RZ NT
def spExcIn (K : PySem.W.Frag) (C : Addr) : Sp := fun vs H Q _ => ∃ (x1 x2 : Addr) (y1 y2 : List Int × List Int × Int) (lead : Nat) (k : Int), vs = [.ref x1, .ref x2, .int (lead : Int), .int k] ∧ TabAt K C H x1 y1 ∧ TabAt K C H x2 y2 ∧ 0 ≤ y1.2.2 ∧ y1.2.2 ≤ 1000000 ∧ y1.1.length ≤ 10000 ∧ y1.2.1.length ≤ 10000 ∧ 0 ≤ y2.2.2 ∧ y2.2.2 ≤ 1000000 ∧ y2.1.length ≤ 10000 ∧ y2.2.1.length ≤ 10000 ∧ lead ≤ 10000 ∧
  (y2.2.1 = [] → lead ≤ y2.1.length) ∧ ∀ o H', LeastTo (Exc (at_ y1.1 y1.2.1 y1.2.2) (at_ y2.1 y2.2.1 y2.2.2) k) lead o → Same H H' → Q (vN o) H'
theorem sc_first_excess_in : FnScope ["first", "second", "lead", "k", "pairs", "n", "one", "other"] ["first", "second", "lead", "k"] (defScope s_first_excess_in) := ⟨rfl, rfl, rfl, by decide +kernel, rfl, by decide +kernel, by decide +kernel⟩
section
variable {P : Program} {w : World} {K : PySem.W.Frag} {mg : Str → Option Value} {base : Heap} {gs fs : List Str} {C : Addr}
theorem ok_first_excess_in {f : Addr} {fd : FuncData} (F : FunD K "first_excess_in" "first_excess_in" (defArgs s_first_excess_in) (defBody s_first_excess_in) (defScope s_first_excess_in) [] [] f fd) (T : Txt K mg gs FS) (c_values_from : Cal P w K mg base 2 "values_from" (spFromO K C)) : FnOk P w K mg base CX0 3 f fd ["first", "second", "lead", "k"] (spExcIn K C) := by
  refine F.ok sc_first_excess_in (fun vs H Q E h => ?_) (fun cdv A outer s H vs Q E hr h => ?_)
  · obtain ⟨x1, x2, y1, y2, lead, k, rfl, _⟩ := h
    rfl
  · obtain ⟨x1, x2, y1, y2, lead, k, rfl, tb1, tb2, r10, r11, h1, l1, r20, r21, h2, l2, hlead, hy2, q⟩ := h
    refine ⟨_, PSs.nox (pss_cons (ps_set (i := 4) sc_first_excess_in.nd rfl (Or.inl rfl) (pe_listZip hr rfl (T.fr _ (by decide +kernel)) rfl (T.fr _ (by decide +kernel)) (pa_cons (pe_c c_values_from hr (by decide) rfl (pa_cons (pv 0) (pa_cons pe_int (pa_cons (pv 2) pa_nil)))) (pa_cons (pe_c c_values_from hr (by decide) rfl (pa_cons (pv 1) (pa_cons pe_int (pa_cons (pv 2) pa_nil)))) pa_nil)))) (pss_cons (ps_for PassesOwn.never rfl (pi_enumS rfl (T.fr _ (by decide +kernel)) (pa_cons (pv 4) pa_nil) (pk_cons pe_int pk_nil)) (pgt (K := K) (n := 2) rfl rfl (pgs_cons (pg_name (i := 5) sc_first_excess_in.nd rfl (Or.inl rfl)) (pgs_cons (pgt (K := K) (n := 2) rfl rfl (pgs_cons (pg_name (i := 6) sc_first_excess_in.nd rfl (Or.inl rfl)) (pgs_cons (pg_name (i := 7) sc_first_excess_in.nd rfl (Or.inl rfl)) pgs_nil))) pgs_nil))) (pss_one (ps_if (PW.pt (pw_or (pt_cmpR op_isN (pv 6) pe_non (nomark _)) (pw_or1 (pt_cmpR op_gt (pv 6) (pe_op op_add (pv 7) (pv 3)) (nomark _))))) (pss_one (ps_ret (pv 5))) pss_nil))) (pss_one (ps_ret pe_non)))), ?_⟩
    refine ⟨_, rfl, _, rfl, x1, y1, 0, lead, rfl, tb1, r10, r11, h1, l1, Nat.zero_le _, hlead, fun qa H1 s1 ea => ?_⟩
    refine ⟨_, rfl, _, rfl, x2, y2, 0, lead, rfl, tb2.mono s1, r20, r21, h2, l2, Nat.zero_le _, hlead, fun qb H2 s2 eb => ?_⟩
    refine ⟨qa, qb, _, _, rfl, SqL.of (s2 _ _ ea), SqL.of eb, ?_, fun p ts G sG np hP hlen => ?_⟩
    · rw [vOs_len, vOs_len, segO_len, segO_len]
    rw [vOs_len, segO_len] at hlen
    have s3 : Same H (upd G p (.lst ts)) := Same.trans s1 (Same.trans s2 (NF.Same.new sG np))
    have s4 : Same G (upd G p (.lst ts)) := NF.Same.new (Same.refl G) np
    have hp : SqL K (upd G p (.lst ts)) p ts := SqL.of upd_same
    generalize upd G p (.lst ts) = G0 at s3 s4 hp
    refine ⟨_, rfl, p, ts, 1, rfl, rfl, by decide, by decide, hp, ?_⟩
    refine for_it (walk_enumS (xs := ts)) (fun i σ G' => Same G0 G' ∧ (∀ n, 1 ≤ n → n ≤ i → ¬ Exc (at_ y1.1 y1.2.1 y1.2.2) (at_ y2.1 y2.2.1 y2.2.2) k n) ∧ ∃ v5 v6 v7, σ = [some (.ref x1), some (.ref x2), some (.int (lead : Int)), some (.int k), some (.ref p), v5, v6, v7])
      ⟨Same.refl G0, fun n a b => by omega, none, none, none, rfl⟩ (fun i σ G _ z => L2.Same.seq z.1 hp) ?_ ?_
    · rintro i y σ G1 G2 hi ⟨sG1, no, v5, v6, v7, rfl⟩ ⟨U, a1, b1, rfl, hU, rfl, ha1, hb1⟩
      obtain rfl : V.int ((i + 1 : Nat) : Int) = a1 := by
        rw [← Option.some.inj ha1]
        congr 1
        omega
      rw [hlen] at hi
      obtain ⟨t, u1, u2, e1, e2, e3, e4⟩ := hP i (by omega)
      obtain rfl : b1 = .ref t := Option.some.inj (hb1.symm.trans e1)
      unfold vOs at e2 e3
      rw [List.getElem?_map, segO_get hi] at e2 e3
      have e2 : vO (at_ y1.1 y1.2.1 y1.2.2 (0 + i + 1)) = u1 := Option.some.inj e2
      have e3 : vO (at_ y2.1 y2.2.1 y2.2.2 (0 + i + 1)) = u2 := Option.some.inj e3
      rw [show 0 + i + 1 = i + 1 by omega] at e2 e3
      obtain ⟨b, hb⟩ : ∃ b, at_ y2.1 y2.2.1 y2.2.2 (i + 1) = some b := ⟨_, at_some _ (by
        by_cases e : y2.2.1 = []
        · exact .inl (by have := hy2 e; omega)
        · exact .inr e)⟩
      rw [hb] at e3
      obtain rfl : V.int b = u2 := e3
      have ht := SqT.of (K := K) e4
      have s5 := NF.Same.new (o := .tup [V.int ((i + 1 : Nat) : Int), V.ref t]) (Same.trans s4 sG1) hU
      have s6 := NF.Same.new (o := .tup [V.int ((i + 1 : Nat) : Int), V.ref t]) sG1 hU
      have go : Exc (at_ y1.1 y1.2.1 y1.2.2) (at_ y2.1 y2.2.1 y2.2.2) k (i + 1) → Q (.int ((i + 1 : Nat) : Int)) (upd G1 U (.tup [V.int ((i + 1 : Nat) : Int), V.ref t])) := fun hc =>
        q (some (i + 1)) _ ⟨by omega, by omega, hc, fun m h1 h2 => no m h1 (by omega)⟩ (Same.trans s3 s6)
      refine ⟨U, _, rfl, SqT.of upd_same, rfl, _, _, rfl, ?_⟩
      refine ⟨_, _, rfl, ?_⟩
      refine ⟨t, _, rfl, NF.Same.tup s5 ht, rfl, _, _, rfl, ?_⟩
      refine ⟨_, _, rfl, ?_⟩
      refine ⟨rfl, ?_⟩
      refine ⟨rfl, ?_⟩
      cases ha : at_ y1.1 y1.2.1 y1.2.2 (i + 1) with
      | none =>
        rw [ha] at e2
        obtain rfl : V.non = u1 := e2
        refine ⟨_, rfl, rfl, ?_⟩
        exact ⟨_, rfl, iteT' rfl (iteT' rfl ⟨_, rfl, go (exc_none hb ha)⟩)⟩
      | some a =>
        rw [ha] at e2
        obtain rfl : V.int a = u1 := e2
        refine ⟨_, rfl, rfl, _, rfl, iteF' rfl ?_⟩
        refine ⟨_, rfl, _, rfl, _, rfl, _, _, rfl, rfl, _, _, rfl, rfl, _, rfl, ite2 (fun c => ?_) (fun c => ?_)⟩
        · exact ⟨_, rfl, go ((exc_some hb ha).mpr (of_decide_eq_true c))⟩
        · refine ⟨s6, fun n n1 n2 => ?_, _, _, _, rfl⟩
          by_cases e : n = i + 1
          · subst e
            exact fun z => c (decide_eq_true ((exc_some hb ha).mp z))
          · exact no n n1 (by omega)
    · rintro σ G ⟨sG1, no, v5, v6, v7, rfl⟩
      rw [hlen] at no
      exact q none G no (Same.trans s3 sG1)
end
end K05
set_option Elab.async false
set_option linter.all false
set_option maxRecDepth 100000
set_option maxHeartbeats 4000000
namespace K05
open PySem PySem.Spec PyProof.Rows L2 He NF RZ NT
/-- the least place at which the first table is more than k greater -/
def spExc (K : PySem.W.Frag) (C : Addr) : Sp := fun vs H Q _ => ∃ (x1 x2 : Addr) (y1 y2 : Y) (k : Int), vs = [.ref x1, .ref x2, .int k] ∧ TabAt K C H x1 y1 ∧ TabAt K C H x2 y2 ∧ Fit y1 ∧ Fit y2 ∧ y1.1.length ≤ 9000 ∧
  ∀ o H', Least1 (Exc (atY y1) (atY y2) k) o → Same H H' → Q (vN o) H'
theorem sc_first_excess : FnScope ["first", "second", "k", "lead", "found"] ["first", "second", "k"] (defScope s_first_excess) := ⟨rfl, rfl, rfl, by decide +kernel, rfl, by decide +kernel, by decide +kernel⟩
section
variable {P : Program} {w : World} {K : PySem.W.Frag} {mg : Str → Option Value} {base : Heap} {gs fs : List Str} {C CC : Addr}
theorem ok_first_excess {f : Addr} {fd : FuncData} (F : FunD K "first_excess" "first_excess" (defArgs s_first_excess) (defBody s_first_excess) (defScope s_first_excess) [] [] f fd) (T : Txt K mg gs FS) (tc : TabC K C) (c_first_excess_in : Cal P w K mg base 3 "first_excess_in" (spExcIn K C)) (c_longest_head : Cal P w K mg base 1 "longest_head" (spLongest K C)) (m_Chase : Mak P w K mg base 3 0 "Chase" CC (spChase K C CC) []) (o_first_lead : MetC P w K mg base 2 CC "first_lead" (spFirst K CC)) : FnOk P w K mg base CX0 5 f fd ["first", "second", "k"] (spExc K C) := by
  refine F.ok sc_first_excess (fun vs H Q E h => ?_) (fun cdv A outer s H vs Q E hr h => ?_)
  · obtain ⟨x1, x2, y1, y2, k, rfl, _⟩ := h
    rfl
  · obtain ⟨x1, x2, y1, y2, k, rfl, tb1, tb2, f1, f2, h9, q⟩ := h
    have l1 := f1.l
    have l2 := f2.l
    have k1 := f1.h
    have k2 := f2.h
    have r1 := f1.r
    have r2 := f2.r
    have r10 := f1.g.r0
    have r20 := f2.g.r0
    obtain ⟨dx1, a1, b1, hx1, ha1, hb1⟩ := id tb1
    obtain ⟨dx2, a2, b2, hx2, ha2, hb2⟩ := id tb2
    have never : ∀ (y : Y) n, y.2.1 = [] → y.1.length < n → atY y n = none := fun y n e h => by
      show at_ _ _ _ _ = _
      unfold at_
      rw [if_neg (by omega), if_pos e]
    refine ⟨_, PSs.nox (pss_cons (ps_if (pt_not (pt_truth (pe_fld (pv 1) rfl) (fun _ => rfl))) (pss_one (ps_ret (pe_c c_first_excess_in hr (by decide) rfl (pa_cons (pv 0) (pa_cons (pv 1) (pa_cons (pe_callB call_len_seq rfl (T.fr _ (by decide +kernel)) boot_len (pa_cons (pe_fld (pv 1) rfl) pa_nil)) (pa_cons (pv 2) pa_nil))))))) pss_nil) (pss_cons (ps_if (pt_not (pt_truth (pe_fld (pv 0) rfl) (fun _ => rfl))) (pss_one (ps_ret (pe_c c_first_excess_in hr (by decide) rfl (pa_cons (pv 0) (pa_cons (pv 1) (pa_cons (pe_op op_add (pe_callB call_len_seq rfl (T.fr _ (by decide +kernel)) boot_len (pa_cons (pe_fld (pv 0) rfl) pa_nil)) pe_int) (pa_cons (pv 2) pa_nil))))))) pss_nil) (pss_cons (ps_set (i := 3) sc_first_excess.nd rfl (Or.inl rfl) (pe_c c_longest_head hr (by decide) rfl (pa_cons (pv 0) (pa_cons (pv 1) pa_nil)))) (pss_cons (ps_set (i := 4) sc_first_excess.nd rfl (Or.inl rfl) (pe_c c_first_excess_in hr (by decide) rfl (pa_cons (pv 0) (pa_cons (pv 1) (pa_cons (pv 3) (pa_cons (pv 2) pa_nil)))))) (pss_cons (ps_if (pt_cmpR op_isN (pv 4) pe_non (nomark _)) (pss_one (ps_set (i := 4) sc_first_excess.nd rfl (Or.inl rfl) (pe_mt (pe_mk m_Chase hr (by decide) rfl (pa_cons (pv 0) (pa_cons (pv 1) (pa_cons (pv 3) pa_nil)))) o_first_lead hr (by decide) (pa_cons (pv 2) pa_nil)))) pss_nil) (pss_one (ps_ret (pv 4)))))))), ?_⟩
    refine ⟨_, rfl, x2, C, dx2, _, _, rfl, hx2, tc.cl, tc.lp, rfl, _, tru_tup hb2, ?_⟩
    by_cases e2 : y2.2.1 = []
    · rw [is_nil e2]
      refine iteT ⟨_, rfl, _, rfl, _, rfl, x2, C, dx2, _, _, rfl, hx2, tc.cl, tc.hd, rfl, a2, _, rfl, Or.inr ha2, _, rfl, ?_⟩
      rw [vI_len]
      refine ⟨x1, x2, y1, y2, y2.1.length, k, rfl, tb1, tb2, r10, by omega, k1, by omega, r20, by omega, k2, by omega, k2, fun _ => Nat.le_refl _, fun o H' ho s1 => q o H' (ho.all fun n hn => exc_never (never y2 n e2 hn)) s1⟩
    rw [ne_nil e2]
    refine iteF ?_
    refine ⟨_, rfl, x1, C, dx1, _, _, rfl, hx1, tc.cl, tc.lp, rfl, _, tru_tup hb1, ?_⟩
    by_cases e1 : y1.2.1 = []
    · rw [is_nil e1]
      refine iteT ⟨_, rfl, _, rfl, _, rfl, x1, C, dx1, _, _, rfl, hx1, tc.cl, tc.hd, rfl, a1, _, rfl, Or.inr ha1, _, _, rfl, rfl, _, rfl, ?_⟩
      rw [vI_len]
      refine ⟨x1, x2, y1, y2, y1.1.length + 1, k, rfl, tb1, tb2, r10, by omega, k1, by omega, r20, by omega, k2, by omega, by omega, fun z => absurd z e2, fun o H' ho s1 => q o H' ?_ s1⟩
      have far : Exc (atY y1) (atY y2) k (y1.1.length + 1) := exc_none (at_some _ (.inr e2)) (never y1 _ e1 (Nat.lt_succ_self _))
      cases o with
      | none => exact absurd far (ho _ (by omega) (Nat.le_refl _))
      | some n => exact ⟨ho.1, ho.2.2.1, ho.2.2.2⟩
    rw [ne_nil e1]
    refine iteF ?_
    refine ⟨_, rfl, _, rfl, x1, x2, y1, y2, rfl, tb1, tb2, ?_⟩
    obtain ⟨lead, hlead⟩ : ∃ lead, lead = max y1.1.length y2.1.length := ⟨_, rfl⟩
    rw [← hlead]
    refine ⟨_, rfl, _, rfl, _, rfl, _, rfl, x1, x2, y1, y2, lead, k, rfl, tb1, tb2, r10, by omega, k1, by omega, r20, by omega, k2, by omega, by omega, fun z => absurd z e2, fun o H1 ho s1 => ?_⟩
    have one : ∀ n, atY y1 n = some (numY y1 n) := fun n => at_some n (.inr e1)
    have two : ∀ n, atY y2 n = some (numY y2 n) := fun n => at_some n (.inr e2)
    cases o with
    | some n =>
      refine ⟨_, rfl, rfl, _, rfl, iteF' rfl ?_⟩
      exact ⟨_, rfl, q (some n) H1 ⟨ho.1, ho.2.2.1, ho.2.2.2⟩ s1⟩
    | none =>
      refine ⟨_, rfl, rfl, _, rfl, iteT' rfl ?_⟩
      refine ⟨_, rfl, _, rfl, _, rfl, fun x dx nx nd ne => ?_⟩
      have s1m := Same.trans s1 (made_same (o := .own x) (o' := .ins CC dx []) nx nd)
      refine ⟨x, dx, x1, x2, y1, y2, lead, rfl, upd_same, tb1.mono s1m, tb2.mono s1m, e1, e2, r10, r1, r20, r2, k1, l1, k2, l2, by omega, fun A' a B b H2 cond s2 ch => ⟨rfl, ?_⟩⟩
      have s2' := Same.trans s1 (same_made nx nd s2)
      obtain ⟨cA, cB, ca0, ca1, cb0, cb1, cd⟩ := cond_len f1 f2 cond
      have ls := lead_is e1 e2 (by omega) (by omega) cond
      obtain ⟨dx3, lp, rp, lvs, g, W, V_, S, hx, _⟩ := id ch
      refine ⟨x, dx3, _, rfl, hx, rfl, ?_⟩
      refine ⟨_, rfl, x, lead, A', B, a, b, k, rfl, ch, cA, cB, ca0, ca1, cb0, cb1, fun o H3 gp s3 => ?_⟩
      have ex : ∀ s4, (k < leadD A' a B b s4) ↔ Exc (atY y1) (atY y2) k (lead + 1 + s4) := fun s4 => by
        rw [exc_some (two _) (one _), ls s4]
        constructor <;> intro z <;> omega
      refine ⟨_, rfl, q (o.map fun s => lead + 1 + s) H3 ?_ (Same.trans s2' s3)⟩
      cases o with
      | none =>
        intro n n1 z
        by_cases c : n ≤ lead
        · exact ho n n1 c z
        · refine gp (n - (lead + 1)) ((ex _).mpr ?_)
          rw [show lead + 1 + (n - (lead + 1)) = n by omega]
          exact z
      | some s4 =>
        refine ⟨by show 1 ≤ lead + 1 + s4; omega, (ex s4).mp gp.1, fun m m1 m2 z => ?_⟩
        have m2 : m < lead + 1 + s4 := m2
        by_cases c : m ≤ lead
        · exact ho m m1 c z
        · refine gp.2 (m - (lead + 1)) (by omega) ((ex _).mpr ?_)
          rw [show lead + 1 + (m - (lead + 1)) = m by omega]
          exact z
end
end K05
set_option Elab.async false
set_option linter.all false
set_option maxRecDepth 100000
set_option maxHeartbeats 4000000
namespace K05
open PySem PySem.Spec PyProof.Rows L2 He NF RZ NT
/-- the class Below: its instances' fields, and it is a Verdict -/
structure BelC (K : PySem.W.Frag) (C : Addr) : Prop where
  cl : Cls K C
  ho : NoAttr K C "holds"
  fi : NoAttr K C "first"
  se : NoAttr K C "second"
  pl : NoAttr K C "place"
  si : NoAttr K C "sides"
def bf (o : Option Nat) (x1 x2 : Addr) (s : V) : List (Str × V) := [("holds", .bl o.isNone), ("first", .ref x1), ("second", .ref x2), ("place", vN o), ("sides", s)]
def SideOk (K : PySem.W.Frag) (H : Hp) (y1 y2 : Y) (s : V) : Option Nat → Prop
  | none => s = .non
  | some n => ∃ T, s = .ref T ∧ SqT K H T [vO (atY y1 n), vO (atY y2 n)]
def BelAt (K : PySem.W.Frag) (C : Addr) (H : Hp) (x : Addr) (o : Option Nat) (x1 x2 : Addr) (y1 y2 : Y) : Prop := ∃ dx s, H x = some (.ins C dx (bf o x1 x2 s)) ∧ SideOk K H y1 y2 s o
def spVInit (K : PySem.W.Frag) (C : Addr) : Sp := fun vs H Q _ => ∃ (x dx : Addr) (b : Bool), vs = [.ref x, .bl b] ∧ H x = some (.ins C dx []) ∧ Q .non (upd H x (.ins C dx [("holds", .bl b)]))
def spVBool (K : PySem.W.Frag) (C : Addr) : Sp := fun vs H Q _ => ∃ (x dx : Addr) (b : Bool) (fs : List (Str × V)), vs = [.ref x] ∧ H x = some (.ins C dx fs) ∧ fs.lookup ("holds" : Str) = some (V.bl b) ∧ Q (.bl b) H
def spBInit (K : PySem.W.Frag) (CT C : Addr) : Sp := fun vs H Q _ => ∃ (x dx x1 x2 : Addr) (y1 y2 : Y) (o : Option Nat), vs = [.ref x, .ref x1, .ref x2, vN o] ∧ H x = some (.ins C dx []) ∧ TabAt K CT (NF.wo H x) x1 y1 ∧ TabAt K CT (NF.wo H x) x2 y2 ∧ Small y1 ∧ Small y2 ∧ (∀ n, o = some n → 1 ≤ n) ∧
  ∀ H', Same (NF.wo H x) H' → BelAt K C H' x o x1 x2 y1 y2 → Q .non H'
def spBelow (K : PySem.W.Frag) (CT C : Addr) : Sp := fun vs H Q _ => ∃ (x1 x2 : Addr) (y1 y2 : Y), vs = [.ref x1, .ref x2] ∧ TabAt K CT H x1 y1 ∧ TabAt K CT H x2 y2 ∧ Fit y1 ∧ Fit y2 ∧ y1.1.length ≤ 9000 ∧
  ∀ x o H', Least1 (Exc (atY y1) (atY y2) 0) o → Same H H' → BelAt K C H' x o x1 x2 y1 y2 → Q (.ref x) H'
theorem sc_Verdict___init__ : FnScope ["self", "holds"] ["self", "holds"] (defScope s_Verdict_init) := ⟨rfl, rfl, rfl, by decide +kernel, rfl, by decide +kernel, by decide +kernel⟩
theorem sc_Verdict___bool__ : FnScope ["self"] ["self"] (defScope s_Verdict_bool) := ⟨rfl, rfl, rfl, by decide +kernel, rfl, by decide +kernel, by decide +kernel⟩
theorem sc_Below___init__ : FnScope ["self", "first", "second", "place"] ["self", "first", "second", "place"] (defScope s_Below_init) := ⟨rfl, rfl, rfl, by decide +kernel, rfl, by decide +kernel, by decide +kernel⟩
theorem sc_below : FnScope ["first", "second"] ["first", "second"] (defScope s_below) := ⟨rfl, rfl, rfl, by decide +kernel, rfl, by decide +kernel, by decide +kernel⟩
section
variable {P : Program} {w : World} {K : PySem.W.Frag} {mg : Str → Option Value} {base : Heap} {gs fs : List Str} {C CT CV : Addr}
theorem ok_Verdict_init {f : Addr} {fd : FuncData} (F : FunD K "__init__" "Verdict.__init__" (defArgs s_Verdict_init) (defBody s_Verdict_init) (defScope s_Verdict_init) [] [] f fd) (T : Txt K mg gs FS) (hb : BelC K C) : FnOk P w K mg base CX0 1 f fd ["self", "holds"] (spVInit K C) := by
  refine F.ok sc_Verdict___init__ (fun vs H Q E h => ?_) (fun cdv A outer s H vs Q E hr h => ?_)
  · obtain ⟨x, dx, b, rfl, _⟩ := h
    rfl
  · obtain ⟨x, dx, b, rfl, hx, q⟩ := h
    refine ⟨_, PSs.nox (pss_one (ps_fld (pv 0) (pv 1) rfl)), ?_⟩
    exact ⟨_, rfl, _, rfl, x, C, dx, _, rfl, hx, hb.cl, hb.ho, (by decide), q⟩
theorem ok_Verdict_bool {f : Addr} {fd : FuncData} (F : FunD K "__bool__" "Verdict.__bool__" (defArgs s_Verdict_bool) (defBody s_Verdict_bool) (defScope s_Verdict_bool) [] [] f fd) (T : Txt K mg gs FS) (hb : BelC K C) : FnOk P w K mg base CX0 1 f fd ["self"] (spVBool K C) := by
  refine F.ok sc_Verdict___bool__ (fun vs H Q E h => ?_) (fun cdv A outer s H vs Q E hr h => ?_)
  · obtain ⟨x, dx, b, fs, rfl, _⟩ := h
    rfl
  · obtain ⟨x, dx, b, fs, rfl, hx, l, q⟩ := h
    refine ⟨_, PSs.nox (pss_one (ps_ret (pe_callTy call_bool1 rfl (T.fr _ (by decide +kernel)) (by decide +kernel) (pa_cons (pe_fld (pv 0) rfl) pa_nil)))), ?_⟩
    exact ⟨_, rfl, x, C, dx, _, _, rfl, hx, hb.cl, hb.ho, l, .inr ⟨_, rfl, q⟩⟩
theorem val_at {y : Y} {n : Nat} (h : 1 ≤ n) : val_ y.1 y.2.1 y.2.2 (some n) = atY y n := by
  show (if n = 0 then _ else _) = _
  rw [if_neg (by omega)]
theorem ok_Below_init {f : Addr} {fd : FuncData} (F : FunD K "__init__" "Below.__init__" (defArgs s_Below_init) (defBody s_Below_init) (defScope s_Below_init) [] [] f fd) (T : Txt K mg gs FS) (hV : mg "Verdict" = some (.ref CV)) (hb : BelC K C) (c_Verdict_init : FunC P w K mg base 1 CV "__init__" (spVInit K C)) (c_value_at : Cal P w K mg base 2 "value_at" (spAt K CT)) : FnOk P w K mg base CX0 3 f fd ["self", "first", "second", "place"] (spBInit K CT C) := by
  refine F.ok sc_Below___init__ (fun vs H Q E h => ?_) (fun cdv A outer s H vs Q E hr h => ?_)
  · obtain ⟨x, dx, x1, x2, y1, y2, o, rfl, _⟩ := h
    rfl
  · obtain ⟨x, dx, x1, x2, y1, y2, o, rfl, hx, tb1, tb2, sm1, sm2, o1, q⟩ := h
    refine ⟨_, PSs.nox (pss_cons (ps_expr (pe_cf (pe_gl hV) c_Verdict_init hr (by decide) (pa_cons (pv 0) (pa_cons (pe_cmpR op_isN (pv 3) pe_non (nomark _)) pa_nil)))) (pss_cons (ps_fld (pv 0) (pv 1) rfl) (pss_cons (ps_fld (pv 0) (pv 2) rfl) (pss_cons (ps_fld (pv 0) (pv 3) rfl) (pss_one (ps_fld (pv 0) (pe_ifExp (pt_cmpR op_isN (pv 3) pe_non (nomark _)) pe_non (pe_tup (pa_cons (pe_c c_value_at hr (by decide) rfl (pa_cons (pv 1) (pa_cons (pv 3) pa_nil))) (pa_cons (pe_c c_value_at hr (by decide) rfl (pa_cons (pv 2) (pa_cons (pv 3) pa_nil))) pa_nil)))) rfl)))))), ?_⟩
    have fin : ∀ (H' : Hp) dx' s, Same (NF.wo H x) H' → H' x = some (.ins C dx' (bf o x1 x2 s)) → SideOk K H' y1 y2 s o → Q .non H' := fun H' dx' s s1 e m => q H' s1 ⟨dx', s, e, m⟩
    have en : decide (vN o = V.non) = o.isNone := by
      cases o with
      | none => rfl
      | some n => exact decide_eq_false fun z => nomatch z
    refine ⟨rfl, _, rfl, _, rfl, rfl, ?_⟩
    rw [en]
    refine ⟨x, dx, _, rfl, hx, ?_⟩
    refine ⟨_, rfl, _, rfl, x, C, dx, _, rfl, upd_same, hb.cl, hb.fi, (show 1 < 1000 by decide), ?_⟩
    refine ⟨_, rfl, _, rfl, x, C, dx, _, rfl, upd_same, hb.cl, hb.se, (show 2 < 1000 by decide), ?_⟩
    refine ⟨_, rfl, _, rfl, x, C, dx, _, rfl, upd_same, hb.cl, hb.pl, (show 3 < 1000 by decide), ?_⟩
    have sw : ∀ (H' : Hp) u, Same (NF.wo H x) H' → Same (NF.wo H x) (upd H' x u) := fun H' u s1 => NF.Same.put s1 wo_none
    have s4 := sw _ (.ins C dx (putF "place" (vN o) (putF "second" (V.ref x2) (putF "first" (V.ref x1) [("holds", V.bl o.isNone)])))) (sw _ (.ins C dx (putF "second" (V.ref x2) (putF "first" (V.ref x1) [("holds", V.bl o.isNone)]))) (sw _ (.ins C dx (putF "first" (V.ref x1) [("holds", V.bl o.isNone)])) (sw _ (.ins C dx [("holds", V.bl o.isNone)]) (wo_same' (H := H)))))
    refine ⟨_, rfl, rfl, _, rfl, ?_⟩
    rw [en]
    cases o with
    | none =>
      refine iteT' rfl ?_
      refine ⟨_, rfl, x, C, dx, _, rfl, upd_same, hb.cl, hb.si, (show 4 < 1000 by decide), ?_⟩
      exact fin _ dx .non (sw _ _ s4) upd_same rfl
    | some n =>
      refine iteF' rfl ?_
      have hx4 := upd_same (H := (upd (upd (upd H x (.ins C dx [("holds", V.bl (some n).isNone)])) x (.ins C dx (putF "first" (V.ref x1) [("holds", V.bl (some n).isNone)]))) x (.ins C dx (putF "second" (V.ref x2) (putF "first" (V.ref x1) [("holds", V.bl (some n).isNone)]))))) (a := x) (o := .ins C dx (putF "place" (vN (some n)) (putF "second" (V.ref x2) (putF "first" (V.ref x1) [("holds", V.bl (some n).isNone)]))))
      generalize upd (upd (upd (upd H x (.ins C dx [("holds", V.bl (some n).isNone)])) x (.ins C dx (putF "first" (V.ref x1) [("holds", V.bl (some n).isNone)]))) x (.ins C dx (putF "second" (V.ref x2) (putF "first" (V.ref x1) [("holds", V.bl (some n).isNone)])))) x (.ins C dx (putF "place" (vN (some n)) (putF "second" (V.ref x2) (putF "first" (V.ref x1) [("holds", V.bl (some n).isNone)])))) = H4 at s4 hx4
      refine ⟨_, rfl, _, rfl, x1, y1, some n, rfl, tb1.mono s4, sm1, fun H5 s5 => ?_⟩
      rw [val_at (o1 n rfl)]
      refine ⟨_, rfl, _, rfl, x2, y2, some n, rfl, tb2.mono (Same.trans s4 s5), sm2, fun H6 s6 => ?_⟩
      rw [val_at (o1 n rfl)]
      refine ⟨(by show 2 ≤ sizeLine; decide), fun p hp => ?_⟩
      have s7 := NF.Same.new (o := .tup [vO (atY y1 n), vO (atY y2 n)]) (Same.trans s5 s6) hp
      have hx7 := s7 _ _ hx4
      refine ⟨_, rfl, x, C, dx, _, rfl, hx7, hb.cl, hb.si, (show 4 < 1000 by decide), ?_⟩
      refine fin _ dx (.ref p) (sw _ _ (Same.trans s4 s7)) upd_same ⟨p, rfl, SqT.put (SqT.of upd_same) hx7 trivial⟩
theorem made_wo {H : Hp} {x dx : Addr} {o o' : HO} (nx : H x = none) (nd : H dx = none) : Same H (NF.wo (upd (upd H dx o) x o') x) := fun b u e => by
  rw [wo_ne (ne_of_none e nx), upd_ne (ne_of_none e nx), upd_ne (ne_of_none e nd)]
  exact e
theorem Fit.small {y : Y} (f : Fit y) : Small y := ⟨f.h, Nat.le_trans f.l (by decide), f.g.r0, Int.le_trans f.r (by decide)⟩
theorem ok_below {f : Addr} {fd : FuncData} (F : FunD K "below" "below" (defArgs s_below) (defBody s_below) (defScope s_below) [] [] f fd) (T : Txt K mg gs FS) (c_first_excess : Cal P w K mg base 5 "first_excess" (spExc K CT)) (m_Below : Mak P w K mg base 3 0 "Below" C (spBInit K CT C) []) : FnOk P w K mg base CX0 6 f fd ["first", "second"] (spBelow K CT C) := by
  refine F.ok sc_below (fun vs H Q E h => ?_) (fun cdv A outer s H vs Q E hr h => ?_)
  · obtain ⟨x1, x2, y1, y2, rfl, _⟩ := h
    rfl
  · obtain ⟨x1, x2, y1, y2, rfl, tb1, tb2, f1, f2, h9, q⟩ := h
    refine ⟨_, PSs.nox (pss_one (ps_ret (pe_mk m_Below hr (by decide) rfl (pa_cons (pv 0) (pa_cons (pv 1) (pa_cons (pe_c c_first_excess hr (by decide) rfl (pa_cons (pv 0) (pa_cons (pv 1) (pa_cons pe_int pa_nil)))) pa_nil)))))), ?_⟩
    refine ⟨_, rfl, _, rfl, _, rfl, _, rfl, x1, x2, y1, y2, 0, rfl, tb1, tb2, f1, f2, h9, fun o H1 ho s1 => ?_⟩
    refine fun x dx nx nd ne => ?_
    refine ⟨x, dx, x1, x2, y1, y2, o, rfl, upd_same, tb1.mono (Same.trans s1 (made_wo nx nd)), tb2.mono (Same.trans s1 (made_wo nx nd)), f1.small, f2.small, fun n e => ?_, fun H2 s2 bel => ⟨rfl, ?_⟩⟩
    · subst e
      exact ho.1
    · exact q x o H2 ho (Same.trans s1 (Same.trans (made_wo nx nd) s2)) bel
end
end K05
set_option Elab.async false
set_option linter.all false
set_option maxRecDepth 100000
set_option maxHeartbeats 4000000
namespace K05
open PySem PySem.Spec PyProof.Rows L2 He NF RZ NT
def spLaw (K : PySem.W.Frag) : Sp := fun vs H Q _ => ∃ (l : Addr) (ns : List Int), vs = [.ref l] ∧ SqL K H l (ns.map V.int) ∧ ns.length ≤ 63 ∧ (∀ k ∈ ns, Builtin.Int.intBits k ≤ 1048576) ∧ ∀ H', Q (.bl true) H'
theorem sc_law : FnScope ["_law_script", "_law_source_here", "_law_first", "_law_second", "_law_drawer", "_law_third", "_law_pair", "_law_same_here", "_law_low", "_law_k", "_law_a", "_law_b", "_law_c"] ["_law_script"] (defScope s_law) := ⟨rfl, rfl, rfl, by decide +kernel, rfl, by decide +kernel, by decide +kernel⟩
theorem FormAt.wo {K : PySem.W.Frag} {H : Hp} {q p : Addr} {y : Y} (h : FormAt K H q y) (hs : Src H p) : FormAt K (NF.wo H p) q y := by
  obtain ⟨_, _, _, hp⟩ := hs
  obtain ⟨a, b, h1, h2, h3⟩ := h
  exact ⟨a, b, NF.SqT.wo h1 hp trivial, NF.SqT.wo h2 hp trivial, NF.SqT.wo h3 hp trivial⟩
theorem src_wo {H H' : Hp} {p q : Addr} (h : Src H p) (n : p ≠ q) (s : Same (NF.wo H q) H') : Src H' p := by
  obtain ⟨a, b, c, e⟩ := h
  exact ⟨a, b, c, s _ _ ((wo_ne n).trans e)⟩
theorem src_ne2 {H : Hp} {p q : Addr} (h : Src H p) (n : H q = none) : p ≠ q := fun z => by
  obtain ⟨_, _, _, e⟩ := h
  rw [z, n] at e
  cases e
theorem sm_raw {x : Y} (a : Raw0 x) : Sm x := ⟨a.g, a.h, a.l, Int.le_trans a.r (by decide)⟩
theorem walk1 {v : Int} {k : Nat} : walk [v] 1 k = v + (k : Int) := by
  show [v].getD (k % 1) 0 + 1 * ((k / 1 : Nat) : Int) = _
  rw [Nat.mod_one, Nat.div_one, Int.one_mul]
  rfl
theorem sh_plain (k : Int) : IsPlain (shHead k) [1 + maxO k] 1 (shPlain k) := by
  have min1 : ∀ a : Int, LoopMin [a] 1 := fun a m m0 md _ => Nat.le_antisymm (Nat.le_of_dvd (show 0 < 1 by decide) md) m0
  refine .inr ⟨by simp, ?_, ?_, ?_, fun n hn => ?_⟩
  · unfold shPlain
    by_cases h : 0 ≤ k
    · rw [if_pos h]; simp
    · rw [if_neg h]; simp
  · unfold shPlain
    by_cases h : 0 ≤ k
    · rw [if_pos h]; exact min1 _
    · rw [if_neg h]; exact min1 _
  · unfold shPlain
    by_cases h : 0 ≤ k
    · rw [if_pos h]
      intro j hj
      cases hj
    · rw [if_neg h]
      intro j hj
      show (List.replicate (-k - 1).toNat (0 : Int)).getD j 0 + 1 ≠ 0
      rw [rep_get]
      decide
  · unfold shPlain shHead maxO
    by_cases h : 0 ≤ k
    · rw [if_pos h, if_neg (by omega), show (-k).toNat = 0 by omega]
      rfl
    · rw [if_neg h, if_pos (by omega)]
      dsimp only
      unfold at_
      rw [List.length_replicate, List.length_replicate]
      obtain ⟨m, hm⟩ : ∃ m : Nat, k = -((m : Int) + 1) := ⟨(-k - 1).toNat, by omega⟩
      have e1 : (-k - 1).toNat = m := by omega
      have e2 : (-k).toNat = m + 1 := by omega
      rw [e1, e2, rep_get, rep_get, walk1, walk1]
      by_cases c1 : n ≤ m
      · rw [if_pos c1, if_pos (show n ≤ m + 1 by omega)]
      · rw [if_neg c1, if_neg (show ¬ ([0] : List Int) = [] by simp)]
        by_cases c2 : n ≤ m + 1
        · rw [if_pos c2]
          congr 1
          omega
        · rw [if_neg c2, if_neg (show ¬ ([1 + 0] : List Int) = [] by simp)]
          congr 1
          omega
theorem sh_sm {k : Int} (h1 : -5 ≤ k) (h2 : k ≤ 5) : Sm (shPlain k) := by
  have g := (plain_fin (shift_good k) (sh_plain k)).1
  by_cases h : 0 ≤ k
  · have e : shPlain k = ([], [1 + k], 1) := if_pos h
    rw [e] at g ⊢
    exact ⟨g, Nat.zero_le _, show 1 ≤ 4 by decide, show (1 : Int) ≤ 11 by decide⟩
  · have e : shPlain k = (List.replicate (-k - 1).toNat 0, [0], 1) := if_neg h
    rw [e] at g ⊢
    exact ⟨g, by show (List.replicate (-k - 1).toNat (0 : Int)).length ≤ 4; rw [List.length_replicate]; omega, show 1 ≤ 4 by decide, show (1 : Int) ≤ 11 by decide⟩
/-- the shift by 0 -/
theorem vl_sh0 (o : Option Nat) : vl (shPlain 0) o = o.map Int.ofNat := by
  cases o with
  | none => rfl
  | some n =>
    by_cases h : n = 0
    · subst h
      rfl
    · rw [vl_pos (by omega)]
      show at_ [] [1 + 0] 1 n = some (n : Int)
      rw [at_loop (by simp) (show ([] : List Int).length < n by show 0 < n; omega), walk1]
      congr 1
      show 1 + 0 + ((n - 0 - 1 : Nat) : Int) = n
      omega
theorem toNat_back {o : Option Int} (h : ∀ i, o = some i → 0 ≤ i) : (o.map Int.toNat).map Int.ofNat = o := by
  cases o with
  | none => rfl
  | some i => exact congrArg some (Int.toNat_of_nonneg (h i rfl))
theorem nat_back (o : Option Nat) : (o.map Int.ofNat).map Int.toNat = o := by
  cases o with
  | none => rfl
  | some i => rfl
theorem dom_vl {a b : Y} {N : Nat} (d : Dom (atY a) (atY b) N) : Dom (fun n => vl a (some n)) (fun n => vl b (some n)) N :=
  ((d.congr fun n hn => vl_pos (y := a) (by omega)).symm.congr fun n hn => vl_pos (y := b) (by omega)).symm
/-- nothing above -/
theorem exc_no {z z' : Y} {f f' : Option Nat → Option Int} {h l h' l' : Nat} {r r' : Int} {o : Option Nat} (a : W z f h l r) (b : W z' f' h' l' r') (e : ∀ o, leO (f o) (f' o)) (k : Least1 (Exc (atY z) (atY z') 0) o) : o = none := by
  cases o with
  | none => rfl
  | some n =>
    exfalso
    obtain ⟨h1, ⟨v, hv, hm⟩, _⟩ := k
    have x := e (some n)
    rw [← a.e, ← b.e, vl_pos h1, vl_pos h1, show av z' n = some v from hv] at x
    rcases x with x | ⟨p, q, x1, x2, x3⟩
    · cases x
    · have e1 : atY z n = some p := x1
      rw [e1] at hm
      injection x2 with x2
      have : v + 0 < p := hm
      omega
section
variable {P : Program} {w : World} {K : PySem.W.Frag} {mg : Str → Option Value} {base : Heap} {gs : List Str} {C CB : Addr}
theorem ok_law {f : Addr} {fd : FuncData} (F : FunD K "law" "law" (defArgs s_law) (defBody s_law) (defScope s_law) [] [] f fd) (T : Txt K mg gs FS) (hT : mg "Table" = some (.ref C)) (tc : TabC K C) (hb : BelC K CB) (c__law_source : Cal P w K mg base 1 "_law_source" (spSource K)) (c__law_pick : Cal P w K mg base 1 "_law_pick" spPick) (c__law_raw : Cal P w K mg base 3 "_law_raw" (spRaw K)) (c__law_shift : Cal P w K mg base 1 "_law_shift" (spLShift K)) (c__law_put : Cal P w K mg base 7 "_law_put" (spPut K)) (c__law_table : Cal P w K mg base 6 "_law_table" (spLTable K C)) (c__law_same : Cal P w K mg base 3 "_law_same" (spSame K C)) (c__law_behind : Cal P w K mg base 3 "_law_behind" (spLBehind K)) (c_below : Cal P w K mg base 6 "below" (spBelow K C CB))
    (o_shift : StaX P w K mg base 6 C "shift" (spShift K C)) (o_eq : EqC P w K mg base 1 C (spEq K C)) (o_mul : OpC P w K mg base 6 C "__mul__" (spMul K C)) (o_and : OpC P w K mg base 10 C "__and__" (spOp K C true)) (o_or : OpC P w K mg base 10 C "__or__" (spOp K C false)) : FnOk P w K mg base CX0 12 f fd ["_law_script"] (spLaw K) := by
  refine F.ok sc_law (fun vs H Q E h => ?_) (fun cdv A outer s H vs Q E hr h => ?_)
  · obtain ⟨l, ns, rfl, _⟩ := h
    rfl
  · obtain ⟨sl, ns, rfl, hsl, hlen, hbits, k⟩ := h
    have nfC : PySem.W.notFirst K C (.ref C) = true := by simp [PySem.W.notFirst]
    refine ⟨_, PSs.nox (pss_cons (ps_set (i := 1) sc_law.nd rfl (Or.inl rfl) (pe_c c__law_source hr (by decide) rfl (pa_cons (pv 0) (pa_cons pe_int pa_nil)))) (pss_cons (ps_set (i := 2) sc_law.nd rfl (Or.inl rfl) (pe_c c__law_raw hr (by decide) rfl (pa_cons (pv 1) (pa_cons pe_bl pa_nil)))) (pss_cons (ps_set (i := 3) sc_law.nd rfl (Or.inl rfl) (pe_c c__law_raw hr (by decide) rfl (pa_cons (pe_c c__law_source hr (by decide) rfl (pa_cons (pv 0) (pa_cons pe_int pa_nil))) (pa_cons pe_bl pa_nil)))) (pss_cons (ps_set (i := 4) sc_law.nd rfl (Or.inl rfl) (pe_c c__law_source hr (by decide) rfl (pa_cons (pv 0) (pa_cons pe_int pa_nil)))) (pss_cons (ps_set (i := 5) sc_law.nd rfl (Or.inl rfl) (pe_ifExp (pt_cmpR op_eq (pe_c c__law_pick hr (by decide) rfl (pa_cons (pv 4) (pa_cons pe_int pa_nil))) pe_int (nomark _)) (pe_c c__law_shift hr (by decide) rfl (pa_cons (pe_op op_sub (pe_c c__law_pick hr (by decide) rfl (pa_cons (pv 4) (pa_cons pe_int pa_nil))) pe_int) pa_nil)) (pe_c c__law_raw hr (by decide) rfl (pa_cons (pv 4) (pa_cons pe_bl pa_nil))))) (pss_cons (ps_for PassesOwn.never rfl (pi_list (pe_lst (pa_cons (pe_tup (pa_cons (pv 2) (pa_cons (pv 3) pa_nil))) (pa_cons (pe_tup (pa_cons (pv 3) (pa_cons (pv 2) pa_nil))) (pa_cons (pe_tup (pa_cons (pv 3) (pa_cons (pv 5) pa_nil))) (pa_cons (pe_tup (pa_cons (pv 2) (pa_cons (pv 2) pa_nil))) pa_nil)))))) (pg_name (i := 6) sc_law.nd rfl (Or.inl rfl)) (pss_one (ps_if (pt_not (pt_val (pe_c c__law_put hr (by decide) rfl (pa_cons (pv 4) (pa_cons (pe_ix (ixt (K := K)) (pv 6) pe_int fun _ _ => rfl) (pa_cons (pe_ix (ixt (K := K)) (pv 6) pe_int fun _ _ => rfl) pa_nil)))))) (pss_one (ps_ret pe_bl)) pss_nil))) (pss_cons (ps_par3 (i := 10) (j := 11) (l := 12) (by rfl) sc_law.nd rfl rfl rfl (by decide) (by decide) (by decide) rfl rfl rfl (pa_cons (pe_c c__law_table hr (by decide) rfl (pa_cons (pv 2) pa_nil)) (pa_cons (pe_c c__law_table hr (by decide) rfl (pa_cons (pv 3) pa_nil)) (pa_cons (pe_c c__law_table hr (by decide) rfl (pa_cons (pv 5) pa_nil)) pa_nil))) (by rfl)) (pss_cons (ps_if (pt_not (pt_cmpR (op_eqO o_eq hr (by decide)) (pe_op (op_bin o_mul hr (by decide)) (pe_op (op_bin o_mul hr (by decide)) (pv 10) (pv 11)) (pv 12)) (pe_op (op_bin o_mul hr (by decide)) (pv 10) (pe_op (op_bin o_mul hr (by decide)) (pv 11) (pv 12))) (nomark _))) (pss_one (ps_ret pe_bl)) pss_nil) (pss_cons (ps_set (i := 7) sc_law.nd rfl (Or.inl rfl) (pe_smX takes0 (pe_gl hT) o_shift hr (by decide) (pa_cons pe_int pa_nil))) (pss_cons (ps_if (PW.pt (pw_or (pt_not (pt_cmpR (op_eqO o_eq hr (by decide)) (pe_op (op_bin o_mul hr (by decide)) (pv 10) (pv 7)) (pv 10) (nomark _))) (pw_or (pt_not (pt_cmpR (op_eqO o_eq hr (by decide)) (pe_op (op_bin o_mul hr (by decide)) (pv 7) (pv 10)) (pv 10) (nomark _))) (pw_or1 (pt_not (pt_val (pe_c c__law_same hr (by decide) rfl (pa_cons (pv 7) (pa_cons (pe_c c__law_shift hr (by decide) rfl (pa_cons pe_int pa_nil)) pa_nil))))))))) (pss_one (ps_ret pe_bl)) pss_nil) (pss_cons (ps_if (PW.pt (pw_or (pt_not (pt_cmpR (op_eqO o_eq hr (by decide)) (pe_op (op_bin o_mul hr (by decide)) (pe_op (op_bin o_and hr (by decide)) (pv 10) (pv 11)) (pv 12)) (pe_op (op_bin o_and hr (by decide)) (pe_op (op_bin o_mul hr (by decide)) (pv 10) (pv 12)) (pe_op (op_bin o_mul hr (by decide)) (pv 11) (pv 12))) (nomark _))) (pw_or1 (pt_not (pt_cmpR (op_eqO o_eq hr (by decide)) (pe_op (op_bin o_mul hr (by decide)) (pv 12) (pe_op (op_bin o_or hr (by decide)) (pv 10) (pv 11))) (pe_op (op_bin o_or hr (by decide)) (pe_op (op_bin o_mul hr (by decide)) (pv 12) (pv 10)) (pe_op (op_bin o_mul hr (by decide)) (pv 12) (pv 11))) (nomark _)))))) (pss_one (ps_ret pe_bl)) pss_nil) (pss_cons (ps_if (PW.pt (pw_or (pt_not (pt_cmpR (op_eqO o_eq hr (by decide)) (pe_op (op_bin o_mul hr (by decide)) (pe_op (op_bin o_or hr (by decide)) (pv 10) (pv 11)) (pv 12)) (pe_op (op_bin o_or hr (by decide)) (pe_op (op_bin o_mul hr (by decide)) (pv 10) (pv 12)) (pe_op (op_bin o_mul hr (by decide)) (pv 11) (pv 12))) (nomark _))) (pw_or1 (pt_not (pt_cmpR (op_eqO o_eq hr (by decide)) (pe_op (op_bin o_mul hr (by decide)) (pv 12) (pe_op (op_bin o_and hr (by decide)) (pv 10) (pv 11))) (pe_op (op_bin o_and hr (by decide)) (pe_op (op_bin o_mul hr (by decide)) (pv 12) (pv 10)) (pe_op (op_bin o_mul hr (by decide)) (pv 12) (pv 11))) (nomark _)))))) (pss_one (ps_ret pe_bl)) pss_nil) (pss_cons (ps_set (i := 8) sc_law.nd rfl (Or.inl rfl) (pe_op (op_bin o_or hr (by decide)) (pv 10) (pv 11))) (pss_cons (ps_if (PW.pt (pw_or (pt_cmpR op_isnot_bl (pe_fld (pe_c c_below hr (by decide) rfl (pa_cons (pe_op (op_bin o_mul hr (by decide)) (pv 8) (pv 12)) (pa_cons (pe_op (op_bin o_mul hr (by decide)) (pv 10) (pv 12)) pa_nil))) rfl) pe_bl (nomark _)) (pw_or1 (pt_cmpR op_isnot_bl (pe_fld (pe_c c_below hr (by decide) rfl (pa_cons (pe_op (op_bin o_mul hr (by decide)) (pv 12) (pv 8)) (pa_cons (pe_op (op_bin o_mul hr (by decide)) (pv 12) (pv 11)) pa_nil))) rfl) pe_bl (nomark _))))) (pss_one (ps_ret pe_bl)) pss_nil) (pss_cons (ps_set (i := 9) sc_law.nd rfl (Or.inl rfl) (pe_c c__law_pick hr (by decide) rfl (pa_cons (pv 4) (pa_cons pe_int pa_nil)))) (pss_one (ps_ret (pe_cmpR (op_eqO o_eq hr (by decide)) (pe_op (op_bin o_mul hr (by decide)) (pe_smX takes0 (pe_gl hT) o_shift hr (by decide) (pa_cons (pv 9) pa_nil)) (pe_smX takes0 (pe_gl hT) o_shift hr (by decide) (pa_cons (pe_un un_neg (pv 9)) pa_nil))) (pe_c c__law_table hr (by decide) rfl (pa_cons (pe_c c__law_behind hr (by decide) rfl (pa_cons (pe_c c__law_shift hr (by decide) rfl (pa_cons (pv 9) pa_nil)) (pa_cons (pe_c c__law_shift hr (by decide) rfl (pa_cons (pe_un un_neg (pv 9)) pa_nil)) pa_nil))) pa_nil)) (nomark _))))))))))))))))))), ?_⟩
    refine ⟨_, rfl, sl, ns, 0, rfl, hsl, hlen, hbits, by decide, fun p1 G1 s1 hp1 hs1 => ?_⟩
    refine ⟨_, rfl, wo G1 p1, p1, rfl, wo_same', wo_none, hs1, fun q1 y1 G2 s2 S1 ok1 F1 => ?_⟩
    have sH : Same H G2 := wo_same s1 hp1 s2
    refine ⟨_, rfl, sl, ns, 1, rfl, L2.Same.seq sH hsl, hlen, hbits, by decide, fun p2 G3 s3 hp2 S2 => ?_⟩
    have F1 := F1.mono s3
    have fr2 : H p2 = none := L2.Same.free sH hp2
    have sH : Same H G3 := Same.trans sH s3
    refine ⟨wo G3 p2, p2, rfl, wo_same', wo_none, S2, fun q2 y2 G4 s4 S2' ok2 F2 => ?_⟩
    have F1 := (F1.wo S2).mono s4
    have sH : Same H G4 := wo_same sH fr2 s4
    refine ⟨_, rfl, sl, ns, 2, rfl, L2.Same.seq sH hsl, hlen, hbits, by decide, fun p3 G5 s5 hp3 S3 => ?_⟩
    have F1 := F1.mono s5
    have F2 := F2.mono s5
    have sm1 := sm_raw ok1
    have sm2 := sm_raw ok2
    have low1 := Low.of ok1
    have low2 := Low.of ok2
    -- the third one
    have F1w := F1.wo S3
    have F2w := F2.wo S3
    refine ⟨_, rfl, wo G5 p3, p3, 4, rfl, wo_same', wo_none, S3, by decide, by decide, fun d G6 d0 d1 s6 S3' => ?_⟩
    refine' both1 (fun (kk : ∀ (q3 : Addr) (G : Hp), (∃ y3 : Y, Same (wo G5 p3) G ∧ Src G p3 ∧ Sm y3 ∧ FormAt K G q3 y3) → (?R : Addr → Hp → Prop) q3 G) => ?A) ?B
    case A =>
      refine ⟨rfl, _, rfl, ite2 (fun h1 => ?_) (fun h1 => ?_)⟩
      · refine ⟨_, rfl, wo G6 p3, p3, 7, rfl, wo_same', wo_none, S3', by decide, by decide, fun d2 G7 e0 e1 s7 S3'' => ?_⟩
        have s57 : Same (wo G5 p3) G7 := wo_same s6 wo_none s7
        refine ⟨_, _, rfl, rfl, d2 - 3, rfl, by omega, by omega, fun q3 G8 s8 F3 => ?_⟩
        exact kk q3 G8 ⟨shPlain (d2 - 3), Same.trans s57 s8, Src.mono S3'' s8, sh_sm (by omega) (by omega), F3⟩
      · refine ⟨_, rfl, wo G6 p3, p3, rfl, wo_same', wo_none, S3', fun q3 y3 G7 s7 S3'' ok3 F3 => ?_⟩
        exact kk q3 G7 ⟨y3, wo_same s6 wo_none s7, S3'', sm_raw ok3, F3⟩
    case B =>
      rintro q3 G7 ⟨y3, s57, S3, sm3, F3⟩
      have F1 := F1w.mono s57
      have F2 := F2w.mono s57
      clear F1w F2w
      -- the four pairs
      refine ⟨_, rfl, _, rfl, (by show 2 ≤ sizeLine; decide), fun t1 ht1 => ?_⟩
      have u1 := NF.Same.new (o := .tup [V.ref q1, V.ref q2]) (Same.refl G7) ht1
      have T1 : SqT K (upd G7 t1 (.tup [V.ref q1, V.ref q2])) t1 [V.ref q1, V.ref q2] := SqT.of upd_same
      generalize upd G7 t1 (.tup [V.ref q1, V.ref q2]) = L1 at u1 T1
      refine ⟨_, rfl, _, rfl, (by show 2 ≤ sizeLine; decide), fun t2 ht2 => ?_⟩
      have u2 := NF.Same.new (o := .tup [V.ref q2, V.ref q1]) (Same.refl L1) ht2
      have T2 : SqT K (upd L1 t2 (.tup [V.ref q2, V.ref q1])) t2 [V.ref q2, V.ref q1] := SqT.of upd_same
      generalize upd L1 t2 (.tup [V.ref q2, V.ref q1]) = L2 at u2 T2
      refine ⟨_, rfl, _, rfl, (by show 2 ≤ sizeLine; decide), fun t3 ht3 => ?_⟩
      have u3 := NF.Same.new (o := .tup [V.ref q2, V.ref q3]) (Same.refl L2) ht3
      have T3 : SqT K (upd L2 t3 (.tup [V.ref q2, V.ref q3])) t3 [V.ref q2, V.ref q3] := SqT.of upd_same
      generalize upd L2 t3 (.tup [V.ref q2, V.ref q3]) = L3 at u3 T3
      refine ⟨_, rfl, _, rfl, (by show 2 ≤ sizeLine; decide), fun t4 ht4 => ?_⟩
      have u4 := NF.Same.new (o := .tup [V.ref q1, V.ref q1]) (Same.refl L3) ht4
      have T4 : SqT K (upd L3 t4 (.tup [V.ref q1, V.ref q1])) t4 [V.ref q1, V.ref q1] := SqT.of upd_same
      generalize upd L3 t4 (.tup [V.ref q1, V.ref q1]) = L4 at u4 T4
      refine ⟨(by show 4 ≤ sizeLine; decide), fun tl htl => ?_⟩
      have u5 := NF.Same.new (o := .lst [V.ref t1, V.ref t2, V.ref t3, V.ref t4]) (Same.refl L4) htl
      have hL : (upd L4 tl (.lst [V.ref t1, V.ref t2, V.ref t3, V.ref t4])) tl = some (.lst [V.ref t1, V.ref t2, V.ref t3, V.ref t4]) := upd_same
      generalize upd L4 tl (.lst [V.ref t1, V.ref t2, V.ref t3, V.ref t4]) = L5 at u5 hL
      have s75 := Same.trans u1 (Same.trans u2 (Same.trans u3 (Same.trans u4 u5)))
      have S5 := Src.mono S3 s75
      have tlp : tl ≠ p3 := fun z => by
        obtain ⟨_, _, _, e⟩ := S5
        rw [← z, hL] at e
        injection e with e
        injection e with e
        cases e
      have F1 := (F1.mono s75).wo S5
      have F2 := (F2.mono s75).wo S5
      have F3 := (F3.mono s75).wo S5
      have pT : ∀ {t : Addr} {vs : List V}, SqT K L5 t vs → SqT K (wo L5 p3) t vs := fun h => by
        obtain ⟨_, _, _, e⟩ := S5
        exact NF.SqT.wo h e trivial
      have T1 := pT (NF.Same.tup u5 (NF.Same.tup u4 (NF.Same.tup u3 (NF.Same.tup u2 T1))))
      have T2 := pT (NF.Same.tup u5 (NF.Same.tup u4 (NF.Same.tup u3 T2)))
      have T3 := pT (NF.Same.tup u5 (NF.Same.tup u4 T3))
      have T4 := pT (NF.Same.tup u5 T4)
      have hLw : (wo L5 p3) tl = some (.lst [V.ref t1, V.ref t2, V.ref t3, V.ref t4]) := (wo_ne tlp).trans hL
      refine ⟨tl, rfl, ⟨_, SqL.of hL⟩, ?_⟩
      refine for_it (walk_list (xs := [V.ref t1, V.ref t2, V.ref t3, V.ref t4])) (fun i σ G => Same (wo L5 p3) G ∧ Src G p3 ∧ ∃ v6, σ = [some (.ref sl), some (.ref p1), some (.ref q1), some (.ref q2), some (.ref p3), some (.ref q3), v6, none, none, none, none, none, none]) ⟨wo_same', S5, none, rfl⟩ (fun i σ G _ z => SqL.of (z.1 _ _ hLw)) ?_ ?_
      · rintro i x σ G G' hi ⟨sG, SG, v6, rfl⟩ ⟨rfl, hx⟩
        have pick : ∃ (t a b : Addr) (ya yb : Y), x = .ref t ∧ SqT K (wo L5 p3) t [V.ref a, V.ref b] ∧ FormAt K (wo L5 p3) a ya ∧ FormAt K (wo L5 p3) b yb ∧ Sm ya ∧ Sm yb := by
          have hi : i < 4 := hi
          have : i = 0 ∨ i = 1 ∨ i = 2 ∨ i = 3 := by omega
          rcases this with rfl | rfl | rfl | rfl
          · exact ⟨t1, q1, q2, y1, y2, (Option.some.inj hx).symm, T1, F1, F2, sm1, sm2⟩
          · exact ⟨t2, q2, q1, y2, y1, (Option.some.inj hx).symm, T2, F2, F1, sm2, sm1⟩
          · exact ⟨t3, q2, q3, y2, y3, (Option.some.inj hx).symm, T3, F2, F3, sm2, sm3⟩
          · exact ⟨t4, q1, q1, y1, y1, (Option.some.inj hx).symm, T4, F1, F1, sm1, sm1⟩
        obtain ⟨t, a, b, ya, yb, rfl, Tt, Fa, Fb, ma, mb⟩ := pick
        have Tg := NF.Same.tup sG Tt
        refine ⟨_, rfl, _, rfl, t, _, _, _, rfl, rfl, Tg, rfl, _, rfl, t, _, _, _, rfl, rfl, Tg, rfl, ?_⟩
        refine ⟨wo L5 p3, p3, a, b, ya, yb, rfl, sG, wo_none, SG, Fa, Fb, ma, mb, fun G8 s8 S8 => ⟨true, rfl, iteF' rfl ⟨s8, S8, _, rfl⟩⟩⟩
      · rintro σ G9 ⟨sG, S9, v6, rfl⟩
        have F1 := F1.mono sG
        have F2 := F2.mono sG
        have F3 := F3.mono sG
        clear T1 T2 T3 T4 hLw pT
        refine ⟨_, rfl, q1, y1, rfl, F1, sm1.raw, fun x1 z1 GB hz1 sB A1 => ?_⟩
        refine ⟨_, rfl, q2, y2, rfl, F2.mono sB, sm2.raw, fun x2 z2 GC hz2 sC A2 => ?_⟩
        refine ⟨_, rfl, q3, y3, rfl, (F3.mono sB).mono sC, sm3.raw, fun x3 z3 GD hz3 sD A3 => ?_⟩
        refine ⟨_, _, _, rfl, ?_⟩
        have A1 := (A1.mono sC).mono sD
        have A2 := A2.mono sD
        have SD := Src.mono S9 (Same.trans sB (Same.trans sC sD))
        have w1 := W.raw sm1.g sm1.h sm1.l sm1.r hz1
        have w2 := W.raw sm2.g sm2.h sm2.l sm2.r hz2
        have w3 := W.raw sm3.g sm3.h sm3.l sm3.r hz3
        have d12 := dom_low low1 low2
        have dv12 := dom_vl d12
        have domL := dom_left sm3.g sm3.h sm3.l d12
        have domR := dom_right low1 low2 sm3.g sm3.h
        refine ⟨_, rfl, _, rfl, ?_⟩
        obtain ⟨dl1, _, _, hl1, _, _⟩ := id A1
        obtain ⟨dr1, _, _, hr1, _, _⟩ := id A2
        refine ⟨x1, dl1, _, x2, dr1, _, rfl, hl1, rfl, hr1, x1, x2, z1, z2, rfl, A1, A2, w1.put (by decide) (by decide) (by decide), w2.put (by decide) (by decide) (by decide), w1.tg w2 (by decide), fun xg0 u1 zg0 G_1 tl1 hq_1 s_1 Ag0 => ?_⟩
        have wg0 := w1.mul w2 tl1 hq_1 (by decide) (Nat.le_refl _) (Nat.le_refl _) (Int.le_refl _)
        have A1 := A1.mono s_1
        have A2 := A2.mono s_1
        have A3 := A3.mono s_1
        have SD := Src.mono SD s_1
        refine ⟨_, rfl, ?_⟩
        obtain ⟨dl2, _, _, hl2, _, _⟩ := id Ag0
        obtain ⟨dr2, _, _, hr2, _, _⟩ := id A3
        refine ⟨xg0, dl2, _, x3, dr2, _, rfl, hl2, rfl, hr2, xg0, x3, zg0, z3, rfl, Ag0, A3, wg0.put (by decide) (by decide) (by decide), w3.put (by decide) (by decide) (by decide), wg0.tg w3 (by decide), fun xg1 u2 zg1 G_2 tl2 hq_2 s_2 Ag1 => ?_⟩
        have wg1 := wg0.mul w3 tl2 hq_2 (by decide) (Nat.le_refl _) (Nat.le_refl _) (Int.le_refl _)
        have A1 := A1.mono s_2
        have A2 := A2.mono s_2
        have A3 := A3.mono s_2
        have Ag0 := Ag0.mono s_2
        have SD := Src.mono SD s_2
        refine ⟨_, rfl, _, rfl, _, rfl, ?_⟩
        obtain ⟨dl3, _, _, hl3, _, _⟩ := id A2
        obtain ⟨dr3, _, _, hr3, _, _⟩ := id A3
        refine ⟨x2, dl3, _, x3, dr3, _, rfl, hl3, rfl, hr3, x2, x3, z2, z3, rfl, A2, A3, w2.put (by decide) (by decide) (by decide), w3.put (by decide) (by decide) (by decide), w2.tg w3 (by decide), fun xg2 u3 zg2 G_3 tl3 hq_3 s_3 Ag2 => ?_⟩
        have wg2 := w2.mul w3 tl3 hq_3 (by decide) (Nat.le_refl _) (Nat.le_refl _) (Int.le_refl _)
        have A1 := A1.mono s_3
        have A2 := A2.mono s_3
        have A3 := A3.mono s_3
        have Ag0 := Ag0.mono s_3
        have Ag1 := Ag1.mono s_3
        have SD := Src.mono SD s_3
        obtain ⟨dl4, _, _, hl4, _, _⟩ := id A1
        obtain ⟨dr4, _, _, hr4, _, _⟩ := id Ag2
        refine ⟨x1, dl4, _, xg2, dr4, _, rfl, hl4, rfl, hr4, x1, xg2, z1, zg2, rfl, A1, Ag2, w1.put (by decide) (by decide) (by decide), wg2.put (by decide) (by decide) (by decide), w1.tg wg2 (by decide), fun xg3 u4 zg3 G_4 tl4 hq_4 s_4 Ag3 => ?_⟩
        have wg3 := w1.mul wg2 tl4 hq_4 (by decide) (Nat.le_refl _) (Nat.le_refl _) (Int.le_refl _)
        have A1 := A1.mono s_4
        have A2 := A2.mono s_4
        have A3 := A3.mono s_4
        have Ag0 := Ag0.mono s_4
        have Ag1 := Ag1.mono s_4
        have Ag2 := Ag2.mono s_4
        have SD := Src.mono SD s_4
        obtain rfl : zg3 = zg1 := (wg1.uniq wg3 fun o => rfl).symm
        obtain ⟨de5, _, _, he5, _, _⟩ := id Ag1
        obtain ⟨df5, _, _, hf5, _, _⟩ := id Ag3
        refine ⟨xg1, de5, _, _, rfl, he5, tc.ty hf5, nfC, xg1, zg3, .ref xg3, rfl, Ag1, Or.inl ⟨xg3, zg3, rfl, Ag3, _, rfl, iteF' (by simp) ?_⟩⟩
        refine ⟨rfl, 0, rfl, by decide, by decide, fun xs zs GS hys sS As => ?_⟩
        obtain rfl : zs = shPlain 0 := plain_one hys (sh_plain 0) fun n _ => rfl
        have ws : W (shPlain 0) (vl (shPlain 0)) 4 4 11 := ⟨⟨(shHead 0, [1 + maxO 0], 1), hys⟩, (plain_fin (shift_good 0) hys).1, fun _ => rfl, by decide, by decide, by decide⟩
        have A1 := A1.mono sS
        have A2 := A2.mono sS
        have A3 := A3.mono sS
        have SD := Src.mono SD sS
        refine ⟨_, rfl, _, rfl, ?_⟩
        obtain ⟨dl6, _, _, hl6, _, _⟩ := id A1
        obtain ⟨dr6, _, _, hr6, _, _⟩ := id As
        refine ⟨x1, dl6, _, xs, dr6, _, rfl, hl6, rfl, hr6, x1, xs, z1, (shPlain 0), rfl, A1, As, w1.put (by decide) (by decide) (by decide), ws.put (by decide) (by decide) (by decide), w1.tg ws (by decide), fun xi1 u6 zi1 G_6 tl6 hq_6 s_6 Ai1 => ?_⟩
        have wi1 := w1.mul ws tl6 hq_6 (by decide) (Nat.le_refl _) (Nat.le_refl _) (Int.le_refl _)
        have A1 := A1.mono s_6
        have A2 := A2.mono s_6
        have A3 := A3.mono s_6
        have As := As.mono s_6
        have SD := Src.mono SD s_6
        refine ⟨_, rfl, ?_⟩
        obtain rfl : z1 = zi1 := (wi1.uniq w1 fun o => by show vl y1 ((vl (shPlain 0) o).map Int.toNat) = vl y1 o; rw [vl_sh0, nat_back]).symm
        obtain ⟨de7, _, _, he7, _, _⟩ := id Ai1
        obtain ⟨df7, _, _, hf7, _, _⟩ := id A1
        refine ⟨xi1, de7, _, _, rfl, he7, tc.ty hf7, nfC, xi1, z1, .ref x1, rfl, Ai1, Or.inl ⟨x1, z1, rfl, A1, _, rfl, iteF' (by simp) ?_⟩⟩
        refine ⟨_, rfl, _, rfl, ?_⟩
        obtain ⟨dl8, _, _, hl8, _, _⟩ := id As
        obtain ⟨dr8, _, _, hr8, _, _⟩ := id A1
        refine ⟨xs, dl8, _, x1, dr8, _, rfl, hl8, rfl, hr8, xs, x1, (shPlain 0), z1, rfl, As, A1, ws.put (by decide) (by decide) (by decide), w1.put (by decide) (by decide) (by decide), ws.tg w1 (by decide), fun xi0 u8 zi0 G_8 tl8 hq_8 s_8 Ai0 => ?_⟩
        have wi0 := ws.mul w1 tl8 hq_8 (by decide) (Nat.le_refl _) (Nat.le_refl _) (Int.le_refl _)
        have A1 := A1.mono s_8
        have A2 := A2.mono s_8
        have A3 := A3.mono s_8
        have As := As.mono s_8
        have SD := Src.mono SD s_8
        refine ⟨_, rfl, ?_⟩
        obtain rfl : z1 = zi0 := (wi0.uniq w1 fun o => by show vl (shPlain 0) ((vl y1 o).map Int.toNat) = vl y1 o; rw [vl_sh0, toNat_back fun i hi => vl_ge sm1.g hi]).symm
        obtain ⟨de9, _, _, he9, _, _⟩ := id Ai0
        obtain ⟨df9, _, _, hf9, _, _⟩ := id A1
        refine ⟨xi0, de9, _, _, rfl, he9, tc.ty hf9, nfC, xi0, z1, .ref x1, rfl, Ai0, Or.inl ⟨x1, z1, rfl, A1, _, rfl, iteF' (by simp) ?_⟩⟩
        refine ⟨_, rfl, 0, rfl, by decide, by decide, fun ps0 Gp0 sp0 fop0 => ?_⟩
        refine ⟨xs, ps0, shPlain 0, rfl, As.mono sp0, fop0, ws.small (by decide) (by decide) (by decide), w_counts ws, fun Gs0 ss0 => ⟨true, rfl, iteF' rfl ?_⟩⟩
        have sq0 := Same.trans sp0 ss0
        have A1 := A1.mono sq0
        have A2 := A2.mono sq0
        have A3 := A3.mono sq0
        have SD := Src.mono SD sq0
        refine ⟨_, rfl, _, rfl, ?_⟩
        obtain ⟨dl10, _, _, hl10, _, _⟩ := id A1
        obtain ⟨dr10, _, _, hr10, _, _⟩ := id A2
        have k10 := w1.lb w2 (.inl ⟨by decide, by decide, rfl⟩)
        obtain ⟨pr10, sz10⟩ := w1.pair w2 k10 (by decide) (dv12) (by decide) (by decide) (by decide) (by decide) (by decide) (by decide) (by decide)
        refine ⟨x1, dl10, _, x2, dr10, _, rfl, hl10, rfl, hr10, x1, x2, z1, z2, 844, rfl, A1, A2, pr10, sz10, fun xj0 u10 zj0 G_10 tl10 hq_10 s_10 Aj0 => ?_⟩
        have wj0 := w1.op w2 tl10 hq_10 k10 (Int.le_refl _)
        have A1 := A1.mono s_10
        have A2 := A2.mono s_10
        have A3 := A3.mono s_10
        have SD := Src.mono SD s_10
        refine ⟨_, rfl, ?_⟩
        obtain ⟨dl11, _, _, hl11, _, _⟩ := id Aj0
        obtain ⟨dr11, _, _, hr11, _, _⟩ := id A3
        refine ⟨xj0, dl11, _, x3, dr11, _, rfl, hl11, rfl, hr11, xj0, x3, zj0, z3, rfl, Aj0, A3, wj0.put (by decide) (by decide) (by decide), w3.put (by decide) (by decide) (by decide), wj0.tg w3 (by decide), fun xj1 u11 zj1 G_11 tl11 hq_11 s_11 Aj1 => ?_⟩
        have wj1 := wj0.mul w3 tl11 hq_11 (by decide) (Nat.le_refl _) (Nat.le_refl _) (Int.le_refl _)
        have A1 := A1.mono s_11
        have A2 := A2.mono s_11
        have A3 := A3.mono s_11
        have Aj0 := Aj0.mono s_11
        have SD := Src.mono SD s_11
        refine ⟨_, rfl, _, rfl, ?_⟩
        obtain ⟨dl12, _, _, hl12, _, _⟩ := id A1
        obtain ⟨dr12, _, _, hr12, _, _⟩ := id A3
        refine ⟨x1, dl12, _, x3, dr12, _, rfl, hl12, rfl, hr12, x1, x3, z1, z3, rfl, A1, A3, w1.put (by decide) (by decide) (by decide), w3.put (by decide) (by decide) (by decide), w1.tg w3 (by decide), fun xj2 u12 zj2 G_12 tl12 hq_12 s_12 Aj2 => ?_⟩
        have wj2 := w1.mul w3 tl12 hq_12 (by decide) (Nat.le_refl _) (Nat.le_refl _) (Int.le_refl _)
        have A1 := A1.mono s_12
        have A2 := A2.mono s_12
        have A3 := A3.mono s_12
        have Aj0 := Aj0.mono s_12
        have Aj1 := Aj1.mono s_12
        have SD := Src.mono SD s_12
        refine ⟨_, rfl, _, rfl, ?_⟩
        obtain ⟨dl13, _, _, hl13, _, _⟩ := id A2
        obtain ⟨dr13, _, _, hr13, _, _⟩ := id A3
        refine ⟨x2, dl13, _, x3, dr13, _, rfl, hl13, rfl, hr13, x2, x3, z2, z3, rfl, A2, A3, w2.put (by decide) (by decide) (by decide), w3.put (by decide) (by decide) (by decide), w2.tg w3 (by decide), fun xj3 u13 zj3 G_13 tl13 hq_13 s_13 Aj3 => ?_⟩
        have wj3 := w2.mul w3 tl13 hq_13 (by decide) (Nat.le_refl _) (Nat.le_refl _) (Int.le_refl _)
        have A1 := A1.mono s_13
        have A2 := A2.mono s_13
        have A3 := A3.mono s_13
        have Aj0 := Aj0.mono s_13
        have Aj1 := Aj1.mono s_13
        have Aj2 := Aj2.mono s_13
        have SD := Src.mono SD s_13
        obtain ⟨dl14, _, _, hl14, _, _⟩ := id Aj2
        obtain ⟨dr14, _, _, hr14, _, _⟩ := id Aj3
        have k14 := wj2.lb wj3 (.inr ⟨by decide, by decide, rfl⟩)
        obtain ⟨pr14, sz14⟩ := wj2.pair wj3 k14 (by decide) (domL) (by decide) (by decide) (by decide) (by decide) (by decide) (by decide) (by decide)
        refine ⟨xj2, dl14, _, xj3, dr14, _, rfl, hl14, rfl, hr14, xj2, xj3, zj2, zj3, 3384, rfl, Aj2, Aj3, pr14, sz14, fun xj4 u14 zj4 G_14 tl14 hq_14 s_14 Aj4 => ?_⟩
        have wj4 := wj2.op wj3 tl14 hq_14 k14 (Int.le_refl _)
        have A1 := A1.mono s_14
        have A2 := A2.mono s_14
        have A3 := A3.mono s_14
        have Aj0 := Aj0.mono s_14
        have Aj1 := Aj1.mono s_14
        have Aj2 := Aj2.mono s_14
        have Aj3 := Aj3.mono s_14
        have SD := Src.mono SD s_14
        obtain rfl : zj4 = zj1 := (wj1.uniq wj4 fun o => rfl).symm
        obtain ⟨de15, _, _, he15, _, _⟩ := id Aj1
        obtain ⟨df15, _, _, hf15, _, _⟩ := id Aj4
        refine ⟨xj1, de15, _, _, rfl, he15, tc.ty hf15, nfC, xj1, zj4, .ref xj4, rfl, Aj1, Or.inl ⟨xj4, zj4, rfl, Aj4, _, rfl, iteF' (by simp) ?_⟩⟩
        refine ⟨_, rfl, _, rfl, _, rfl, ?_⟩
        obtain ⟨dl16, _, _, hl16, _, _⟩ := id A1
        obtain ⟨dr16, _, _, hr16, _, _⟩ := id A2
        have k16 := w1.lb w2 (.inl ⟨by decide, by decide, rfl⟩)
        obtain ⟨pr16, sz16⟩ := w1.pair w2 k16 (by decide) (dv12) (by decide) (by decide) (by decide) (by decide) (by decide) (by decide) (by decide)
        refine ⟨x1, dl16, _, x2, dr16, _, rfl, hl16, rfl, hr16, x1, x2, z1, z2, 844, rfl, A1, A2, pr16, sz16, fun xj5 u16 zj5 G_16 tl16 hq_16 s_16 Aj5 => ?_⟩
        have wj5 := w1.op w2 tl16 hq_16 k16 (Int.le_refl _)
        have A1 := A1.mono s_16
        have A2 := A2.mono s_16
        have A3 := A3.mono s_16
        have SD := Src.mono SD s_16
        obtain ⟨dl17, _, _, hl17, _, _⟩ := id A3
        obtain ⟨dr17, _, _, hr17, _, _⟩ := id Aj5
        refine ⟨x3, dl17, _, xj5, dr17, _, rfl, hl17, rfl, hr17, x3, xj5, z3, zj5, rfl, A3, Aj5, w3.put (by decide) (by decide) (by decide), wj5.put (by decide) (by decide) (by decide), w3.tg wj5 (by decide), fun xj6 u17 zj6 G_17 tl17 hq_17 s_17 Aj6 => ?_⟩
        have wj6 := w3.mul wj5 tl17 hq_17 (by decide) (Nat.le_refl _) (Nat.le_refl _) (Int.le_refl _)
        have A1 := A1.mono s_17
        have A2 := A2.mono s_17
        have A3 := A3.mono s_17
        have Aj5 := Aj5.mono s_17
        have SD := Src.mono SD s_17
        refine ⟨_, rfl, _, rfl, ?_⟩
        obtain ⟨dl18, _, _, hl18, _, _⟩ := id A3
        obtain ⟨dr18, _, _, hr18, _, _⟩ := id A1
        refine ⟨x3, dl18, _, x1, dr18, _, rfl, hl18, rfl, hr18, x3, x1, z3, z1, rfl, A3, A1, w3.put (by decide) (by decide) (by decide), w1.put (by decide) (by decide) (by decide), w3.tg w1 (by decide), fun xj7 u18 zj7 G_18 tl18 hq_18 s_18 Aj7 => ?_⟩
        have wj7 := w3.mul w1 tl18 hq_18 (by decide) (Nat.le_refl _) (Nat.le_refl _) (Int.le_refl _)
        have A1 := A1.mono s_18
        have A2 := A2.mono s_18
        have A3 := A3.mono s_18
        have Aj5 := Aj5.mono s_18
        have Aj6 := Aj6.mono s_18
        have SD := Src.mono SD s_18
        refine ⟨_, rfl, _, rfl, ?_⟩
        obtain ⟨dl19, _, _, hl19, _, _⟩ := id A3
        obtain ⟨dr19, _, _, hr19, _, _⟩ := id A2
        refine ⟨x3, dl19, _, x2, dr19, _, rfl, hl19, rfl, hr19, x3, x2, z3, z2, rfl, A3, A2, w3.put (by decide) (by decide) (by decide), w2.put (by decide) (by decide) (by decide), w3.tg w2 (by decide), fun xj8 u19 zj8 G_19 tl19 hq_19 s_19 Aj8 => ?_⟩
        have wj8 := w3.mul w2 tl19 hq_19 (by decide) (Nat.le_refl _) (Nat.le_refl _) (Int.le_refl _)
        have A1 := A1.mono s_19
        have A2 := A2.mono s_19
        have A3 := A3.mono s_19
        have Aj5 := Aj5.mono s_19
        have Aj6 := Aj6.mono s_19
        have Aj7 := Aj7.mono s_19
        have SD := Src.mono SD s_19
        obtain ⟨dl20, _, _, hl20, _, _⟩ := id Aj7
        obtain ⟨dr20, _, _, hr20, _, _⟩ := id Aj8
        have k20 := wj7.lb wj8 (.inr ⟨by decide, by decide, rfl⟩)
        obtain ⟨pr20, sz20⟩ := wj7.pair wj8 k20 (by decide) (domR) (by decide) (by decide) (by decide) (by decide) (by decide) (by decide) (by decide)
        refine ⟨xj7, dl20, _, xj8, dr20, _, rfl, hl20, rfl, hr20, xj7, xj8, zj7, zj8, 844, rfl, Aj7, Aj8, pr20, sz20, fun xj9 u20 zj9 G_20 tl20 hq_20 s_20 Aj9 => ?_⟩
        have wj9 := wj7.op wj8 tl20 hq_20 k20 (Int.le_refl _)
        have A1 := A1.mono s_20
        have A2 := A2.mono s_20
        have A3 := A3.mono s_20
        have Aj5 := Aj5.mono s_20
        have Aj6 := Aj6.mono s_20
        have Aj7 := Aj7.mono s_20
        have Aj8 := Aj8.mono s_20
        have SD := Src.mono SD s_20
        obtain rfl : zj9 = zj6 := (wj6.uniq wj9 fun o => mono_chO (f := fun x => vl y3 (x.map Int.toNat)) (fun x y k => val_leE sm3.g (toE k)) false _ _).symm
        obtain ⟨de21, _, _, he21, _, _⟩ := id Aj6
        obtain ⟨df21, _, _, hf21, _, _⟩ := id Aj9
        refine ⟨xj6, de21, _, _, rfl, he21, tc.ty hf21, nfC, xj6, zj9, .ref xj9, rfl, Aj6, Or.inl ⟨xj9, zj9, rfl, Aj9, _, rfl, iteF' (by simp) ?_⟩⟩
        refine ⟨_, rfl, _, rfl, ?_⟩
        obtain ⟨dl22, _, _, hl22, _, _⟩ := id A1
        obtain ⟨dr22, _, _, hr22, _, _⟩ := id A2
        have k22 := w1.lb w2 (.inl ⟨by decide, by decide, rfl⟩)
        obtain ⟨pr22, sz22⟩ := w1.pair w2 k22 (by decide) (dv12) (by decide) (by decide) (by decide) (by decide) (by decide) (by decide) (by decide)
        refine ⟨x1, dl22, _, x2, dr22, _, rfl, hl22, rfl, hr22, x1, x2, z1, z2, 844, rfl, A1, A2, pr22, sz22, fun xm0 u22 zm0 G_22 tl22 hq_22 s_22 Am0 => ?_⟩
        have wm0 := w1.op w2 tl22 hq_22 k22 (Int.le_refl _)
        have A1 := A1.mono s_22
        have A2 := A2.mono s_22
        have A3 := A3.mono s_22
        have SD := Src.mono SD s_22
        refine ⟨_, rfl, ?_⟩
        obtain ⟨dl23, _, _, hl23, _, _⟩ := id Am0
        obtain ⟨dr23, _, _, hr23, _, _⟩ := id A3
        refine ⟨xm0, dl23, _, x3, dr23, _, rfl, hl23, rfl, hr23, xm0, x3, zm0, z3, rfl, Am0, A3, wm0.put (by decide) (by decide) (by decide), w3.put (by decide) (by decide) (by decide), wm0.tg w3 (by decide), fun xm1 u23 zm1 G_23 tl23 hq_23 s_23 Am1 => ?_⟩
        have wm1 := wm0.mul w3 tl23 hq_23 (by decide) (Nat.le_refl _) (Nat.le_refl _) (Int.le_refl _)
        have A1 := A1.mono s_23
        have A2 := A2.mono s_23
        have A3 := A3.mono s_23
        have Am0 := Am0.mono s_23
        have SD := Src.mono SD s_23
        refine ⟨_, rfl, _, rfl, ?_⟩
        obtain ⟨dl24, _, _, hl24, _, _⟩ := id A1
        obtain ⟨dr24, _, _, hr24, _, _⟩ := id A3
        refine ⟨x1, dl24, _, x3, dr24, _, rfl, hl24, rfl, hr24, x1, x3, z1, z3, rfl, A1, A3, w1.put (by decide) (by decide) (by decide), w3.put (by decide) (by decide) (by decide), w1.tg w3 (by decide), fun xm2 u24 zm2 G_24 tl24 hq_24 s_24 Am2 => ?_⟩
        have wm2 := w1.mul w3 tl24 hq_24 (by decide) (Nat.le_refl _) (Nat.le_refl _) (Int.le_refl _)
        have A1 := A1.mono s_24
        have A2 := A2.mono s_24
        have A3 := A3.mono s_24
        have Am0 := Am0.mono s_24
        have Am1 := Am1.mono s_24
        have SD := Src.mono SD s_24
        refine ⟨_, rfl, _, rfl, ?_⟩
        obtain ⟨dl25, _, _, hl25, _, _⟩ := id A2
        obtain ⟨dr25, _, _, hr25, _, _⟩ := id A3
        refine ⟨x2, dl25, _, x3, dr25, _, rfl, hl25, rfl, hr25, x2, x3, z2, z3, rfl, A2, A3, w2.put (by decide) (by decide) (by decide), w3.put (by decide) (by decide) (by decide), w2.tg w3 (by decide), fun xm3 u25 zm3 G_25 tl25 hq_25 s_25 Am3 => ?_⟩
        have wm3 := w2.mul w3 tl25 hq_25 (by decide) (Nat.le_refl _) (Nat.le_refl _) (Int.le_refl _)
        have A1 := A1.mono s_25
        have A2 := A2.mono s_25
        have A3 := A3.mono s_25
        have Am0 := Am0.mono s_25
        have Am1 := Am1.mono s_25
        have Am2 := Am2.mono s_25
        have SD := Src.mono SD s_25
        obtain ⟨dl26, _, _, hl26, _, _⟩ := id Am2
        obtain ⟨dr26, _, _, hr26, _, _⟩ := id Am3
        have k26 := wm2.lb wm3 (.inr ⟨by decide, by decide, rfl⟩)
        obtain ⟨pr26, sz26⟩ := wm2.pair wm3 k26 (by decide) (domL) (by decide) (by decide) (by decide) (by decide) (by decide) (by decide) (by decide)
        refine ⟨xm2, dl26, _, xm3, dr26, _, rfl, hl26, rfl, hr26, xm2, xm3, zm2, zm3, 3384, rfl, Am2, Am3, pr26, sz26, fun xm4 u26 zm4 G_26 tl26 hq_26 s_26 Am4 => ?_⟩
        have wm4 := wm2.op wm3 tl26 hq_26 k26 (Int.le_refl _)
        have A1 := A1.mono s_26
        have A2 := A2.mono s_26
        have A3 := A3.mono s_26
        have Am0 := Am0.mono s_26
        have Am1 := Am1.mono s_26
        have Am2 := Am2.mono s_26
        have Am3 := Am3.mono s_26
        have SD := Src.mono SD s_26
        obtain rfl : zm4 = zm1 := (wm1.uniq wm4 fun o => rfl).symm
        obtain ⟨de27, _, _, he27, _, _⟩ := id Am1
        obtain ⟨df27, _, _, hf27, _, _⟩ := id Am4
        refine ⟨xm1, de27, _, _, rfl, he27, tc.ty hf27, nfC, xm1, zm4, .ref xm4, rfl, Am1, Or.inl ⟨xm4, zm4, rfl, Am4, _, rfl, iteF' (by simp) ?_⟩⟩
        refine ⟨_, rfl, _, rfl, _, rfl, ?_⟩
        obtain ⟨dl28, _, _, hl28, _, _⟩ := id A1
        obtain ⟨dr28, _, _, hr28, _, _⟩ := id A2
        have k28 := w1.lb w2 (.inl ⟨by decide, by decide, rfl⟩)
        obtain ⟨pr28, sz28⟩ := w1.pair w2 k28 (by decide) (dv12) (by decide) (by decide) (by decide) (by decide) (by decide) (by decide) (by decide)
        refine ⟨x1, dl28, _, x2, dr28, _, rfl, hl28, rfl, hr28, x1, x2, z1, z2, 844, rfl, A1, A2, pr28, sz28, fun xm5 u28 zm5 G_28 tl28 hq_28 s_28 Am5 => ?_⟩
        have wm5 := w1.op w2 tl28 hq_28 k28 (Int.le_refl _)
        have A1 := A1.mono s_28
        have A2 := A2.mono s_28
        have A3 := A3.mono s_28
        have SD := Src.mono SD s_28
        obtain ⟨dl29, _, _, hl29, _, _⟩ := id A3
        obtain ⟨dr29, _, _, hr29, _, _⟩ := id Am5
        refine ⟨x3, dl29, _, xm5, dr29, _, rfl, hl29, rfl, hr29, x3, xm5, z3, zm5, rfl, A3, Am5, w3.put (by decide) (by decide) (by decide), wm5.put (by decide) (by decide) (by decide), w3.tg wm5 (by decide), fun xm6 u29 zm6 G_29 tl29 hq_29 s_29 Am6 => ?_⟩
        have wm6 := w3.mul wm5 tl29 hq_29 (by decide) (Nat.le_refl _) (Nat.le_refl _) (Int.le_refl _)
        have A1 := A1.mono s_29
        have A2 := A2.mono s_29
        have A3 := A3.mono s_29
        have Am5 := Am5.mono s_29
        have SD := Src.mono SD s_29
        refine ⟨_, rfl, _, rfl, ?_⟩
        obtain ⟨dl30, _, _, hl30, _, _⟩ := id A3
        obtain ⟨dr30, _, _, hr30, _, _⟩ := id A1
        refine ⟨x3, dl30, _, x1, dr30, _, rfl, hl30, rfl, hr30, x3, x1, z3, z1, rfl, A3, A1, w3.put (by decide) (by decide) (by decide), w1.put (by decide) (by decide) (by decide), w3.tg w1 (by decide), fun xm7 u30 zm7 G_30 tl30 hq_30 s_30 Am7 => ?_⟩
        have wm7 := w3.mul w1 tl30 hq_30 (by decide) (Nat.le_refl _) (Nat.le_refl _) (Int.le_refl _)
        have A1 := A1.mono s_30
        have A2 := A2.mono s_30
        have A3 := A3.mono s_30
        have Am5 := Am5.mono s_30
        have Am6 := Am6.mono s_30
        have SD := Src.mono SD s_30
        refine ⟨_, rfl, _, rfl, ?_⟩
        obtain ⟨dl31, _, _, hl31, _, _⟩ := id A3
        obtain ⟨dr31, _, _, hr31, _, _⟩ := id A2
        refine ⟨x3, dl31, _, x2, dr31, _, rfl, hl31, rfl, hr31, x3, x2, z3, z2, rfl, A3, A2, w3.put (by decide) (by decide) (by decide), w2.put (by decide) (by decide) (by decide), w3.tg w2 (by decide), fun xm8 u31 zm8 G_31 tl31 hq_31 s_31 Am8 => ?_⟩
        have wm8 := w3.mul w2 tl31 hq_31 (by decide) (Nat.le_refl _) (Nat.le_refl _) (Int.le_refl _)
        have A1 := A1.mono s_31
        have A2 := A2.mono s_31
        have A3 := A3.mono s_31
        have Am5 := Am5.mono s_31
        have Am6 := Am6.mono s_31
        have Am7 := Am7.mono s_31
        have SD := Src.mono SD s_31
        obtain ⟨dl32, _, _, hl32, _, _⟩ := id Am7
        obtain ⟨dr32, _, _, hr32, _, _⟩ := id Am8
        have k32 := wm7.lb wm8 (.inr ⟨by decide, by decide, rfl⟩)
        obtain ⟨pr32, sz32⟩ := wm7.pair wm8 k32 (by decide) (domR) (by decide) (by decide) (by decide) (by decide) (by decide) (by decide) (by decide)
        refine ⟨xm7, dl32, _, xm8, dr32, _, rfl, hl32, rfl, hr32, xm7, xm8, zm7, zm8, 844, rfl, Am7, Am8, pr32, sz32, fun xm9 u32 zm9 G_32 tl32 hq_32 s_32 Am9 => ?_⟩
        have wm9 := wm7.op wm8 tl32 hq_32 k32 (Int.le_refl _)
        have A1 := A1.mono s_32
        have A2 := A2.mono s_32
        have A3 := A3.mono s_32
        have Am5 := Am5.mono s_32
        have Am6 := Am6.mono s_32
        have Am7 := Am7.mono s_32
        have Am8 := Am8.mono s_32
        have SD := Src.mono SD s_32
        obtain rfl : zm9 = zm6 := (wm6.uniq wm9 fun o => mono_chO (f := fun x => vl y3 (x.map Int.toNat)) (fun x y k => val_leE sm3.g (toE k)) true _ _).symm
        obtain ⟨de33, _, _, he33, _, _⟩ := id Am6
        obtain ⟨df33, _, _, hf33, _, _⟩ := id Am9
        refine ⟨xm6, de33, _, _, rfl, he33, tc.ty hf33, nfC, xm6, zm9, .ref xm9, rfl, Am6, Or.inl ⟨xm9, zm9, rfl, Am9, _, rfl, iteF' (by simp) ?_⟩⟩
        refine ⟨_, rfl, _, rfl, ?_⟩
        obtain ⟨dl34, _, _, hl34, _, _⟩ := id A1
        obtain ⟨dr34, _, _, hr34, _, _⟩ := id A2
        have k34 := w1.lb w2 (.inl ⟨by decide, by decide, rfl⟩)
        obtain ⟨pr34, sz34⟩ := w1.pair w2 k34 (by decide) (dv12) (by decide) (by decide) (by decide) (by decide) (by decide) (by decide) (by decide)
        refine ⟨x1, dl34, _, x2, dr34, _, rfl, hl34, rfl, hr34, x1, x2, z1, z2, 844, rfl, A1, A2, pr34, sz34, fun xlo u34 zlo G_34 tl34 hq_34 s_34 Alo => ?_⟩
        have wlo := w1.op w2 tl34 hq_34 k34 (Int.le_refl _)
        have A1 := A1.mono s_34
        have A2 := A2.mono s_34
        have A3 := A3.mono s_34
        have SD := Src.mono SD s_34
        have le1 : ∀ o, leO (chO false (vl y1 o) (vl y2 o)) (vl y1 o) := fun o => by
          rcases leO.total (vl y1 o) (vl y2 o) with q | q
          · rw [(chO_le q).2]; exact leO.refl _
          · rw [(chO_ge q).2]; exact q
        have le2 : ∀ o, leO (chO false (vl y1 o) (vl y2 o)) (vl y2 o) := fun o => by
          rcases leO.total (vl y1 o) (vl y2 o) with q | q
          · rw [(chO_le q).2]; exact q
          · rw [(chO_ge q).2]; exact leO.refl _
        refine ⟨_, rfl, _, rfl, ?_⟩
        obtain ⟨dl35, _, _, hl35, _, _⟩ := id Alo
        obtain ⟨dr35, _, _, hr35, _, _⟩ := id A3
        refine ⟨xlo, dl35, _, x3, dr35, _, rfl, hl35, rfl, hr35, xlo, x3, zlo, z3, rfl, Alo, A3, wlo.put (by decide) (by decide) (by decide), w3.put (by decide) (by decide) (by decide), wlo.tg w3 (by decide), fun xr0 u35 zr0 G_35 tl35 hq_35 s_35 Ar0 => ?_⟩
        have wr0 := wlo.mul w3 tl35 hq_35 (by decide) (Nat.le_refl _) (Nat.le_refl _) (Int.le_refl _)
        have A1 := A1.mono s_35
        have A2 := A2.mono s_35
        have A3 := A3.mono s_35
        have Alo := Alo.mono s_35
        have SD := Src.mono SD s_35
        refine ⟨_, rfl, _, rfl, ?_⟩
        obtain ⟨dl36, _, _, hl36, _, _⟩ := id A1
        obtain ⟨dr36, _, _, hr36, _, _⟩ := id A3
        refine ⟨x1, dl36, _, x3, dr36, _, rfl, hl36, rfl, hr36, x1, x3, z1, z3, rfl, A1, A3, w1.put (by decide) (by decide) (by decide), w3.put (by decide) (by decide) (by decide), w1.tg w3 (by decide), fun xr1 u36 zr1 G_36 tl36 hq_36 s_36 Ar1 => ?_⟩
        have wr1 := w1.mul w3 tl36 hq_36 (by decide) (Nat.le_refl _) (Nat.le_refl _) (Int.le_refl _)
        have A1 := A1.mono s_36
        have A2 := A2.mono s_36
        have A3 := A3.mono s_36
        have Alo := Alo.mono s_36
        have Ar0 := Ar0.mono s_36
        have SD := Src.mono SD s_36
        refine ⟨xr0, xr1, zr0, zr1, rfl, Ar0, Ar1, wr0.fit (by decide) (by decide) (by decide), wr1.fit (by decide) (by decide) (by decide), Nat.le_trans wr0.h (by decide), fun xbp op Gbp lstp sbp belp => ?_⟩
        obtain rfl := exc_no wr0 wr1 (fun o => le1 _) lstp
        obtain ⟨dbp, sdp, hbp, _⟩ := belp
        refine ⟨xbp, CB, dbp, _, _, rfl, hbp, hb.cl, hb.ho, rfl, _, _, rfl, rfl, _, rfl, iteF' rfl ?_⟩
        have A1 := A1.mono sbp
        have A2 := A2.mono sbp
        have A3 := A3.mono sbp
        have Alo := Alo.mono sbp
        have Ar0 := Ar0.mono sbp
        have Ar1 := Ar1.mono sbp
        have SD := Src.mono SD sbp
        refine ⟨_, rfl, _, rfl, ?_⟩
        obtain ⟨dl37, _, _, hl37, _, _⟩ := id A3
        obtain ⟨dr37, _, _, hr37, _, _⟩ := id Alo
        refine ⟨x3, dl37, _, xlo, dr37, _, rfl, hl37, rfl, hr37, x3, xlo, z3, zlo, rfl, A3, Alo, w3.put (by decide) (by decide) (by decide), wlo.put (by decide) (by decide) (by decide), w3.tg wlo (by decide), fun xr2 u37 zr2 G_37 tl37 hq_37 s_37 Ar2 => ?_⟩
        have wr2 := w3.mul wlo tl37 hq_37 (by decide) (Nat.le_refl _) (Nat.le_refl _) (Int.le_refl _)
        have A1 := A1.mono s_37
        have A2 := A2.mono s_37
        have A3 := A3.mono s_37
        have Alo := Alo.mono s_37
        have SD := Src.mono SD s_37
        refine ⟨_, rfl, _, rfl, ?_⟩
        obtain ⟨dl38, _, _, hl38, _, _⟩ := id A3
        obtain ⟨dr38, _, _, hr38, _, _⟩ := id A2
        refine ⟨x3, dl38, _, x2, dr38, _, rfl, hl38, rfl, hr38, x3, x2, z3, z2, rfl, A3, A2, w3.put (by decide) (by decide) (by decide), w2.put (by decide) (by decide) (by decide), w3.tg w2 (by decide), fun xr3 u38 zr3 G_38 tl38 hq_38 s_38 Ar3 => ?_⟩
        have wr3 := w3.mul w2 tl38 hq_38 (by decide) (Nat.le_refl _) (Nat.le_refl _) (Int.le_refl _)
        have A1 := A1.mono s_38
        have A2 := A2.mono s_38
        have A3 := A3.mono s_38
        have Alo := Alo.mono s_38
        have Ar2 := Ar2.mono s_38
        have SD := Src.mono SD s_38
        refine ⟨xr2, xr3, zr2, zr3, rfl, Ar2, Ar3, wr2.fit (by decide) (by decide) (by decide), wr3.fit (by decide) (by decide) (by decide), Nat.le_trans wr2.h (by decide), fun xbq oq Gbq lstq sbq belq => ?_⟩
        obtain rfl := exc_no wr2 wr3 (fun o => val_leE sm3.g (toE (le2 o))) lstq
        obtain ⟨dbq, sdq, hbq, _⟩ := belq
        refine ⟨xbq, CB, dbq, _, _, rfl, hbq, hb.cl, hb.ho, rfl, _, _, rfl, rfl, _, rfl, iteF' rfl ?_⟩
        have A1 := A1.mono sbq
        have A2 := A2.mono sbq
        have A3 := A3.mono sbq
        have Alo := Alo.mono sbq
        have Ar2 := Ar2.mono sbq
        have Ar3 := Ar3.mono sbq
        have SD := Src.mono SD sbq
        refine ⟨_, rfl, wo _ p3, p3, 6, rfl, wo_same', wo_none, SD, by decide, by decide, fun kd GK kd0 kd1 sK SK => ?_⟩
        refine ⟨rfl, _, rfl, kd, rfl, by omega, by omega, fun xu zu GU hzu sU Au => ?_⟩
        refine ⟨rfl, _, rfl, _, rfl, -kd, rfl, by omega, by omega, fun xv zv GV hzv sV Av => ?_⟩
        have Au := Au.mono sV
        obtain rfl : zu = shPlain kd := plain_one hzu (sh_plain kd) fun n _ => rfl
        obtain rfl : zv = shPlain (-kd) := plain_one hzv (sh_plain (-kd)) fun n _ => rfl
        have su := sh_sm (k := kd) (by omega) (by omega)
        have sv := sh_sm (k := -kd) (by omega) (by omega)
        have wu : W (shPlain kd) (vl (shPlain kd)) 4 4 11 := ⟨⟨(shHead kd, [1 + maxO kd], 1), hzu⟩, su.g, fun _ => rfl, su.h, su.l, su.r⟩
        have wv : W (shPlain (-kd)) (vl (shPlain (-kd))) 4 4 11 := ⟨⟨(shHead (-kd), [1 + maxO (-kd)], 1), hzv⟩, sv.g, fun _ => rfl, sv.h, sv.l, sv.r⟩
        obtain ⟨dl39, _, _, hl39, _, _⟩ := id Au
        obtain ⟨dr39, _, _, hr39, _, _⟩ := id Av
        refine ⟨xu, dl39, _, xv, dr39, _, rfl, hl39, rfl, hr39, xu, xv, (shPlain kd), (shPlain (-kd)), rfl, Au, Av, wu.put (by decide) (by decide) (by decide), wv.put (by decide) (by decide) (by decide), wu.tg wv (by decide), fun xsm u39 zsm G_39 tl39 hq_39 s_39 Asm => ?_⟩
        have wsm := wu.mul wv tl39 hq_39 (by decide) (Nat.le_refl _) (Nat.le_refl _) (Int.le_refl _)
        refine ⟨_, rfl, kd, rfl, by omega, by omega, fun pa Ga sa foa => ?_⟩
        refine ⟨_, rfl, _, rfl, -kd, rfl, by omega, by omega, fun pb Gb sb fob => ?_⟩
        refine ⟨pa, pb, shPlain kd, shPlain (-kd), rfl, foa.mono sb, fob, su.put0, sv.put0, fun pc uc zc Gc sc tlc hzc foc => ?_⟩
        obtain rfl : zsm = zc := (wsm.uniq (mul_raw su.g sv.g tlc hzc) fun _ => rfl)
        refine ⟨pc, zsm, rfl, foc, ⟨wsm.g, Nat.le_trans wsm.h (by decide), Nat.le_trans wsm.l (by decide), Int.le_trans wsm.r (by decide)⟩, fun xt zt Gt hzt st At => ?_⟩
        have wt : W zt (vl zsm) zt.1.length zt.2.1.length zt.2.2 := ⟨⟨zsm, hzt⟩, (plain_fin wsm.g hzt).1, fun o => val_plain wsm.g hzt o, Nat.le_refl _, Nat.le_refl _, Int.le_refl _⟩
        have Asm := Asm.mono (Same.trans sa (Same.trans sb (Same.trans sc st)))
        obtain rfl : zt = zsm := (wsm.uniq wt fun o => (wsm.e o).symm).symm
        obtain ⟨de40, _, _, he40, _, _⟩ := id Asm
        obtain ⟨df40, _, _, hf40, _, _⟩ := id At
        refine ⟨xsm, de40, _, _, rfl, he40, tc.ty hf40, nfC, xsm, zt, .ref xt, rfl, Asm, Or.inl ⟨xt, zt, rfl, At, ?_⟩⟩
        rw [decide_eq_true rfl]
        exact k _
end
end K05
set_option Elab.async false
set_option linter.all false
set_option maxRecDepth 100000
set_option maxHeartbeats 4000000
namespace K05
open PySem PySem.Spec PyProof.Rows L2 He NF RZ NT
theorem all_ok {P : Program} {w : World} {K : PySem.W.Frag} {h : Heap} {mg : Str → Option Value} {f : Addr} (X : K.In h) (G : h.Ns mainGlobals mg) (hfa : mg ("law" : Str) = some (.ref f)) (c : SaysP exB fn K) :
    ∃ fd : FuncData, (∀ (s : Shared) (v : Value), BindsTo s fd ⟨[v], []⟩ [("_law_script", v)]) ∧ ∀ base : Heap, K.In base → base.Ns mainGlobals mg → FnOk P w K mg base CX0 12 f fd ["_law_script"] (spLaw K) := by
  have ht : ∀ f ∈ exL, f K = true := fun f hf => List.all_eq_true.mp c.truth f hf
  have b_nam : (namB gs FS) K = true := ht _ (List.mem_of_getElem? (i := 0) rfl)
  have b_blt_gcd : (bltB "gcd" "math.gcd") K = true := ht _ (List.mem_of_getElem? (i := 1) rfl)
  have b_blt_lcm : (bltB "lcm" "math.lcm") K = true := ht _ (List.mem_of_getElem? (i := 2) rfl)
  have b_int_LONGEST_SHIFT : (intB "LONGEST_SHIFT" 5000) K = true := ht _ (List.mem_of_getElem? (i := 3) rfl)
  have b_cls : (clsB "Table") K = true := ht _ (List.mem_of_getElem? (i := 4) rfl)
  have b_fld : (fldsB "Table" ["head", "loop", "rise"]) K = true := ht _ (List.mem_of_getElem? (i := 5) rfl)
  have b_ty : (tyB "Table") K = true := ht _ (List.mem_of_getElem? (i := 6) rfl)
  have b_mk_Table : (mkB "Table") K = true := ht _ (List.mem_of_getElem? (i := 7) rfl)
  have b_eq : (eqB "Table") K = true := ht _ (List.mem_of_getElem? (i := 8) rfl)
  have b_call : (callB "Table") K = true := ht _ (List.mem_of_getElem? (i := 9) rfl)
  have b_bin_and : (binB "Table" "__and__") K = true := ht _ (List.mem_of_getElem? (i := 10) rfl)
  have b_bin_or : (binB "Table" "__or__") K = true := ht _ (List.mem_of_getElem? (i := 11) rfl)
  have b_bin_mul : (binB "Table" "__mul__") K = true := ht _ (List.mem_of_getElem? (i := 12) rfl)
  have b_sta_shift : (staB "Table" "shift") K = true := ht _ (List.mem_of_getElem? (i := 13) rfl)
  have b_clsC : (clsB "Chase") K = true := ht _ (List.mem_of_getElem? (i := 14) rfl)
  have b_fldC : (fldsB "Chase" ["start", "lap", "window", "drift", "ladders", "runners"]) K = true := ht _ (List.mem_of_getElem? (i := 15) rfl)
  have b_mk_Chase : (mkB "Chase") K = true := ht _ (List.mem_of_getElem? (i := 16) rfl)
  have b_met_ladder_from : (metB "Chase" "ladder_from") K = true := ht _ (List.mem_of_getElem? (i := 17) rfl)
  have b_met_runners_of : (metB "Chase" "runners_of") K = true := ht _ (List.mem_of_getElem? (i := 18) rfl)
  have b_met_first_lead : (metB "Chase" "first_lead") K = true := ht _ (List.mem_of_getElem? (i := 19) rfl)
  have b_met_last_lead : (metB "Chase" "last_lead") K = true := ht _ (List.mem_of_getElem? (i := 20) rfl)
  have b_met_place_of : (metB "Chase" "place_of") K = true := ht _ (List.mem_of_getElem? (i := 21) rfl)
  have b_clsB : (clsB "Below") K = true := ht _ (List.mem_of_getElem? (i := 22) rfl)
  have b_fldB : (fldsB "Below" ["holds", "first", "second", "place", "sides"]) K = true := ht _ (List.mem_of_getElem? (i := 23) rfl)
  have b_mk_Below : (mkB "Below") K = true := ht _ (List.mem_of_getElem? (i := 24) rfl)
  have b_fun_Verdict_init : (funB "Verdict" "__init__") K = true := ht _ (List.mem_of_getElem? (i := 25) rfl)
  have T : Txt K mg gs FS := nam_ok b_nam X G
  have h_gcd := blt_ok b_blt_gcd X G
  have h_lcm := blt_ok b_blt_lcm X G
  obtain ⟨tok_LONGEST_SHIFT, h_LONGEST_SHIFT⟩ := int_ok b_int_LONGEST_SHIFT X G
  have tcl := cls_ok b_cls
  have ty := ty_ok b_ty
  have tc : TabC K (ga K "Table") := ⟨tcl, flds_ok b_fld (by decide +kernel), flds_ok b_fld (by decide +kernel), flds_ok b_fld (by decide +kernel), ty.ac, ty.ag, ty.at_, ty.am, ty.self, ty.tup, ty.int, ty.non⟩
  have hcc : ChC K (ga K "Chase") := ⟨cls_ok b_clsC, flds_ok b_fldC (by decide +kernel), flds_ok b_fldC (by decide +kernel), flds_ok b_fldC (by decide +kernel), flds_ok b_fldC (by decide +kernel), flds_ok b_fldC (by decide +kernel), flds_ok b_fldC (by decide +kernel)⟩
  have hbb : BelC K (ga K "Below") := ⟨cls_ok b_clsB, flds_ok b_fldB (by decide +kernel), flds_ok b_fldB (by decide +kernel), flds_ok b_fldB (by decide +kernel), flds_ok b_fldB (by decide +kernel), flds_ok b_fldB (by decide +kernel)⟩
  obtain ⟨f0, F0⟩ := c.def_ 0 (d := dG "shortest_lap" s_shortest_lap) rfl
  obtain ⟨f1, F1⟩ := c.def_ 1 (d := dG "plain_form" s_plain_form) rfl
  obtain ⟨f2, F2⟩ := c.def_ 2 (d := dG "is_integer" s_is_integer) rfl
  obtain ⟨f3, F3⟩ := c.def_ 3 (d := dG "is_count" s_is_count) rfl
  obtain ⟨f4, F4⟩ := c.def_ 4 (d := dG "is_row" s_is_row) rfl
  obtain ⟨f5, F5⟩ := c.def_ 5 (d := dG "is_climb" s_is_climb) rfl
  obtain ⟨f6, F6⟩ := c.def_ 6 (d := dG "check_table" s_check_table) rfl
  obtain ⟨f7, F7⟩ := c.def_ 7 (d := dM "Table" "__init__" "Table.__init__" s_Table_init [.adr e0, .int 0]) rfl
  obtain ⟨f8, F8⟩ := c.def_ 8 (d := dG "end_of" s_end_of) rfl
  obtain ⟨f9, F9⟩ := c.def_ 9 (d := dG "value_at" s_value_at) rfl
  obtain ⟨f10, F10⟩ := c.def_ 10 (d := dM "Table" "__call__" "Table.__call__" s_Table_call []) rfl
  obtain ⟨f11, F11⟩ := c.def_ 11 (d := dM "Table" "__eq__" "Table.__eq__" s_Table_eq []) rfl
  obtain ⟨f12, F12⟩ := c.def_ 12 (d := dG "_law_pick" s__law_pick) rfl
  obtain ⟨f13, F13⟩ := c.def_ 13 (d := dG "_law_source" s__law_source) rfl
  obtain ⟨f14, F14⟩ := c.def_ 14 (d := dG "_law_is_integer" s__law_is_integer) rfl
  obtain ⟨f15, F15⟩ := c.def_ 15 (d := dG "_law_is_count" s__law_is_count) rfl
  obtain ⟨f16, F16⟩ := c.def_ 16 (d := dG "_law_end" s__law_end) rfl
  obtain ⟨f17, F17⟩ := c.def_ 17 (d := dG "_law_at" s__law_at) rfl
  obtain ⟨f18, F18⟩ := c.def_ 18 (d := dG "_law_gcd" s__law_gcd) rfl
  obtain ⟨f19, F19⟩ := c.def_ 19 (d := dG "_law_rising" s__law_rising) rfl
  obtain ⟨f20, F20⟩ := c.def_ 20 (d := dG "_law_raw" s__law_raw) rfl
  obtain ⟨f21, F21⟩ := c.def_ 21 (d := dG "_law_plain" s__law_plain) rfl
  obtain ⟨f22, F22⟩ := c.def_ 22 (d := dG "_law_table" s__law_table) rfl
  obtain ⟨f23, F23⟩ := c.def_ 23 (d := dG "_law_same" s__law_same) rfl
  obtain ⟨f24, F24⟩ := c.def_ 24 (d := dG "least_in" s_least_in) rfl
  obtain ⟨f25, F25⟩ := c.def_ 25 (d := dG "first_under" s_first_under) rfl
  obtain ⟨f26, F26⟩ := c.def_ 26 (d := dG "last_under" s_last_under) rfl
  obtain ⟨f27, F27⟩ := c.def_ 27 (d := dG "ladder_of" s_ladder_of) rfl
  obtain ⟨f28, F28⟩ := c.def_ 28 (d := dM "Chase" "place_of" "Chase.place_of" s_Chase_place_of []) rfl
  obtain ⟨f29, F29⟩ := c.def_ 29 (d := dM "Chase" "ladder_from" "Chase.ladder_from" s_Chase_ladder_from []) rfl
  obtain ⟨f30, F30⟩ := c.def_ 30 (d := dM "Chase" "runners_of" "Chase.runners_of" s_Chase_runners_of []) rfl
  obtain ⟨f31, F31⟩ := c.def_ 31 (d := dG "values_from" s_values_from) rfl
  obtain ⟨f32, F32⟩ := c.def_ 32 (d := dM "Chase" "__init__" "Chase.__init__" s_Chase_init []) rfl
  obtain ⟨f33, F33⟩ := c.def_ 33 (d := dG "drift_of" s_drift_of) rfl
  obtain ⟨f34, F34⟩ := c.def_ 34 (d := dG "longest_head" s_longest_head) rfl
  obtain ⟨f35, F35⟩ := c.def_ 35 (d := dG "chosen" s_chosen) rfl
  obtain ⟨f36, F36⟩ := c.def_ 36 (d := dM "Chase" "first_lead" "Chase.first_lead" s_Chase_first_lead []) rfl
  obtain ⟨f37, F37⟩ := c.def_ 37 (d := dM "Chase" "last_lead" "Chase.last_lead" s_Chase_last_lead []) rfl
  obtain ⟨f38, F38⟩ := c.def_ 38 (d := dG "settling" s_settling) rfl
  obtain ⟨f39, F39⟩ := c.def_ 39 (d := dG "joined_form" s_joined_form) rfl
  obtain ⟨f40, F40⟩ := c.def_ 40 (d := dG "both_form" s_both_form) rfl
  obtain ⟨f41, F41⟩ := c.def_ 41 (d := dG "either_form" s_either_form) rfl
  obtain ⟨f42, F42⟩ := c.def_ 42 (d := dM "Table" "__and__" "Table.__and__" s_Table_and []) rfl
  obtain ⟨f43, F43⟩ := c.def_ 43 (d := dM "Table" "__or__" "Table.__or__" s_Table_or []) rfl
  obtain ⟨f44, F44⟩ := c.def_ 44 (d := dG "first_excess_in" s_first_excess_in) rfl
  obtain ⟨f45, F45⟩ := c.def_ 45 (d := dG "first_excess" s_first_excess) rfl
  obtain ⟨f46, F46⟩ := c.def_ 46 (d := dM "Verdict" "__init__" "Verdict.__init__" s_Verdict_init []) rfl
  obtain ⟨f47, F47⟩ := c.def_ 47 (d := dM "Below" "__init__" "Below.__init__" s_Below_init []) rfl
  obtain ⟨f48, F48⟩ := c.def_ 48 (d := dG "below" s_below) rfl
  obtain ⟨f49, F49⟩ := c.def_ 49 (d := dG "many_at_most" s_many_at_most) rfl
  obtain ⟨f50, F50⟩ := c.def_ 50 (d := dG "last_at_most" s_last_at_most) rfl
  obtain ⟨f51, F51⟩ := c.def_ 51 (d := dG "values_behind" s_values_behind) rfl
  obtain ⟨f52, F52⟩ := c.def_ 52 (d := dG "settled_form" s_settled_form) rfl
  obtain ⟨f53, F53⟩ := c.def_ 53 (d := dG "behind_form" s_behind_form) rfl
  obtain ⟨f54, F54⟩ := c.def_ 54 (d := dM "Table" "__mul__" "Table.__mul__" s_Table_mul []) rfl
  obtain ⟨f55, F55⟩ := c.def_ 55 (d := dG "_law_counts" s__law_counts) rfl
  obtain ⟨f56, F56⟩ := c.def_ 56 (d := dG "_law_fit" s__law_fit) rfl
  obtain ⟨f57, F57⟩ := c.def_ 57 (d := dG "_law_behind" s__law_behind) rfl
  obtain ⟨f58, F58⟩ := c.def_ 58 (d := dS "Table" "shift" "Table.shift" s_Table_shift) rfl
  obtain ⟨f59, F59⟩ := c.def_ 59 (d := dG "_law_shift" s__law_shift) rfl
  obtain ⟨f60, F60⟩ := c.def_ 60 (d := dG "_law_put" s__law_put) rfl
  obtain ⟨f61, F61⟩ := c.def_ 61 (d := dG "law" s_law) rfl
  have e := hfa.symm.trans (T.gl "law" (by decide +kernel))
  cases e
  have bl := FunD.bindsA (ps := ["_law_script"]) F61 fun _ _ _ _ _ _ us hl => match us, hl with | [_], _ => rfl
  refine ⟨f61, fun s v => bl s [v] rfl, fun base _ _ => ?_⟩
  have c_shortest_lap : Cal P w K mg base 1 "shortest_lap" (spLap K) := Cal.mk' F0 (ok_shortest_lap F0 T rfl) (T.gl _ (by decide +kernel)) (F0.bindsN fun _ _ _ _ _ _ us hl => match us, hl with | [_, _], _ => rfl)
  have c_plain_form : Cal P w K mg base 2 "plain_form" (spForm K) := Cal.mk' F1 (ok_plain_form F1 T rfl c_shortest_lap) (T.gl _ (by decide +kernel)) (F1.bindsN fun _ _ _ _ _ _ us hl => match us, hl with | [_, _, _], _ => rfl)
  have c_is_integer : Cal P w K mg base 1 "is_integer" spIsInt := Cal.mk' F2 (ok_is_integer F2 T) (T.gl _ (by decide +kernel)) (F2.bindsN fun _ _ _ _ _ _ us hl => match us, hl with | [_], _ => rfl)
  have c_is_count : Cal P w K mg base 2 "is_count" spIsCount := Cal.mk' F3 (ok_is_count F3 T c_is_integer) (T.gl _ (by decide +kernel)) (F3.bindsN fun _ _ _ _ _ _ us hl => match us, hl with | [_], _ => rfl)
  have c_is_row : Cal P w K mg base 1 "is_row" (spIsRow K) := Cal.mk' F4 (ok_is_row F4 T) (T.gl _ (by decide +kernel)) (F4.bindsN fun _ _ _ _ _ _ us hl => match us, hl with | [_], _ => rfl)
  have c_is_climb : Cal P w K mg base 2 "is_climb" (spIsClimb K) := Cal.mk' F5 (ok_is_climb F5 T c_is_row c_is_integer) (T.gl _ (by decide +kernel)) (F5.bindsN fun _ _ _ _ _ _ us hl => match us, hl with | [_], _ => rfl)
  have c_check_table : Cal P w K mg base 3 "check_table" (spCheck K) := Cal.mk' F6 (ok_check_table F6 T c_is_climb c_is_count) (T.gl _ (by decide +kernel)) (F6.bindsN fun _ _ _ _ _ _ us hl => match us, hl with | [_, _, _], _ => rfl)
  have oi_Table : FnOk P w K mg base CX0 4 _ f7 ["self", "head", "loop", "rise"] (spInit K (ga K "Table")) := (ok_Table_init F7 T tcl tc.hd tc.lp tc.ri c_check_table c_plain_form)
  obtain ⟨dd_m_Table, vv_m_Table, bb_m_Table⟩ := F7.binds1 (ps := ["self", "head", "loop", "rise"]) 4 2 (List.cons_ne_nil _ _) rfl fun T kV doc pm an cdv ct us its hl hd => match us, hl, its, hd with | [_, _, _, _], _, [_, _], _ => ⟨_, rfl, rfl⟩
  have m_Table : Mak P w K mg base 4 0 "Table" (ga K "Table") (spInit K (ga K "Table")) [] := ⟨_, _, _, _, mk_ok b_mk_Table, oi_Table, T.gl "Table" (by decide +kernel), bb_m_Table, vv_m_Table⟩
  have c_end_of : Cal P w K mg base 1 "end_of" (spEnd K (ga K "Table")) := Cal.mk' F8 (ok_end_of F8 T tc) (T.gl _ (by decide +kernel)) (F8.bindsN fun _ _ _ _ _ _ us hl => match us, hl with | [_], _ => rfl)
  have c_value_at : Cal P w K mg base 2 "value_at" (spAt K (ga K "Table")) := Cal.mk' F9 (ok_value_at F9 T tc c_end_of) (T.gl _ (by decide +kernel)) (F9.bindsN fun _ _ _ _ _ _ us hl => match us, hl with | [_, _], _ => rfl)
  have o_call : CalO P w K mg base 3 (ga K "Table") (spAt K (ga K "Table")) := ⟨_, f10, _, call_ok b_call, (ok_Table_call F10 T c_is_count c_value_at), (F10.bindsN fun _ _ _ _ _ _ us hl => match us, hl with | [_, _], _ => rfl)⟩
  have o_eq : EqC P w K mg base 1 (ga K "Table") (spEq K (ga K "Table")) := ⟨_, f11, _, (ok_Table_eq F11 T (T.gl "Table" (by decide +kernel)) tc), (eq_ok b_eq).e1, (eq_ok b_eq).e2, (eq_ok b_eq).e3, (F11.bindsN fun _ _ _ _ _ _ us hl => match us, hl with | [_, _], _ => rfl)⟩
  have c__law_pick : Cal P w K mg base 1 "_law_pick" spPick := Cal.mk' F12 (ok_pick F12 T (by decide +kernel)) (T.gl _ (by decide +kernel)) (F12.bindsN fun _ _ _ _ _ _ us hl => match us, hl with | [_, _], _ => rfl)
  have c__law_source : Cal P w K mg base 1 "_law_source" (spSource K) := Cal.mk' F13 (ok_source F13 T (by decide +kernel) (by decide +kernel) (by decide +kernel)) (T.gl _ (by decide +kernel)) (F13.bindsN fun _ _ _ _ _ _ us hl => match us, hl with | [_, _], _ => rfl)
  have c__law_is_integer : Cal P w K mg base 1 "_law_is_integer" spIsInt := Cal.mk' F14 (ok__law_is_integer F14 T) (T.gl _ (by decide +kernel)) (F14.bindsN fun _ _ _ _ _ _ us hl => match us, hl with | [_], _ => rfl)
  have c__law_is_count : Cal P w K mg base 2 "_law_is_count" spIsCount := Cal.mk' F15 (ok__law_is_count F15 T c__law_is_integer) (T.gl _ (by decide +kernel)) (F15.bindsN fun _ _ _ _ _ _ us hl => match us, hl with | [_], _ => rfl)
  have c__law_end : Cal P w K mg base 1 "_law_end" (spLEnd K) := Cal.mk' F16 (ok__law_end F16 T) (T.gl _ (by decide +kernel)) (F16.bindsN fun _ _ _ _ _ _ us hl => match us, hl with | [_], _ => rfl)
  have c__law_at : Cal P w K mg base 2 "_law_at" (spLAt K) := Cal.mk' F17 (ok__law_at F17 T c__law_end) (T.gl _ (by decide +kernel)) (F17.bindsN fun _ _ _ _ _ _ us hl => match us, hl with | [_, _], _ => rfl)
  have c__law_gcd : Cal P w K mg base 1 "_law_gcd" spGcd := Cal.mk' F18 (ok__law_gcd F18 T) (T.gl _ (by decide +kernel)) (F18.bindsN fun _ _ _ _ _ _ us hl => match us, hl with | [_, _], _ => rfl)
  have c__law_rising : Cal P w K mg base 2 "_law_rising" spRising := Cal.mk' F19 (ok__law_rising F19 T c__law_pick) (T.gl _ (by decide +kernel)) (F19.bindsN fun _ _ _ _ _ _ us hl => match us, hl with | [_, _, _, _], _ => rfl)
  have c__law_raw : Cal P w K mg base 3 "_law_raw" (spRaw K) := Cal.mk' F20 (ok__law_raw F20 T c__law_pick c__law_rising) (T.gl _ (by decide +kernel)) (F20.bindsN fun _ _ _ _ _ _ us hl => match us, hl with | [_, _], _ => rfl)
  have c__law_plain : Cal P w K mg base 1 "_law_plain" (spPlain K) := Cal.mk' F21 (ok__law_plain F21 T) (T.gl _ (by decide +kernel)) (F21.bindsN fun _ _ _ _ _ _ us hl => match us, hl with | [_, _, _], _ => rfl)
  have c__law_plainL : Cal P w K mg base 1 "_law_plain" (spPlainL K) := Cal.mk' F21 (ok__law_plainL F21 T) (T.gl _ (by decide +kernel)) (F21.bindsN fun _ _ _ _ _ _ us hl => match us, hl with | [_, _, _], _ => rfl)
  have c__law_table : Cal P w K mg base 6 "_law_table" (spLTable K (ga K "Table")) := Cal.mk' F22 (ok__law_table F22 T m_Table) (T.gl _ (by decide +kernel)) (F22.bindsN fun _ _ _ _ _ _ us hl => match us, hl with | [_], _ => rfl)
  have c__law_same : Cal P w K mg base 3 "_law_same" (spSame K (ga K "Table")) := Cal.mk' F23 (ok__law_same F23 T (T.gl "Table" (by decide +kernel)) tc c__law_is_count) (T.gl _ (by decide +kernel)) (F23.bindsN fun _ _ _ _ _ _ us hl => match us, hl with | [_, _], _ => rfl)
  have c_least_in : Cal P w K mg base 1 "least_in" (spLeast K) := Cal.mk' F24 (ok_least_in F24 T) (T.gl _ (by decide +kernel)) (F24.bindsN fun _ _ _ _ _ _ us hl => match us, hl with | [_, _, _], _ => rfl)
  have c_first_under : Cal P w K mg base 1 "first_under" (spFirstU K) := Cal.mk' F25 (ok_first_under F25 T) (T.gl _ (by decide +kernel)) (F25.bindsN fun _ _ _ _ _ _ us hl => match us, hl with | [_, _, _], _ => rfl)
  have c_last_under : Cal P w K mg base 1 "last_under" (spLastU K) := Cal.mk' F26 (ok_last_under F26 T) (T.gl _ (by decide +kernel)) (F26.bindsN fun _ _ _ _ _ _ us hl => match us, hl with | [_, _, _, _], _ => rfl)
  have c_ladder_of : Cal P w K mg base 1 "ladder_of" (spLadder K) := Cal.mk' F27 (ok_ladder_of F27 T) (T.gl _ (by decide +kernel)) (F27.bindsN fun _ _ _ _ _ _ us hl => match us, hl with | [_, _], _ => rfl)
  have o_place_of : MetC P w K mg base 1 (ga K "Chase") "place_of" (spPlaceOf K (ga K "Chase")) := ⟨hcc.cl, _, f28, _, met_ok b_met_place_of, (ok_Chase_place_of F28 T hcc), (F28.bindsN fun _ _ _ _ _ _ us hl => match us, hl with | [_, _, _], _ => rfl)⟩
  have o_ladder_from : MetC P w K mg base 2 (ga K "Chase") "ladder_from" (spLadFrom K (ga K "Chase")) := ⟨hcc.cl, _, f29, _, met_ok b_met_ladder_from, (ok_Chase_ladder_from F29 T hcc c_ladder_of), (F29.bindsN fun _ _ _ _ _ _ us hl => match us, hl with | [_, _, _, _, _], _ => rfl)⟩
  have o_runners_of : MetC P w K mg base 1 (ga K "Chase") "runners_of" (spRunners K (ga K "Chase")) := ⟨hcc.cl, _, f30, _, met_ok b_met_runners_of, (ok_Chase_runners_of F30 T hcc), (F30.bindsN fun _ _ _ _ _ _ us hl => match us, hl with | [_, _, _, _, _], _ => rfl)⟩
  have c_values_from : Cal P w K mg base 2 "values_from" (spFrom K (ga K "Table")) := Cal.mk' F31 (ok_values_from F31 T tc) (T.gl _ (by decide +kernel)) (F31.bindsN fun _ _ _ _ _ _ us hl => match us, hl with | [_, _, _], _ => rfl)
  have c_values_fromO : Cal P w K mg base 2 "values_from" (spFromO K (ga K "Table")) := Cal.mk' F31 (ok_values_fromO F31 T tc) (T.gl _ (by decide +kernel)) (F31.bindsN fun _ _ _ _ _ _ us hl => match us, hl with | [_, _, _], _ => rfl)
  have oi_Chase : FnOk P w K mg base CX0 3 _ f32 ["self", "first", "second", "start"] (spChase K (ga K "Table") (ga K "Chase")) := (ok_Chase_init F32 T h_gcd tc hcc c_values_from o_ladder_from o_runners_of)
  have m_Chase : Mak P w K mg base 3 0 "Chase" (ga K "Chase") (spChase K (ga K "Table") (ga K "Chase")) [] := ⟨_, _, _, _, mk_ok b_mk_Chase, oi_Chase, T.gl "Chase" (by decide +kernel), (F32.bindsN fun _ _ _ _ _ _ us hl => match us, hl with | [_, _, _, _], _ => rfl), .nil⟩
  have c_drift_of : Cal P w K mg base 1 "drift_of" (spDrift K (ga K "Table")) := Cal.mk' F33 (ok_drift_of F33 T tc) (T.gl _ (by decide +kernel)) (F33.bindsN fun _ _ _ _ _ _ us hl => match us, hl with | [_, _], _ => rfl)
  have c_longest_head : Cal P w K mg base 1 "longest_head" (spLongest K (ga K "Table")) := Cal.mk' F34 (ok_longest_head F34 T tc) (T.gl _ (by decide +kernel)) (F34.bindsN fun _ _ _ _ _ _ us hl => match us, hl with | [_, _], _ => rfl)
  have c_chosen : Cal P w K mg base 1 "chosen" (spChosen K) := Cal.mk' F35 (ok_chosen F35 T) (T.gl _ (by decide +kernel)) (F35.bindsN fun _ _ _ _ _ _ us hl => match us, hl with | [_, _, _], _ => rfl)
  have o_first_lead : MetC P w K mg base 2 (ga K "Chase") "first_lead" (spFirst K (ga K "Chase")) := ⟨hcc.cl, _, f36, _, met_ok b_met_first_lead, (ok_Chase_first_lead F36 T hcc o_place_of c_least_in c_first_under), (F36.bindsN fun _ _ _ _ _ _ us hl => match us, hl with | [_, _], _ => rfl)⟩
  have o_last_lead : MetC P w K mg base 2 (ga K "Chase") "last_lead" (spLastL K (ga K "Chase")) := ⟨hcc.cl, _, f37, _, met_ok b_met_last_lead, (ok_Chase_last_lead F37 T hcc o_place_of c_least_in c_last_under), (F37.bindsN fun _ _ _ _ _ _ us hl => match us, hl with | [_], _ => rfl)⟩
  have c_settling : Cal P w K mg base 5 "settling" (spSettling K (ga K "Table")) := Cal.mk' F38 (ok_settling F38 T c_longest_head c_drift_of m_Chase o_last_lead o_first_lead) (T.gl _ (by decide +kernel)) (F38.bindsN fun _ _ _ _ _ _ us hl => match us, hl with | [_, _], _ => rfl)
  have c_joined_form : Cal P w K mg base 6 "joined_form" (spJoined K (ga K "Table")) := Cal.mk' F39 (ok_joined_form F39 T h_lcm tc c_settling c_values_from c_chosen) (T.gl _ (by decide +kernel)) (F39.bindsN fun _ _ _ _ _ _ us hl => match us, hl with | [_, _, _], _ => rfl)
  have c_both_form : Cal P w K mg base 7 "both_form" (spBoth K (ga K "Table") true) := Cal.mk' F40 (ok_both_form F40 T tc c_joined_form c_values_from c_chosen) (T.gl _ (by decide +kernel)) (F40.bindsN fun _ _ _ _ _ _ us hl => match us, hl with | [_, _], _ => rfl)
  have c_either_formA : Cal P w K mg base 7 "either_form" (spEithA K (ga K "Table")) := Cal.mk' F41 (ok_either_formA F41 T tc c_joined_form c_values_from c_chosen) (T.gl _ (by decide +kernel)) (F41.bindsN fun _ _ _ _ _ _ us hl => match us, hl with | [_, _], _ => rfl)
  have c_either_form : Cal P w K mg base 8 "either_form" (spBoth K (ga K "Table") false) := Cal.mk' F41 (ok_either_form F41 T tc c_joined_form c_values_from c_chosen c_either_formA) (T.gl _ (by decide +kernel)) (F41.bindsN fun _ _ _ _ _ _ us hl => match us, hl with | [_, _], _ => rfl)
  have o_and : OpC P w K mg base 10 (ga K "Table") "__and__" (spOp K (ga K "Table") true) := ⟨cls_ok b_cls, ty.ac, ty.ag, ty.at_, ty.am, _, f42, _, (ok_Table_and F42 T c_both_form m_Table), bin_ok b_bin_and, (F42.bindsN fun _ _ _ _ _ _ us hl => match us, hl with | [_, _], _ => rfl)⟩
  have o_or : OpC P w K mg base 10 (ga K "Table") "__or__" (spOp K (ga K "Table") false) := ⟨cls_ok b_cls, ty.ac, ty.ag, ty.at_, ty.am, _, f43, _, (ok_Table_or F43 T c_either_form m_Table), bin_ok b_bin_or, (F43.bindsN fun _ _ _ _ _ _ us hl => match us, hl with | [_, _], _ => rfl)⟩
  have c_first_excess_in : Cal P w K mg base 3 "first_excess_in" (spExcIn K (ga K "Table")) := Cal.mk' F44 (ok_first_excess_in F44 T c_values_fromO) (T.gl _ (by decide +kernel)) (F44.bindsN fun _ _ _ _ _ _ us hl => match us, hl with | [_, _, _, _], _ => rfl)
  have c_first_excess : Cal P w K mg base 5 "first_excess" (spExc K (ga K "Table")) := Cal.mk' F45 (ok_first_excess F45 T tc c_first_excess_in c_longest_head m_Chase o_first_lead) (T.gl _ (by decide +kernel)) (F45.bindsN fun _ _ _ _ _ _ us hl => match us, hl with | [_, _, _], _ => rfl)
  have c_Verdict_init : FunC P w K mg base 1 (ga K "Verdict") "__init__" (spVInit K (ga K "Below")) := ⟨_, _, f46, _, fun_ok b_fun_Verdict_init, (ok_Verdict_init F46 T hbb), (F46.bindsN fun _ _ _ _ _ _ us hl => match us, hl with | [_, _], _ => rfl)⟩
  have oi_Below : FnOk P w K mg base CX0 3 _ f47 ["self", "first", "second", "place"] (spBInit K (ga K "Table") (ga K "Below")) := (ok_Below_init F47 T (T.gl "Verdict" (by decide +kernel)) hbb c_Verdict_init c_value_at)
  have m_Below : Mak P w K mg base 3 0 "Below" (ga K "Below") (spBInit K (ga K "Table") (ga K "Below")) [] := ⟨_, _, _, _, mk_ok b_mk_Below, oi_Below, T.gl "Below" (by decide +kernel), (F47.bindsN fun _ _ _ _ _ _ us hl => match us, hl with | [_, _, _, _], _ => rfl), .nil⟩
  have c_below : Cal P w K mg base 6 "below" (spBelow K (ga K "Table") (ga K "Below")) := Cal.mk' F48 (ok_below F48 T c_first_excess m_Below) (T.gl _ (by decide +kernel)) (F48.bindsN fun _ _ _ _ _ _ us hl => match us, hl with | [_, _], _ => rfl)
  have c_many_at_most : Cal P w K mg base 1 "many_at_most" (spMany K) := Cal.mk' F49 (ok_many_at_most F49 T) (T.gl _ (by decide +kernel)) (F49.bindsN fun _ _ _ _ _ _ us hl => match us, hl with | [_, _], _ => rfl)
  have c_last_at_most : Cal P w K mg base 2 "last_at_most" (spLast K (ga K "Table")) := Cal.mk' F50 (ok_last_at_most F50 T tc c_many_at_most) (T.gl _ (by decide +kernel)) (F50.bindsN fun _ _ _ _ _ _ us hl => match us, hl with | [_, _], _ => rfl)
  have c_values_behind : Cal P w K mg base 3 "values_behind" (spBehV K (ga K "Table")) := Cal.mk' F51 (ok_values_behind F51 T c_value_at) (T.gl _ (by decide +kernel)) (F51.bindsN fun _ _ _ _ _ _ us hl => match us, hl with | [_, _], _ => rfl)
  have c_settled_form : Cal P w K mg base 1 "settled_form" (spSettled K) := Cal.mk' F52 (ok_settled_form F52 T) (T.gl _ (by decide +kernel)) (F52.bindsN fun _ _ _ _ _ _ us hl => match us, hl with | [_, _], _ => rfl)
  have c_behind_form : Cal P w K mg base 4 "behind_form" (spBehind K (ga K "Table")) := Cal.mk' F53 (ok_behind_form F53 T h_gcd tc c_end_of c_value_at c_last_at_most c_values_from c_values_behind c_settled_form) (T.gl _ (by decide +kernel)) (F53.bindsN fun _ _ _ _ _ _ us hl => match us, hl with | [_, _], _ => rfl)
  have o_mul : OpC P w K mg base 6 (ga K "Table") "__mul__" (spMul K (ga K "Table")) := ⟨cls_ok b_cls, ty.ac, ty.ag, ty.at_, ty.am, _, f54, _, (ok_Table_mul F54 T c_behind_form m_Table), bin_ok b_bin_mul, (F54.bindsN fun _ _ _ _ _ _ us hl => match us, hl with | [_, _], _ => rfl)⟩
  have c__law_counts : Cal P w K mg base 1 "_law_counts" (spCounts K) := Cal.mk' F55 (ok__law_counts F55 T) (T.gl _ (by decide +kernel)) (F55.bindsN fun _ _ _ _ _ _ us hl => match us, hl with | [_], _ => rfl)
  have c__law_fit : Cal P w K mg base 2 "_law_fit" (spFit K) := Cal.mk' F56 (ok__law_fit F56 T c__law_plainL) (T.gl _ (by decide +kernel)) (F56.bindsN fun _ _ _ _ _ _ us hl => match us, hl with | [_, _, _], _ => rfl)
  have c__law_behind : Cal P w K mg base 3 "_law_behind" (spLBehind K) := Cal.mk' F57 (ok__law_behind F57 T c__law_at c__law_gcd c__law_counts c__law_fit) (T.gl _ (by decide +kernel)) (F57.bindsN fun _ _ _ _ _ _ us hl => match us, hl with | [_, _], _ => rfl)
  have o_shift : StaX P w K mg base 6 (ga K "Table") "shift" (spShift K (ga K "Table")) := ⟨_, _, _, f58, _, sta_ok b_sta_shift, (ok_Table_shift F58 T h_LONGEST_SHIFT c_is_integer m_Table), (F58.bindsN fun _ _ _ _ _ _ us hl => match us, hl with | [_], _ => rfl)⟩
  have c__law_shift : Cal P w K mg base 1 "_law_shift" (spLShift K) := Cal.mk' F59 (ok__law_shift F59 T) (T.gl _ (by decide +kernel)) (F59.bindsN fun _ _ _ _ _ _ us hl => match us, hl with | [_], _ => rfl)
  have c__law_put : Cal P w K mg base 7 "_law_put" (spPut K) := Cal.mk' F60 (ok__law_put F60 T tc c__law_pick c__law_table c__law_at c__law_end c__law_same c__law_behind c__law_plain o_mul o_call) (T.gl _ (by decide +kernel)) (F60.bindsN fun _ _ _ _ _ _ us hl => match us, hl with | [_, _, _], _ => rfl)
  exact ok_law F61 T (T.gl "Table" (by decide +kernel)) tc hbb c__law_source c__law_pick c__law_raw c__law_shift c__law_put c__law_table c__law_same c__law_behind c_below o_shift o_eq o_mul o_and o_or
end K05
set_option Elab.async false
set_option linter.all false
set_option maxRecDepth 100000
set_option maxHeartbeats 4000000
open PySem PySem.W PySem.Calls PyProof.Rows
theorem PySem.Challenge.cw_needforth_k05_whole_behind_holds : PySem.Challenge.rw_needforth_k05_whole_behind.Holds := by
  w_on; o_law
  refine HandSHeadRun.head_imp (r := OpenLaw.row PySem.Challenge.rw_needforth_k05_whole_behind) (q := view (OpenLaw.row PySem.Challenge.rw_needforth_k05_whole_behind).prog [0, 67]) (H := K05.hk) (ob := K05.ob) (M := 12000) (loose := K05.loose) (d := HandSHeadRun.topDef (OpenLaw.row PySem.Challenge.rw_needforth_k05_whole_behind).prog 67) (kwd := []) K05.ob_eq
    K05.run (by kernel_rfl) (by kernel_rfl) (by kernel_rfl) (by rfl) (by first | assumption | decide +kernel) (by decide +kernel) ⟨rfl, rfl, rfl, rfl, rfl, by decide +kernel⟩ ?hw ?hc
  case hw => w_witness2
  case hc =>
    refine NF.walk_ofEB (l := PySem.Challenge.rw_needforth_k05_whole_behind) (n := 63) (k := 12) (x := "_law_script") (CX := L2.CX0) rfl (by decide) (by kernel_rfl) ⟨rfl, by decide, by decide⟩ ?F (fun _ _ _ _ z => z)
    intro w mg fa h Y G hmg0
    obtain ⟨K, KX, c⟩ := Y
    have hmg : mg ("law" : PySem.Str) = some (.ref fa) := by
      have e : (HandSHeadRun.topDef (OpenLaw.row PySem.Challenge.rw_needforth_k05_whole_behind).prog 67).name = ("law" : PySem.Str) := by kernel_rfl
      rw [← e]
      exact hmg0
    obtain ⟨fd, hb, hF⟩ := K05.all_ok (P := (PySem.Challenge.rw_needforth_k05_whole_behind).prog) (w := w) KX G hmg c
    exact ⟨K, fd, K05.spLaw K, KX, hb, fun H a ns hl hbits _ hS => ⟨a, ns, rfl, hS, hl, hbits, fun _ => rfl⟩, hF⟩
