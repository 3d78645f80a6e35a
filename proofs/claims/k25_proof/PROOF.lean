import PyProof.Rows.All
import Wide.All
import OpenK.AllK
import Wide.FinOn
import PyProof.EqAt
import PyProof.EqKinds
import PyProof.TupleCall
import KE.KStateDown
import KE.KIsAll
import KE.KTryMore
import KE.KFromBytes
import HandS.ForMost
import HandS.ForExc
import HandS.IsInst
import HandS.Flow
import HandS.WideBits
import HandS.ExcInit
import HandS.ExcIs
import HandS.Head0
import HandS.Head1
import HandS.Head2
import HandS.HeadEnd
import HandS.HeadHook1
import HandS.HeadHook2
import HandS.ExcField
import HandS.ExcValue
import KE.KExcIs
import HandS.EndBits
import HandS.TupAny
import HandS.Zip
import HandS.TupMul
import HandS.Gcd
import HandS.Property
import HandS.Conv
import KE.KAssignIn
import HandS.Star
import HandS.WordsList
import PyProof.InstNe
import HandS.Head3
import OpenK.KMeth
import HandS.Defaults
import PySem.Challenge.RW_needforth_k25_whole_bad_makers
import HandS.Walk
import HandS.Call
import HandS.SortKw
import KE.GoesEnumKw
import HandS.WordsExc
import HandS.Codes
set_option Elab.async false
set_option linter.all false
set_option maxRecDepth 100000
set_option maxHeartbeats 4000000
/-! Facts of the top as one truth of the written part, and the head that hands them on. -/
namespace NF
open PySem PySem.Spec PyProof.Rows L2 He
def obsM (ex : PySem.W.Frag → Bool) (fn : List DefD) (K : PySem.W.Frag) : AlD := (ex K && fn.all fun d => d.ok K, fn.map fun d => fnW K d.at_)
def SaysM (ex : PySem.W.Frag → Bool) (fn : List DefD) (K : PySem.W.Frag) : Prop := obsM ex fn K = valD fn
def obsMG (n : Nat) (ex : PySem.W.Frag → Bool) (fn : List DefD) (g : Addr → Option Obj) : AlD := obsM ex fn (frG g (asD g n))
def hookM (n : Nat) (ex : PySem.W.Frag → Bool) (fn : List DefD) : PySem.W.Hook where
  α := AlD
  obs := fun s => obsMG n ex fn s.heap.get?
  val := fun _ => valD fn
  says := fun _ h => ∃ K : PySem.W.Frag, K.In h ∧ SaysM ex fn K
  of := fun _ _ e => ⟨_, frG_in, e⟩
  keeps := fun _ _ _ ⟨K, hK, c⟩ k => ⟨K, PySem.W.Frag.In.keeps hK k, c⟩
theorem obsMG_eq {n : Nat} {ex : PySem.W.Frag → Bool} {fn : List DefD} {g : Addr → Option Obj} {s : Shared} (h : ∀ a, g a = s.heap.get? a) : obsMG n ex fn g = (hookM n ex fn).obs s := by
  have e : g = s.heap.get? := funext h
  rw [e] <;> rfl
section
variable {ex : PySem.W.Frag → Bool} {fn : List DefD} {K : PySem.W.Frag}
theorem SaysM.truth (c : SaysM ex fn K) : ex K = true :=
  (ba (show (ex K && fn.all fun d => d.ok K) = true from congrArg (fun z : AlD => z.1) c)).1
theorem SaysM.def_ (c : SaysM ex fn K) (i : Nat) {d : DefD} (h : fn[i]? = some d := by rfl) : ∃ fd, FunD K d.name d.qual d.params d.body d.scope (d.dvs K) (d.kws K) (fAd K d.at_) fd := by
  have c2 := (ba (show (ex K && fn.all fun d => d.ok K) = true from congrArg (fun z : AlD => z.1) c)).2
  have e : fn.map (fun d => fnW K d.at_) = fn.map DefD.val := congrArg (fun z : AlD => z.2) c
  have e2 : (fn.map fun d => fnW K d.at_)[i]? = (fn.map DefD.val)[i]? := by rw [e]
  rw [List.getElem?_map, List.getElem?_map, h] at e2
  exact DefD.funD (Option.some.inj e2) (List.all_eq_true.mp c2 d (List.mem_of_getElem? h))
end
/-! ### an exception class of the program's own, over ValueError, by truths of the written part -/
/-- the class's own object -/
def exObjB (K : PySem.W.Frag) (C : Addr) : Bool := match K.lookup C with
  | some ⟨.type t, _, .cls cd, sl⟩ => t == "type" && (match cd.mro with
    | .ref C' :: bm => C' == C && PySem.HandSPX.refsVE bm
    | _ => false) && (cd.hasDict && !cd.hasDel) && (match sl.toList with
    | [_, _, _, _, some (.builtin n), _] => n == "ValueError.__new__"
    | _ => false)
  | _ => false
theorem exObjB_ok {K : PySem.W.Frag} {C : Addr} (h : exObjB K C = true) :
    ∃ nm q N bs bm sn sub ab col dd k0 k1 k2 k3 k5, K.lookup C = some (excClassObj nm q C N bs bm true sn sub ab col dd k0 k1 k2 k3 k5 "ValueError.__new__") ∧ PySem.HandSPX.refsVE bm = true := by
  unfold exObjB at h
  split at h
  · rename_i t dd cd sl hl
    obtain ⟨h, h4⟩ := ba h
    obtain ⟨h, h3⟩ := ba h
    obtain ⟨h1, h2⟩ := ba h
    split at h2
    · rename_i C' bm hm
      obtain ⟨h5, h6⟩ := ba h2
      split at h4
      · rename_i k0 k1 k2 k3 n k5 hs
        obtain ⟨h7, h8⟩ := ba h3
        have e1 : t = "type" := eq_of_beq h1
        have e5 : C' = C := eq_of_beq h5
        have e9 : n = "ValueError.__new__" := eq_of_beq h4
        subst e1 e5 e9
        obtain ⟨nm, bs, mro, N, q, hd, sn, sub, ab, col, hdel⟩ := cd
        dsimp only at hm h7 h8
        subst hm h7
        have hdel' : hdel = false := by
          cases hdel with
          | false => rfl
          | true => cases h8
        subst hdel'
        have hsl : sl = #[k0, k1, k2, k3, some (.builtin "ValueError.__new__"), k5] := by
          have := congrArg List.toArray hs
          simpa using this
        subst hsl
        exact ⟨nm, q, N, bs, bm, sn, sub, ab, col, dd, k0, k1, k2, k3, k5, hl, h6⟩
      · cases h4
    · cases h2
  · cases h
/-- all that making one, storing to it and raising it ask of the class -/
def oexB (K : PySem.W.Frag) (C : Addr) : Bool :=
  exObjB K C && eqO (PySem.W.findIn K (.ref C) "__setattr__") (some (some (.builtin "object.__setattr__"))) && decide (PySem.W.subIn K (.ref C) (.type "BaseException") = some true) &&
    decide (PySem.W.typeIn K (.ref C) = some (.type "type")) && PySem.W.keepIn K (.ref C)
theorem oexB_ok {K : PySem.W.Frag} {C : Addr} (h : oexB K C = true) : OexC K C := by
  obtain ⟨h, h5⟩ := ba h
  obtain ⟨h, h4⟩ := ba h
  obtain ⟨h, h3⟩ := ba h
  obtain ⟨h1, h2⟩ := ba h
  exact ⟨exObjB_ok h1, eqO_ok h2, of_decide_eq_true h3, of_decide_eq_true h4, h5⟩
/-- all that isinstance asks of an instance's class -/
def excB (K : PySem.W.Frag) (D : Addr) : Bool :=
  eqO (PySem.W.findIn K (.ref D) "__getattribute__") (some (some (.builtin "BaseException.__getattribute__"))) && eqO (PySem.W.findIn K (.ref D) "__getattr__") (some none) &&
    decide (PySem.W.subIn K (.ref D) (.type "BaseException") = some true) && PySem.W.hasDictIn K D && eqO (PySem.W.findIn K (.ref D) "__class__") (some (some (.builtin "object.__class__"))) &&
    eqO (PySem.W.specialIn K (.builtin "object.__class__") "__get__") (some (some (.builtin "getset_descriptor.__get__"))) && decide (PySem.W.takesIn K (.builtin "object.__class__") = some true) && decide (PySem.W.mroIn K D (.type "object") = some true)
theorem excB_ok {K : PySem.W.Frag} {D : Addr} (h : excB K D = true) : ExcC K D := by
  obtain ⟨h, h8⟩ := ba h
  obtain ⟨h, h7⟩ := ba h
  obtain ⟨h, h6⟩ := ba h
  obtain ⟨h, h5⟩ := ba h
  obtain ⟨h, h4⟩ := ba h
  obtain ⟨h, h3⟩ := ba h
  obtain ⟨h1, h2⟩ := ba h
  exact ⟨eqO_ok h1, eqO_ok h2, of_decide_eq_true h3, h4, eqO_ok h5, eqO_ok h6, of_decide_eq_true h7, of_decide_eq_true h8⟩
end NF
set_option Elab.async false
set_option linter.all false
set_option maxRecDepth 100000
set_option maxHeartbeats 4000000
/-! Own exceptions as values: made, asked for their class, read. -/
namespace NF
open PySem PySem.Spec PyProof.Rows L2 He
/-! ### C(e, ..) as a value: the class's own __init__ keeps sp -/
def tMkV (C : Addr) (sp : Sp) (ta : TA) : TE := fun σ H Q => ta σ H fun vs H1 => vs.length ≤ 1000 ∧ ∀ a, H1 a = none → sp (.ref a :: vs) (upd H1 a (exo a C none))
  (fun v H2 => v = .non ∧ Q (.ref a) H2) (fun _ _ _ => False)
section
variable {X : Cx} {e : Expr} {es : List Expr} {ta : TA} {p pos : Pos}
theorem pe_oex {CX : CXT} {x : Str} {C fI : Addr} {k : Nat} {fd : FuncData} {ps : List Str} {sp : Sp} (T : OexC X.K C) (iC : PySem.W.findIn X.K (.ref C) "__init__" = some (some (.ref fI))) (tI : PySem.W.typeIn X.K (.ref fI) = some (.type "function"))
    (F1 : FnOk X.prog X.w X.K X.mg X.base CX k fI fd ps sp) (hr : Room (k + 1) X.A) (hb : Binds X.K fd ps []) (hx : Passes CX X (fun _ _ _ => False)) (hg : Gl X x) (hm : X.mg x = some (.ref C)) (ha : PA X (e :: es) ta)
    (hdb : (x == ("__debug__" : Str)) = false := by decide) (he : starEach (e :: es) X.env = (false, eval e X.env) :: starEach es X.env := by rfl) (hpl : (backTo pos (starEach es X.env)).any (·.1) = false := by rfl) :
    PE X (.Call (.Name x p) (e :: es) [] pos) (tMkV C sp ta) := by
  refine ⟨fun pins s σ H Q I h => ?_⟩
  obtain ⟨nm, q, N, bs, bm, sn, sub, ab, col, dd, k0, k1, k2, k3, k5, hC, hbm⟩ := T.cls
  refine wpAny_Call_Name_kw (ld_glob I hg hm ?_ hdb)
  refine PySem.W.callWith_K (h₀ := X.base) I.ok.mod.kin T.kC (thn (ha.run pos pins s σ H _ I h) fun us s1 ⟨vs, H1, I1, r1, hz, q1⟩ => ⟨I1.kIn, ?_⟩) he hpl
  show wpAny _ _ (call (.ref C) us) _ _ _
  obtain ⟨hp, g, dr, tk, os⟩ := s1
  have hsz : hp.objs.size ≤ hp.objs.size + 1 := Nat.le_succ _
  have hn : H1 (hp.objs.size + 1) = none := I1.hok.fresh hsz
  have hq := q1 (hp.objs.size + 1) hn
  have kk : ∀ b o, hp.get? b = some o → ((hp.push (PySem.W.kdv_tup us)).push (PySem.HandSPX.excO C hp.objs.size)).get? b = some o := fun b o e => Heap.get?_push_of_some _ (Heap.get?_push_of_some _ e)
  have hget : ((hp.push (PySem.W.kdv_tup us)).push (PySem.HandSPX.excO C hp.objs.size)).get? (hp.objs.size + 1) = some (PySem.HandSPX.excO C hp.objs.size) := by heap_get
  have I2 : Inv X pins σ (upd H1 (hp.objs.size + 1) (exo (hp.objs.size + 1) C none)) ⟨(hp.push (PySem.W.kdv_tup us)).push (PySem.HandSPX.excO C hp.objs.size), g, dr, tk, os⟩ :=
    I1.laid (t' := tk) (a := hp.objs.size + 1) (o := exo (hp.objs.size + 1) C none) (h' := (hp.push (PySem.W.kdv_tup us)).push (PySem.HandSPX.excO C hp.objs.size)) kk hsz (exo_ok hget)
  have r2 : Vals (V.ref (hp.objs.size + 1) :: vs) (Value.ref (hp.objs.size + 1) :: us) := .cons rfl r1
  have hl : (Value.ref (hp.objs.size + 1) :: us ++ []).length = ps.length := by
    have e := r2.length
    rw [F1.len _ _ _ _ hq] at e
    rw [List.append_nil]
    exact e.symm
  have hus : us.length ≤ sizeLine := by
    rw [← Paired.length r1, sizeLine_eq]
    omega
  have hb' : BindsTo (⟨(hp.push (PySem.W.kdv_tup us)).push (PySem.HandSPX.excO C hp.objs.size), g, dr, tk, os⟩ : Shared) fd ⟨Value.ref (hp.objs.size + 1) :: us, []⟩ (ps.zip (Value.ref (hp.objs.size + 1) :: us)) := by
    have := hb ⟨(hp.push (PySem.W.kdv_tup us)).push (PySem.HandSPX.excO C hp.objs.size), g, dr, tk, os⟩ (Value.ref (hp.objs.size + 1) :: us) I2.kIn hl
    rw [List.append_nil] at this
    exact this
  refine wpAny_call (PySem.HandSPX.call_own F.excBase_ValueError (fun Y => PySem.HandSPX.refsVE_contains Y bm hbm) (I1.kIn _ _ hC) (PySem.W.looks_findIn I1.kIn iC) (fun self => PySem.W.bind_fn I1.kIn self tI) hus
    (codeAny_mono (F1.run _ X.stack _ _ ⟨Value.ref (hp.objs.size + 1) :: us, []⟩ (Value.ref (hp.objs.size + 1) :: us) _ _ (fun _ _ _ => False) (hr.make C us []) (I2.env0.make C us []) hb' r2 hq) fun r s' hq' => ?_))
  cases r with
  | error er => exact hx pins σ _ _ er s' I2 hq'
  | ok fl =>
    cases fl with
    | ret u =>
      obtain ⟨v, H2, os2, bare2, un2, hok2, rv, ev, q2⟩ := hq'
      subst ev
      obtain ⟨h2, g2, d2, t2, os'⟩ := s'
      exact ⟨rv, V.ref (hp.objs.size + 1), H2, I2.call' (ch := []) os2 un2 hok2 bare2 (fun b z => absurd z (by simp)), rfl, q2⟩
    | next => exact False.elim hq'
    | brk => exact False.elim hq'
    | cont => exact False.elim hq'
/-- C(), an own exception class without own __init__, as a value -/
def tMk0 (C : Addr) : TE := fun _ H Q => ∀ a, H a = none → Q (.ref a) (upd H a (exo a C none))
theorem pe_exc0 {C : Addr} {x : Str} (q : PySem.W.excIn X.K C He.veBase "ValueError.__new__" = true) (gC : X.mg x = some (.ref C)) (kC : PySem.W.keepIn X.K (.ref C) = true) (hg : Gl X x)
    (hdb : (x == ("__debug__" : Str)) = false := by decide) :
    PE X (.Call (.Name x p) [] [] pos) (tMk0 C) := by
  refine ⟨fun pins s σ H Q I h => ?_⟩
  refine wpAny_Call_Name_kw (ld_glob I hg gC ?_ hdb)
  refine PySem.W.callWith_K0 I.kIn kC ?_
  show wpAny _ _ (call (.ref C) []) _ _ _
  obtain ⟨bm, N, nm, qn, bs, hdct, sn, sub, ab, col, dd, k0, k1, k2, k3, k5, mN, hC, hN, hni, T⟩ := exc_obj I.kIn q
  obtain ⟨hp, g, dr, tk, os⟩ := s
  refine wpAny_call_exc_subT F.excBase_ValueError T hC hN hni (fun h' a hm => ?_) (Nat.zero_le _)
  have hn : H a = none := I.hok.gone hm.new
  obtain ⟨t, ht, _, _⟩ := hm.there
  exact ⟨.ref a, upd H a (exo a C none), I.laidN hm.keeps hm.new hn (exo_ok ht), rfl, h a hn⟩
/-! ### isinstance of such a value -/
def rIsV (K : PySem.W.Frag) : List V → Hp → VK → Prop := fun xs H Q => ∃ (a C : Addr) (od : Option Addr) (c : V) (u : Value) (b : Bool), xs = [.ref a, c] ∧ ClsV c u ∧ ExcC K C ∧ H a = some (exo a C od) ∧
  (∀ d, od = some d → ∃ fs, H d = some (exd d fs)) ∧ PySem.W.kitOne K (.ref C) u = some b ∧ Q (.bl b) H
theorem inst_exo {pins : List (Addr × Obj)} {σ : L2.St} {H : Hp} {s : Shared} {a C : Addr} {od : Option Addr} (I : Inv X pins σ H s) (e : H a = some (exo a C od)) (hd : ∀ d, od = some d → ∃ fs, H d = some (exd d fs)) :
    ∃ ox o, PySem.W.InstAt s.heap a ox C o := by
  obtain ⟨t1, h1⟩ := exo_at I.hok e
  cases od with
  | none => exact ⟨_, none, h1, rfl, rfl, trivial⟩
  | some d =>
    obtain ⟨fs, h2⟩ := hd d rfl
    obtain ⟨mA, hns, _⟩ := exd_at I.hok h2
    obtain ⟨o, ho, _⟩ := lookIn_ns hns
    exact ⟨_, some o, h1, rfl, rfl, ho⟩
theorem call_isV : CallR X (.builtin "isinstance") (rIsV X.K) := by
  intro pins s σ H xs us Q I r h
  obtain ⟨a, C, od, c, u, b, rfl, k, T, e, hd, hk, q⟩ := h
  obtain ⟨u1, u2, rfl, r1, r2⟩ := vals2 r
  have e2 := k.eq r2
  subst e2
  cases (show u1 = Value.ref a from r1)
  obtain ⟨ox, o, J⟩ := inst_exo I e hd
  have hcl : (PySem.W.clsIn X.K C).isSome = true := by
    obtain ⟨cd, hc, _⟩ := PySem.W.any_some T.hd
    rw [hc] <;> rfl
  exact PySem.W.kia_one (PySem.W.kitx_exc (ox := ox) (od := o) hcl T.hg T.hk T.hs T.ha T.hn T.ht T.hm) I.kIn J hk (fun z => nomatch z) fun tk => ⟨.bl b, H, I.tok tk, rfl, q⟩
/-! ### its field -/
def tXv (K : PySem.W.Frag) (f : Str) (te : TE) : TE := fun σ H Q => te σ H fun x H1 => ∃ (a C d : Addr) (fs : List (Str × V)) (v : V), x = .ref a ∧ XfC K C ∧ PySem.W.findIn K (.ref C) f = some none ∧ H1 a = some (exo a C (some d)) ∧ H1 d = some (exd d fs) ∧ fs.lookup f = some v ∧ Q v H1
theorem pe_xv {n : Str} {te : TE} (he : PE X e te) (hb : attributeBase e n X.env (eval e X.env) = eval e X.env := by rfl) : PE X (.Attribute e n pos) (tXv X.K n te) := by
  refine ⟨fun pins s σ H Q I h => ?_⟩
  refine attr_of hb (thn (he.run pins s σ H _ I h) fun u s1 hh => ?_)
  obtain ⟨x, H1, I1, rx, a, C, d, fs, v, ex, T, hno, ea, ed, l, q⟩ := hh
  subst ex
  obtain rfl : u = Value.ref a := rx
  obtain ⟨t1, h1⟩ := exo_at I1.hok ea
  obtain ⟨mA, hns, hr⟩ := exd_at I1.hok ed
  obtain ⟨od, ho, hl⟩ := lookIn_ns hns
  obtain ⟨u, hu, ru⟩ := RelO.some_of (v := v) (o := mA n) (by rw [← l]; exact hr n)
  have J : PySem.W.InstAt s1.heap a _ C (some od) := ⟨h1, rfl, rfl, ho⟩
  exact HandSPX.exc_get I1.kIn J T.ga T.gg T.exC (PySem.W.findObj_own T.hdC hno rfl (by rw [hl, hu])) (handed_of ru) ⟨v, H1, I1.tok _, ru, q⟩
end
end NF
set_option Elab.async false
set_option linter.all false
set_option maxRecDepth 100000
set_option maxHeartbeats 4000000
/-! What each law's own helpers keep: the source of draws. -/
namespace NF
open PySem PySem.Spec PyProof.Rows L2 He
/-- the names that a def reads off the module: those that stand for an object of the written part, those that are still Python's own -/
structure Txt (K : PySem.W.Frag) (mg : Str → Option Value) (gs fs : List Str) : Prop where
  gl : ∀ x, x ∈ gs → mg x = some (.ref (ga K x))
  fr : ∀ x, x ∈ fs → mg x = none
/-- a source of draws at p: three ints -/
def Src (H : Hp) (p : Addr) : Prop := ∃ a s c : Int, H p = some (.lst [.int a, .int s, .int c])
/-- a draw: some number from 0 below m; all but the source stands (H0: what the caller wants to stand) -/
def spPick : Sp := fun vs H Q _ => ∃ (H0 : Hp) (p : Addr) (m : Int), vs = [.ref p, .int m] ∧ Same H0 H ∧ H0 p = none ∧ Src H p ∧ 0 < m ∧ m < 1073741824 ∧
  ∀ d H', 0 ≤ d → d < m → Same H0 H' → Src H' p → Q (.int d) H'
/-- a new source of the script -/
def spSource (K : PySem.W.Frag) : Sp := fun vs H Q _ => ∃ (l : Addr) (ns : List Int) (i : Nat), vs = [.ref l, .int (i : Int)] ∧ SqL K H l (ns.map V.int) ∧ ns.length ≤ 63 ∧ (∀ k ∈ ns, Builtin.Int.intBits k ≤ 1048576) ∧ i < 1000 ∧
  ∀ p H', Same H H' → H p = none → Src H' p → Q (.ref p) H'
theorem Same.put {H0 H : Hp} {p : Addr} {o : HO} (h : Same H0 H) (n : H0 p = none) : Same H0 (upd H p o) := fun b u e => by
  rw [upd_ne (ne_of_none e n)]
  exact h b u e
theorem Same.new {H0 H : Hp} {p : Addr} {o : HO} (h : Same H0 H) (n : H p = none) : Same H0 (upd H p o) := NF.Same.put h (L2.Same.free h n)
/-- a def that may be called by its name; it lets nothing out -/
structure Cal (P : Program) (w : World) (K : PySem.W.Frag) (mg : Str → Option Value) (base : Heap) (k : Nat) (x : Str) (sp : Sp) : Prop where
  ex : ∃ (f : Addr) (fd : FuncData) (ps : List Str), FnOk P w K mg base CX0 k f fd ps sp ∧ mg x = some (.ref f) ∧ PySem.W.keepIn K (.ref f) = true ∧ Binds K fd ps []
theorem pe_c {X : Cx} {k j : Nat} {x : Str} {sp : Sp} {e : Expr} {es : List Expr} {t : TA} {p pos : Pos} (c : Cal X.prog X.w X.K X.mg X.base k x sp) (hr : Room j X.A) (hk : k ≤ j) (hg : Gl X x) (ha : PA X (e :: es) t)
    (hdb : (x == ("__debug__" : Str)) = false := by decide) (he : starEach (e :: es) X.env = (false, eval e X.env) :: starEach es X.env := by rfl) (hpl : (backTo pos (starEach es X.env)).any (·.1) = false := by rfl) :
    PE X (.Call (.Name x p) (e :: es) [] pos) (tCall sp [] E0 t) := by
  obtain ⟨f, fd, ps, F, hm, kp, b⟩ := c.ex
  exact pe_call F (hr.mono hk) hg hm kp b .nil pass0 ha hdb he hpl
theorem Cal.mk' {P : Program} {w : World} {K : PySem.W.Frag} {mg : Str → Option Value} {base : Heap} {k : Nat} {x q : Str} {pa : Arguments} {bd : List Stmt} {sc : Scope} {sp : Sp} {f : Addr} {fd : FuncData} {ps : List Str}
    (F : FunD K x q pa bd sc [] [] f fd) (ok : FnOk P w K mg base CX0 k f fd ps sp) (hm : mg x = some (.ref f)) (b : Binds K fd ps []) : Cal P w K mg base k x sp := ⟨f, fd, ps, ok, hm, F.kp, b⟩
theorem at0 {x y z : V} : atI [x, y, z] 0 = some x := rfl
theorem at1 {x y z : V} : atI [x, y, z] 1 = some y := rfl
theorem at2 {x y z : V} : atI [x, y, z] 2 = some z := rfl
end NF
namespace NF
open PySem PySem.Spec PyProof.Rows L2 He
/-- the heap without p -/
def wo (H : Hp) (p : Addr) : Hp := fun a => if a = p then none else H a
theorem wo_none {H : Hp} {p : Addr} : wo H p p = none := if_pos rfl
theorem wo_ne {H : Hp} {p a : Addr} (h : a ≠ p) : wo H p a = H a := if_neg h
theorem wo_same' {H : Hp} {p : Addr} : Same (wo H p) H := fun a o e => by
  by_cases h : a = p
  · rw [h, wo_none] at e
    cases e
  · rw [wo_ne h] at e
    exact e
theorem wo_same {H0 H H' : Hp} {p : Addr} (s : Same H0 H) (n : H0 p = none) (s' : Same (wo H p) H') : Same H0 H' := fun a o e =>
  s' a o ((wo_ne (ne_of_none e n)).trans (s a o e))
theorem Same.mut {H0 H : Hp} {p : Addr} {o : HO} (h : Same H0 H) (n : H0 p = none) : Same H0 (upd H p o) := NF.Same.put h n
theorem Src.mono {H H' : Hp} {p : Addr} (h : Src H p) (s : Same H H') : Src H' p := by
  obtain ⟨x, y, z, h⟩ := h
  exact ⟨x, y, z, s _ _ h⟩
end NF
namespace NF
open PySem PySem.Spec PyProof.Rows L2 He
theorem walk_ofEB {l : PySem.W.OpenLaw} {n k : Nat} {q : Program} {loose : List Str} {XP : (Str → Option Value) → Heap → Prop} {YP : World → Heap → Prop} {d : DefRec} {CX : CXT} {x : Str}
    (hn : l.most = some n) (hn2 : n ≤ sizeLine) (hdf : d.params.defaults = []) (hr : Room k callerA)
    (F : ∀ (w : World) (mg : Str → Option Value) (fa : Addr) (h : Heap), YP w h → h.Ns mainGlobals mg → mg d.name = some (.ref fa) →
      ∃ (K : PySem.W.Frag) (fd : FuncData) (sp : Sp), K.In h ∧ (∀ (s : Shared) (u : Value), BindsTo s fd ⟨[u], []⟩ [(x, u)]) ∧
        (∀ (H : Hp) (a : Addr) (ns : List Int), ns.length ≤ n → (∀ z ∈ ns, Builtin.Int.intBits z ≤ 1048576) → Only H → SqL K H a (ns.map V.int) → sp [.ref a] H (fun v _ => v = .bl true) fun _ _ _ => False) ∧
        ∀ base : Heap, K.In base → base.Ns mainGlobals mg → FnOk l.prog w K mg base CX k fa fd [x] sp)
    (hCX : ∀ (H : Hp) (s : Shared) (e : Value) (s' : Shared), CX [] H s (fun _ _ _ => False) e s' → False) :
    PySem.W.WalkO q loose XP YP l.row.toRowW d [] (fun f vs => PySem.call f vs) := by
  refine Att.attach_callB hn hdf fun w s₀ s₁ mg mb fa o pm cd doc a vs ns G Y ho hd hcd hmg hobj hints hlen hbits hg => ?_
  obtain ⟨K, fd, sp, KX, hb, hsp, hF⟩ := F w mg fa _ Y G.T.g hmg
  exact law_call KX G.T.g G.T.b G.T.builtins G.T.nolimit hg hobj hints (Nat.le_trans hlen hn2) hr hF hb (fun H hO hS => hsp H a ns hlen hbits hO hS) fun H e s' => hCX H s₁ e s'
end NF
set_option linter.all false
/-! Tables as plain Lean: head, loop, rise; the plain form is the only one. -/
namespace NT
/-- what a loop tells, from its first place on -/
def walk (l : List Int) (r : Int) (k : Nat) : Int := l.getD (k % l.length) 0 + r * ((k / l.length : Nat) : Int)
/-- the value at n, from 1 on; none: never -/
def at_ (h l : List Int) (r : Int) (n : Nat) : Option Int :=
  if n ≤ h.length then some (h.getD (n - 1) 0) else if l = [] then none else some (walk l r (n - h.length - 1))
/-- m steps on the values are a fixed number more -/
def Per (f : Nat → Int) (m : Nat) : Prop := ∃ c, ∀ k, f (k + m) = f k + c
def LoopMin (l : List Int) (r : Int) : Prop := ∀ m, 0 < m → m ∣ l.length → Per (walk l r) m → m = l.length
def HeadMin (h l : List Int) (r : Int) : Prop := ∀ k, h.length = k + 1 → h.getD k 0 + r ≠ l.getD (l.length - 1) 0

theorem walk_add {l : List Int} {r : Int} (hl : 0 < l.length) (k : Nat) : walk l r (k + l.length) = walk l r k + r := by
  unfold walk
  rw [Nat.add_mod_right, Nat.add_div_right _ hl]
  rw [Int.natCast_add, Int.mul_add]
  omega
theorem walk_add_mul {l : List Int} {r : Int} (hl : 0 < l.length) (k j : Nat) : walk l r (k + l.length * j) = walk l r k + r * (j : Int) := by
  induction j with
  | zero => simp
  | succ j ih =>
    rw [Nat.mul_succ, ← Nat.add_assoc, walk_add hl, ih, Int.natCast_add, Int.mul_add]
    omega
theorem walk_lt {l : List Int} {r : Int} {k : Nat} (h : k < l.length) : walk l r k = l.getD k 0 := by
  unfold walk
  rw [Nat.mod_eq_of_lt h, Nat.div_eq_of_lt h]
  simp
/-- periods, further on alone -/
def PerF (f : Nat → Int) (N m : Nat) : Prop := ∃ c, ∀ k, N ≤ k → f (k + m) = f k + c
theorem PerF.sub {f : Nat → Int} {N a b : Nat} (ha : PerF f N (a + b)) (hb : PerF f N b) : PerF f N a := by
  obtain ⟨c, hc⟩ := ha
  obtain ⟨d, hd⟩ := hb
  refine ⟨c - d, fun k hk => ?_⟩
  have h1 := hc k hk
  have h2 := hd (k + a) (by omega)
  rw [show k + a + b = k + (a + b) by omega, h1] at h2
  omega
theorem PerF.mul {f : Nat → Int} {N a : Nat} (ha : PerF f N a) (j : Nat) : PerF f N (a * j) := by
  obtain ⟨c, hc⟩ := ha
  refine ⟨c * (j : Int), ?_⟩
  induction j with
  | zero => intro k _; simp
  | succ j ih =>
    intro k hk
    have h1 := ih k hk
    have h2 := hc (k + a * j) (by omega)
    rw [Nat.mul_succ, ← Nat.add_assoc, h2, h1, Int.natCast_add, Int.mul_add]
    omega
theorem PerF.gcd {f : Nat → Int} {N : Nat} : ∀ (a b : Nat), PerF f N a → PerF f N b → PerF f N (Nat.gcd a b) := by
  intro a
  induction a using Nat.strongRecOn with
  | _ a ih =>
    intro b ha hb
    cases a with
    | zero => rw [Nat.gcd_zero_left]; exact hb
    | succ a =>
      rw [Nat.gcd_rec]
      have hlt : b % (a + 1) < a + 1 := Nat.mod_lt _ (Nat.succ_pos a)
      have hm : PerF f N (b % (a + 1)) := by
        have h1 : b = b % (a + 1) + (a + 1) * (b / (a + 1)) := (Nat.mod_add_div b (a + 1)).symm
        exact PerF.sub (b := (a + 1) * (b / (a + 1))) (by rw [← h1]; exact hb) (ha.mul _)
      exact ih _ hlt (a + 1) hm ha
theorem at_loop {h l : List Int} {r : Int} {n : Nat} (hl : l ≠ []) (hn : h.length < n) : at_ h l r n = some (walk l r (n - h.length - 1)) := by
  unfold at_
  rw [if_neg (by omega), if_neg hl]
theorem len_pos {l : List Int} (h : l ≠ []) : 0 < l.length := List.length_pos_iff.mpr h

section
variable {h1 l1 h2 l2 : List Int} {r1 r2 : Int}
theorem walk_eq (n1 : l1 ≠ []) (n2 : l2 ≠ []) (e : ∀ n, 1 ≤ n → at_ h1 l1 r1 n = at_ h2 l2 r2 n) {n : Nat} (g1 : h1.length < n) (g2 : h2.length < n) : walk l1 r1 (n - h1.length - 1) = walk l2 r2 (n - h2.length - 1) := by
  have q := e n (by omega)
  rw [at_loop n1 g1, at_loop n2 g2] at q
  exact Option.some.inj q
theorem one_loop_le (n1 : l1 ≠ []) (n2 : l2 ≠ []) (m1 : LoopMin l1 r1) (e : ∀ n, 1 ≤ n → at_ h1 l1 r1 n = at_ h2 l2 r2 n) : l1.length ∣ l2.length := by
  have p1 := len_pos n1
  have p2 := len_pos n2
  -- l1's walk is, further on, of both periods
  have hA : PerF (walk l1 r1) (h1.length + h2.length) l1.length := ⟨r1, fun k _ => walk_add p1 k⟩
  have hB : PerF (walk l1 r1) (h1.length + h2.length) l2.length := by
    refine ⟨r2, fun k hk => ?_⟩
    have q1 := walk_eq n1 n2 e (n := k + h1.length + 1) (by omega) (by omega)
    have q2 := walk_eq n1 n2 e (n := k + l2.length + h1.length + 1) (by omega) (by omega)
    rw [show k + h1.length + 1 - h1.length - 1 = k by omega] at q1
    rw [show k + l2.length + h1.length + 1 - h1.length - 1 = k + l2.length by omega, show k + l2.length + h1.length + 1 - h2.length - 1 = (k + h1.length + 1 - h2.length - 1) + l2.length by omega, walk_add p2, ← q1] at q2
    exact q2
  have hG := PerF.gcd _ _ hA hB
  obtain ⟨c, hc⟩ := hG
  have hP : Per (walk l1 r1) (Nat.gcd l1.length l2.length) := by
    refine ⟨c, fun k => ?_⟩
    have q := hc (k + l1.length * (h1.length + h2.length)) (by
      have : h1.length + h2.length ≤ l1.length * (h1.length + h2.length) := Nat.le_mul_of_pos_left _ p1
      omega)
    rw [show k + l1.length * (h1.length + h2.length) + Nat.gcd l1.length l2.length = (k + Nat.gcd l1.length l2.length) + l1.length * (h1.length + h2.length) by omega, walk_add_mul p1, walk_add_mul p1] at q
    omega
  have := m1 _ (Nat.gcd_pos_of_pos_left _ p1) (Nat.gcd_dvd_left _ _) hP
  rw [← this]
  exact Nat.gcd_dvd_right _ _
theorem one_head_le (n1 : l1 ≠ []) (n2 : l2 ≠ []) (el : l1.length = l2.length) (m2 : HeadMin h2 l2 r2) (er : r1 = r2) (e : ∀ n, 1 ≤ n → at_ h1 l1 r1 n = at_ h2 l2 r2 n) : h2.length ≤ h1.length := by
  have p1 := len_pos n1
  have p2 := len_pos n2
  refine Nat.le_of_not_lt fun hlt => ?_
  obtain ⟨k, hk⟩ : ∃ k, h2.length = k + 1 := ⟨h2.length - 1, by omega⟩
  have q1 := e (k + 1) (by omega)
  have q2 := e (k + 1 + l2.length) (by omega)
  rw [at_loop n1 (by omega), at_loop n2 (by omega)] at q2
  rw [at_loop n1 (by omega)] at q1
  unfold at_ at q1
  rw [if_pos (by omega)] at q1
  have q1 := Option.some.inj q1
  have q2 := Option.some.inj q2
  rw [show k + 1 + l2.length - h1.length - 1 = (k + 1 - h1.length - 1) + l1.length by omega, walk_add p1, q1] at q2
  rw [walk_lt (by omega), show k + 1 + l2.length - h2.length - 1 = l2.length - 1 by omega, show k + 1 - 1 = k by omega] at q2
  exact m2 k hk (by rw [← q2, er])
/-- two forms that can't be made smaller and tell the same are the same -/
theorem one_form (n1 : l1 ≠ []) (n2 : l2 ≠ []) (a1 : LoopMin l1 r1) (a2 : LoopMin l2 r2) (b1 : HeadMin h1 l1 r1) (b2 : HeadMin h2 l2 r2) (e : ∀ n, 1 ≤ n → at_ h1 l1 r1 n = at_ h2 l2 r2 n) : h1 = h2 ∧ l1 = l2 ∧ r1 = r2 := by
  have p1 := len_pos n1
  have p2 := len_pos n2
  have el : l1.length = l2.length := Nat.dvd_antisymm (one_loop_le n1 n2 a1 e) (one_loop_le n2 n1 a2 fun n hn => (e n hn).symm)
  have er : r1 = r2 := by
    have q1 := walk_eq n1 n2 e (n := h1.length + h2.length + 1) (by omega) (by omega)
    have q2 := walk_eq n1 n2 e (n := h1.length + h2.length + 1 + l1.length) (by omega) (by omega)
    rw [show h1.length + h2.length + 1 + l1.length - h1.length - 1 = (h1.length + h2.length + 1 - h1.length - 1) + l1.length by omega, walk_add p1,
      show h1.length + h2.length + 1 + l1.length - h2.length - 1 = (h1.length + h2.length + 1 - h2.length - 1) + l2.length by omega, walk_add p2, q1] at q2
    omega
  have eh : h1.length = h2.length := Nat.le_antisymm (one_head_le n2 n1 el.symm b1 er.symm fun n hn => (e n hn).symm) (one_head_le n1 n2 el b2 er e)
  refine ⟨List.ext_getElem eh fun i i1 i2 => ?_, List.ext_getElem el fun i i1 i2 => ?_, er⟩
  · have q := e (i + 1) (by omega)
    unfold at_ at q
    rw [if_pos (by omega), if_pos (by omega)] at q
    have q := Option.some.inj q
    rw [show i + 1 - 1 = i by omega, List.getD_eq_getElem?_getD, List.getD_eq_getElem?_getD, List.getElem?_eq_getElem i1, List.getElem?_eq_getElem i2] at q
    exact q
  · have q := walk_eq n1 n2 e (n := h1.length + 1 + i) (by omega) (by omega)
    rw [show h1.length + 1 + i - h1.length - 1 = i by omega, show h1.length + 1 + i - h2.length - 1 = i by omega, walk_lt i1, walk_lt i2,
      List.getD_eq_getElem?_getD, List.getD_eq_getElem?_getD, List.getElem?_eq_getElem i1, List.getElem?_eq_getElem i2] at q
    exact q
theorem one_never (e : ∀ n, 1 ≤ n → at_ h1 [] r1 n = at_ h2 [] r2 n) : h1 = h2 := by
  have el : h1.length = h2.length := by
    have q1 := e (h1.length + 1) (by omega)
    have q2 := e (h2.length + 1) (by omega)
    unfold at_ at q1 q2
    rw [if_neg (by omega), if_pos rfl] at q1
    rw [if_neg (show ¬ h2.length + 1 ≤ h2.length by omega), if_pos rfl] at q2
    by_cases c1 : h1.length + 1 ≤ h2.length
    · rw [if_pos c1] at q1
      cases q1
    · by_cases c2 : h2.length + 1 ≤ h1.length
      · rw [if_pos c2] at q2
        cases q2
      · omega
  refine List.ext_getElem el fun i i1 i2 => ?_
  have q := e (i + 1) (by omega)
  unfold at_ at q
  rw [if_pos (by omega), if_pos (by omega)] at q
  have q := Option.some.inj q
  rw [show i + 1 - 1 = i by omega, List.getD_eq_getElem?_getD, List.getD_eq_getElem?_getD, List.getElem?_eq_getElem i1, List.getElem?_eq_getElem i2] at q
  exact q
end
end NT
set_option linter.all false
namespace NT
structure LapIs (l : List Int) (r : Int) (m : Nat) : Prop where
  pos : 0 < m
  dvd : m ∣ l.length
  per : Per (walk l r) m
  least : ∀ m', 0 < m' → m' ∣ l.length → Per (walk l r) m' → m ≤ m'
theorem LapIs.one {l : List Int} {r : Int} {m m' : Nat} (a : LapIs l r m) (b : LapIs l r m') : m = m' := Nat.le_antisymm (a.least _ b.pos b.dvd b.per) (b.least _ a.pos a.dvd a.per)
theorem per_mul {f : Nat → Int} {m : Nat} {c : Int} (h : ∀ k, f (k + m) = f k + c) (k j : Nat) : f (k + m * j) = f k + c * (j : Int) := by
  induction j with
  | zero => simp
  | succ j ih =>
    rw [Nat.mul_succ, ← Nat.add_assoc, h, ih, Int.natCast_add, Int.mul_add]
    omega
/-- the rise of a part that comes round -/
theorem per_rise {l : List Int} {r c : Int} {m : Nat} (hl : l ≠ []) (h : ∀ k, walk l r (k + m) = walk l r k + c) {t : Nat} (ht : m * t = l.length) : r = c * (t : Int) := by
  have q := per_mul h 0 t
  rw [ht, walk_add (len_pos hl)] at q
  omega
theorem per_self {l : List Int} {r : Int} (hl : l ≠ []) : Per (walk l r) l.length := ⟨r, walk_add (len_pos hl)⟩
theorem getD_take {l : List Int} {m i : Nat} (h : i < m) : (l.take m).getD i 0 = l.getD i 0 := by
  rw [List.getD_eq_getElem?_getD, List.getD_eq_getElem?_getD, List.getElem?_take, if_pos h]
theorem getD_drop {l : List Int} {m i : Nat} : (l.drop m).getD i 0 = l.getD (m + i) 0 := by
  rw [List.getD_eq_getElem?_getD, List.getD_eq_getElem?_getD, List.getElem?_drop]
theorem getD_app1 {h l : List Int} {i : Nat} (q : i < h.length) : (h ++ l).getD i 0 = h.getD i 0 := by
  rw [List.getD_eq_getElem?_getD, List.getD_eq_getElem?_getD, List.getElem?_append_left q]
theorem getD_app2 {h l : List Int} {i : Nat} (q : h.length ≤ i) : (h ++ l).getD i 0 = l.getD (i - h.length) 0 := by
  rw [List.getD_eq_getElem?_getD, List.getD_eq_getElem?_getD, List.getElem?_append_right q]
/-- the shorter loop tells the same -/
theorem walk_short {l : List Int} {r c : Int} {m : Nat} (hm : 0 < m) (hle : m ≤ l.length) (h : ∀ k, walk l r (k + m) = walk l r k + c) (k : Nat) : walk (l.take m) c k = walk l r k := by
  have e : k = k % m + m * (k / m) := (Nat.mod_add_div k m).symm
  have hlt : k % m < m := Nat.mod_lt _ hm
  have q := per_mul h (k % m) (k / m)
  rw [← e] at q
  have w1 : walk l r (k % m) = l.getD (k % m) 0 := walk_lt (by omega)
  rw [q, w1]
  show (l.take m).getD (k % (l.take m).length) 0 + c * ((k / (l.take m).length : Nat) : Int) = _
  rw [List.length_take, Nat.min_eq_left hle, getD_take hlt]
theorem short_min {l : List Int} {r c : Int} {m : Nat} (hl : l ≠ []) (a : LapIs l r m) (h : ∀ k, walk l r (k + m) = walk l r k + c) : LoopMin (l.take m) c := by
  have hle : m ≤ l.length := Nat.le_of_dvd (len_pos hl) a.dvd
  intro m' p d q
  rw [List.length_take, Nat.min_eq_left hle] at d ⊢
  have e : walk (l.take m) c = walk l r := funext fun k => walk_short a.pos hle h k
  rw [e] at q
  exact Nat.le_antisymm (Nat.le_of_dvd a.pos d) (a.least _ p (Nat.dvd_trans d a.dvd) q)
/-! ### the head is cut -/
def cut (e : List Int) (p : Nat) (r : Int) : Nat → Nat
  | 0 => 0
  | k + 1 => if e.getD k 0 + r = e.getD (k + p) 0 then cut e p r k else k + 1
/-- the window of p entries behind the first `left` ones -/
def win (e : List Int) (left p : Nat) : List Int := (e.drop left).take p
theorem win_len {e : List Int} {left p : Nat} (h : left + p ≤ e.length) : (win e left p).length = p := by
  unfold win
  rw [List.length_take, List.length_drop]
  omega
theorem win_get {e : List Int} {left p i : Nat} (hi : i < p) : (win e left p).getD i 0 = e.getD (left + i) 0 := by
  unfold win
  rw [getD_take hi, getD_drop]
theorem win_step {e : List Int} {left p : Nat} {r : Int} (hp : 0 < p) (hle : left + 1 + p ≤ e.length) (hs : e.getD left 0 + r = e.getD (left + p) 0) (k : Nat) : walk (win e (left + 1) p) r k = walk (win e left p) r (k + 1) := by
  unfold walk
  rw [win_len (by omega), win_len (by omega)]
  have hlt : k % p < p := Nat.mod_lt _ hp
  rw [win_get hlt]
  by_cases c : k % p + 1 < p
  · have e1 : (k + 1) % p = k % p + 1 := by
      rw [Nat.add_mod, Nat.mod_eq_of_lt (show 1 < p by omega), Nat.mod_eq_of_lt c]
    have e2 : (k + 1) / p = k / p := by
      have q1 := Nat.div_add_mod (k + 1) p
      have q2 := Nat.div_add_mod k p
      rw [e1] at q1
      have : p * ((k + 1) / p) = p * (k / p) := by omega
      exact Nat.eq_of_mul_eq_mul_left hp this
    rw [e1, e2, win_get c]
    congr 2
    omega
  · have cp : k % p + 1 = p := by omega
    have hk : k + 1 = p * (k / p + 1) := by
      have q2 := Nat.div_add_mod k p
      rw [Nat.mul_add, Nat.mul_one]
      omega
    have e1 : (k + 1) % p = 0 := by rw [hk]; exact Nat.mul_mod_right _ _
    have e2 : (k + 1) / p = k / p + 1 := by rw [hk]; exact Nat.mul_div_cancel_left _ hp
    rw [e1, e2, win_get hp, Int.natCast_add, Int.mul_add, show left + 1 + k % p = left + p by omega, ← hs, show left + 0 = left from rfl]
    omega
theorem at_step {e : List Int} {left p : Nat} {r : Int} (hp : 0 < p) (hle : left + 1 + p ≤ e.length) (hs : e.getD left 0 + r = e.getD (left + p) 0) (n : Nat) (hn : 1 ≤ n) :
    at_ (e.take left) (win e left p) r n = at_ (e.take (left + 1)) (win e (left + 1) p) r n := by
  have n1 : win e left p ≠ [] := fun z => by
    have := win_len (e := e) (left := left) (p := p) (by omega)
    rw [z] at this
    simp at this
    omega
  have n2 : win e (left + 1) p ≠ [] := fun z => by
    have := win_len (e := e) (left := left + 1) (p := p) (by omega)
    rw [z] at this
    simp at this
    omega
  unfold at_
  rw [List.length_take, List.length_take, Nat.min_eq_left (by omega), Nat.min_eq_left (by omega), if_neg n1, if_neg n2]
  by_cases c1 : n ≤ left
  · rw [if_pos c1, if_pos (by omega), getD_take (by omega), getD_take (by omega)]
  · by_cases c2 : n ≤ left + 1
    · rw [if_neg c1, if_pos c2, getD_take (by omega), show n - left - 1 = 0 by omega, walk_lt (by rw [win_len (by omega)]; exact hp), win_get hp, show n - 1 = left + 0 by omega]
    · rw [if_neg c1, if_neg c2, win_step hp hle hs, show n - (left + 1) - 1 + 1 = n - left - 1 by omega]
theorem min_step {e : List Int} {left p : Nat} {r : Int} (hp : 0 < p) (hle : left + 1 + p ≤ e.length) (hs : e.getD left 0 + r = e.getD (left + p) 0) (h : LoopMin (win e (left + 1) p) r) : LoopMin (win e left p) r := by
  have l0 := win_len (e := e) (left := left) (p := p) (by omega)
  have l1 := win_len (e := e) (left := left + 1) (p := p) (by omega)
  intro m hm hd hq
  rw [l0] at hd ⊢
  have := h m hm (by rw [l1]; exact hd) (by
    obtain ⟨c, hc⟩ := hq
    refine ⟨c, fun k => ?_⟩
    rw [win_step hp hle hs, win_step hp hle hs, show k + m + 1 = k + 1 + m by omega, hc])
  rw [l1] at this
  exact this
theorem cut_le {e : List Int} {p : Nat} {r : Int} : ∀ k, cut e p r k ≤ k
  | 0 => Nat.le_refl _
  | k + 1 => by
    unfold cut
    split
    · exact Nat.le_succ_of_le (cut_le k)
    · exact Nat.le_refl _
theorem cut_at {e : List Int} {p : Nat} {r : Int} (hp : 0 < p) : ∀ k, k + p ≤ e.length → ∀ n, 1 ≤ n → at_ (e.take (cut e p r k)) (win e (cut e p r k) p) r n = at_ (e.take k) (win e k p) r n
  | 0, _, _, _ => rfl
  | k + 1, h, n, hn => by
    unfold cut
    split
    · rename_i c
      rw [cut_at hp k (by omega) n hn]
      exact at_step hp h c n hn
    · rfl
theorem cut_min {e : List Int} {p : Nat} {r : Int} (hp : 0 < p) : ∀ k, k + p ≤ e.length → LoopMin (win e k p) r → LoopMin (win e (cut e p r k) p) r
  | 0, _, h => h
  | k + 1, hk, h => by
    unfold cut
    split
    · rename_i c
      exact cut_min hp k (by omega) (min_step hp hk c h)
    · exact h
theorem cut_head {e : List Int} {p : Nat} {r : Int} (hp : 0 < p) : ∀ k, k + p ≤ e.length → HeadMin (e.take (cut e p r k)) (win e (cut e p r k) p) r
  | 0, h => fun k hk => by
    unfold cut at hk
    simp at hk
  | k + 1, h => by
    unfold cut
    split
    · exact cut_head hp k (by omega)
    · rename_i c
      intro j hj
      rw [List.length_take, Nat.min_eq_left (by omega)] at hj
      have ej : j = k := by omega
      subst ej
      rw [getD_take (by omega), win_len (by omega), win_get (by omega)]
      intro z
      exact c (by rw [z]; congr 1; omega)
/-! ### the plain form -/
def IsPlain (h l : List Int) (r : Int) (x : List Int × List Int × Int) : Prop :=
  (l = [] ∧ x = (h, [], 0)) ∨ (l ≠ [] ∧ x.2.1 ≠ [] ∧ LoopMin x.2.1 x.2.2 ∧ HeadMin x.1 x.2.1 x.2.2 ∧ ∀ n, 1 ≤ n → at_ x.1 x.2.1 x.2.2 n = at_ h l r n)
theorem plain_one {h1 l1 h2 l2 : List Int} {r1 r2 : Int} {x y : List Int × List Int × Int} (a : IsPlain h1 l1 r1 x) (b : IsPlain h2 l2 r2 y) (e : ∀ n, 1 ≤ n → at_ h1 l1 r1 n = at_ h2 l2 r2 n) : x = y := by
  rcases a with ⟨rfl, rfl⟩ | ⟨n1, n1', m1, k1, e1⟩
  · rcases b with ⟨rfl, rfl⟩ | ⟨n2, n2', m2, k2, e2⟩
    · rw [one_never e]
    · have q := e (h1.length + h2.length + 1) (by omega)
      rw [at_loop n2 (by omega)] at q
      unfold at_ at q
      rw [if_neg (by omega), if_pos rfl] at q
      cases q
  · rcases b with ⟨rfl, rfl⟩ | ⟨n2, n2', m2, k2, e2⟩
    · have q := e (h1.length + h2.length + 1) (by omega)
      rw [at_loop n1 (by omega)] at q
      unfold at_ at q
      rw [if_neg (by omega), if_pos rfl] at q
      cases q
    · obtain ⟨q1, q2, q3⟩ := one_form n1' n2' m1 m2 k1 k2 fun n hn => by rw [e1 n hn, e n hn, e2 n hn]
      obtain ⟨x1, x2, x3⟩ := x
      obtain ⟨y1, y2, y3⟩ := y
      dsimp only at q1 q2 q3
      rw [q1, q2, q3]
theorem plain_is {h l : List Int} {r : Int} {m : Nat} (hl : l ≠ []) (a : LapIs l r m) {c : Int} (hc : ∀ k, walk l r (k + m) = walk l r k + c) :
    IsPlain h l r ((h ++ l.take m).take (cut (h ++ l.take m) m c h.length), win (h ++ l.take m) (cut (h ++ l.take m) m c h.length) m, c) := by
  have hle : m ≤ l.length := Nat.le_of_dvd (len_pos hl) a.dvd
  have hlen : (h ++ l.take m).length = h.length + m := by rw [List.length_append, List.length_take, Nat.min_eq_left hle]
  have hcut := cut_le (e := h ++ l.take m) (p := m) (r := c) h.length
  have hw : win (h ++ l.take m) h.length m = l.take m := by
    unfold win
    rw [List.drop_left, List.take_of_length_le (by rw [List.length_take]; omega)]
  have ht : (h ++ l.take m).take h.length = h := List.take_left
  refine .inr ⟨hl, fun z => ?_, ?_, ?_, fun n hn => ?_⟩
  · have q := win_len (e := h ++ l.take m) (left := cut (h ++ l.take m) m c h.length) (p := m) (by rw [hlen]; omega)
    have z' : win (h ++ l.take m) (cut (h ++ l.take m) m c h.length) m = [] := z
    rw [z'] at q
    have := a.pos
    simp at q
    omega
  · exact cut_min a.pos _ (by rw [hlen]; exact Nat.le_refl _) (by rw [hw]; exact short_min hl a hc)
  · exact cut_head a.pos _ (by rw [hlen]; exact Nat.le_refl _)
  · show at_ ((h ++ l.take m).take (cut (h ++ l.take m) m c h.length)) (win (h ++ l.take m) (cut (h ++ l.take m) m c h.length) m) c n = _
    rw [cut_at a.pos _ (by rw [hlen]; exact Nat.le_refl _) n hn, hw, ht]
    unfold at_
    have n1 : l.take m ≠ [] := fun z => by
      have q := congrArg List.length z
      rw [List.length_take, Nat.min_eq_left hle] at q
      have := a.pos
      simp at q
      omega
    rw [if_neg hl, if_neg n1, walk_short a.pos hle hc]
end NT
set_option linter.all false
namespace NT
def sk (l : List Int) (r : Int) (k : Nat) : Int := walk l r (k + 1) - walk l r k
def steps (l : List Int) (r : Int) : List Int := (List.range l.length).map (sk l r)
section
variable {l : List Int} {r : Int} {m : Nat}
theorem sk_add (hl : l ≠ []) (k q : Nat) : sk l r (k + l.length * q) = sk l r k := by
  unfold sk
  rw [show k + l.length * q + 1 = (k + 1) + l.length * q by omega, walk_add_mul (len_pos hl), walk_add_mul (len_pos hl)]
  omega
theorem per_of_sk (h : ∀ k, sk l r (k + m) = sk l r k) : Per (walk l r) m := by
  refine ⟨walk l r m - walk l r 0, fun k => ?_⟩
  induction k with
  | zero => rw [Nat.zero_add]; omega
  | succ k ih =>
    have q := h k
    unfold sk at q
    rw [show k + 1 + m = k + m + 1 by omega]
    omega
theorem sk_of_per (h : Per (walk l r) m) (k : Nat) : sk l r (k + m) = sk l r k := by
  obtain ⟨c, hc⟩ := h
  unfold sk
  rw [show k + m + 1 = (k + 1) + m by omega, hc, hc]
  omega
theorem chain_up {f : Nat → Int} {n : Nat} {c : Int} (h : ∀ k, k + m < n → f (k + m) = f k + c) (j : Nat) : ∀ u, j + m * u < n → f (j + m * u) = f j + c * (u : Int)
  | 0, _ => by simp
  | u + 1, hu => by
    have e : j + m * (u + 1) = j + m * u + m := by rw [Nat.mul_succ]; omega
    have ih := chain_up h j u (by omega)
    rw [e, h _ (by omega), ih, Int.natCast_add, Int.mul_add]
    omega
/-- a place in the last part of a loop -/
theorem last_part {n i t : Nat} (hm : 0 < m) (ht : m * t = n) (hi : i < n) (hg : ¬ i + m < n) : ∃ j, j < m ∧ i + m = n + j ∧ i = j + m * (t - 1) ∧ 0 < t := by
  have t0 : 0 < t := Nat.pos_of_ne_zero fun z => by rw [z, Nat.mul_zero] at ht; omega
  obtain ⟨t', rfl⟩ : ∃ t', t = t' + 1 := ⟨t - 1, by omega⟩
  rw [Nat.mul_succ] at ht
  refine ⟨i + m - n, by omega, by omega, ?_, t0⟩
  rw [show t' + 1 - 1 = t' by omega]
  omega
theorem cond_iff (hl : l ≠ []) (hm : 0 < m) (hd : m ∣ l.length) : ((steps l r).drop m = (steps l r).take (l.length - m)) ↔ Per (walk l r) m := by
  obtain ⟨t, ht⟩ := hd
  have hle : m ≤ l.length := by rw [ht]; exact Nat.le_mul_of_pos_right _ (Nat.pos_of_ne_zero fun z => by rw [z, Nat.mul_zero] at ht; exact absurd ht (Nat.ne_of_gt (len_pos hl)))
  constructor
  · intro h
    have h0 : ∀ k, k + m < l.length → sk l r (k + m) = sk l r k + 0 := fun k hk => by
      have q := congrArg (fun z : List Int => z[k]?) h
      simp only [steps, List.getElem?_drop, List.getElem?_take, if_pos (show k < l.length - m by omega), List.getElem?_map, List.getElem?_range (show m + k < l.length by omega), List.getElem?_range (show k < l.length by omega), Option.map_some, Option.some.injEq] at q
      rw [show k + m = m + k by omega, q]
      omega
    refine per_of_sk fun k => ?_
    have hp := len_pos hl
    have e : k = k % l.length + l.length * (k / l.length) := (Nat.mod_add_div k _).symm
    have hi : k % l.length < l.length := Nat.mod_lt _ hp
    have e1 : sk l r k = sk l r (k % l.length) := by
      have := sk_add (r := r) hl (k % l.length) (k / l.length)
      rw [← e] at this
      exact this
    have e2 : sk l r (k + m) = sk l r (k % l.length + m) := by
      have := sk_add (r := r) hl (k % l.length + m) (k / l.length)
      rw [show k % l.length + m + l.length * (k / l.length) = k + m by omega] at this
      exact this
    rw [e1, e2]
    by_cases c : k % l.length + m < l.length
    · rw [h0 _ c]; omega
    · obtain ⟨j, j1, j2, j3, t0⟩ := last_part hm ht.symm hi c
      have q := chain_up (f := sk l r) (n := l.length) h0 j (t - 1) (by omega)
      rw [j2, show l.length + j = j + l.length * 1 by omega, sk_add hl, j3, q]
      omega
  · intro h
    refine List.ext_getElem? fun k => ?_
    simp only [steps, List.getElem?_drop, List.getElem?_take, List.getElem?_map]
    by_cases c : k < l.length - m
    · rw [if_pos c, List.getElem?_range (by omega), List.getElem?_range (by omega)]
      simp only [Option.map_some]
      rw [show m + k = k + m by omega, sk_of_per h]
    · rw [if_neg c, List.getElem?_eq_none (by rw [List.length_range]; omega)]
      rfl
theorem walk_i {i : Nat} (h : i < l.length) : walk l r i = l.getD i 0 := walk_lt h
/-- the law's own look at a part of a loop -/
theorem law_iff (hl : l ≠ []) (hm : 0 < m) {t : Nat} (ht : m * t = l.length) : (r % (t : Int) = 0 ∧ ∀ k, k + m < l.length → l.getD (k + m) 0 = l.getD k 0 + r / (t : Int)) ↔ Per (walk l r) m := by
  have hp := len_pos hl
  have t0 : 0 < t := Nat.pos_of_ne_zero fun z => by rw [z, Nat.mul_zero] at ht; omega
  constructor
  · rintro ⟨h1, h2⟩
    have hr : r = r / (t : Int) * (t : Int) := (Int.ediv_mul_cancel (Int.dvd_of_emod_eq_zero h1)).symm
    refine ⟨r / (t : Int), fun k => ?_⟩
    have e : k = k % l.length + l.length * (k / l.length) := (Nat.mod_add_div k _).symm
    have hi : k % l.length < l.length := Nat.mod_lt _ hp
    have e1 : walk l r k = walk l r (k % l.length) + r * ((k / l.length : Nat) : Int) := by
      have := walk_add_mul (r := r) hp (k % l.length) (k / l.length)
      rw [← e] at this
      exact this
    have e2 : walk l r (k + m) = walk l r (k % l.length + m) + r * ((k / l.length : Nat) : Int) := by
      have := walk_add_mul (r := r) hp (k % l.length + m) (k / l.length)
      rw [show k % l.length + m + l.length * (k / l.length) = k + m by omega] at this
      exact this
    rw [e1, e2, walk_i hi]
    by_cases c : k % l.length + m < l.length
    · rw [walk_i c, h2 _ c]; omega
    · obtain ⟨j, j1, j2, j3, _⟩ := last_part hm ht hi c
      have q := chain_up (f := fun i => l.getD i 0) (n := l.length) h2 j (t - 1) (by omega)
      have q' : l.getD (k % l.length) 0 = l.getD j 0 + r / (t : Int) * ((t - 1 : Nat) : Int) := by rw [← q]; exact congrArg (fun i => l.getD i 0) j3
      have hjl : j < l.length := by omega
      rw [j2, show l.length + j = j + l.length by omega, walk_add hp, walk_i hjl, q']
      have e3 : r / (t : Int) * (t : Int) = r / (t : Int) * ((t - 1 : Nat) : Int) + r / (t : Int) := by
        rw [show (t : Int) = ((t - 1 : Nat) : Int) + 1 by omega, Int.mul_add, Int.mul_one]
      omega
  · rintro ⟨c, hc⟩
    have hr := per_rise hl hc ht
    have hd : r / (t : Int) = c := by
      rw [hr]
      exact Int.mul_ediv_cancel _ (by omega)
    refine ⟨by rw [hr]; exact Int.mul_emod_left _ _, fun k hk => ?_⟩
    have q := hc k
    rw [walk_i hk, walk_i (by omega)] at q
    rw [q, hd]
/-- what goes on by a part goes on so by its rise -/
theorem per_at (hl : l ≠ []) (hm : 0 < m) (h : Per (walk l r) m) {t : Nat} (ht : m * t = l.length) : ∀ k, walk l r (k + m) = walk l r k + r / (t : Int) := by
  obtain ⟨c, hc⟩ := h
  have hr := per_rise hl hc ht
  have t0 : 0 < t := Nat.pos_of_ne_zero fun z => by rw [z, Nat.mul_zero] at ht; exact absurd ht.symm (Nat.ne_of_gt (len_pos hl))
  have hd : r / (t : Int) = c := by
    rw [hr]
    exact Int.mul_ediv_cancel _ (by omega)
  rw [hd]
  exact hc
/-- the program's search -/
theorem lap_prog (hl : l ≠ []) (hm : 0 < m) (hle : m ≤ l.length / 2) (hd : m ∣ l.length) (hp : Per (walk l r) m) (hno : ∀ m', 0 < m' → m' < m → m' ∣ l.length → ¬ Per (walk l r) m') : LapIs l r m :=
  ⟨hm, hd, hp, fun m' p d q => Nat.le_of_not_lt fun c => hno m' p c d q⟩
theorem lap_whole (hl : l ≠ []) (hno : ∀ m', 0 < m' → m' ≤ l.length / 2 → m' ∣ l.length → ¬ Per (walk l r) m') : LapIs l r l.length :=
  ⟨len_pos hl, Nat.dvd_refl _, per_self hl, fun m' p d q => Nat.le_of_not_lt fun c => hno m' p (by
    obtain ⟨t, ht⟩ := d
    have t2 : 2 ≤ t := Nat.le_of_not_lt fun z => by
      have : t = 0 ∨ t = 1 := by omega
      rcases this with rfl | rfl
      · rw [Nat.mul_zero] at ht; omega
      · rw [Nat.mul_one] at ht; omega
    have : m' * 2 ≤ l.length := by rw [ht]; exact Nat.mul_le_mul_left _ t2
    omega) d q⟩
end
end NT
set_option Elab.async false
set_option linter.all false
set_option maxRecDepth 100000
set_option maxHeartbeats 4000000
namespace NF
open PySem PySem.Spec PyProof.Rows L2 He RZ
theorem Same.tup {K : PySem.W.Frag} {H H' : Hp} {a : Addr} {xs : List V} (e : Same H H') (h : SqT K H a xs) : SqT K H' a xs := by
  rcases h with (h | ⟨o, h⟩) | h
  · exact .inl (.inl (e _ _ h))
  · exact .inl (.inr ⟨o, e _ _ h⟩)
  · exact .inr h
abbrev vI (l : List Int) : List V := l.map V.int
/-! ### o.f = v as one of several targets -/
def gFld (K : PySem.W.Frag) (ta : TE) (f : Str) : TG := fun v σ H Q => ta σ H fun x H1 => ∃ a C dx fs, x = .ref a ∧ H1 a = some (.ins C dx fs) ∧ Cls K C ∧ NoAttr K C f ∧ fs.length < 1000 ∧ Q σ (upd H1 a (.ins C dx (putF f v fs)))
theorem pg_fld {X : Cx} {o : Expr} {f : Str} {pos : Pos} {ta : TE} (ha : PE X o ta) : PG X (.Attribute o f pos) (gFld X.K ta f) := by
  refine ⟨fun pins s σ H v u Q I r h => ?_⟩
  refine PySem.W.kas_attr (thn (ha.run pins s σ H _ I h) fun ov s1 ⟨x, H1, I1, rx, a, C, dx, fs, ex, ea, c, n, l, q⟩ => ?_)
  subst ex
  obtain rfl : ov = Value.ref a := rx
  exact setattr_ok I1 ea c n l r fun s2 I2 => ⟨σ, _, I2, q⟩
/-! ### a name of the module that is a function of Python's own -/
theorem pe_gl {X : Cx} {x : Str} {a : Addr} {pos : Pos} (hm : X.mg x = some (.ref a)) (hg : Gl X x := by rfl) (hd : (x == ("__debug__" : Str)) = false := by decide) : PE X (.Name x pos) (tC (.ref a)) := pe_glob (v := .ref a) hg hm rfl hd
theorem ixl {X : Cx} {K : PySem.W.Frag} (h : X.K = K := by rfl) : IxR X (rIxL K) := h ▸ ix_list
theorem pgt {X : Cx} {K : PySem.W.Frag} {es : List Expr} {k : Nat} {pos : Pos} {t : TGs} {n : Nat} (hK : X.K = K) (hc : X.calm = true) (h : PGs X es t)
    (hn : (assignEach es X.env).length = n := by rfl) (hst : (assignEach es X.env).findIdx? (·.1) = none := by rfl) : PG X (.Tuple es k pos) (gTup K n t) := hK ▸ pg_tup hc h hn hst
theorem ixt {X : Cx} {K : PySem.W.Frag} (h : X.K = K := by rfl) : IxR X (rIxT K) := h ▸ ix_tup
/-! ### slices and sums of tuples: whatever object they give -/
theorem sIx_negN {n d k : Nat} (hk : 0 < k) : HT.sIx n d (some (-(k : Int))) = n - k := by
  show (if -(k : Int) < 0 then (-(k : Int) + (n : Int)).toNat else min (-(k : Int)).toNat n) = n - k
  rw [if_pos (by omega)]
  omega
theorem cut_whole {xs : List V} {lo hi : Option Int} (h : HT.sIx xs.length 0 lo = 0 ∧ HT.sIx xs.length xs.length hi = xs.length) : cutV xs lo hi = xs := by
  unfold cutV
  rw [h.1, h.2]
  simp
theorem slA_done {K : PySem.W.Frag} {H : Hp} {a : Addr} {xs : List V} {lo hi : Option Int} {Q : VK} (hx : SqT K H a xs) (q : ∀ p H', Same H H' → SqT K H' p (cutV xs lo hi) → Q (.ref p) H') : rSlA K (.ref a) lo hi H Q := by
  refine ⟨a, xs, rfl, hx, fun w => q a H (Same.refl H) (by rw [cut_whole w]; exact hx), fun _ p hp => q p _ (NF.Same.new (Same.refl H) hp) (SqT.of upd_same)⟩
theorem slA_from {K : PySem.W.Frag} {H : Hp} {a : Addr} {xs : List V} {lo : Option Int} {Q : VK} {σ : L2.St} (hx : SqT K H a xs) (q : ∀ p H', Same H H' → SqT K H' p (cutV xs lo none) → Q (.ref p) H') : tNoPart σ H fun u H3 => rSlA K (.ref a) lo u H3 Q := by
  show rSlA K (.ref a) lo none H Q
  exact slA_done hx q
theorem catA_done {K : PySem.W.Frag} {H : Hp} {a b : Addr} {xs ys : List V} {Q : VK} (hx : SqT K H a xs) (hy : SqT K H b ys) (hz : xs.length + ys.length ≤ sizeLine) (q : ∀ p H', Same H H' → SqT K H' p (xs ++ ys) → Q (.ref p) H') : rCatA K (.ref a) (.ref b) H Q := by
  refine ⟨a, b, xs, ys, rfl, rfl, hx, hy, hz, fun e => q b H (Same.refl H) (by rw [e]; exact hy), fun _ e => q a H (Same.refl H) (by rw [e, List.append_nil]; exact hx), fun _ _ p hp => q p _ (NF.Same.new (Same.refl H) hp) (SqT.of upd_same)⟩
theorem cut_from {xs : List V} {n : Nat} : cutV xs (some (n : Int)) none = xs.drop n := by
  unfold cutV
  rw [HT.sIx_nat]
  show (xs.drop (min n xs.length)).take (xs.length - min n xs.length) = xs.drop n
  by_cases h : n ≤ xs.length
  · rw [Nat.min_eq_left h, List.take_of_length_le (by rw [List.length_drop]; exact Nat.le_refl _)]
  · rw [Nat.min_eq_right (by omega), List.drop_of_length_le (Nat.le_refl _), List.drop_of_length_le (by omega)]
    simp
theorem cut_to {xs : List V} {n : Nat} : cutV xs none (some (n : Int)) = xs.take n := by
  unfold cutV
  rw [HT.sIx_nat]
  show (xs.drop 0).take (min n xs.length - 0) = xs.take n
  rw [List.drop_zero, Nat.sub_zero]
  by_cases h : n ≤ xs.length
  · rw [Nat.min_eq_left h]
  · rw [Nat.min_eq_right (by omega), List.take_of_length_le (Nat.le_refl _), List.take_of_length_le (by omega)]
theorem cut_toN {xs : List V} {n : Nat} (h : 0 < n) : cutV xs none (some (-(n : Int))) = xs.take (xs.length - n) := by
  unfold cutV
  rw [sIx_negN h]
  show (xs.drop 0).take (xs.length - n - 0) = _
  rw [List.drop_zero, Nat.sub_zero]
theorem cut_mid {xs : List V} {a b : Nat} (h : a ≤ b) (hb : b ≤ xs.length) : cutV xs (some (a : Int)) (some (b : Int)) = (xs.drop a).take (b - a) := by
  unfold cutV
  rw [HT.sIx_nat, HT.sIx_nat, Nat.min_eq_left hb, Nat.min_eq_left (by omega)]
theorem map_cut {l : List Int} {lo hi : Option Int} : ∃ m : List Int, cutV (vI l) lo hi = vI m := ⟨(l.drop (HT.sIx (vI l).length 0 lo)).take (HT.sIx (vI l).length (vI l).length hi - HT.sIx (vI l).length 0 lo), by unfold cutV; simp only [vI, List.map_take, List.map_drop]⟩
theorem at_int {l : List Int} {i : Int} {k : Nat} (e : i = (k : Int)) (h : k < l.length) : atI (vI l) i = some (V.int (l.getD k 0)) := by
  rw [e]
  exact atI_nat (by rw [List.getElem?_map, List.getElem?_eq_getElem h, List.getD_eq_getElem?_getD, List.getElem?_eq_getElem h] <;> rfl)
theorem at_last {l : List Int} (h : 0 < l.length) : atI (vI l) (-1) = some (V.int (l.getD (l.length - 1) 0)) := by
  unfold atI ixN
  rw [if_neg (by omega), List.length_map, if_pos (by omega)]
  show (vI l)[((-1 : Int) + (l.length : Int)).toNat]? = _
  rw [show ((-1 : Int) + (l.length : Int)).toNat = l.length - 1 by omega, List.getElem?_map, List.getElem?_eq_getElem (by omega), List.getD_eq_getElem?_getD, List.getElem?_eq_getElem (by omega)] <;> rfl
/-! ### [.. for a, b in zip(t, u)] of two tuples of one length -/
theorem lc_zipT {K : PySem.W.Frag} {a b : Addr} {xs ys : List V} {g : TG} {tt : TT} {te : TE} {vs : List Nat} {σ : L2.St} {H1 : Hp} {D : Addr} {Qd : Hp → Prop} (hl : xs.length = ys.length) (Pv : Nat → Hp → Prop) (h0 : Pv 0 (upd H1 D (.lst []))) (hq : ∀ i H, Pv i H → SqT K H a xs ∧ SqT K H b ys)
    (hs : ∀ i x y T H, xs[i]? = some x → ys[i]? = some y → Pv i H → H T = none → g (.ref T) (wipe σ vs) (upd H T (.tup [x, y])) fun σ2 H2 => wipe σ2 vs = wipe σ vs ∧ tt σ2 H2 fun b H3 =>
      if b = true then te σ2 H3 fun y H4 => ∃ acc, H4 D = some (.lst acc) ∧ acc.length < sizeLine ∧ Pv (i + 1) (upd H4 D (.lst (acc ++ [y]))) else Pv (i + 1) H3) (hd : ∀ H, Pv xs.length H → Qd H) :
    ∃ W : Nat → Nat → Hp → Prop, (∃ m, W 0 m (upd H1 D (.lst []))) ∧ ∀ i m H, W i m H →
      ((ItzT K a b).stop i H ∧ Qd H) ∨ ((ItzT K a b).go i H ∧ ∃ Nx : Hp → Prop, (∀ H', Nx H' → ∃ m', m' < m ∧ W (i + 1) m' H') ∧ ∀ x H', (ItzT K a b).yld i H x H' → g x (wipe σ vs) H' fun σ2 H2 => wipe σ2 vs = wipe σ vs ∧ tt σ2 H2 fun b H3 =>
        if b = true then te σ2 H3 fun y H4 => ∃ acc, H4 D = some (.lst acc) ∧ acc.length < sizeLine ∧ Nx (upd H4 D (.lst (acc ++ [y]))) else Nx H3) := by
  refine ⟨fun i m H => m = xs.length - i ∧ i ≤ xs.length ∧ Pv i H, ⟨xs.length, rfl, Nat.zero_le _, h0⟩, ?_⟩
  rintro i m H ⟨rfl, hi, p⟩
  obtain ⟨qx, qy⟩ := hq i H p
  by_cases hlt : i < xs.length
  · have hx : xs[i]? = some xs[i] := List.getElem?_eq_getElem hlt
    have hlt2 : i < ys.length := by omega
    have hy : ys[i]? = some ys[i] := List.getElem?_eq_getElem hlt2
    refine .inr ⟨⟨xs, ys, _, _, qx, qy, hx, hy⟩, Pv (i + 1), fun H' p' => ⟨xs.length - (i + 1), by omega, rfl, hlt, p'⟩, fun v H' y => ?_⟩
    obtain ⟨T, x', y', rfl, hT, rfl, f1, f2⟩ := y
    exact hs i x' y' T H (f1 xs qx) (f2 ys qy) p hT
  · have e : i = xs.length := by omega
    subst e
    exact .inl ⟨⟨xs, ys, qx, qy, Or.inl (Nat.le_refl _)⟩, hd H p⟩
theorem tru_tup {K : PySem.W.Frag} {H : Hp} {a : Addr} {l : List Int} (h : SqT K H a (vI l)) : TruV K (.ref a) H (!l.isEmpty) := Or.inr (Or.inl ⟨_, h, by cases l <;> rfl⟩)
theorem tru_int {K : PySem.W.Frag} {H : Hp} {i : Int} : TruV K (.int i) H (i != 0) := rfl
/-! ### deep == of lists and tuples of vI -/
theorem dp_ints {K : PySem.W.Frag} {H : Hp} : ∀ l : List Int, DpAll K H (vI l) (l.map PyData.int)
  | [] => .nil
  | i :: l => .cons (.int i) (dp_ints l)
theorem eqv_ints : ∀ a b : List Int, PyData.eqvAll (a.map PyData.int) (b.map PyData.int) = decide (a = b)
  | [], [] => rfl
  | [], _ :: _ => rfl
  | _ :: _, [] => rfl
  | x :: a, y :: b => by
    show (PyData.eqv (.int x) (.int y) && PyData.eqvAll (a.map PyData.int) (b.map PyData.int)) = _
    rw [eqv_ints a b]
    show ((x == y) && decide (a = b)) = _
    by_cases h : x = y <;> by_cases g : a = b <;> simp [h, g]
end NF
namespace NF
open PySem PySem.Spec PyProof.Rows L2 He RZ
theorem lay_ints : ∀ l : List Int, PyData.canLayAll0 (l.map PyData.int) = true
  | [] => rfl
  | _ :: l => lay_ints l
theorem depth_ints : ∀ l : List Int, PyData.depthAll (l.map PyData.int) = 0
  | [] => rfl
  | i :: l => by
    show max (PyData.depth (.int i)) (PyData.depthAll (l.map PyData.int)) = 0
    rw [depth_ints l]
    rfl
theorem shaped_L (l : List Int) : SeqAt.shaped (.list (l.map PyData.int)) = true := by
  show (PyData.canLayAll0 (l.map PyData.int) && decide (PyData.depthAll (l.map PyData.int) + 1 ≤ 64)) = true
  rw [lay_ints, depth_ints]
  rfl
theorem shaped_T (l : List Int) : SeqAt.shaped (.tuple (l.map PyData.int)) = true := by
  show (PyData.canLayAll0 (l.map PyData.int) && decide (PyData.depthAll (l.map PyData.int) + 1 ≤ 64)) = true
  rw [lay_ints, depth_ints]
  rfl
theorem eqL_done {K : PySem.W.Frag} {H : Hp} {a b : Addr} {x y : List Int} {Q : VK} (hx : SqL K H a (vI x)) (hy : SqL K H b (vI y)) (q : Q (.bl (decide (x = y))) H) : rEqD K (.ref a) (.ref b) H Q :=
  ⟨_, _, .lst hx (dp_ints x), .lst hy (dp_ints y), shaped_L x, shaped_L y, by rw [show PyData.eqv (.list (x.map PyData.int)) (.list (y.map PyData.int)) = decide (x = y) from eqv_ints x y]; exact q⟩
theorem eqT_done {K : PySem.W.Frag} {H : Hp} {a b : Addr} {x y : List Int} {Q : VK} (hx : SqT K H a (vI x)) (hy : SqT K H b (vI y)) (q : Q (.bl (decide (x = y))) H) : rEqD K (.ref a) (.ref b) H Q :=
  ⟨_, _, .tup hx (dp_ints x), .tup hy (dp_ints y), shaped_T x, shaped_T y, by rw [show PyData.eqv (.tuple (x.map PyData.int)) (.tuple (y.map PyData.int)) = decide (x = y) from eqv_ints x y]; exact q⟩
theorem neT_done {K : PySem.W.Frag} {H : Hp} {a b : Addr} {x y : List Int} {Q : VK} (hx : SqT K H a (vI x)) (hy : SqT K H b (vI y)) (q : Q (.bl (!decide (x = y))) H) : rNeD K (.ref a) (.ref b) H Q :=
  ⟨_, _, .tup hx (dp_ints x), .tup hy (dp_ints y), shaped_T x, shaped_T y, by rw [show PyData.eqv (.tuple (x.map PyData.int)) (.tuple (y.map PyData.int)) = decide (x = y) from eqv_ints x y]; exact q⟩
end NF
namespace NF
open PySem
theorem vI_drop {l : List Int} {n : Nat} : (vI l).drop n = vI (l.drop n) := by simp [vI, List.map_drop]
theorem vI_take {l : List Int} {n : Nat} : (vI l).take n = vI (l.take n) := by simp [vI, List.map_take]
theorem vI_app {l m : List Int} : vI l ++ vI m = vI (l ++ m) := by simp [vI]
theorem vI_len {l : List Int} : (vI l).length = l.length := by simp [vI]
end NF
namespace NF
open PySem PySem.Spec PyProof.Rows L2 He RZ
/-- a list or a tuple -/
def Row (K : PySem.W.Frag) (H : Hp) (a : Addr) (xs : List V) : Prop := SqL K H a xs ∨ SqT K H a xs
theorem Row.mono {K : PySem.W.Frag} {H H' : Hp} {a : Addr} {xs : List V} (h : Row K H a xs) (s : Same H H') : Row K H' a xs := h.elim (fun h => .inl (L2.Same.seq s h)) (fun h => .inr (NF.Same.tup s h))
def iRow (K : PySem.W.Frag) (tl : TE) : TI := fun σ H R => tl σ H fun x H1 => ∃ a, x = .ref a ∧ (((∃ xs, SqL K H1 a xs) ∧ R (Itl K a) H1) ∨ ((∃ xs, SqT K H1 a xs) ∧ R (Itt K a) H1))
theorem pi_row {X : Cx} {tg l : Expr} {tl : TE} (hl : PE X l tl) : PI X tg l (iRow X.K tl) := by
  refine ⟨fun pins s σ H R I h => ?_⟩
  refine thn (hl.run pins s σ H _ I h) fun v s1 ⟨x, H1, I1, r1, q1⟩ => ?_
  obtain ⟨a, e, q⟩ := q1
  subst e
  cases r1
  rcases q with ⟨⟨xs, hq⟩, q⟩ | ⟨⟨xs, hq⟩, q⟩
  · obtain ⟨its, rv, p, hz⟩ := I1.list hq
    refine wpAny_pyIter_list p.isList ?_
    refine ⟨s1.heap.objs.size, [s1.heap.objs.size], _, _, H1, rfl, I1.kept (t' := s1.toks) fun b o e => Heap.get?_push_of_some _ e, turn_list a _, ⟨_, Heap.get?_push_size _ rfl, rfl, rfl⟩, fun b hb => ?_, q⟩
    have e : b = s1.heap.objs.size := by simpa using hb
    subst e
    exact I1.fpOk (Nat.le_refl _) (I1.hok.fresh (Nat.le_refl _))
  · obtain ⟨its, rv, p, hz⟩ := I1.tuple hq
    refine wpAny_pyIter_tuple (show s1.heap.IsTuple a its.toArray from p) ?_
    refine ⟨s1.heap.objs.size, [s1.heap.objs.size], _, _, H1, rfl, I1.kept (t' := s1.toks) fun b o e => Heap.get?_push_of_some _ e, turn_tuple a _, ⟨_, Heap.get?_push_size _ rfl, rfl, rfl⟩, fun b hb => ?_, q⟩
    have e : b = s1.heap.objs.size := by simpa using hb
    subst e
    exact I1.fpOk (Nat.le_refl _) (I1.hok.fresh (Nat.le_refl _))
theorem for_row {K : PySem.W.Frag} {a : Addr} {xs : List V} {g : TG} {tb : TS} {D : Ends} {σ : L2.St} {H : Hp} (hr : Row K H a xs) (Pv : Nat → L2.St → Hp → Prop) (h0 : Pv 0 σ H) (hm : ∀ i σ H', Pv i σ H' → Same H H')
    (hs : ∀ i x σ H, xs[i]? = some x → Pv i σ H → g x σ H fun σ2 H2 => tb { D with nx := Pv (i + 1), ct := Pv (i + 1), bk := D.nx } σ2 H2) (hd : ∀ σ H, Pv xs.length σ H → D.nx σ H) :
    ((∃ xs, SqL K H a xs) ∧ (∃ W : Nat → Nat → L2.St → Hp → Prop, (∃ m, W 0 m σ H) ∧ ∀ i m σ H, W i m σ H →
      ((Itl K a).stop i H ∧ D.nx σ H) ∨ ((Itl K a).go i H ∧ ∃ N : L2.St → Hp → Prop, (∀ σ' H', N σ' H' → ∃ m', m' < m ∧ W (i + 1) m' σ' H') ∧ ∀ x H', (Itl K a).yld i H x H' → g x σ H' fun σ2 H2 => tb { D with nx := N, ct := N, bk := D.nx } σ2 H2))) ∨
    ((∃ xs, SqT K H a xs) ∧ (∃ W : Nat → Nat → L2.St → Hp → Prop, (∃ m, W 0 m σ H) ∧ ∀ i m σ H, W i m σ H →
      ((Itt K a).stop i H ∧ D.nx σ H) ∨ ((Itt K a).go i H ∧ ∃ N : L2.St → Hp → Prop, (∀ σ' H', N σ' H' → ∃ m', m' < m ∧ W (i + 1) m' σ' H') ∧ ∀ x H', (Itt K a).yld i H x H' → g x σ H' fun σ2 H2 => tb { D with nx := N, ct := N, bk := D.nx } σ2 H2))) := by
  rcases hr with hr | hr
  · exact .inl ⟨⟨_, hr⟩, for_list Pv h0 (fun i σ H' _ p => L2.Same.seq (hm i σ H' p) hr) hs hd⟩
  · exact .inr ⟨⟨_, hr⟩, for_tup Pv h0 (fun i σ H' _ p => NF.Same.tup (hm i σ H' p) hr) hs hd⟩
theorem ixs {X : Cx} {K : PySem.W.Frag} (h : X.K = K := by rfl) : IxR X (rIx K) := h ▸ ix_seq
theorem ix_done {K : PySem.W.Frag} {H : Hp} {a : Addr} {xs : List V} {i : Int} {v : V} {Q : VK} (hr : Row K H a xs) (hv : atI xs i = some v) (q : Q v H) : rIx K (.ref a) (.int i) H Q :=
  hr.elim (fun h => .inl ⟨a, xs, i, v, rfl, rfl, h, hv, q⟩) fun h => .inr (.inl ⟨a, xs, i, v, rfl, rfl, h, hv, q⟩)
theorem tru_row {K : PySem.W.Frag} {H : Hp} {a : Addr} {l : List Int} (h : Row K H a (vI l)) : TruV K (.ref a) H (!l.isEmpty) := h.elim (fun h => Or.inl ⟨_, h, by cases l <;> rfl⟩) tru_tup
theorem tyx_tup {K : PySem.W.Frag} {H : Hp} {a : Addr} {xs : List V} (h : SqT K H a xs) : TyX K H (.ref a) (.type "tuple") := by
  rcases h with (h | ⟨o, h⟩) | ⟨o, its, n, h1, h2, _⟩
  · exact .base (.tup h)
  · exact .fTuple h
  · exact .kTuple h1 h2
theorem tyx_lst {K : PySem.W.Frag} {H : Hp} {a : Addr} {xs : List V} (h : SqL K H a xs) : TyX K H (.ref a) (.type "list") := by
  rcases h with (h | ⟨o, h⟩) | ⟨o, its, n, h1, h2, _⟩
  · exact .base (.lst h)
  · exact .base (.frz h)
  · exact .kList h1 h2
theorem kit_i_i (K : PySem.W.Frag) : PySem.W.kitOne K (.type "int") (.type "int") = some true := if_pos (by decide +kernel)
theorem kit_i_b (K : PySem.W.Frag) : PySem.W.kitOne K (.type "int") (.type "bool") = some false := by kernel_rfl
theorem kit_b_b (K : PySem.W.Frag) : PySem.W.kitOne K (.type "bool") (.type "bool") = some true := if_pos (by decide +kernel)
theorem kit_t_t (K : PySem.W.Frag) : PySem.W.kitOne K (.type "tuple") (.type "tuple") = some true := if_pos (by decide +kernel)
theorem kit_t_tl (K : PySem.W.Frag) : PySem.W.kitAny K (.type "tuple") [.type "tuple", .type "list"] = some true := by kernel_rfl
theorem kit_l_tl (K : PySem.W.Frag) : PySem.W.kitAny K (.type "list") [.type "tuple", .type "list"] = some true := by kernel_rfl
end NF
namespace NT
def climbs : Int → List Int → Prop
  | _, [] => True
  | lo, x :: xs => lo ≤ x ∧ climbs x xs
structure Good (h l : List Int) (r : Int) : Prop where
  hd : climbs 0 h
  lp : climbs 0 l
  join : h ≠ [] → l ≠ [] → h.getD (h.length - 1) 0 ≤ l.getD 0 0
  r0 : 0 ≤ r
  rl : l = [] → r = 0
  last : l ≠ [] → l.getD (l.length - 1) 0 ≤ l.getD 0 0 + r
end NT
set_option Elab.async false
set_option linter.all false
set_option maxRecDepth 100000
set_option maxHeartbeats 4000000
namespace NT
theorem least_of {p : Nat → Prop} : ∀ n, p n → ∃ m, p m ∧ m ≤ n ∧ ∀ k, p k → m ≤ k := by
  intro n
  induction n using Nat.strongRecOn with
  | _ n ih =>
    intro hn
    by_cases h : ∃ k, p k ∧ k < n
    · obtain ⟨k, hk, hlt⟩ := h
      obtain ⟨m, h1, h2, h3⟩ := ih k hlt hk
      exact ⟨m, h1, by omega, h3⟩
    · exact ⟨n, hn, Nat.le_refl _, fun k hk => Nat.le_of_not_lt fun hlt => h ⟨k, hk, hlt⟩⟩
theorem lap_ex {l : List Int} {r : Int} (hl : l ≠ []) : ∃ m, LapIs l r m := by
  obtain ⟨m, ⟨h1, h2, h3⟩, _, hm⟩ := least_of (p := fun m => 0 < m ∧ m ∣ l.length ∧ Per (walk l r) m) l.length ⟨len_pos hl, Nat.dvd_refl _, per_self hl⟩
  exact ⟨m, h1, h2, h3, fun k a b c => hm k ⟨a, b, c⟩⟩
/-- the plain form is no longer than what it was told by -/
theorem plain_size {h l : List Int} {r : Int} {x : List Int × List Int × Int} (hx : IsPlain h l r x) : x.1.length ≤ h.length ∧ x.2.1.length ≤ l.length ∧ (l ≠ [] → x.2.1 ≠ []) ∧ (l = [] → x.2.1 = []) ∧ (0 ≤ r → 0 ≤ x.2.2 ∧ x.2.2 ≤ r) ∧ (l ≠ [] → (0 < r ↔ 0 < x.2.2)) ∧ (l = [] → x = (h, [], 0)) := by
  by_cases hl : l = []
  · subst hl
    rcases hx with ⟨_, rfl⟩ | ⟨z, _⟩
    · exact ⟨Nat.le_refl _, Nat.le_refl _, fun z => absurd rfl z, fun _ => rfl, fun h => ⟨Int.le_refl _, h⟩, fun z => absurd rfl z, fun _ => rfl⟩
    · exact absurd rfl z
  · obtain ⟨m, a⟩ := lap_ex (r := r) hl
    obtain ⟨t, ht⟩ := a.dvd
    have hc := per_at hl a.pos a.per ht.symm
    have hr := per_rise hl hc ht.symm
    have t0 : 0 < t := Nat.pos_of_ne_zero fun z => by rw [z, Nat.mul_zero] at ht; have := len_pos hl; omega
    have b := plain_is (h := h) hl a hc
    have e := plain_one hx b fun n _ => rfl
    have hle : m ≤ l.length := Nat.le_of_dvd (len_pos hl) a.dvd
    have hlen : (h ++ l.take m).length = h.length + m := by rw [List.length_append, List.length_take, Nat.min_eq_left hle]
    have hcut := cut_le (e := h ++ l.take m) (p := m) (r := r / (t : Int)) h.length
    have hw := win_len (e := h ++ l.take m) (left := cut (h ++ l.take m) m (r / (t : Int)) h.length) (p := m) (by rw [hlen]; omega)
    subst e
    have hm := a.pos
    refine ⟨?_, ?_, fun _ z => ?_, fun z => absurd z hl, fun h0 => ?_, fun _ => ?_, fun z => absurd z hl⟩
    · show ((h ++ l.take m).take _).length ≤ _
      rw [List.length_take]
      omega
    · show (win _ _ _).length ≤ _
      rw [hw]
      exact hle
    · have z' : win (h ++ l.take m) (cut (h ++ l.take m) m (r / (t : Int)) h.length) m = [] := z
      rw [z'] at hw
      simp at hw
      omega
    · show 0 ≤ r / (t : Int) ∧ r / (t : Int) ≤ r
      exact ⟨Int.ediv_nonneg h0 (by omega), Int.ediv_le_self _ h0⟩
    · show 0 < r ↔ 0 < r / (t : Int)
      have t1 : (0 : Int) < (t : Int) := by omega
      constructor
      · intro h0
        rcases Int.lt_or_le 0 (r / (t : Int)) with q | q
        · exact q
        · have := Int.mul_le_mul_of_nonneg_right q (Int.le_of_lt t1)
          omega
      · intro h0
        have := Int.mul_pos h0 t1
        omega
/-- the end of a table -/
def fin_ (l : List Int) (r : Int) : Option Int := if l = [] ∨ 0 < r then none else some (l.getD (l.length - 1) 0)
/-- the value at a count, or at never -/
def val_ (h l : List Int) (r : Int) : Option Nat → Option Int
  | none => fin_ l r
  | some n => if n = 0 then some 0 else at_ h l r n
end NT
namespace NF
open PySem PySem.Spec PyProof.Rows L2 He RZ NT
def vO : Option Int → V
  | none => .non
  | some i => .int i
def vN : Option Nat → V
  | none => .non
  | some n => .int (n : Int)
def tf (a b : Addr) (r : Int) : List (Str × V) := [("head", .ref a), ("loop", .ref b), ("rise", .int r)]
/-- a table with these three -/
def TabAt (K : PySem.W.Frag) (C : Addr) (H : Hp) (x : Addr) (y : List Int × List Int × Int) : Prop := ∃ dx a b, H x = some (.ins C dx (tf a b y.2.2)) ∧ SqT K H a (vI y.1) ∧ SqT K H b (vI y.2.1)
theorem TabAt.mono {K : PySem.W.Frag} {C : Addr} {H H' : Hp} {x : Addr} {y : List Int × List Int × Int} (h : TabAt K C H x y) (s : Same H H') : TabAt K C H' x y := by
  obtain ⟨dx, a, b, h1, h2, h3⟩ := h
  exact ⟨dx, a, b, s _ _ h1, NF.Same.tup s h2, NF.Same.tup s h3⟩
/-- what stands at p is no tuple -/
def NoTup : HO → Prop
  | .tup _ => False
  | .frz _ _ => False
  | _ => True
theorem SqT.put {K : PySem.W.Frag} {H : Hp} {a p : Addr} {o u : HO} {xs : List V} (h : SqT K H a xs) (hp : H p = some u) (n : match u with | .lst _ => True | .ins _ _ _ => True | _ => False) : SqT K (upd H p o) a xs := by
  rcases h with (h | ⟨w, h⟩) | h
  · refine .inl (.inl ?_)
    rw [upd_ne (fun z => by subst z; rw [h] at hp; cases hp; exact n)]
    exact h
  · refine .inl (.inr ⟨w, ?_⟩)
    rw [upd_ne (fun z => by subst z; rw [h] at hp; cases hp; exact n)]
    exact h
  · exact .inr h
theorem SqT.wo {K : PySem.W.Frag} {H : Hp} {a p : Addr} {u : HO} {xs : List V} (h : SqT K H a xs) (hp : H p = some u) (n : match u with | .lst _ => True | .ins _ _ _ => True | _ => False) : SqT K (wo H p) a xs := by
  rcases h with (h | ⟨w, h⟩) | h
  · refine .inl (.inl ?_)
    rw [wo_ne (fun z => by subst z; rw [h] at hp; cases hp; exact n)]
    exact h
  · refine .inl (.inr ⟨w, ?_⟩)
    rw [wo_ne (fun z => by subst z; rw [h] at hp; cases hp; exact n)]
    exact h
  · exact .inr h
theorem TabAt.wo {K : PySem.W.Frag} {C : Addr} {H : Hp} {x p : Addr} {y : List Int × List Int × Int} {l : List V} (h : TabAt K C H x y) (hp : H p = some (.lst l)) : TabAt K C (NF.wo H p) x y := by
  obtain ⟨dx, a, b, h1, h2, h3⟩ := h
  refine ⟨dx, a, b, ?_, SqT.wo h2 hp trivial, SqT.wo h3 hp trivial⟩
  rw [wo_ne (fun z => by subst z; rw [h1] at hp; cases hp)]
  exact h1
/-- a class that may be made by its name; sp: its __init__ -/
structure Mak (P : Program) (w : World) (K : PySem.W.Frag) (mg : Str → Option Value) (base : Heap) (k n : Nat) (x : Str) (C : Addr) (sp : Sp) (dvs : List V) : Prop where
  ex : ∃ (f : Addr) (fd : FuncData) (ps : List Str) (ds : List Value), Mk K C f ∧ FnOk P w K mg base CX0 k f fd ps sp ∧ mg x = some (.ref C) ∧ Binds K fd ps ds ∧ Vals dvs ds
theorem pe_mk {X : Cx} {k j n : Nat} {C : Addr} {x : Str} {sp : Sp} {dvs : List V} {p pos : Pos} {e : Expr} {es : List Expr} {t : TA} (c : Mak X.prog X.w X.K X.mg X.base k n x C sp dvs) (hr : Room j X.A) (hk : k + 1 ≤ j) (hg : Gl X x) (ha : PA X (e :: es) t)
    (hdb : (x == ("__debug__" : Str)) = false := by decide) (he : starEach (e :: es) X.env = (false, eval e X.env) :: starEach es X.env := by rfl) (hpl : (backTo pos (starEach es X.env)).any (·.1) = false := by rfl) :
    PE X (.Call (.Name x p) (e :: es) [] pos) (tMake C sp dvs E0 t) := by
  obtain ⟨f, fd, ps, ds, M, F, hm, b, d⟩ := c.ex
  exact pe_make M F (hr.mono hk) hg hm b d pass0 ha hdb he hpl
end NF
namespace NF
open PySem PySem.Spec PyProof.Rows L2 He RZ NT
/-- tuple(..) of a list or a tuple -/
def rTupOf (K : PySem.W.Frag) : List V → Hp → VK → Prop := fun xs H Q => ∃ a ys, xs = [.ref a] ∧ Row K H a ys ∧ ∀ p H', Same H H' → SqT K H' p ys → Q (.ref p) H'
theorem cr_tup {X : Cx} : CallR X (.type "tuple") (rTupOf X.K) := by
  intro pins s σ H xs us Q I r h
  obtain ⟨a, ys, rfl, hr, q⟩ := h
  refine call_tuple_of pins s σ H _ us Q I r ⟨a, ys, rfl, ?_⟩
  exact hr.elim (fun h => .inl ⟨h, fun l hl => q l _ (NF.Same.new (Same.refl H) hl) (SqT.of upd_same)⟩) fun h => .inr ⟨h, q a H (Same.refl H) h⟩
end NF
set_option Elab.async false
set_option linter.all false
set_option maxRecDepth 100000
set_option maxHeartbeats 4000000
/-! Instances of a plain class with an own __eq__: ==, !=, isinstance, calls, properties. -/
namespace NF
open PySem PySem.Spec PyProof.Rows L2 He RZ NT
theorem ns_some_of {K : PySem.W.Frag} {h : Heap} {N : Addr} {mg : Str → Option Value} {n : Str} {v : Value} (X : K.In h) (G : h.Ns N mg) (e : PySem.W.nsIn K N n = some (some v)) : mg n = some v := by
  rcases G with ⟨ob, rows, cnt, at_, isD, rest⟩
  have val := rest.2 n
  rcases hk : K.lookup N with _ | ⟨c0, d0, dt, sl⟩
  · simp only [PySem.W.nsIn, hk] at e
    cases e
  · have same := (X N _ hk).symm.trans at_
    injection same with same
    subst same
    dsimp only at isD
    subst isD
    simp only [PySem.W.nsIn, hk] at e
    rw [← val]
    unfold nsFind findBy
    rw [← Array.find?_toList]
    revert e
    cases rows.toList.find? _ with
    | some en => exact fun e => by simpa using e
    | none =>
      intro e
      by_cases hany : (rows.toList.any fun x => x.refKey) = true
      · simp [hany] at e
      · simp [hany] at e
/-- the class's own object: nothing above it but object, an own __eq__ at f, no own __ne__ -/
def plObjB (K : PySem.W.Frag) (C f : Addr) : Bool := match K.lookup C with
  | some ⟨.type t, _, .cls cd, sl⟩ => t == "type" && (match cd.mro with
    | .ref C' :: bm => C' == C && bm == [.type "object"]
    | _ => false) && (cd.hasDict && !cd.hasDel) && (PySem.W.nsOkIn K cd.ns && eqO (PySem.W.nsIn K cd.ns "__eq__") (some (some (.ref f))) && eqO (PySem.W.nsIn K cd.ns "__ne__") (some none)) && (match sl.toList with
    | [_, _, _, _, some (.builtin n), _] => n == "object.__new__"
    | _ => false)
  | _ => false
theorem plObjB_ok {K : PySem.W.Frag} {C f : Addr} (h : plObjB K C f = true) :
    ∃ nm q N bs sn sub ab col dd k0 k1 k2 k3 k5, K.lookup C = some (excClassObj nm q C N bs [.type "object"] true sn sub ab col dd k0 k1 k2 k3 k5 "object.__new__") ∧ PySem.W.nsOkIn K N = true ∧ PySem.W.nsIn K N "__eq__" = some (some (.ref f)) ∧ PySem.W.nsIn K N "__ne__" = some none := by
  unfold plObjB at h
  split at h
  · rename_i t dd cd sl hl
    obtain ⟨h, h4⟩ := ba h
    obtain ⟨h, h9⟩ := ba h
    obtain ⟨h, h3⟩ := ba h
    obtain ⟨h1, h2⟩ := ba h
    obtain ⟨h12, h11⟩ := ba h9
    obtain ⟨h13, h10⟩ := ba h12
    split at h2
    · rename_i C' bm hm
      obtain ⟨h5, h6⟩ := ba h2
      split at h4
      · rename_i k0 k1 k2 k3 n k5 hs
        obtain ⟨h7, h8⟩ := ba h3
        have e1 : t = "type" := eq_of_beq h1
        have e5 : C' = C := eq_of_beq h5
        have e6 : bm = [.type "object"] := eq_of_beq h6
        have e9 : n = "object.__new__" := eq_of_beq h4
        subst e1 e5 e6 e9
        obtain ⟨nm, bs, mro, N, q, hd, sn, sub, ab, col, hdel⟩ := cd
        dsimp only at hm h7 h8 h13 h10 h11
        subst hm h7
        have hdel' : hdel = false := by
          cases hdel with
          | false => rfl
          | true => cases h8
        subst hdel'
        have hsl : sl = #[k0, k1, k2, k3, some (.builtin "object.__new__"), k5] := by
          have := congrArg List.toArray hs
          simpa using this
        subst hsl
        exact ⟨nm, q, N, bs, sn, sub, ab, col, dd, k0, k1, k2, k3, k5, hl, h13, eqO_ok h10, eqO_ok h11⟩
      · cases h4
    · cases h2
  · cases h
/-- x == y, x an instance of C -/
def rEqO (K : PySem.W.Frag) (C : Addr) (sp : Sp) : R2 := fun x y H Q => ∃ a dx fs tb, x = .ref a ∧ H a = some (.ins C dx fs) ∧ TyX K H y tb ∧ PySem.W.notFirst K C tb = true ∧ sp [.ref a, y] H Q E0
/-- x != y, both instances of C -/
def rNeO (K : PySem.W.Frag) (C : Addr) (sp : Sp) : R2 := fun x y H Q => ∃ a dx fs b dy gs, x = .ref a ∧ H a = some (.ins C dx fs) ∧ y = .ref b ∧ H b = some (.ins C dy gs) ∧ sp [.ref a, .ref b] H (fun v H' => ∃ t, v = .bl t ∧ Q (.bl (!t)) H') E0
/-- a class with an own == at f -/
structure EqC (P : Program) (w : World) (K : PySem.W.Frag) (mg : Str → Option Value) (base : Heap) (k : Nat) (C : Addr) (sp : Sp) : Prop where
  ex : ∃ (f : Addr) (fd : FuncData) (ps : List Str), FnOk P w K mg base CX0 k f fd ps sp ∧ PySem.W.findIn K (.ref C) "__eq__" = some (some (.ref f)) ∧ PySem.W.isFn K (.ref f) = true ∧ plObjB K C f = true ∧ Binds K fd ps []
theorem op_eqO {X : Cx} {k j : Nat} {C : Addr} {sp : Sp} (c : EqC X.prog X.w X.K X.mg X.base k C sp) (hr : Room j X.A) (hk : k ≤ j) : OpR X (compareOp .Eq) (rEqO X.K C sp) := by
  obtain ⟨f, fd, ps, F, hs, hf, _, hb⟩ := c.ex
  intro pins s σ H x y v u Q I rx ry h
  obtain ⟨a, dx, fs, tb, rfl, ha, ty, hn, q⟩ := h
  cases rx
  obtain ⟨mA, O, _⟩ := ins_get I.hok ha
  obtain ⟨od, J, _⟩ := O.look
  obtain ⟨m, hF⟩ := I.fr
  obtain ⟨P, Z, p, _⟩ := kit_of I ry ty
  show wpAny (model X.prog X.w) X.A (richCompare .Eq (.ref a) u) (EP X pins σ Q) X.xe s
  refine PySem.W.cmp_K (op := .Eq) (tb := tb) hr.units0 hF I.ok.mod.kin J (Z.ty _ _ I.kIn p) hn hs hf ?_
  have r2 : Vals [V.ref a, y] [Value.ref a, u] := .cons rfl (.cons ry .nil)
  refine wpAny_mono (run_fn (us := [.ref a, u]) (vs := [.ref a, y]) F (hr.mono hk) hb .nil pass0 I r2 q) (fun r s' z => ?_) fun _ _ e => e
  obtain ⟨z, H', I', rz, q'⟩ := z
  have hni : r ≠ .notImplemented := fun e => by
    subst e
    cases z with
    | int i => obtain ⟨t, e⟩ := (show ∃ t, Value.notImplemented = Value.int i t from rz); cases e
    | str i => obtain ⟨t, e⟩ := (show ∃ t, Value.notImplemented = Value.str i t from rz); cases e
    | byt i => obtain ⟨t, e⟩ := (show ∃ t, Value.notImplemented = Value.bytes i t from rz); cases e
    | flt i => obtain ⟨t, e⟩ := (show ∃ t, Value.notImplemented = Value.float i t from rz); cases e
    | _ => cases rz
  unfold PySem.W.CmpBack
  split
  · exact hni rfl
  · exact ⟨z, H', I', rz, q'⟩
theorem op_neO {X : Cx} {k j : Nat} {C : Addr} {sp : Sp} (c : EqC X.prog X.w X.K X.mg X.base k C sp) (hr : Room j X.A) (hk : k + 1 ≤ j) : OpR X (compareOp .NotEq) (rNeO X.K C sp) := by
  obtain ⟨f, fd, ps, F, hs, hf, hp, hb⟩ := c.ex
  intro pins s σ H x y v u Q I rx ry h
  obtain ⟨a, dx, fs, b, dy, gs, rfl, ha, rfl, hb', q⟩ := h
  cases rx
  cases ry
  obtain ⟨mA, O, _⟩ := ins_get I.hok ha
  obtain ⟨od, J, _⟩ := O.look
  obtain ⟨mB, O', _⟩ := ins_get I.hok hb'
  obtain ⟨od', J', _⟩ := O'.look
  obtain ⟨nm, qn, N, bs, sn, sub, ab, col, dd, k0, k1, k2, k3, k5, hl, hok, he, hne⟩ := plObjB_ok hp
  have G : s.heap.Ns N (s.heap.nsMap N) := .of_isNs (PySem.W.isNs_of_in I.kIn hok)
  have hr1 := hr.mono hk
  have r2 : Vals [V.ref a, .ref b] [Value.ref a, .ref b] := .cons rfl (.cons rfl .nil)
  have hlen := F.len _ _ _ _ q
  have run : wpAny (model X.prog X.w) X.A.in1 (call (.ref f) [.ref a, .ref b]) (fun v s' => ∃ t, v = .bool t ∧ EP X pins σ Q (.bool (!t)) s') X.xe s := by
    refine wpAny_call (codeAny_mono (F.run X.A.in1 X.stack s H ⟨[.ref a, .ref b], []⟩ [.ref a, .ref b] [.ref a, .ref b] _ E0 hr1.in1 I.env0.in1 (by
      have := hb s [.ref a, .ref b] I.kIn (by simpa using hlen)
      simpa using this) r2 q) fun r s' hq => ?_)
    cases r with
    | error e => exact False.elim hq
    | ok fl =>
      cases fl with
      | ret w =>
        obtain ⟨z, H', I', rz, t, ez, q3⟩ := I.after hq
        subst ez
        cases rz
        exact ⟨t, rfl, .bl (!t), H', I', rfl, q3⟩
      | next => exact False.elim hq
      | brk => exact False.elim hq
      | cont => exact False.elim hq
  obtain ⟨j1, j2, _⟩ := J
  obtain ⟨j3, j4, _⟩ := J'
  obtain ⟨of, hfo, hfc⟩ : ∃ of, s.heap.get? f = some of ∧ of.cls = .type "function" := by
    have e : (K0 : PySem.W.Frag) → K0.In s.heap → PySem.W.isFn K0 (.ref f) = true → ∃ of, s.heap.get? f = some of ∧ of.cls = .type "function" := fun K0 hK h0 => by
      have e1 : (K0.lookup f).map (·.cls) = some (.type "function") := beq_iff_eq.mp h0
      obtain ⟨o, ho, hc⟩ := Option.map_eq_some_iff.mp e1
      exact ⟨o, hK _ _ ho, hc⟩
    exact e X.K I.kIn hf
  obtain ⟨hp', g, d, tk, os⟩ := s
  exact PySem.compareOp_ne_ownEq (B := "object") (bm := [.type "object"]) PySem.F.cmp_object ⟨_, of, nm, qn, N, bs, true, sn, sub, ab, col, dd, k0, k1, k2, k3, k5, "object.__new__", _, _, j1, j2, I.kIn _ _ hl, G, ns_some_of I.kIn G he, hfo, hfc, PySem.F.cmp_object.mro, PySem.F.cmp_object.eq.lookup, PySem.W.ns_none_of I.kIn G hne⟩ j3 j4 (by have := hr.un; omega) run
/-- an instance of C may be called -/
structure CalO (P : Program) (w : World) (K : PySem.W.Frag) (mg : Str → Option Value) (base : Heap) (k : Nat) (C : Addr) (sp : Sp) : Prop where
  ex : ∃ (g : Addr) (fd : FuncData) (ps : List Str), StX.CallO K C g ∧ FnOk P w K mg base CX0 k g fd ps sp ∧ Binds K fd ps []
theorem pe_co {X : Cx} {k j : Nat} {C : Addr} {sp : Sp} {fe e : Expr} {es : List Expr} {t : TA} {tf : TE} {pos : Pos} (hf : PE X fe tf) (c : CalO X.prog X.w X.K X.mg X.base k C sp) (hr : Room j X.A) (hk : k ≤ j) (ha : PA X (e :: es) t)
    (ht : eval (.Call fe (e :: es) [] pos) X.env = (do callWith pos (← eval fe X.env) [] (backTo pos (starEach (e :: es) X.env)) (backToKw pos (keywordEach [] X.env))) := by rfl)
    (he : starEach (e :: es) X.env = (false, eval e X.env) :: starEach es X.env := by rfl) (hpl : (backTo pos (starEach es X.env)).any (·.1) = false := by rfl) :
    PE X (.Call fe (e :: es) [] pos) (StX.tCallO X C (fun vs H Q E => sp (vs ++ []) H Q E) E0 tf t) := by
  obtain ⟨g, fd, ps, c, F, b⟩ := c.ex
  exact StX.pe_callO hf c (F.raw b .nil) (hr.mono hk) pass0 ha ht he hpl
/-- a property of C -/
structure PropC (P : Program) (w : World) (K : PySem.W.Frag) (mg : Str → Option Value) (base : Heap) (k : Nat) (C : Addr) (f : Str) (sp : Sp) : Prop where
  cl : Cls K C
  ex : ∃ (p g : Addr) (fd : FuncData) (ps : List Str), PropOf K C f p g ∧ FnOk P w K mg base CX0 k g fd ps sp ∧ Binds K fd ps []
theorem pe_pr {X : Cx} {k j : Nat} {C : Addr} {f : Str} {sp : Sp} {e : Expr} {ta : TE} {pos : Pos} (he : PE X e ta) (c : PropC X.prog X.w X.K X.mg X.base k C f sp) (hr : Room j X.A) (hk : k + 1 ≤ j) (hab : attributeBase e f X.env (eval e X.env) = eval e X.env := by rfl) :
    PE X (.Attribute e f pos) (tProp C sp [] E0 ta) := by
  obtain ⟨p, g, fd, ps, c2, F, b⟩ := c.ex
  exact pe_prop he c.cl c2 F (hr.mono hk) b .nil pass0 hab
end NF
set_option Elab.async false
set_option linter.all false
set_option maxRecDepth 100000
set_option maxHeartbeats 4000000
/-! The hook with getters: defs at addresses told by the written part. -/
namespace NF
open PySem PySem.Spec PyProof.Rows L2 He
def fnWa (K : PySem.W.Frag) (a : Addr) : FnW := match K.lookup a with
  | some ⟨_, _, .func fd, _⟩ => some (fd.name, fd.qualname, fd.params, fd.body, fd.scope, fd.globals, fd.closure, fd.builtins)
  | _ => none
def okA (K : PySem.W.Frag) (a : Addr) (d : DefD) : Bool := PySem.W.keepIn K (.ref a) && (match K.lookup a with
  | some ⟨_, _, .func fd, _⟩ => PySem.W.codeIn K fd.code d.qual && (dflB K fd.defaults (d.dvs K) && kwdB K fd.kwdefaults (d.kws K))
  | _ => false)
theorem funA {K : PySem.W.Frag} {a : Addr} {d : DefD} (e : fnWa K a = d.val) (c : okA K a d = true) : ∃ fd, FunD K d.name d.qual d.params d.body d.scope (d.dvs K) (d.kws K) a fd := by
  have hkp := (ba c).1
  have hrec := (ba c).2
  rcases hl : K.lookup a with _ | ⟨c0, d0, dt, sl⟩
  · simp only [hl] at hrec
    exact absurd hrec (by decide)
  · cases dt
    case func g =>
      simp only [fnWa, hl, DefD.val, Option.some.injEq, Prod.mk.injEq] at e
      rcases g with ⟨m1, m2, m3, m4, m5, m6, m7, m8, m9, m10, m11, m12, m13, m14, m15⟩
      simp only at e
      rcases e with ⟨z1, z2, z3, z4, z5, z6, z7, z8⟩
      simp only [hl] at hrec
      have hcode := (ba hrec).1
      have hdfl := dflB_ok (ba (ba hrec).2).1
      have hkwd := kwdB_ok (ba (ba hrec).2).2
      refine ⟨PySem.W.fnOf d.name d.qual d.params d.body d.scope m8 m9 m10 m11 m12 m13 m14, ⟨c0, d0, m8, m9, m10, m11, m12, m13, m14, sl, rfl, ?_, hcode, hdfl, hkwd⟩, hkp⟩
      subst z1 z2 z3 z4 z5 z6 z7 z8
      exact hl
    all_goals
      simp only [hl] at hrec
      exact absurd hrec (by decide)
abbrev Adr := (PySem.W.Frag → Addr) × DefD
def obsP (ex : PySem.W.Frag → Bool) (fn : List Adr) (K : PySem.W.Frag) : AlD := (ex K && fn.all fun d => okA K (d.1 K) d.2, fn.map fun d => fnWa K (d.1 K))
def valP (fn : List Adr) : AlD := (true, fn.map fun d => d.2.val)
def SaysP (ex : PySem.W.Frag → Bool) (fn : List Adr) (K : PySem.W.Frag) : Prop := obsP ex fn K = valP fn
def obsPG (n : Nat) (ex : PySem.W.Frag → Bool) (fn : List Adr) (g : Addr → Option Obj) : AlD := obsP ex fn (frG g (asD g n))
def hookP (n : Nat) (ex : PySem.W.Frag → Bool) (fn : List Adr) : PySem.W.Hook where
  α := AlD
  obs := fun s => obsPG n ex fn s.heap.get?
  val := fun _ => valP fn
  says := fun _ h => ∃ K : PySem.W.Frag, K.In h ∧ SaysP ex fn K
  of := fun _ _ e => ⟨_, frG_in, e⟩
  keeps := fun _ _ _ ⟨K, hK, c⟩ k => ⟨K, PySem.W.Frag.In.keeps hK k, c⟩
theorem obsPG_eq {n : Nat} {ex : PySem.W.Frag → Bool} {fn : List Adr} {g : Addr → Option Obj} {s : Shared} (h : ∀ a, g a = s.heap.get? a) : obsPG n ex fn g = (hookP n ex fn).obs s := by
  have e : g = s.heap.get? := funext h
  rw [e] <;> rfl
section
variable {ex : PySem.W.Frag → Bool} {fn : List Adr} {K : PySem.W.Frag}
theorem SaysP.truth (c : SaysP ex fn K) : ex K = true :=
  (ba (show (ex K && fn.all fun d => okA K (d.1 K) d.2) = true from congrArg (fun z : AlD => z.1) c)).1
theorem SaysP.def_ (c : SaysP ex fn K) (i : Nat) {d : Adr} (h : fn[i]? = some d := by rfl) : ∃ fd, FunD K d.2.name d.2.qual d.2.params d.2.body d.2.scope (d.2.dvs K) (d.2.kws K) (d.1 K) fd := by
  have c2 := (ba (show (ex K && fn.all fun d => okA K (d.1 K) d.2) = true from congrArg (fun z : AlD => z.1) c)).2
  have e : fn.map (fun d => fnWa K (d.1 K)) = fn.map fun d => d.2.val := congrArg (fun z : AlD => z.2) c
  have e2 : (fn.map fun d => fnWa K (d.1 K))[i]? = (fn.map fun d => d.2.val)[i]? := by rw [e]
  rw [List.getElem?_map, List.getElem?_map, h] at e2
  exact funA (Option.some.inj e2) (List.all_eq_true.mp c2 d (List.mem_of_getElem? h))
end
end NF
set_option Elab.async false
set_option linter.all false
set_option maxRecDepth 100000
set_option maxHeartbeats 4000000
/-! Makers and instances whose defs let an exception out. -/
namespace NF
open PySem PySem.Spec PyProof.Rows L2 He RZ NT
/-- a def's answer handed on, or its exception let through -/
theorem handS {X : Cx} {CX : CXT} {E : L2.St → XK} {σ : L2.St} {pins : List (Addr × Obj)} {H : Hp} {s : Shared} {Q : VK} (hx : PassesAt CX X σ (E σ)) (I : Inv X pins σ H s) {r : Result} {s' : Shared} (h : CR CX X.stack X.prog X.w H s Q (E σ) r s') :
    (∃ u, r = .ok (.ret u) ∧ EP X pins σ Q u s') ∨ ∃ e, r = .error e ∧ X.xe e s' := by
  cases r with
  | error e => exact .inr ⟨e, rfl, hx pins H s e s' I h⟩
  | ok fl => cases fl with
    | ret u => exact .inl ⟨u, rfl, I.after h⟩
    | next => exact h.elim
    | brk => exact h.elim
    | cont => exact h.elim
def tMakeS (C : Addr) (sp : Sp) (dvs : List V) (E : L2.St → XK) (t : TA) : TE := fun σ H Q => t σ H fun vs H1 => ∀ x dx, H1 x = none → H1 dx = none → dx ≠ x →
  sp (.ref x :: (vs ++ dvs)) (upd (upd H1 dx (.own x)) x (.ins C dx [])) (fun v H2 => v = .non ∧ Q (.ref x) H2) (E σ)
theorem make_runs {X : Cx} {CX : CXT} {k : Nat} {C f : Addr} {fd : FuncData} {ps : List Str} {sp : Sp} {dvs : List V} {ds : List Value} {E : L2.St → XK} {pins : List (Addr × Obj)} {σ : L2.St} {H : Hp} {s : Shared} {Q : VK} {us : List Value} {vs : List V}
    (M : Mk X.K C f) (F : FnOk X.prog X.w X.K X.mg X.base CX k f fd ps sp) (hr : Room (k + 1) X.A) (hb : Binds X.K fd ps ds) (hd : Vals dvs ds) (hx : PassesAt CX X σ (E σ)) (I : Inv X pins σ H s) (r : Vals vs us)
    (h : ∀ x dx, H x = none → H dx = none → dx ≠ x → sp (.ref x :: (vs ++ dvs)) (upd (upd H dx (.own x)) x (.ins C dx [])) (fun v H2 => v = .non ∧ Q (.ref x) H2) (E σ)) :
    wpAny (model X.prog X.w) X.A (call (.ref C) us) (EP X pins σ Q) X.xe s := by
  have want := h (s.heap.objs.size + 1) s.heap.objs.size (I.hok.fresh (Nat.le_succ _)) (I.hok.fresh (Nat.le_refl _)) (Nat.ne_of_lt (Nat.lt_succ_self _))
  have J := Inv.made (C := C) I
  have rr : Vals (V.ref (s.heap.objs.size + 1) :: (vs ++ dvs)) (Value.ref (s.heap.objs.size + 1) :: (us ++ ds)) := .cons rfl (r.append hd)
  have len : (Value.ref (s.heap.objs.size + 1) :: us ++ ds).length = ps.length := rr.length.symm.trans (F.len _ _ _ _ want)
  have body := F.run _ X.stack _ _ ⟨Value.ref (s.heap.objs.size + 1) :: us, []⟩ (Value.ref (s.heap.objs.size + 1) :: (us ++ ds)) _ _ (E σ) (hr.make C us []) (J.env0.make C us []) (hb _ (Value.ref (s.heap.objs.size + 1) :: us) J.kIn len) rr want
  refine wpAny_call (make_map (f := f) I.kIn M.makes M.init (beq_iff_eq.mp M.fn) (codeAny_mono body fun q s' hq => ?_))
  rcases handS hx J hq with ⟨u, rfl, v, H', J', rv, ev, q3⟩ | ⟨e, rfl, hz⟩
  · subst ev
    exact ⟨rv, V.ref (s.heap.objs.size + 1), H', J', rfl, q3⟩
  · exact hz
/-- a class whose __init__ may let an exception out -/
structure MakX (P : Program) (w : World) (K : PySem.W.Frag) (mg : Str → Option Value) (base : Heap) (k n : Nat) (x : Str) (C : Addr) (sp : Sp) (dvs : List V) : Prop where
  ex : ∃ (f : Addr) (fd : FuncData) (ps : List Str) (ds : List Value), Mk K C f ∧ FnOk P w K mg base (L2.CX P w) k f fd ps sp ∧ mg x = some (.ref C) ∧ Binds K fd ps ds ∧ Vals dvs ds
theorem pe_mkX {X : Cx} {k j n : Nat} {C : Addr} {x : Str} {sp : Sp} {dvs : List V} {W : WX} {p pos : Pos} {e : Expr} {es : List Expr} {t : TA} (tk : Takes X W) (c : MakX X.prog X.w X.K X.mg X.base k n x C sp dvs) (hr : Room j X.A) (hk : k + 1 ≤ j) (hg : Gl X x) (ha : PA X (e :: es) t)
    (hdb : (x == ("__debug__" : Str)) = false := by decide) (he : starEach (e :: es) X.env = (false, eval e X.env) :: starEach es X.env := by rfl) (hpl : (backTo pos (starEach es X.env)).any (·.1) = false := by rfl) :
    PE X (.Call (.Name x p) (e :: es) [] pos) (tMakeS C sp dvs (WE W) t) := by
  obtain ⟨f, fd, ps, ds, M, F, hm, b, d⟩ := c.ex
  refine ⟨fun pins s σ H Q I h => ?_⟩
  refine wpAny_Call_Name_kw (ld_glob I hg hm ?_ hdb)
  refine PySem.W.callWith_K (h₀ := X.base) I.ok.mod.kin M.kp (thn (ha.run pos pins s σ H _ I h) fun us s1 ⟨vs, H1, I1, r, q⟩ => ⟨I1.kIn, ?_⟩) he hpl
  exact make_runs (E := WE W) M F (hr.mono hk) b d (passAt tk σ) I1 r q
/-- a def that may let an exception out, by its name -/
structure CalX (P : Program) (w : World) (K : PySem.W.Frag) (mg : Str → Option Value) (base : Heap) (k : Nat) (x : Str) (sp : Sp) : Prop where
  ex : ∃ (f : Addr) (fd : FuncData) (ps : List Str), FnOk P w K mg base (L2.CX P w) k f fd ps sp ∧ mg x = some (.ref f) ∧ PySem.W.keepIn K (.ref f) = true ∧ Binds K fd ps []
theorem pe_cX {X : Cx} {k j : Nat} {x : Str} {sp : Sp} {W : WX} {e : Expr} {es : List Expr} {t : TA} {p pos : Pos} (tk : Takes X W) (c : CalX X.prog X.w X.K X.mg X.base k x sp) (hr : Room j X.A) (hk : k ≤ j) (hg : Gl X x) (ha : PA X (e :: es) t)
    (hdb : (x == ("__debug__" : Str)) = false := by decide) (he : starEach (e :: es) X.env = (false, eval e X.env) :: starEach es X.env := by rfl) (hpl : (backTo pos (starEach es X.env)).any (·.1) = false := by rfl) :
    PE X (.Call (.Name x p) (e :: es) [] pos) (tCallS sp (WE W) t) := by
  obtain ⟨f, fd, ps, F, hm, kp, b⟩ := c.ex
  exact pe_callS F (hr.mono hk) hg hm kp b (fun σ => passAt tk σ) ha hdb he hpl
/-- an instance that may be called, and may let an exception out -/
structure CalOX (P : Program) (w : World) (K : PySem.W.Frag) (mg : Str → Option Value) (base : Heap) (k : Nat) (C : Addr) (sp : Sp) : Prop where
  ex : ∃ (g : Addr) (fd : FuncData) (ps : List Str), StX.CallO K C g ∧ FnOk P w K mg base (L2.CX P w) k g fd ps sp ∧ Binds K fd ps []
def tCallOS (C : Addr) (sp : Sp) (E : L2.St → XK) (tf : TE) (t : TA) : TE := fun σ H Q => tf σ H fun y H1 => ∃ a, y = V.ref a ∧ t σ H1 fun vs H2 => (∃ dx fs, H2 a = some (.ins C dx fs)) ∧ sp (V.ref a :: vs) H2 Q (E σ)
theorem pe_coX {X : Cx} {k j : Nat} {C : Addr} {sp : Sp} {W : WX} {fe e : Expr} {es : List Expr} {t : TA} {tf : TE} {pos : Pos} (tk : Takes X W) (hf : PE X fe tf) (c : CalOX X.prog X.w X.K X.mg X.base k C sp) (hr : Room j X.A) (hk : k ≤ j) (ha : PA X (e :: es) t)
    (ht : eval (.Call fe (e :: es) [] pos) X.env = (do callWith pos (← eval fe X.env) [] (backTo pos (starEach (e :: es) X.env)) (backToKw pos (keywordEach [] X.env))) := by rfl)
    (he : starEach (e :: es) X.env = (false, eval e X.env) :: starEach es X.env := by rfl) (hpl : (backTo pos (starEach es X.env)).any (·.1) = false := by rfl) :
    PE X (.Call fe (e :: es) [] pos) (tCallOS C sp (WE W) tf t) := by
  obtain ⟨g, fd, ps, co, F, b⟩ := c.ex
  refine ⟨fun pins s σ H Q I h => ?_⟩
  refine Call_ (thn (hf.run pins s σ H _ I h) fun u s1 ⟨y, H1, I1, ry, a, ey, q⟩ => ?_) ht
  subst ey
  cases ry
  refine StX.callO_with (thn (ha.run pos pins s1 σ H1 _ I1 q) fun us s2 ⟨vs, H2, I2, r, hi0, q2⟩ => ?_) he hpl
  have hi : StX.InsC X H2 a C := .inr hi0
  obtain ⟨ox, od, J, hd⟩ := StX.insC_at I2 hi
  refine ⟨⟨C, ox, od, J, hd⟩, ?_⟩
  have rr : Vals (V.ref a :: vs) (Value.ref a :: us) := .cons rfl r
  have len : (Value.ref a :: us).length = ps.length := rr.length.symm.trans (F.len _ _ _ _ q2)
  have bb := b s2 (Value.ref a :: us) I2.kIn (by rw [List.append_nil]; exact len)
  rw [List.append_nil] at bb
  refine wpAny_call (PySem.W.kco_code I2.kIn J hd co.at_ co.fn co.fi (codeAny_mono (F.run X.A X.stack s2 H2 ⟨Value.ref a :: us, []⟩ (Value.ref a :: us) (V.ref a :: vs) Q (WE W σ) (hr.mono hk) I2.env0 bb rr q2) fun z s' hq => ?_))
  rcases handS (E := WE W) (passAt tk σ) I2 hq with ⟨u, rfl, hz⟩ | ⟨e, rfl, hz⟩
  · exact hz
  · exact hz
/-! ### own exceptions that keep their one argument -/
/-- what __init__ of a class whose errors bear f does -/
def spExc (C : Addr) (f : Str) : Sp := fun vs H Q _ => ∃ (a : Addr) (v : V), vs = [.ref a, v] ∧ H a = some (exo a C none) ∧ ∀ d, H d = none → d ≠ a → Q .non (upd (upd H d (exd d [(f, v)])) a (exo a C (some d)))
structure ExcI (P : Program) (w : World) (K : PySem.W.Frag) (mg : Str → Option Value) (base : Heap) (x f : Str) : Prop where
  T : OexC K (ga K x)
  ex : ∃ (fI : Addr) (fd : FuncData), PySem.W.findIn K (.ref (ga K x)) "__init__" = some (some (.ref fI)) ∧ PySem.W.typeIn K (.ref fI) = some (.type "function") ∧ FnOk P w K mg base CX0 1 fI fd ["self", f] (spExc (ga K x) f) ∧ Binds K fd ["self", f] []
  gm : mg x = some (.ref (ga K x))
abbrev bodyE (f : Str) (q1 q2 q3 q4 : Pos) : List Stmt := [.Assign [.Attribute (.Name "self" q1) f q2] (.Name f q3) q4]
theorem ok_exc {P : Program} {w : World} {K : PySem.W.Frag} {mg : Str → Option Value} {base : Heap} {x q f : Str} {pa : Arguments} {bd : List Stmt} {sc : Scope} {fI : Addr} {fd : FuncData} {q1 q2 q3 q4 : Pos} (F : FunD K "__init__" q pa bd sc [] [] fI fd) (hb : bd = bodyE f q1 q2 q3 q4) (S : FnScope ["self", f] ["self", f] sc)
    (T : OexC K (ga K x)) (hno : PySem.W.findIn K (.ref (ga K x)) f = some none) (hv0 : Vis sc "self") (hv1 : Vis sc f) (hd : (f == ("__debug__" : Str)) = false) (hcd : (f == ("__classdict__" : Str)) = false) :
    FnOk P w K mg base CX0 1 fI fd ["self", f] (spExc (ga K x) f) := by
  subst hb
  refine F.ok S (fun vs H Q E h => ?_) (fun cdv A outer s H vs Q E hr h => ?_)
  · obtain ⟨a, v, rfl, _⟩ := h
    rfl
  · obtain ⟨a, v, rfl, ha, k⟩ := h
    refine ⟨_, PSs.nox (pss_one (ps_ost (pe_var (i := 0) rfl hv0) (pe_var (i := 1) rfl hv1 hd hcd))), ?_⟩
    exact ⟨_, rfl, _, rfl, a, ga K x, rfl, T, hno, Or.inl ⟨ha, fun d hd hda => k d hd hda⟩⟩
/-- raise X(e) -/
theorem ps_rz {X : Cx} {W : WX} {x f : Str} {e : Expr} {te : TE} {p pos pos' : Pos} {j : Nat} (hc : X.calm = true) (tk : Takes X W) (M : ExcI X.prog X.w X.K X.mg X.base x f) (hr : Room j X.A) (hj : 2 ≤ j) (hg : Gl X x) (he : PE X e te) (hdb : (x == ("__debug__" : Str)) = false := by decide)
    (hs : starEach (e :: []) X.env = (false, eval e X.env) :: starEach [] X.env := by rfl) : PS X (.Raise (some (.Call (.Name x p) [e] [] pos)) none pos') (fun _ σ H => tMkO (ga X.K x) (spExc (ga X.K x) f) [] (tCons te tNil) σ H fun cls d H' => W cls d σ H') := by
  obtain ⟨fI, fd, h1, h2, h3, h4⟩ := M.ex
  exact ps_raise hc tk (pmk_oex M.T h1 h2 h3 (hr.mono hj) h4 .nil pass0 hg M.gm (pa_cons he pa_nil hs) hdb hs)
theorem raise_done {C : Addr} {f : Str} {v : V} {H1 : Hp} {Q : XK} (k : ∀ d H2, H1 d = none → Same H1 H2 → H2 d = some (.xd [(f, v)]) → Q (.ref C) (some d) H2) :
    ([v] : List V).length ≤ 1000 ∧ ∀ a, H1 a = none → spExc C f (.ref a :: ([v] ++ [])) (upd H1 a (exo a C none)) (fun u H2 => u = .non ∧ ∃ (d : Addr) (fs : List (Str × V)), H2 a = some (exo a C (some d)) ∧ H2 d = some (exd d fs) ∧ H1 d = none ∧ Q (.ref C) (some d) (upd (del H2 a) d (.xd fs))) (fun _ _ _ => False) := by
  refine ⟨by show 1 ≤ 1000; decide, fun a ha => ⟨a, v, rfl, upd_same, fun d hd hda => ?_⟩⟩
  have hd0 : H1 d = none := by
    rw [upd_ne hda] at hd
    exact hd
  refine ⟨rfl, d, [(f, v)], upd_same, by rw [upd_ne hda, upd_same], hd0, k d _ hd0 ?_ upd_same⟩
  intro b u e
  have hb : b ≠ d := ne_of_none e hd0
  have hba : b ≠ a := ne_of_none e ha
  rw [upd_ne hb, del_ne hba, upd_ne hba, upd_ne hb, upd_ne hba]
  exact e
end NF
set_option Elab.async false
set_option linter.all false
set_option maxRecDepth 100000
set_option maxHeartbeats 4000000
/-! tuple * int for any int that is not too great. -/
namespace NF
open PySem PySem.Spec PyProof.Rows L2 He RZ
theorem rep_none (l : Addr) (items : Array Value) (n : Nat) (dd : Option Addr) (sl : Array (Option Value)) (x : Int) (u : Tok) (c0 : (decide (x < -(2 ^ 63)) || decide (x ≥ 2 ^ 63)) = false) (c1 : (items.isEmpty || x == 1) = false) (c2 : (decide (x ≤ 0) || items.isEmpty) = true) :
    Meets (Builtin.«tuple.__mul__» ⟨[.ref l, .int x u], []⟩) (fun _ R s => s.heap.get? l = some { cls := .type "tuple", dict := dd, data := .seq items n, slots := sl } ∧
      R (.ok (.ret (Value.ref s.heap.objs.size))) { s with heap := s.heap.push { cls := Value.type "tuple", data := Data.seq #[] } }) :=
  .of_wp fun prog w A R s h => by
    obtain ⟨hp, g, d, tk, os⟩ := s
    obtain ⟨hl, h⟩ := h
    have f1 := AutoSeq1.idx_int
    wp_walk using wpAny_loadPart' hl
    repeat (first
      | (refine wpAny_ite_false (decide_eq_false (by rw [c0]; exact Bool.false_ne_true)) ?_; wp_walk using wpAny_loadPart' hl)
      | (refine wpAny_ite_false (decide_eq_false (by rw [c1]; exact Bool.false_ne_true)) ?_; wp_walk using wpAny_loadPart' hl)
      | (refine wpAny_ite_true (decide_eq_true (by rw [c2])) ?_; wp_walk using wpAny_loadPart' hl))
    exact ⟨_, rfl, h⟩
theorem rep_one (l : Addr) (items : Array Value) (n : Nat) (dd : Option Addr) (sl : Array (Option Value)) (x : Int) (u : Tok) (c0 : (decide (x < -(2 ^ 63)) || decide (x ≥ 2 ^ 63)) = false) (c1 : (items.isEmpty || x == 1) = true) :
    Meets (Builtin.«tuple.__mul__» ⟨[.ref l, .int x u], []⟩) (fun _ R s => s.heap.get? l = some { cls := .type "tuple", dict := dd, data := .seq items n, slots := sl } ∧ R (.ok (.ret (Value.ref l))) s) :=
  .of_wp fun prog w A R s h => by
    obtain ⟨hp, g, d, tk, os⟩ := s
    obtain ⟨hl, h⟩ := h
    have f1 := AutoSeq1.idx_int
    wp_walk using wpAny_loadPart' hl
    repeat (first
      | (refine wpAny_ite_false (decide_eq_false (by rw [c0]; exact Bool.false_ne_true)) ?_; wp_walk using wpAny_loadPart' hl)
      | (refine wpAny_ite_true (decide_eq_true (by rw [c1])) ?_; wp_walk using wpAny_loadPart' hl))
    exact ⟨_, rfl, h⟩
def rRepA (K : PySem.W.Frag) : R2 := fun x y H Q => ∃ l k xs, x = .ref l ∧ y = .int k ∧ SqT K H l xs ∧ xs ≠ [] ∧ xs.length ≤ 100 ∧ -10000 ≤ k ∧ k ≤ 10000 ∧ ∀ p H', Same H H' → SqT K H' p (List.replicate k.toNat xs).flatten → Q (.ref p) H'
/-- t * k -/
theorem op_repA {X : Cx} : OpR X (binaryOp .Mult) (rRepA X.K) := by
  intro pins s σ H x y v u Q I rx ry h
  obtain ⟨l, k, xs, rfl, rfl, hT, hne, hz, k1, k2, q⟩ := h
  cases rx
  obtain ⟨t, rfl⟩ := ry
  obtain ⟨its, r, ⟨⟨cls, dd, data, sl⟩, ho, hc, n, hd⟩, hs⟩ := I.tuple hT
  simp only at hc hd
  subst hc hd
  have hle : its.length = xs.length := r.length.symm
  have hpos : 0 < its.length := by
    rw [hle]
    exact List.length_pos_iff.mpr hne
  have hfull : its.toArray.isEmpty = false := by
    cases hi : its with
    | nil => rw [hi] at hpos; simp at hpos
    | cons _ _ => rfl
  have small : (decide (k < -(2 ^ 63)) || decide (k ≥ 2 ^ 63)) = false := by
    rw [decide_eq_false (show ¬ k < -(2 ^ 63) by omega), decide_eq_false (show ¬ k ≥ 2 ^ 63 by omega)]
    rfl
  have ty : s.TypeIs (.ref l) "tuple" := ⟨_, ho, rfl⟩
  have road : ∀ {W : Value → Shared → Prop}, wpAny (model X.prog X.w) X.A (call (.builtin "tuple.__mul__") [.ref l, .int k t]) W X.xe s → wpAny (model X.prog X.w) X.A (binaryOp .Mult (.ref l) (.int k t)) W X.xe s := fun {W} z =>
    wpAny_binaryOp_repeat_ref (T := "tuple") (U := "int") (by decide) ty (fun s' => typeIs_int s' k t) noFill_tuple_mul F.fills_int_mul F.slot_int_rmul repeat_tuple F.slot_int_index.lookup
      (call_meets F.slot_int_rmul (typeIs_int s k t) F.entry_int_rmul (F.args_int_rmul_2 _ _) (int_rmul_tuple k t l its.toArray n dd sl) ⟨ho, rfl, ty, z⟩)
  refine road ?_
  by_cases c1 : k = 1
  · subst c1
    refine call_meets F.slot_tuple_mul ty F.entry_tuple_mul (F.args_tuple_mul_2 _ _) (rep_one l its.toArray n dd sl 1 t small (by rw [hfull]; rfl)) ⟨ho, ?_⟩
    refine ⟨.ref l, H, I, rfl, q l H (Same.refl H) ?_⟩
    rw [show (List.replicate (1 : Int).toNat xs).flatten = xs by simp]
    exact hT
  · have not1 : (its.toArray.isEmpty || k == 1) = false := by
      rw [hfull, Bool.false_or]
      exact beq_eq_false_iff_ne.mpr c1
    by_cases c0 : k ≤ 0
    · refine call_meets F.slot_tuple_mul ty F.entry_tuple_mul (F.args_tuple_mul_2 _ _) (rep_none l its.toArray n dd sl k t small not1 (by rw [decide_eq_true c0]; rfl)) ⟨ho, ?_⟩
      have hn := I.hok.fresh (Nat.le_refl s.heap.objs.size)
      have e0 : (List.replicate k.toNat xs).flatten = [] := by
        rw [show k.toNat = 0 by omega]
        rfl
      refine ⟨.ref s.heap.objs.size, _, I.laid (t' := s.toks) (o := .tup []) (fun b ob q => Heap.get?_push_of_some _ q) (Nat.le_refl _) ?_, rfl, q _ _ (NF.Same.new (Same.refl H) hn) (by rw [e0]; exact SqT.of upd_same)⟩
      exact ⟨Nat.zero_le _, [], .nil, IsTup.new _ _⟩
    · have many : its.toArray.size = xs.length := by rw [List.size_toArray, hle]
      have prod : ((its.toArray.size : Nat) : Int) * k ≤ 100 * 10000 := by
        rw [many]
        exact Int.mul_le_mul (by omega) k2 (by omega) (by decide)
      have flat : (List.replicate k.toNat xs).flatten.length ≤ 1000000 := by
        rw [PyProof.Rows.lm_len_rep_flat]
        exact Nat.le_trans (Nat.mul_le_mul (show k.toNat ≤ 10000 by omega) hz) (by decide)
      have flat2 : (List.replicate k.toNat its).flatten.length ≤ 1000000 := by
        rw [PyProof.Rows.lm_len_rep_flat, hle]
        exact Nat.le_trans (Nat.mul_le_mul (show k.toNat ≤ 10000 by omega) hz) (by decide)
      refine call_meets F.slot_tuple_mul ty F.entry_tuple_mul (F.args_tuple_mul_2 _ _) (tuple_mulW l its.toArray n dd sl k t small not1 (by rw [hfull, Bool.or_false]; exact decide_eq_false c0) (by omega) ?_ ?_) ⟨ho, ?_⟩
      · unfold Builtin.Tuple.tupleTooMany
        rw [sizeLine_eq]
        exact decide_eq_false (by omega)
      · rw [size_rep, List.size_toArray, sizeLine_eq]
        omega
      · rw [size_rep]
        have hn := I.hok.fresh (Nat.le_refl s.heap.objs.size)
        refine ⟨.ref s.heap.objs.size, _, I.laid (t' := s.toks) (o := .tup (List.replicate k.toNat xs).flatten) (fun b ob q => Heap.get?_push_of_some _ q) (Nat.le_refl _) ?_, rfl, q _ _ (NF.Same.new (Same.refl H) hn) (SqT.of upd_same)⟩
        exact ⟨by rw [sizeLine_eq]; omega, _, r.rep k.toNat, IsTup.new _ _⟩
end NF
set_option Elab.async false
set_option linter.all false
set_option maxRecDepth 100000
set_option maxHeartbeats 4000000
/-! C.m(..), m a static method that may let an exception out. -/
namespace NF
open PySem PySem.Spec PyProof.Rows L2 He RZ
structure SMet (K : PySem.W.Frag) (C : Addr) (mc : Value) (m : Str) (p g : Addr) : Prop where
  ty : PySem.W.typeIn K (.ref C) = some mc
  rd : PySem.W.readsIn K C mc = true
  ga : PySem.W.specialIn K (.ref C) "__getattribute__" = some (some (.builtin "type.__getattribute__"))
  at_ : PySem.W.findCls K (.ref C) mc m = some (.get (.builtin "staticmethod.__get__") (.ref p) .none (.ref C))
  rc : ∃ rest, PySem.W.recIn K p "staticmethod" = some (.ref g :: rest)
  kp : PySem.W.keepIn K (.ref g) = true
structure StaX (P : Program) (w : World) (K : PySem.W.Frag) (mg : Str → Option Value) (base : Heap) (k : Nat) (C : Addr) (m : Str) (sp : Sp) : Prop where
  ex : ∃ (mc : Value) (p g : Addr) (fd : FuncData) (ps : List Str), SMet K C mc m p g ∧ FnOk P w K mg base (L2.CX P w) k g fd ps sp ∧ Binds K fd ps []
def tStaS (C : Addr) (sp : Sp) (E : L2.St → XK) (ta : TE) (t : TA) : TE := fun σ H Q => ta σ H fun x H1 => x = .ref C ∧ t σ H1 fun vs H2 => sp vs H2 Q (E σ)
theorem pe_smX {X : Cx} {k j : Nat} {C : Addr} {m : Str} {sp : Sp} {W : WX} {o e : Expr} {es : List Expr} {ta : TE} {t : TA} {pos apos : Pos} {pl : Sem Bool} (tk : Takes X W) (he : PE X o ta) (c : StaX X.prog X.w X.K X.mg X.base k C m sp) (hr : Room j X.A) (hk : k ≤ j) (ha : PA X (e :: es) t)
    (hst : starEach (e :: es) X.env = (false, eval e X.env) :: starEach es X.env := by rfl) (hpl : (backTo pos (starEach es X.env)).any (·.1) = false := by rfl)
    (ht : eval (.Call (.Attribute o m apos) (e :: es) [] pos) X.env = (do
      let ov ← eval o X.env
      standAt apos.atName
      let (f, first) ← holding [ov] (getMethod ov m pl)
      callWith pos f first (backTo pos (starEach (e :: es) X.env)) (backToKw pos (keywordEach [] X.env))) := by rfl) :
    PE X (.Call (.Attribute o m apos) (e :: es) [] pos) (tStaS C sp (WE W) ta t) := by
  obtain ⟨mc, p, g, fd, ps, S, F, hb⟩ := c.ex
  obtain ⟨rest, hp⟩ := S.rc
  refine ⟨fun pins s σ H Q I h => ?_⟩
  refine PySem.W.methodCall_KW (pl := pl) (thn (he.run pins s σ H _ I h) fun u s1 ⟨x, H1, I1, rx, ex, q⟩ => ?_) ht
  subst ex
  cases rx
  obtain ⟨fm, hF⟩ := I1.fr
  refine PySem.W.method_cls I1.kIn S.ga (PySem.W.cls_sm hF I1.ok.mod.kin S.ty S.rd S.at_ hp rfl ?_)
  have I2 := I1.tok (s1.toks + 1)
  show wpAny _ _ (callWith pos (.ref g) [] (backTo pos (starEach (e :: es) X.env)) []) _ _ _
  refine PySem.W.callWith_K (h₀ := X.base) I2.ok.mod.kin S.kp (thn (ha.run pos pins _ σ H1 _ I2 q) fun us s3 ⟨vs, H2, I3, r, q2⟩ => ⟨I3.kIn, ?_⟩) hst hpl
  exact run_fnS (E := WE W) F (hr.mono hk) hb (passAt tk σ) I3 r q2
end NF
set_option Elab.async false
set_option linter.all false
set_option maxRecDepth 100000
set_option maxHeartbeats 4000000
/-! Facts of a top, each as one Bool of the written part, with what it says. -/
namespace NF
open PySem PySem.Spec PyProof.Rows L2 He RZ
def dG (x : Str) (st : Stmt) : Adr := (fun K => ga K x, ⟨(x, none), x, x, defArgs st, defBody st, defScope st, [], []⟩)
def dGd (x : Str) (st : Stmt) (dfl : List He.Dv) : Adr := (fun K => ga K x, ⟨(x, none), x, x, defArgs st, defBody st, defScope st, dfl, []⟩)
def dM (c m q : Str) (st : Stmt) (dfl : List He.Dv) : Adr := (fun K => ma K (ga K c) m, ⟨(c, some m), m, q, defArgs st, defBody st, defScope st, dfl, []⟩)
def getW (t : String) (c f : Str) (K : PySem.W.Frag) : Addr := match PySem.W.recIn K (ma K (ga K c) f) t with
  | some (.ref g :: _) => g
  | _ => 0
def dP (c m q : Str) (st : Stmt) : Adr := (getW "property" c m, ⟨(c, some m), m, q, defArgs st, defBody st, defScope st, [], []⟩)
def dS (c m q : Str) (st : Stmt) : Adr := (getW "staticmethod" c m, ⟨(c, some m), m, q, defArgs st, defBody st, defScope st, [], []⟩)
def recB (t : String) (c f : Str) (K : PySem.W.Frag) : Bool := match PySem.W.recIn K (ma K (ga K c) f) t with
  | some (.ref _ :: _) => true
  | _ => false
theorem rec_ok {t : String} {c f : Str} {K : PySem.W.Frag} (h : recB t c f K = true) : ∃ rest, PySem.W.recIn K (ma K (ga K c) f) t = some (.ref (getW t c f K) :: rest) := by
  unfold recB at h
  unfold getW
  cases q : PySem.W.recIn K (ma K (ga K c) f) t with
  | none =>
    rw [q] at h
    cases h
  | some l =>
    rw [q] at h
    match l, h with
    | .ref g' :: rest, _ => exact ⟨rest, rfl⟩
/-! ### names -/
def namB (gs fs : List Str) (K : PySem.W.Frag) : Bool := (gs.all fun x => eqO (PySem.W.nsIn K mainGlobals x) (some (some (.ref (ga K x))))) && fs.all fun x => eqO (PySem.W.nsIn K mainGlobals x) (some none)
theorem nam_ok {gs fs : List Str} {K : PySem.W.Frag} {mg : Str → Option Value} {h : Heap} (c : namB gs fs K = true) (X : K.In h) (G : h.Ns mainGlobals mg) : Txt K mg gs fs := by
  obtain ⟨h1, h2⟩ := ba c
  exact ⟨fun x hx => PySem.W.mg_of X G (eqO_ok (List.all_eq_true.mp h1 x hx)), fun x hx => PySem.W.mg_none_of X G (eqO_ok (List.all_eq_true.mp h2 x hx))⟩
def bltB (x : Str) (b : String) (K : PySem.W.Frag) : Bool := eqO (PySem.W.nsIn K mainGlobals x) (some (some (.builtin b)))
theorem blt_ok {x : Str} {b : String} {K : PySem.W.Frag} {mg : Str → Option Value} {h : Heap} (c : bltB x b K = true) (X : K.In h) (G : h.Ns mainGlobals mg) : mg x = some (.builtin b) := PySem.W.mg_of X G (eqO_ok c)
def intB (x : Str) (n : Int) (K : PySem.W.Frag) : Bool := match PySem.W.nsIn K mainGlobals x with
  | some (some (.int m _)) => decide (m = n)
  | _ => false
theorem int_ok {x : Str} {n : Int} {K : PySem.W.Frag} {mg : Str → Option Value} {h : Heap} (c : intB x n K = true) (X : K.In h) (G : h.Ns mainGlobals mg) : ∃ tok, mg x = some (.int n tok) := by
  unfold intB at c
  split at c
  · rename_i m tok q
    have e : m = n := of_decide_eq_true c
    subst e
    exact ⟨tok, PySem.W.mg_of X G q⟩
  · cases c
def strB (x s : Str) (K : PySem.W.Frag) : Bool := match PySem.W.nsIn K mainGlobals x with
  | some (some (.str m _)) => decide (m = s)
  | _ => false
theorem str_ok {x s : Str} {K : PySem.W.Frag} {mg : Str → Option Value} {h : Heap} (c : strB x s K = true) (X : K.In h) (G : h.Ns mainGlobals mg) : ∃ tok, mg x = some (.str s tok) := by
  unfold strB at c
  split at c
  · rename_i m tok q
    have e : m = s := of_decide_eq_true c
    subst e
    exact ⟨tok, PySem.W.mg_of X G q⟩
  · cases c
/-! ### an own exception that keeps its one argument under f -/
structure ExcK (K : PySem.W.Frag) (x f : Str) : Prop where
  xc : ExcC K (ga K x)
  T : OexC K (ga K x)
  i : PySem.W.findIn K (.ref (ga K x)) "__init__" = some (some (.ref (ma K (ga K x) "__init__")))
  t : PySem.W.typeIn K (.ref (ma K (ga K x) "__init__")) = some (.type "function")
  no : PySem.W.findIn K (.ref (ga K x)) f = some none
  xf : XfC K (ga K x)
def excKB (x f : Str) (K : PySem.W.Frag) : Bool := (excB K (ga K x) && (oexB K (ga K x) && eqO (PySem.W.findIn K (.ref (ga K x)) "__init__") (some (some (.ref (ma K (ga K x) "__init__")))))) &&
  (decide (PySem.W.typeIn K (.ref (ma K (ga K x) "__init__")) = some (.type "function")) && (eqO (PySem.W.findIn K (.ref (ga K x)) f) (some none) && xfB K (ga K x)))
theorem excK_ok {x f : Str} {K : PySem.W.Frag} (h : excKB x f K = true) : ExcK K x f := by
  obtain ⟨h1, h2⟩ := ba h
  obtain ⟨a1, h1⟩ := ba h1
  obtain ⟨a2, a3⟩ := ba h1
  obtain ⟨a4, h2⟩ := ba h2
  obtain ⟨a5, a6⟩ := ba h2
  exact ⟨excB_ok a1, oexB_ok a2, eqO_ok a3, of_decide_eq_true a4, eqO_ok a5, xfB_ok a6⟩
theorem ExcK.excI {P : Program} {w : World} {K : PySem.W.Frag} {mg : Str → Option Value} {base : Heap} {x f q : Str} {gs fs : List Str} {pa : Arguments} {bd : List Stmt} {sc : Scope} {fd : FuncData} {q1 q2 q3 q4 : Pos} (e : ExcK K x f) (T : Txt K mg gs fs) (hx : x ∈ gs)
    (F : FunD K "__init__" q pa bd sc [] [] (ma K (ga K x) "__init__") fd) (hb : bd = bodyE f q1 q2 q3 q4) (S : FnScope ["self", f] ["self", f] sc)
    (hv0 : Vis sc "self") (hv1 : Vis sc f) (hd : (f == ("__debug__" : Str)) = false) (hcd : (f == ("__classdict__" : Str)) = false) (b : Binds K fd ["self", f] []) : ExcI P w K mg base x f :=
  ⟨e.T, ⟨_, fd, e.i, e.t, ok_exc (x := x) F hb S e.T e.no hv0 hv1 hd hcd, b⟩, T.gl x hx⟩
/-! ### which class is under which -/
def kitPB (ps : List (Str × Str × Bool)) (K : PySem.W.Frag) : Bool := ps.all fun p => decide (PySem.W.kitOne K (.ref (ga K p.1)) (.ref (ga K p.2.1)) = some p.2.2)
theorem kitP_ok {ps : List (Str × Str × Bool)} {K : PySem.W.Frag} (h : kitPB ps K = true) {x y : Str} {b : Bool} (m : (x, y, b) ∈ ps) : PySem.W.kitOne K (.ref (ga K x)) (.ref (ga K y)) = some b := of_decide_eq_true (List.all_eq_true.mp h _ m)
def exmPB (ps : List (Str × Str × Bool)) (K : PySem.W.Frag) : Bool := ps.all fun p => decide (PySem.W.exmOne K (.ref (ga K p.1)) (.ref (ga K p.2.1)) = some p.2.2)
theorem exmP_ok {ps : List (Str × Str × Bool)} {K : PySem.W.Frag} (h : exmPB ps K = true) {x y : Str} {b : Bool} (m : (x, y, b) ∈ ps) : PySem.W.exmOne K (.ref (ga K x)) (.ref (ga K y)) = some b := of_decide_eq_true (List.all_eq_true.mp h _ m)
/-! ### an own class -/
def clsB (c : Str) (K : PySem.W.Frag) : Bool := (PySem.W.plainGet K (ga K c) Str.empty && PySem.W.hasDictIn K (ga K c)) && (PySem.W.plainOver K (ga K c) && eqO (PySem.W.findIn K (.ref (ga K c)) "__setattr__") (some (some (.builtin "object.__setattr__"))))
theorem cls_ok {c : Str} {K : PySem.W.Frag} (h : clsB c K = true) : Cls K (ga K c) := by
  obtain ⟨h1, h2⟩ := ba h
  obtain ⟨a1, a2⟩ := ba h1
  obtain ⟨a3, a4⟩ := ba h2
  exact ⟨a1, a2, a3, eqO_ok a4⟩
def fldsB (c : Str) (fs : List Str) (K : PySem.W.Frag) : Bool := fs.all fun f => eqO (PySem.W.findIn K (.ref (ga K c)) f) (some none)
theorem flds_ok {c : Str} {fs : List Str} {K : PySem.W.Frag} (h : fldsB c fs K = true) {f : Str} (m : f ∈ fs) : PySem.W.findIn K (.ref (ga K c)) f = some none := eqO_ok (List.all_eq_true.mp h f m)
structure TyC (K : PySem.W.Frag) (C : Addr) : Prop where
  ac : PySem.W.findIn K (.ref C) "__class__" = some (some (.builtin "object.__class__"))
  ag : PySem.W.specialIn K (.builtin "object.__class__") "__get__" = some (some (.builtin "getset_descriptor.__get__"))
  at_ : PySem.W.takesIn K (.builtin "object.__class__") = some true
  am : PySem.W.mroIn K C (.type "object") = some true
  self : PySem.W.kitOne K (.ref C) (.ref C) = some true
  tup : PySem.W.kitOne K (.type "tuple") (.ref C) = some false
  int : PySem.W.kitOne K (.type "int") (.ref C) = some false
  non : PySem.W.kitOne K (.type "NoneType") (.ref C) = some false
def tyB (c : Str) (K : PySem.W.Frag) : Bool := ((eqO (PySem.W.findIn K (.ref (ga K c)) "__class__") (some (some (.builtin "object.__class__"))) && eqO (PySem.W.specialIn K (.builtin "object.__class__") "__get__") (some (some (.builtin "getset_descriptor.__get__")))) &&
  (decide (PySem.W.takesIn K (.builtin "object.__class__") = some true) && decide (PySem.W.mroIn K (ga K c) (.type "object") = some true))) &&
  ((decide (PySem.W.kitOne K (.ref (ga K c)) (.ref (ga K c)) = some true) && decide (PySem.W.kitOne K (.type "tuple") (.ref (ga K c)) = some false)) && (decide (PySem.W.kitOne K (.type "int") (.ref (ga K c)) = some false) && decide (PySem.W.kitOne K (.type "NoneType") (.ref (ga K c)) = some false)))
theorem ty_ok {c : Str} {K : PySem.W.Frag} (h : tyB c K = true) : TyC K (ga K c) := by
  obtain ⟨h1, h2⟩ := ba h
  obtain ⟨t1, t2⟩ := ba h1
  obtain ⟨t1, t3⟩ := ba t1
  obtain ⟨t2, t4⟩ := ba t2
  obtain ⟨k1, k2⟩ := ba h2
  obtain ⟨k1, k3⟩ := ba k1
  obtain ⟨k2, k4⟩ := ba k2
  exact ⟨eqO_ok t1, eqO_ok t3, of_decide_eq_true t2, of_decide_eq_true t4, of_decide_eq_true k1, of_decide_eq_true k3, of_decide_eq_true k2, of_decide_eq_true k4⟩
def nfB (c : Str) (ts : List String) (K : PySem.W.Frag) : Bool := ts.all fun t => PySem.W.notFirst K (ga K c) (.type t)
theorem nf_ok {c : Str} {ts : List String} {K : PySem.W.Frag} (h : nfB c ts K = true) {t : String} (m : t ∈ ts) : PySem.W.notFirst K (ga K c) (.type t) = true := List.all_eq_true.mp h t m
def mkB (c : Str) (K : PySem.W.Frag) : Bool := (PySem.W.makesIn K (ga K c) && eqO (PySem.W.findIn K (.ref (ga K c)) "__init__") (some (some (.ref (ma K (ga K c) "__init__"))))) && (PySem.W.isFn K (.ref (ma K (ga K c) "__init__")) && PySem.W.keepIn K (.ref (ga K c)))
theorem mk_ok {c : Str} {K : PySem.W.Frag} (h : mkB c K = true) : Mk K (ga K c) (ma K (ga K c) "__init__") := by
  obtain ⟨m1, m2⟩ := ba h
  obtain ⟨m1, m3⟩ := ba m1
  obtain ⟨m2, m4⟩ := ba m2
  exact ⟨m1, eqO_ok m3, m2, m4⟩
def callB (c : Str) (K : PySem.W.Frag) : Bool := eqO (PySem.W.findIn K (.ref (ga K c)) "__call__") (some (some (.ref (ma K (ga K c) "__call__")))) && (PySem.W.isFn K (.ref (ma K (ga K c) "__call__")) && PySem.W.fnIn K (ma K (ga K c) "__call__"))
theorem call_ok {c : Str} {K : PySem.W.Frag} (h : callB c K = true) : StX.CallO K (ga K c) (ma K (ga K c) "__call__") := by
  obtain ⟨g1, g2⟩ := ba h
  obtain ⟨g2, g3⟩ := ba g2
  exact ⟨eqO_ok g1, g2, g3⟩
structure EqM (K : PySem.W.Frag) (C : Addr) : Prop where
  e1 : PySem.W.findIn K (.ref C) "__eq__" = some (some (.ref (ma K C "__eq__")))
  e2 : PySem.W.isFn K (.ref (ma K C "__eq__")) = true
  e3 : plObjB K C (ma K C "__eq__") = true
def eqB (c : Str) (K : PySem.W.Frag) : Bool := (eqO (PySem.W.findIn K (.ref (ga K c)) "__eq__") (some (some (.ref (ma K (ga K c) "__eq__")))) && PySem.W.isFn K (.ref (ma K (ga K c) "__eq__"))) && plObjB K (ga K c) (ma K (ga K c) "__eq__")
theorem eq_ok {c : Str} {K : PySem.W.Frag} (h : eqB c K = true) : EqM K (ga K c) := by
  obtain ⟨e1, e2⟩ := ba h
  obtain ⟨e1, e3⟩ := ba e1
  exact ⟨eqO_ok e1, e3, e2⟩
def propB (c f : Str) (K : PySem.W.Frag) : Bool := (eqO (PySem.W.findIn K (.ref (ga K c)) f) (some (some (.ref (ma K (ga K c) f)))) && eqO (PySem.W.specialIn K (.ref (ma K (ga K c) f)) "__get__") (some (some (.builtin "property.__get__")))) &&
  (decide (PySem.W.takesIn K (.ref (ma K (ga K c) f)) = some true) && recB "property" c f K)
theorem prop_ok {c f : Str} {K : PySem.W.Frag} (h : propB c f K = true) : PropOf K (ga K c) f (ma K (ga K c) f) (getW "property" c f K) := by
  obtain ⟨h1, h2⟩ := ba h
  obtain ⟨h1, h3⟩ := ba h1
  obtain ⟨h2, h4⟩ := ba h2
  exact ⟨eqO_ok h1, eqO_ok h3, of_decide_eq_true h2, rec_ok h4⟩
def staB (c m : Str) (K : PySem.W.Frag) : Bool := (decide (PySem.W.typeIn K (.ref (ga K c)) = some (.type "type")) && (PySem.W.readsIn K (ga K c) (.type "type") && eqO (PySem.W.specialIn K (.ref (ga K c)) "__getattribute__") (some (some (.builtin "type.__getattribute__"))))) &&
  ((match PySem.W.findCls K (.ref (ga K c)) (.type "type") m with
    | some (.get g a o t) => decide (g = .builtin "staticmethod.__get__") && (decide (a = .ref (ma K (ga K c) m)) && (decide (o = .none) && decide (t = .ref (ga K c))))
    | _ => false) && (recB "staticmethod" c m K && PySem.W.keepIn K (.ref (getW "staticmethod" c m K))))
theorem sta_ok {c m : Str} {K : PySem.W.Frag} (h : staB c m K = true) : SMet K (ga K c) (.type "type") m (ma K (ga K c) m) (getW "staticmethod" c m K) := by
  obtain ⟨h1, h2⟩ := ba h
  obtain ⟨a1, h1⟩ := ba h1
  obtain ⟨a2, a3⟩ := ba h1
  obtain ⟨a4, h2⟩ := ba h2
  obtain ⟨a5, a6⟩ := ba h2
  refine ⟨of_decide_eq_true a1, a2, eqO_ok a3, ?_, rec_ok a5, a6⟩
  split at a4
  · rename_i g a o t q
    obtain ⟨b1, a4⟩ := ba a4
    obtain ⟨b2, a4⟩ := ba a4
    obtain ⟨b3, b4⟩ := ba a4
    rw [q, of_decide_eq_true b1, of_decide_eq_true b2, of_decide_eq_true b3, of_decide_eq_true b4]
  · cases a4
/-! ### a default that is an empty tuple -/
def e0B (e0 : PySem.W.Frag → Addr) (K : PySem.W.Frag) : Bool := match K.lookup (e0 K) with
  | some ⟨.type c, _, .seq its _, _⟩ => decide (c = "tuple") && decide (its.toList = [])
  | _ => false
theorem e0_ok {e0 : PySem.W.Frag → Addr} {K : PySem.W.Frag} (h : e0B e0 K = true) (H : Hp) : SqT K H (e0 K) [] := by
  unfold e0B at h
  split at h
  · rename_i c dd its n sl q
    obtain ⟨h1, h2⟩ := ba h
    have e : its.toList = [] := of_decide_eq_true h2
    refine .inr ⟨_, its, n, q, congrArg Value.type (of_decide_eq_true h1), rfl, ?_, ?_⟩
    · rw [← Array.length_toList, e]
      exact Nat.zero_le _
    · rw [e]
      exact .nil
  · cases h
/-! ### what the module's names reach, each address once (seen ones are bits of a number) -/
def newB : List Addr → Nat → List Addr → List Addr × Nat
  | [], seen, acc => (acc, seen)
  | a :: r, seen, acc => match Nat.beq (Nat.land (Nat.shiftRight seen a) 1) 0 with
    | true => newB r (Nat.lor seen (Nat.shiftLeft 1 a)) (a :: acc)
    | false => newB r seen acc
def asB (g : Addr → Option Obj) : Nat → List Addr → Nat → List Addr → List Addr
  | 0, fr, _, all => fr ++ all
  | n + 1, fr, seen, all => match newB (fr.flatMap fun a => match g a with
      | some o => refsD o
      | none => []) seen [] with
    | (fr', seen') => asB g n fr' seen' (fr ++ all)
/-! ### the hook, with the classes' statics beside -/
def obsQG (n : Nat) (ex : PySem.W.Frag → Bool) (fn : List Adr) (g : Addr → Option Obj) : AlD := obsP ex fn (frG g (asB g n [mainGlobals] (Nat.shiftLeft 1 mainGlobals) [] ++ [cStatics]))
def hookQ (n : Nat) (ex : PySem.W.Frag → Bool) (fn : List Adr) : PySem.W.Hook where
  α := AlD
  obs := fun s => obsQG n ex fn s.heap.get?
  val := fun _ => valP fn
  says := fun _ h => ∃ K : PySem.W.Frag, K.In h ∧ SaysP ex fn K
  of := fun _ _ e => ⟨_, frG_in, e⟩
  keeps := fun _ _ _ ⟨K, hK, c⟩ k => ⟨K, PySem.W.Frag.In.keeps hK k, c⟩
theorem obsQG_eq {n : Nat} {ex : PySem.W.Frag → Bool} {fn : List Adr} {g : Addr → Option Obj} {s : Shared} (h : ∀ a, g a = s.heap.get? a) : obsQG n ex fn g = (hookQ n ex fn).obs s := by
  have e : g = s.heap.get? := funext h
  rw [e] <;> rfl
end NF
set_option Elab.async false
set_option linter.all false
set_option maxRecDepth 100000
set_option maxHeartbeats 4000000
/-! Own binary operators of a class: x * y, x & y, x | y, both instances of it. -/
namespace NF
open PySem PySem.Spec PyProof.Rows L2 He RZ NT
def rBinO (C : Addr) (sp : Sp) : R2 := fun x y H Q => ∃ a dx fs b dy gs, x = .ref a ∧ H a = some (.ins C dx fs) ∧ y = .ref b ∧ H b = some (.ins C dy gs) ∧ sp [.ref a, .ref b] H Q E0
structure OpM (K : PySem.W.Frag) (C f : Addr) (nm : Str) : Prop where
  o1 : PySem.W.findIn K (.ref C) nm = some (some (.ref f))
  o2 : PySem.W.isFn K (.ref f) = true
  o3 : PySem.W.selfFirst K C = true
/-- a class with an own operator, and how its instances' type is read -/
structure OpC (P : Program) (w : World) (K : PySem.W.Frag) (mg : Str → Option Value) (base : Heap) (k : Nat) (C : Addr) (nm : Str) (sp : Sp) : Prop where
  cl : Cls K C
  ac : PySem.W.findIn K (.ref C) "__class__" = some (some (.builtin "object.__class__"))
  ag : PySem.W.specialIn K (.builtin "object.__class__") "__get__" = some (some (.builtin "getset_descriptor.__get__"))
  at_ : PySem.W.takesIn K (.builtin "object.__class__") = some true
  am : PySem.W.mroIn K C (.type "object") = some true
  ex : ∃ (f : Addr) (fd : FuncData) (ps : List Str), FnOk P w K mg base CX0 k f fd ps sp ∧ OpM K C f nm ∧ Binds K fd ps []
theorem op_bin {X : Cx} {k j : Nat} {C : Addr} {sp : Sp} {op : Operator} {nm : Str} (c : OpC X.prog X.w X.K X.mg X.base k C nm sp) (hr : Room j X.A) (hk : k ≤ j) (hnm : PySem.dunder op.info.2 = nm := by rfl) : OpR X (binaryOp op) (rBinO C sp) := by
  obtain ⟨f, fd, ps, F, ⟨hs, hf, hc⟩, hb⟩ := c.ex
  intro pins s σ H x y v u Q I rx ry h
  obtain ⟨a, dx, fs, b, dy, gs, rfl, ha, rfl, hb2, q⟩ := h
  cases rx
  obtain ⟨mA, O, _⟩ := ins_get I.hok ha
  obtain ⟨od, J, _⟩ := O.look
  obtain ⟨m, hF⟩ := I.fr
  obtain ⟨P, Z, p, _⟩ := kit_of I ry (.base (.ins hb2 c.cl c.ac c.ag c.at_ c.am))
  cases ry
  show wpAny (model X.prog X.w) X.A (binaryOp op (.ref a) (.ref b)) (EP X pins σ Q) X.xe s
  refine PySem.W.binop_K hF I.ok.mod.kin J (Z.ty _ _ I.kIn p) hc (by rw [hnm]; exact hs) hf ?_
  have r2 : Vals [V.ref a, V.ref b] [Value.ref a, Value.ref b] := .cons rfl (.cons rfl .nil)
  refine wpAny_mono (run_fn (us := [.ref a, .ref b]) (vs := [.ref a, .ref b]) F (hr.mono hk) hb .nil pass0 I r2 q) (fun r s' z => ?_) fun _ _ e => e
  obtain ⟨z, H', I', rz, q'⟩ := z
  have hni : r ≠ .notImplemented := fun e => by
    subst e
    cases z with
    | int i => obtain ⟨t, e⟩ := (show ∃ t, Value.notImplemented = Value.int i t from rz); cases e
    | str i => obtain ⟨t, e⟩ := (show ∃ t, Value.notImplemented = Value.str i t from rz); cases e
    | byt i => obtain ⟨t, e⟩ := (show ∃ t, Value.notImplemented = Value.bytes i t from rz); cases e
    | flt i => obtain ⟨t, e⟩ := (show ∃ t, Value.notImplemented = Value.float i t from rz); cases e
    | _ => cases rz
  unfold PySem.W.CmpBack
  split
  · exact hni rfl
  · exact ⟨z, H', I', rz, q'⟩
end NF
set_option Elab.async false
set_option linter.all false
set_option maxRecDepth 100000
set_option maxHeartbeats 4000000
namespace NF
open PySem PySem.Spec PyProof.Rows L2 He RZ NT
def binB (c m : Str) (K : PySem.W.Frag) : Bool := eqO (PySem.W.findIn K (.ref (ga K c)) m) (some (some (.ref (ma K (ga K c) m)))) && (PySem.W.isFn K (.ref (ma K (ga K c) m)) && PySem.W.selfFirst K (ga K c))
theorem bin_ok {c m : Str} {K : PySem.W.Frag} (h : binB c m K = true) : OpM K (ga K c) (ma K (ga K c) m) m := by
  obtain ⟨h1, h2⟩ := ba h
  obtain ⟨h2, h3⟩ := ba h2
  exact ⟨eqO_ok h1, h2, h3⟩
end NF
set_option Elab.async false
set_option linter.all false
set_option maxRecDepth 100000
set_option maxHeartbeats 4000000
/-! o.m(..): a method of a class of one's own. -/
namespace NF
open PySem PySem.Spec PyProof.Rows L2 He RZ NT
structure MetC (P : Program) (w : World) (K : PySem.W.Frag) (mg : Str → Option Value) (base : Heap) (k : Nat) (C : Addr) (m : Str) (sp : Sp) : Prop where
  cl : Cls K C
  ex : ∃ (f : Addr) (fd : FuncData) (ps : List Str), Meth K C m f ∧ FnOk P w K mg base CX0 k f fd ps sp ∧ Binds K fd ps []
theorem pe_mt {X : Cx} {k j : Nat} {C : Addr} {m : Str} {sp : Sp} {o e : Expr} {es : List Expr} {ta : TE} {t : TA} {pl : Sem Bool} {pos apos : Pos} (he : PE X o ta) (c : MetC X.prog X.w X.K X.mg X.base k C m sp) (hr : Room j X.A) (hk : k ≤ j) (ha : PA X (e :: es) t)
    (hst : starEach (e :: es) X.env = (false, eval e X.env) :: starEach es X.env := by rfl) (hpl : (backTo pos (starEach es X.env)).any (·.1) = false := by rfl)
    (ht : eval (.Call (.Attribute o m apos) (e :: es) [] pos) X.env = (do
      let ov ← eval o X.env
      standAt apos.atName
      let (f, first) ← holding [ov] (getMethod ov m pl)
      callWith pos f first (backTo pos (starEach (e :: es) X.env)) (backToKw pos (keywordEach [] X.env))) := by rfl) :
    PE X (.Call (.Attribute o m apos) (e :: es) [] pos) (tMeth C m sp [] E0 ta t) := by
  obtain ⟨f, fd, ps, hm, F, b⟩ := c.ex
  exact pe_meth he c.cl hm F (hr.mono hk) b .nil pass0 ha hst hpl ht
/-- o.m() -/
theorem pe_mt0 {X : Cx} {k j : Nat} {C : Addr} {m : Str} {sp : Sp} {o : Expr} {ta : TE} {pl : Sem Bool} {pos apos : Pos} (he : PE X o ta) (c : MetC X.prog X.w X.K X.mg X.base k C m sp) (hr : Room j X.A) (hk : k ≤ j)
    (ht : eval (.Call (.Attribute o m apos) [] [] pos) X.env = (do
      let ov ← eval o X.env
      standAt apos.atName
      let (f, first) ← holding [ov] (getMethod ov m pl)
      callWith pos f first (backTo pos (starEach [] X.env)) (backToKw pos (keywordEach [] X.env))) := by rfl) :
    PE X (.Call (.Attribute o m apos) [] [] pos) (tMeth C m sp [] E0 ta tNil) := by
  obtain ⟨f, fd, ps, hm, F, b⟩ := c.ex
  exact pe_meth0 he c.cl hm F (hr.mono hk) b .nil pass0 ht
end NF
set_option linter.all false
namespace NF
open PySem PySem.Spec PyProof.Rows L2 He RZ
/-- o.m(..): a plain method, as the head's run finds it -/
def metB (c m : Str) (K : PySem.W.Frag) : Bool := eqO (PySem.W.findIn K (.ref (ga K c)) m) (some (some (.ref (ma K (ga K c) m)))) && (PySem.W.isFn K (.ref (ma K (ga K c) m)) && PySem.W.keepIn K (.ref (ma K (ga K c) m)))
theorem met_ok {c m : Str} {K : PySem.W.Frag} (h : metB c m K = true) : Meth K (ga K c) m (ma K (ga K c) m) := by
  obtain ⟨h1, h2⟩ := ba h
  obtain ⟨h2, h3⟩ := ba h2
  exact ⟨eqO_ok h1, h2, h3⟩
end NF
set_option Elab.async false
set_option linter.all false
set_option maxHeartbeats 4000000
namespace NT
variable {h l : List Int} {r : Int}
theorem climbs_lo : ∀ {l : List Int} {lo : Int} {i : Nat}, climbs lo l → i < l.length → lo ≤ l.getD i 0
  | [], _, _, _, h => by simp at h
  | x :: l, lo, 0, c, _ => c.1
  | x :: l, lo, i + 1, c, h => by
    have := climbs_lo (i := i) c.2 (by simpa using h)
    have := c.1
    show lo ≤ l.getD i 0
    omega
theorem climbs_up : ∀ {l : List Int} {lo : Int} {i : Nat}, climbs lo l → i + 1 < l.length → l.getD i 0 ≤ l.getD (i + 1) 0
  | [], _, _, _, h => by simp at h
  | x :: l, lo, 0, c, h => climbs_lo (i := 0) c.2 (by simpa using h)
  | x :: l, lo, i + 1, c, h => climbs_up (i := i) c.2 (by simpa using h)
theorem climbs_of : ∀ {l : List Int} {lo : Int}, (∀ i, i < l.length → lo ≤ l.getD i 0) → (∀ i, i + 1 < l.length → l.getD i 0 ≤ l.getD (i + 1) 0) → climbs lo l
  | [], _, _, _ => trivial
  | x :: l, lo, h1, h2 => by
    refine ⟨h1 0 (by simp), climbs_of (fun i hi => ?_) fun i hi => h2 (i + 1) (by simpa using hi)⟩
    induction i with
    | zero => exact h2 0 (by simpa using hi)
    | succ i ih => exact Int.le_trans (ih (by omega)) (h2 (i + 1) (by simpa using hi))
/-- the value at n as a number -/
def num (h l : List Int) (r : Int) (n : Nat) : Int := (at_ h l r n).getD 0
theorem walk_up (g : Good h l r) (hl : l ≠ []) (k : Nat) : walk l r k ≤ walk l r (k + 1) := by
  have hp := len_pos hl
  have e : k = k % l.length + l.length * (k / l.length) := (Nat.mod_add_div k _).symm
  have hi : k % l.length < l.length := Nat.mod_lt _ hp
  generalize k % l.length = a at e hi
  generalize k / l.length = b at e
  subst e
  rw [walk_add_mul hp, show a + l.length * b + 1 = (a + 1) + l.length * b by omega, walk_add_mul hp, walk_lt hi]
  by_cases c : a + 1 < l.length
  · rw [walk_lt c]
    have := climbs_up g.lp c
    omega
  · have : a + 1 = 0 + l.length := by omega
    rw [this, walk_add hp, walk_lt hp]
    have := g.last hl
    have e : l.length - 1 = a := by omega
    rw [e] at this
    omega
theorem at_some (n : Nat) (hn : n ≤ h.length ∨ l ≠ []) : at_ h l r n = some (num h l r n) := by
  unfold num at_
  by_cases c : n ≤ h.length
  · rw [if_pos c]; rfl
  · rw [if_neg c, if_neg (hn.resolve_left c)]; rfl
theorem num_up (g : Good h l r) (n : Nat) (hn : 1 ≤ n) (hs : n + 1 ≤ h.length ∨ l ≠ []) : num h l r n ≤ num h l r (n + 1) := by
  unfold num at_
  by_cases c : n + 1 ≤ h.length
  · rw [if_pos c, if_pos (by omega)]
    show h.getD (n - 1) 0 ≤ h.getD (n + 1 - 1) 0
    have := climbs_up (i := n - 1) g.hd (by omega)
    rw [show n - 1 + 1 = n + 1 - 1 by omega] at this
    exact this
  · have hl := hs.resolve_left c
    have e1 : (if n + 1 ≤ h.length then some (h.getD (n + 1 - 1) 0) else if l = [] then none else some (walk l r (n + 1 - h.length - 1))).getD 0 = walk l r (n + 1 - h.length - 1) := by rw [if_neg c, if_neg hl]; rfl
    rw [e1]
    by_cases c2 : n ≤ h.length
    · rw [if_pos c2]
      have e : n = h.length := by omega
      subst e
      show h.getD (h.length - 1) 0 ≤ walk l r (h.length + 1 - h.length - 1)
      rw [show h.length + 1 - h.length - 1 = 0 by omega, walk_lt (len_pos hl)]
      exact g.join (fun z => by rw [z] at hn; simp at hn) hl
    · rw [if_neg c2, if_neg hl]
      show walk l r (n - h.length - 1) ≤ walk l r (n + 1 - h.length - 1)
      rw [show n + 1 - h.length - 1 = (n - h.length - 1) + 1 by omega]
      exact walk_up g hl _
theorem walk_ge (g : Good h l r) (hl : l ≠ []) (k : Nat) : 0 ≤ walk l r k := by
  induction k with
  | zero =>
    rw [walk_lt (len_pos hl)]
    exact climbs_lo g.lp (len_pos hl)
  | succ k ih => exact Int.le_trans ih (walk_up g hl k)
theorem num_ge (g : Good h l r) (n : Nat) (hn : 1 ≤ n) : 0 ≤ num h l r n := by
  unfold num at_
  by_cases c : n ≤ h.length
  · rw [if_pos c]
    exact climbs_lo (i := n - 1) g.hd (by omega)
  · rw [if_neg c]
    by_cases hl : l = []
    · rw [if_pos hl]; exact Int.le_refl _
    · rw [if_neg hl]; exact walk_ge g hl _
theorem walk_mono (g : Good h l r) (hl : l ≠ []) (k d : Nat) : walk l r k ≤ walk l r (k + d) := by
  induction d with
  | zero => exact Int.le_refl _
  | succ d ih => exact Int.le_trans ih (walk_up g hl (k + d))
/-- the plain form is made of counts -/
theorem plain_counts (g : Good h l r) {x : List Int × List Int × Int} (hx : IsPlain h l r x) : (∀ i, i ∈ x.1 ++ x.2.1 → 0 ≤ i) ∧ 0 ≤ x.2.2 := by
  have hz := plain_size hx
  refine ⟨fun i hi => ?_, (hz.2.2.2.2.1 g.r0).1⟩
  have all : ∀ n, 1 ≤ n → ∀ v, at_ x.1 x.2.1 x.2.2 n = some v → 0 ≤ v := by
    rcases hx with ⟨rfl, rfl⟩ | ⟨_, _, _, _, e⟩
    · intro n hn v hv
      unfold at_ at hv
      by_cases c : n ≤ h.length
      · rw [if_pos c] at hv
        injection hv with hv
        rw [← hv]
        exact climbs_lo (l := h) (i := n - 1) g.hd (by omega)
      · rw [if_neg c, if_pos rfl] at hv
        cases hv
    · intro n hn v hv
      rw [e n hn] at hv
      have := num_ge g n hn
      unfold num at this
      rw [hv] at this
      exact this
  rcases List.mem_append.mp hi with h1 | h1
  · obtain ⟨k, hk, rfl⟩ := List.getElem_of_mem h1
    refine all (k + 1) (by omega) _ ?_
    unfold at_
    rw [if_pos (by omega), Nat.add_sub_cancel, List.getD_eq_getElem?_getD, List.getElem?_eq_getElem hk]
    rfl
  · obtain ⟨k, hk, rfl⟩ := List.getElem_of_mem h1
    have hne : x.2.1 ≠ [] := fun z => by rw [z] at hk; simp at hk
    refine all (x.1.length + k + 1) (by omega) _ ?_
    rw [at_loop hne (by omega), show x.1.length + k + 1 - x.1.length - 1 = k by omega, walk_lt hk, List.getD_eq_getElem?_getD, List.getElem?_eq_getElem hk]
    rfl
/-! ### the same table with more values in the head and a longer loop -/
def tell (h l : List Int) (r : Int) (n : Nat) : List Int := (List.range n).map fun k => num h l r (k + 1)
theorem tell_len (n : Nat) : (tell h l r n).length = n := by unfold tell; rw [List.length_map, List.length_range]
theorem tell_get {n k : Nat} (hk : k < n) : (tell h l r n).getD k 0 = num h l r (k + 1) := by
  unfold tell
  rw [List.getD_eq_getElem?_getD, List.getElem?_map, List.getElem?_range hk]
  rfl
theorem getD_take' {l : List Int} {m i : Nat} (h : i < m) : (l.take m).getD i 0 = l.getD i 0 := getD_take h
theorem tell_good (g : Good h l r) {more t : Nat} (hm : l = [] → more = 0) (ht : 0 < t) :
    Good ((tell h l r (h.length + more + l.length * t)).take (h.length + more)) ((tell h l r (h.length + more + l.length * t)).drop (h.length + more)) (r * (t : Int)) := by
  generalize hN : h.length + more + l.length * t = N
  generalize hc : h.length + more = c
  have some_ : ∀ n, n ≤ N → n ≤ h.length ∨ l ≠ [] := fun n hn => by
    by_cases hl : l = []
    · left
      have := hm hl
      have : l.length = 0 := by rw [hl]; rfl
      rw [this, Nat.zero_mul] at hN
      omega
    · exact .inr hl
  have cle : c ≤ N := by omega
  have hlt : ((tell h l r N).take c).length = c := by rw [List.length_take, tell_len]; omega
  have hld : ((tell h l r N).drop c).length = N - c := by rw [List.length_drop, tell_len]
  refine ⟨climbs_of (fun i hi => ?_) (fun i hi => ?_), climbs_of (fun i hi => ?_) (fun i hi => ?_), fun h1 h2 => ?_, ?_, fun hl => ?_, fun hl => ?_⟩
  · rw [hlt] at hi
    rw [getD_take hi, tell_get (by omega)]
    exact num_ge g _ (by omega)
  · rw [hlt] at hi
    rw [getD_take (by omega), getD_take hi, tell_get (by omega), tell_get (by omega)]
    exact num_up g _ (by omega) (some_ _ (by omega))
  · rw [hld] at hi
    rw [getD_drop, tell_get (by omega)]
    exact num_ge g _ (by omega)
  · rw [hld] at hi
    rw [getD_drop, getD_drop, tell_get (by omega), tell_get (by omega)]
    have := num_up g (c + i + 1) (by omega) (some_ _ (by omega))
    exact this
  · have c0 : 0 < c := by
      rcases Nat.eq_zero_or_pos c with z | z
      · rw [z] at h1; exact absurd rfl h1
      · exact z
    have d0 : 0 < N - c := by rw [← hld]; exact len_pos h2
    rw [hlt, getD_take (by omega), getD_drop, tell_get (by omega), tell_get (by omega)]
    have := num_up g c (by omega) (some_ _ (by omega))
    rw [show c - 1 + 1 = c by omega, show c + 0 + 1 = c + 1 by omega]
    exact this
  · exact Int.mul_nonneg g.r0 (by omega)
  · have z : N - c = 0 := by rw [← hld, hl]; rfl
    have z2 : l.length * t = 0 := by omega
    have z3 : l.length = 0 := by
      rcases Nat.mul_eq_zero.mp z2 with q | q
      · exact q
      · omega
    rw [g.rl (List.eq_nil_of_length_eq_zero z3), Int.zero_mul]
  · have d0 : 0 < N - c := by rw [← hld]; exact len_pos hl
    have hl2 : l ≠ [] := fun z => by
      have : l.length = 0 := by rw [z]; rfl
      rw [this, Nat.zero_mul] at hN
      omega
    rw [hld, getD_drop, getD_drop, tell_get (by omega), tell_get (by omega)]
    have w : ∀ j, num h l r (c + j + 1) = walk l r (more + j) := fun j => by
      unfold num
      rw [at_loop hl2 (by omega), show c + j + 1 - h.length - 1 = more + j by omega]
      rfl
    rw [w (N - c - 1), w 0, ← walk_add_mul (len_pos hl2)]
    have e : more + 0 + l.length * t = (more + (N - c - 1)) + 1 := by omega
    rw [e]
    exact walk_mono g hl2 _ 1
theorem tell_at {more t : Nat} (hm : l = [] → more = 0) (ht : 0 < t) (n : Nat) (hn : 1 ≤ n) :
    at_ ((tell h l r (h.length + more + l.length * t)).take (h.length + more)) ((tell h l r (h.length + more + l.length * t)).drop (h.length + more)) (r * (t : Int)) n = at_ h l r n := by
  by_cases hl : l = []
  · subst hl
    have hm := hm rfl
    subst hm
    have e : h.length + 0 + ([] : List Int).length * t = h.length := by simp
    rw [e, Nat.add_zero]
    unfold at_
    have e1 : ((tell h [] r h.length).take h.length).length = h.length := by rw [List.length_take, tell_len]; omega
    have e2 : (tell h [] r h.length).drop h.length = [] := List.drop_of_length_le (by rw [tell_len]; exact Nat.le_refl _)
    rw [e1, e2]
    by_cases c : n ≤ h.length
    · rw [if_pos c, if_pos c, getD_take (by omega), tell_get (by omega)]
      unfold num at_
      rw [show n - 1 + 1 = n by omega, if_pos c]
      rfl
    · rw [if_neg c, if_neg c, if_pos rfl, if_pos rfl]
  · have hp := len_pos hl
    generalize hN : h.length + more + l.length * t = N
    generalize hc : h.length + more = c
    have lt0 : 0 < l.length * t := Nat.mul_pos hp ht
    have hlt : ((tell h l r N).take c).length = c := by rw [List.length_take, tell_len]; omega
    have hld : ((tell h l r N).drop c).length = l.length * t := by rw [List.length_drop, tell_len]; omega
    have hne : (tell h l r N).drop c ≠ [] := fun z => by rw [z] at hld; simp at hld; omega
    by_cases q : n ≤ c
    · have : at_ h l r n = some (num h l r n) := at_some n (.inr hl)
      rw [this]
      unfold at_
      rw [hlt, if_pos q, getD_take (by omega), tell_get (by omega), show n - 1 + 1 = n by omega]
    · rw [at_loop hne (by rw [hlt]; omega), hlt, at_loop hl (by omega)]
      congr 1
      unfold walk
      rw [hld]
      generalize hk : n - c - 1 = k
      have hi : k % (l.length * t) < l.length * t := Nat.mod_lt _ lt0
      have w : ∀ j, num h l r (c + j + 1) = walk l r (more + j) := fun j => by
        unfold num
        rw [at_loop hl (by omega), show c + j + 1 - h.length - 1 = more + j by omega]
        rfl
      rw [getD_drop, tell_get (by omega), w]
      have e : n - h.length - 1 = (more + k % (l.length * t)) + l.length * (t * (k / (l.length * t))) := by
        have := Nat.mod_add_div k (l.length * t)
        rw [← Nat.mul_assoc]
        omega
      have e2 : walk l r (n - h.length - 1) = walk l r (more + k % (l.length * t)) + r * ((t * (k / (l.length * t)) : Nat) : Int) := by rw [e, walk_add_mul hp]
      have e3 : walk l r (n - h.length - 1) = l.getD ((n - h.length - 1) % l.length) 0 + r * (((n - h.length - 1) / l.length : Nat) : Int) := rfl
      rw [← e3, e2, Int.natCast_mul, Int.mul_assoc]
end NT
set_option Elab.async false
set_option linter.all false
set_option maxHeartbeats 4000000
/-! Rows of values that climb and may come to never: their tellings; the values of one table at the values of another one. -/
namespace NT
structure Asc (F : Nat → Option Int) : Prop where
  ge : ∀ n v, 1 ≤ n → F n = some v → 0 ≤ v
  up : ∀ n v, 1 ≤ n → F (n + 1) = some v → ∃ u, F n = some u ∧ u ≤ v
def numF (F : Nat → Option Int) (n : Nat) : Int := (F n).getD 0
def seg (F : Nat → Option Int) (a m : Nat) : List (Option Int) := (List.range m).map fun k => F (a + k + 1)
def segN (F : Nat → Option Int) (a m : Nat) : List Int := (List.range m).map fun k => numF F (a + k + 1)
variable {F : Nat → Option Int}
theorem seg_succ {a m : Nat} : seg F a (m + 1) = seg F a m ++ [F (a + m + 1)] := by
  unfold seg
  rw [List.range_succ, List.map_append]
  rfl
theorem segN_succ {a m : Nat} : segN F a (m + 1) = segN F a m ++ [numF F (a + m + 1)] := by
  unfold segN
  rw [List.range_succ, List.map_append]
  rfl
theorem seg_len {a m : Nat} : (seg F a m).length = m := by unfold seg; rw [List.length_map, List.length_range]
theorem segN_len {a m : Nat} : (segN F a m).length = m := by unfold segN; rw [List.length_map, List.length_range]
theorem segN_get {a m k : Nat} (hk : k < m) : (segN F a m).getD k 0 = numF F (a + k + 1) := by
  unfold segN
  rw [List.getD_eq_getElem?_getD, List.getElem?_map, List.getElem?_range hk]
  rfl
theorem Asc.below (A : Asc F) {m d : Nat} (hm : 1 ≤ m) : ∀ {v : Int}, F (m + d) = some v → ∃ u, F m = some u ∧ u ≤ v := by
  induction d with
  | zero => exact fun {v} h => ⟨v, h, Int.le_refl _⟩
  | succ d ih =>
    intro v h
    obtain ⟨u, hu, le⟩ := A.up (m + d) v (by omega) h
    obtain ⟨u2, h2, le2⟩ := ih hu
    exact ⟨u2, h2, Int.le_trans le2 le⟩
theorem Asc.none_up (A : Asc F) {m n : Nat} (hm : 1 ≤ m) (h : F m = none) (le : m ≤ n) : F n = none := by
  cases e : F n with
  | none => rfl
  | some v =>
    obtain ⟨d, rfl⟩ : ∃ d, n = m + d := ⟨n - m, by omega⟩
    obtain ⟨u, hu, _⟩ := A.below hm e
    rw [h] at hu
    cases hu
theorem numF_some {n : Nat} (h : F n ≠ none) : F n = some (numF F n) := by
  unfold numF
  cases e : F n with
  | none => exact absurd e h
  | some v => rfl
theorem Asc.mono (A : Asc F) {m n : Nat} (hm : 1 ≤ m) (le : m ≤ n) (h : F n ≠ none) : numF F m ≤ numF F n := by
  obtain ⟨d, rfl⟩ : ∃ d, n = m + d := ⟨n - m, by omega⟩
  obtain ⟨u, hu, le2⟩ := A.below hm (numF_some h)
  have : numF F m = u := by unfold numF; rw [hu]; rfl
  rw [this]
  exact le2
theorem Asc.nonneg (A : Asc F) {n : Nat} (hn : 1 ≤ n) (h : F n ≠ none) : 0 ≤ numF F n := A.ge n _ hn (numF_some h)
/-- those that are counts -/
theorem cnt_ex (A : Asc F) (N : Nat) : ∃ M, M ≤ N ∧ (seg F 0 N).filterMap id = segN F 0 M ∧ (∀ n, 1 ≤ n → n ≤ M → F n ≠ none) ∧ (∀ n, M < n → n ≤ N → F n = none) := by
  induction N with
  | zero => exact ⟨0, Nat.le_refl _, rfl, fun n h1 h2 => by omega, fun n h1 h2 => by omega⟩
  | succ N ih =>
    obtain ⟨M, hM, e, s, z⟩ := ih
    cases h : F (N + 1) with
    | none =>
      refine ⟨M, by omega, ?_, s, fun n h1 h2 => ?_⟩
      · rw [seg_succ, List.filterMap_append, e, show 0 + N + 1 = N + 1 by omega, h]
        simp
      · by_cases c : n ≤ N
        · exact z n h1 c
        · rw [show n = N + 1 by omega, h]
    | some v =>
      have hall : M = N := by
        rcases Nat.lt_or_ge M N with c | c
        · have := z (M + 1) (by omega) (by omega)
          have := A.none_up (by omega) this (show M + 1 ≤ N + 1 by omega)
          rw [h] at this
          cases this
        · omega
      subst hall
      refine ⟨M + 1, Nat.le_refl _, ?_, fun n h1 h2 => ?_, fun n h1 h2 => by omega⟩
      · rw [seg_succ, List.filterMap_append, e, segN_succ, show 0 + M + 1 = M + 1 by omega, h]
        unfold numF
        rw [h]
        rfl
      · by_cases c : n ≤ M
        · exact s n h1 c
        · rw [show n = M + 1 by omega, h]
          exact fun y => by cases y
theorem ended (A : Asc F) {M : Nat} (s : ∀ n, 1 ≤ n → n ≤ M → F n ≠ none) : Good (segN F 0 M) [] 0 := by
  refine ⟨climbs_of (fun i hi => ?_) (fun i hi => ?_), trivial, fun _ z => absurd rfl z, Int.le_refl _, fun _ => rfl, fun z => absurd rfl z⟩
  · rw [segN_len] at hi
    rw [segN_get hi]
    exact A.nonneg (by omega) (s _ (by omega) (by omega))
  · rw [segN_len] at hi
    rw [segN_get (by omega), segN_get hi]
    exact A.mono (by omega) (by omega) (s _ (by omega) (by omega))
theorem at_ended {M : Nat} (s : ∀ n, 1 ≤ n → n ≤ M → F n ≠ none) (z : ∀ n, M < n → F n = none) {n : Nat} (hn : 1 ≤ n) : at_ (segN F 0 M) [] 0 n = F n := by
  unfold at_
  rw [segN_len]
  by_cases c : n ≤ M
  · rw [if_pos c, segN_get (by omega), show 0 + (n - 1) + 1 = n by omega]
    exact (numF_some (s n hn c)).symm
  · rw [if_neg c, if_pos rfl]
    exact (z n (by omega)).symm
theorem per_num {N m : Nat} {c : Int} (p : ∀ n, N < n → numF F (n + m) = numF F n + c) (i j : Nat) : numF F (N + 1 + i + m * j) = numF F (N + 1 + i) + c * (j : Int) := by
  induction j with
  | zero => simp
  | succ j ih =>
    have e : N + 1 + i + m * (j + 1) = (N + 1 + i + m * j) + m := by rw [Nat.mul_succ]; omega
    rw [e, p _ (by omega), ih, Int.natCast_succ, Int.mul_add]
    omega
theorem looped (A : Asc F) {N m : Nat} {c : Int} (hm : 0 < m) (s : ∀ n, 1 ≤ n → F n ≠ none) (p : ∀ n, N < n → numF F (n + m) = numF F n + c) :
    Good (segN F 0 N) (segN F N m) c ∧ ∀ n, 1 ≤ n → at_ (segN F 0 N) (segN F N m) c n = F n := by
  have hl : segN F N m ≠ [] := fun z => by
    have := congrArg List.length z
    rw [segN_len] at this
    simp at this
    omega
  refine ⟨⟨climbs_of (fun i hi => ?_) (fun i hi => ?_), climbs_of (fun i hi => ?_) (fun i hi => ?_), fun h1 _ => ?_, ?_, fun z => absurd z hl, fun _ => ?_⟩, fun n hn => ?_⟩
  · rw [segN_len] at hi
    rw [segN_get hi]
    exact A.nonneg (by omega) (s _ (by omega))
  · rw [segN_len] at hi
    rw [segN_get (by omega), segN_get hi]
    exact A.mono (by omega) (by omega) (s _ (by omega))
  · rw [segN_len] at hi
    rw [segN_get hi]
    exact A.nonneg (by omega) (s _ (by omega))
  · rw [segN_len] at hi
    rw [segN_get (by omega), segN_get hi]
    exact A.mono (by omega) (by omega) (s _ (by omega))
  · have : 0 < N := by
      rcases Nat.eq_zero_or_pos N with z | z
      · subst z; exact absurd rfl h1
      · exact z
    rw [segN_len, segN_get (by omega), segN_get hm]
    exact A.mono (by omega) (by omega) (s _ (by omega))
  · have e := p (N + 1) (by omega)
    have := A.mono (m := N + 1) (n := N + 1 + m) (by omega) (by omega) (s _ (by omega))
    omega
  · rw [segN_len, segN_get (by omega), segN_get hm]
    have e := p (N + 0 + 1) (by omega)
    have := A.mono (m := N + (m - 1) + 1) (n := N + 0 + 1 + m) (by omega) (by omega) (s _ (by omega))
    omega
  · by_cases q : n ≤ N
    · unfold at_
      rw [segN_len, if_pos q, segN_get (by omega), show 0 + (n - 1) + 1 = n by omega]
      exact (numF_some (s n hn)).symm
    · rw [at_loop hl (by rw [segN_len]; omega), segN_len, numF_some (s n hn)]
      congr 1
      unfold walk
      rw [segN_len, segN_get (Nat.mod_lt _ hm)]
      have e := per_num p ((n - N - 1) % m) ((n - N - 1) / m)
      have e2 : N + 1 + (n - N - 1) % m + m * ((n - N - 1) / m) = n := by
        have := Nat.mod_add_div (n - N - 1) m
        omega
      rw [e2] at e
      rw [e, show N + (n - N - 1) % m + 1 = N + 1 + (n - N - 1) % m by omega]
/-- how the program tells a table that comes to an end -/
def settled (vs : List (Option Int)) : Option Int → List Int × List Int × Int
  | none => (vs.filterMap id, [], 0)
  | some v => if (vs.filterMap id).length < vs.length then (vs.filterMap id, [], 0) else (vs.filterMap id, [v], 0)
theorem settled_ok (A : Asc F) {N : Nat} {t : Option Int} (ht : ∀ n, N < n → F n = t) :
    Good (settled (seg F 0 N) t).1 (settled (seg F 0 N) t).2.1 (settled (seg F 0 N) t).2.2 ∧ (∀ n, 1 ≤ n → at_ (settled (seg F 0 N) t).1 (settled (seg F 0 N) t).2.1 (settled (seg F 0 N) t).2.2 n = F n) ∧
      (settled (seg F 0 N) t).1.length ≤ N ∧ (settled (seg F 0 N) t).2.1.length ≤ 1 := by
  obtain ⟨M, hM, e, s, z⟩ := cnt_ex A N
  have short : M < N ∨ t = none → Good (segN F 0 M) [] 0 ∧ (∀ n, 1 ≤ n → at_ (segN F 0 M) [] 0 n = F n) ∧ (segN F 0 M).length ≤ N ∧ ([] : List Int).length ≤ 1 := fun h => by
    refine ⟨ended A s, fun n hn => at_ended s (fun k hk => ?_) hn, by rw [segN_len]; exact hM, Nat.zero_le _⟩
    rcases h with h | h
    · exact A.none_up (m := M + 1) (by omega) (z (M + 1) (by omega) (by omega)) (by omega)
    · by_cases c : k ≤ N
      · exact z k hk c
      · rw [ht k (by omega), h]
  unfold settled
  cases t with
  | none =>
    dsimp only
    rw [e]
    exact short (.inr rfl)
  | some v =>
    dsimp only
    rw [e, seg_len, segN_len]
    by_cases c : M < N
    · rw [if_pos c]
      exact short (.inl c)
    · rw [if_neg c]
      have hMN : M = N := by omega
      subst hMN
      have sall : ∀ n, 1 ≤ n → F n ≠ none := fun n hn => by
        by_cases q : n ≤ M
        · exact s n hn q
        · rw [ht n (by omega)]
          exact fun y => by cases y
      have el : segN F M 1 = [v] := by
        unfold segN
        show [numF F (M + 0 + 1)] = [v]
        unfold numF
        rw [ht _ (by omega)]
        rfl
      have g := looped A (N := M) (m := 1) (c := 0) (by decide) sall (fun n hn => by
        unfold numF
        rw [ht n hn, ht (n + 1) (by omega)]
        simp)
      rw [el] at g
      exact ⟨g.1, g.2, by rw [segN_len]; exact Nat.le_refl _, Nat.le_refl _⟩
/-! ### a table's own values -/
section
variable {h l : List Int} {r : Int}
theorem asc_at (g : Good h l r) : Asc (at_ h l r) := by
  have some_of : ∀ n v, at_ h l r n = some v → n ≤ h.length ∨ l ≠ [] := fun n v e => by
    by_cases c : n ≤ h.length
    · exact .inl c
    · refine .inr fun z => ?_
      unfold at_ at e
      rw [if_neg c, if_pos z] at e
      cases e
  refine ⟨fun n v hn e => ?_, fun n v hn e => ?_⟩
  · have := num_ge g n hn
    unfold num at this
    rw [e] at this
    exact this
  · have c := some_of _ _ e
    have e1 := at_some (h := h) (l := l) (r := r) n (c.imp (fun q => by omega) id)
    refine ⟨_, e1, ?_⟩
    have := num_up g n hn c
    have e2 : num h l r (n + 1) = v := by unfold num; rw [e]; rfl
    omega
theorem good_of (A : Asc (at_ h l r)) (r0 : 0 ≤ r) (rl : l = [] → r = 0) : Good h l r := by
  have ah : ∀ i, i < h.length → at_ h l r (i + 1) = some (h.getD i 0) := fun i hi => by
    unfold at_
    rw [if_pos (by omega), Nat.add_sub_cancel]
  have al : ∀ i, i < l.length → at_ h l r (h.length + i + 1) = some (l.getD i 0) := fun i hi => by
    have hl : l ≠ [] := fun z => by rw [z] at hi; simp at hi
    rw [at_loop hl (by omega), show h.length + i + 1 - h.length - 1 = i by omega, walk_lt hi]
  refine ⟨climbs_of (fun i hi => A.ge _ _ (by omega) (ah i hi)) (fun i hi => ?_), climbs_of (fun i hi => A.ge _ _ (by omega) (al i hi)) (fun i hi => ?_), fun h1 h2 => ?_, r0, rl, fun hl => ?_⟩
  · obtain ⟨u, hu, le⟩ := A.up _ _ (by omega) (ah (i + 1) hi)
    rw [ah i (by omega)] at hu
    injection hu with hu
    omega
  · obtain ⟨u, hu, le⟩ := A.up _ _ (by omega) (al (i + 1) hi)
    rw [show h.length + (i + 1) = h.length + i + 1 by omega, al i (by omega)] at hu
    injection hu with hu
    omega
  · have h0 := len_pos h1
    obtain ⟨u, hu, le⟩ := A.up _ _ (by omega) (al 0 (len_pos h2))
    have := ah (h.length - 1) (by omega)
    rw [show h.length - 1 + 1 = h.length by omega] at this
    rw [this] at hu
    injection hu with hu
    omega
  · have l0 := len_pos hl
    have e : at_ h l r (h.length + (l.length - 1) + 1 + 1) = some (l.getD 0 0 + r) := by
      rw [at_loop hl (by omega), show h.length + (l.length - 1) + 1 + 1 - h.length - 1 = 0 + l.length by omega, walk_add l0, walk_lt l0]
    obtain ⟨u, hu, le⟩ := A.up _ _ (by omega) e
    rw [al (l.length - 1) (by omega)] at hu
    injection hu with hu
    omega
theorem at_fin (g : Good h l r) (c : l = [] ∨ r = 0) {n : Nat} (hn : h.length < n) : at_ h l r n = fin_ l r := by
  unfold fin_
  by_cases hl : l = []
  · rw [if_pos (.inl hl)]
    unfold at_
    rw [if_neg (by omega), if_pos hl]
  · have hr := c.resolve_left hl
    rw [if_neg (fun z => z.elim hl fun z => by omega), at_loop hl hn]
    have l0 := len_pos hl
    congr 1
    unfold walk
    rw [hr, Int.zero_mul, Int.add_zero]
    have hi := Nat.mod_lt (n - h.length - 1) l0
    generalize (n - h.length - 1) % l.length = i at hi
    have up : ∀ i d, i + d < l.length → l.getD i 0 ≤ l.getD (i + d) 0 := fun i d => by
      induction d with
      | zero => exact fun _ => Int.le_refl _
      | succ d ih => exact fun q => Int.le_trans (ih (by omega)) (climbs_up g.lp q)
    have e1 := up 0 i (by omega)
    have e2 := up i (l.length - 1 - i) (by omega)
    rw [Nat.zero_add] at e1
    rw [show i + (l.length - 1 - i) = l.length - 1 by omega] at e2
    have := g.last hl
    omega
theorem val_mono (g : Good h l r) {a b : Nat} (le : a ≤ b) {v : Int} (e : val_ h l r (some b) = some v) : ∃ u, val_ h l r (some a) = some u ∧ u ≤ v ∧ 0 ≤ u := by
  have A := asc_at g
  unfold val_ at e ⊢
  dsimp only at e ⊢
  by_cases ha : a = 0
  · rw [if_pos ha]
    refine ⟨0, rfl, ?_, Int.le_refl _⟩
    by_cases hb : b = 0
    · rw [if_pos hb] at e
      injection e with e
      omega
    · rw [if_neg hb] at e
      exact A.ge _ _ (by omega) e
  · rw [if_neg ha]
    rw [if_neg (by omega)] at e
    obtain ⟨d, rfl⟩ : ∃ d, b = a + d := ⟨b - a, by omega⟩
    obtain ⟨u, hu, le2⟩ := A.below (by omega) e
    exact ⟨u, hu, le2, A.ge _ _ (by omega) hu⟩
theorem val_fin (g : Good h l r) {v : Int} (e : fin_ l r = some v) (a : Nat) : ∃ u, val_ h l r (some a) = some u ∧ u ≤ v ∧ 0 ≤ u := by
  have c : l = [] ∨ r = 0 := by
    unfold fin_ at e
    by_cases q : l = [] ∨ 0 < r
    · rw [if_pos q] at e
      cases e
    · have := g.r0
      right
      have : ¬ 0 < r := fun z => q (.inr z)
      omega
  refine val_mono g (b := a + h.length + 1) (by omega) ?_
  unfold val_
  dsimp only
  rw [if_neg (by omega), at_fin g c (by omega), e]
end
/-! ### the values of one table at the values of another one -/
section
variable {h1 l1 h2 l2 : List Int} {r1 r2 : Int}
def beh (h1 l1 : List Int) (r1 : Int) (h2 l2 : List Int) (r2 : Int) (n : Nat) : Option Int := val_ h1 l1 r1 ((at_ h2 l2 r2 n).map Int.toNat)
theorem beh_asc (g1 : Good h1 l1 r1) (g2 : Good h2 l2 r2) : Asc (beh h1 l1 r1 h2 l2 r2) := by
  have A := asc_at g2
  refine ⟨fun n v hn e => ?_, fun n v hn e => ?_⟩
  · unfold beh at e
    cases q : at_ h2 l2 r2 n with
    | none =>
      rw [q] at e
      obtain ⟨u, _, h, h'⟩ := val_fin g1 e 0
      omega
    | some k =>
      rw [q] at e
      obtain ⟨u, h0, _, h⟩ := val_mono g1 (Nat.le_refl _) e
      have : some u = some v := h0.symm.trans e
      injection this with this
      omega
  · unfold beh at e ⊢
    cases q : at_ h2 l2 r2 (n + 1) with
    | none =>
      rw [q] at e
      cases q2 : at_ h2 l2 r2 n with
      | none => exact ⟨v, e, Int.le_refl _⟩
      | some k =>
        obtain ⟨u, h0, h, _⟩ := val_fin g1 e k.toNat
        exact ⟨u, h0, h⟩
    | some k =>
      rw [q] at e
      obtain ⟨j, hj, le⟩ := A.up n k hn q
      rw [hj]
      obtain ⟨u, h0, h, _⟩ := val_mono g1 (show j.toNat ≤ k.toNat by omega) e
      exact ⟨u, h0, h⟩
theorem beh_end (g2 : Good h2 l2 r2) (c : l2 = [] ∨ r2 = 0) {n : Nat} (hn : h2.length < n) : beh h1 l1 r1 h2 l2 r2 n = val_ h1 l1 r1 ((fin_ l2 r2).map Int.toNat) := by
  unfold beh
  rw [at_fin g2 c hn]
theorem beh_far {n : Nat} {v : Int} (e : at_ h2 l2 r2 n = some v) (hv : (h1.length : Int) < v) : beh h1 l1 r1 h2 l2 r2 n = at_ h1 l1 r1 v.toNat := by
  unfold beh
  rw [e]
  show val_ h1 l1 r1 (some v.toNat) = _
  unfold val_
  dsimp only
  rw [if_neg (by omega)]
theorem beh_flat (g1 : Good h1 l1 r1) (c : l1 = [] ∨ r1 = 0) {n : Nat} {v : Int} (e : at_ h2 l2 r2 n = some v) (hv : (h1.length : Int) < v) : beh h1 l1 r1 h2 l2 r2 n = fin_ l1 r1 := by
  rw [beh_far e hv, at_fin g1 c (by omega)]
theorem beh_some (n1 : l1 ≠ []) (n2 : l2 ≠ []) (n : Nat) : beh h1 l1 r1 h2 l2 r2 n ≠ none := by
  unfold beh
  rw [at_some n (.inr n2)]
  show val_ h1 l1 r1 (some _) ≠ none
  unfold val_
  dsimp only
  by_cases c : (num h2 l2 r2 n).toNat = 0
  · rw [if_pos c]
    exact fun z => by cases z
  · rw [if_neg c, at_some _ (.inr n1)]
    exact fun z => by cases z
theorem beh_per (n1 : l1 ≠ []) (n2 : l2 ≠ []) {lead q : Nat} {rq gg : Nat} (hq : l1.length = gg * q) (hr : r2 = ((gg * rq : Nat) : Int)) (hl : h2.length ≤ lead) (far : ∀ n, lead < n → ∃ v, at_ h2 l2 r2 n = some v ∧ (h1.length : Int) < v) (n : Nat) (hn : lead < n) :
    numF (beh h1 l1 r1 h2 l2 r2) (n + l2.length * q) = numF (beh h1 l1 r1 h2 l2 r2) n + r1 * (rq : Int) := by
  obtain ⟨v, hv, lv⟩ := far n hn
  obtain ⟨v', hv', lv'⟩ := far (n + l2.length * q) (by omega)
  have e : v' = v + (l1.length : Int) * (rq : Int) := by
    have a := at_loop n2 (r := r2) (h := h2) (n := n) (by omega)
    have b := at_loop n2 (r := r2) (h := h2) (n := n + l2.length * q) (by omega)
    rw [hv] at a
    rw [hv', show n + l2.length * q - h2.length - 1 = (n - h2.length - 1) + l2.length * q by omega, walk_add_mul (len_pos n2)] at b
    injection a with a
    injection b with b
    rw [b, a, hr, hq, Int.natCast_mul, Int.natCast_mul, Int.mul_assoc, Int.mul_assoc, Int.mul_comm (rq : Int) (q : Int)]
  unfold numF
  rw [beh_far hv lv, beh_far hv' lv', at_loop n1 (by omega), at_loop n1 (by omega)]
  show walk l1 r1 _ = walk l1 r1 _ + _
  have e3 : v'.toNat - h1.length - 1 = (v.toNat - h1.length - 1) + l1.length * rq := by
    have : (l1.length : Int) * (rq : Int) = ((l1.length * rq : Nat) : Int) := (Int.natCast_mul _ _).symm
    omega
  rw [e3, walk_add_mul (len_pos n1)]
end
end NT
namespace NT
section
variable {h l : List Int} {r : Int}
theorem at_bound {B R : Int} (hh : ∀ i, i < h.length → h.getD i 0 ≤ B) (hl : ∀ i, i < l.length → l.getD i 0 ≤ B) (r0 : 0 ≤ r) (hr : r ≤ R) (R0 : 0 ≤ R) {n : Nat} (hn : 1 ≤ n) {v : Int} (e : at_ h l r n = some v) : v ≤ B + R * (n : Int) := by
  have Rn : 0 ≤ R * (n : Int) := Int.mul_nonneg R0 (by omega)
  unfold at_ at e
  by_cases c : n ≤ h.length
  · rw [if_pos c] at e
    injection e with e
    have := hh (n - 1) (by omega)
    omega
  · rw [if_neg c] at e
    by_cases z : l = []
    · rw [if_pos z] at e
      cases e
    · rw [if_neg z] at e
      injection e with e
      unfold walk at e
      have a := hl ((n - h.length - 1) % l.length) (Nat.mod_lt _ (len_pos z))
      have b : (n - h.length - 1) / l.length ≤ n := Nat.le_trans (Nat.div_le_self _ _) (by omega)
      have c1 : r * (((n - h.length - 1) / l.length : Nat) : Int) ≤ R * (n : Int) := Int.mul_le_mul hr (Int.ofNat_le.mpr b) (Int.natCast_nonneg _) R0
      omega
/-- all that a form names is less than a bound -/
structure Few (x : List Int × List Int × Int) (B : Int) : Prop where
  v : ∀ n v, 1 ≤ n → n ≤ x.1.length + x.2.1.length → at_ x.1 x.2.1 x.2.2 n = some v → 0 ≤ v ∧ v < B
  r0 : 0 ≤ x.2.2
  r1 : x.2.2 < B
theorem plain_at {x : List Int × List Int × Int} (p : IsPlain h l r x) (n : Nat) (hn : 1 ≤ n) : at_ x.1 x.2.1 x.2.2 n = at_ h l r n := by
  rcases p with ⟨rfl, rfl⟩ | ⟨_, _, _, _, e⟩
  · rfl
  · exact e n hn
theorem plain_few {x : List Int × List Int × Int} {B : Int} (p : IsPlain h l r x) (f : Few (h, l, r) B) : Few x B := by
  have z := plain_size p
  refine ⟨fun n v hn h2 e => f.v n v hn ?_ ((plain_at p n hn).symm.trans e), (z.2.2.2.2.1 f.r0).1, Int.lt_of_le_of_lt (z.2.2.2.2.1 f.r0).2 f.r1⟩
  have := z.1
  have := z.2.1
  dsimp only
  omega
theorem few_head {x : List Int × List Int × Int} {B : Int} (f : Few x B) {i : Nat} (hi : i < x.1.length) : 0 ≤ x.1.getD i 0 ∧ x.1.getD i 0 < B := by
  refine f.v (i + 1) _ (by omega) (by omega) ?_
  unfold at_
  rw [if_pos (by omega), Nat.add_sub_cancel]
theorem few_loop {x : List Int × List Int × Int} {B : Int} (f : Few x B) {i : Nat} (hi : i < x.2.1.length) : 0 ≤ x.2.1.getD i 0 ∧ x.2.1.getD i 0 < B := by
  refine f.v (x.1.length + i + 1) _ (by omega) (by omega) ?_
  rw [at_loop (fun z => by rw [z] at hi; simp at hi) (by omega), show x.1.length + i + 1 - x.1.length - 1 = i by omega, walk_lt hi]
theorem plain_fin {x : List Int × List Int × Int} (g : Good h l r) (p : IsPlain h l r x) : Good x.1 x.2.1 x.2.2 ∧ fin_ x.2.1 x.2.2 = fin_ l r := by
  have z := plain_size p
  have gx : Good x.1 x.2.1 x.2.2 := by
    refine good_of ?_ (z.2.2.2.2.1 g.r0).1 fun hl => ?_
    · have A := asc_at g
      refine ⟨fun n v hn e => A.ge n v hn ((plain_at p n hn).symm.trans e), fun n v hn e => ?_⟩
      obtain ⟨u, hu, le⟩ := A.up n v hn ((plain_at p (n + 1) (by omega)).symm.trans e)
      exact ⟨u, (plain_at p n hn).trans hu, le⟩
    · by_cases q : l = []
      · rw [z.2.2.2.2.2.2 q]
      · exact absurd hl (z.2.2.1 q)
  refine ⟨gx, ?_⟩
  by_cases q : l = []
  · have hx := z.2.2.2.1 q
    unfold fin_
    rw [if_pos (.inl hx), if_pos (.inl q)]
  · have hx := z.2.2.1 q
    have hr := z.2.2.2.2.2.1 q
    by_cases q2 : 0 < r
    · unfold fin_
      rw [if_pos (.inr (hr.mp q2)), if_pos (.inr q2)]
    · have r0 : r = 0 := by have := g.r0; omega
      have rx : x.2.2 = 0 := by
        have := gx.r0
        have : ¬ 0 < x.2.2 := fun y => q2 (hr.mpr y)
        omega
      rw [← at_fin gx (.inr rx) (n := x.1.length + h.length + 1) (by omega), ← at_fin g (.inr r0) (n := x.1.length + h.length + 1) (by omega)]
      exact plain_at p _ (by omega)
theorem val_plain {x : List Int × List Int × Int} (g : Good h l r) (p : IsPlain h l r x) (n : Option Nat) : val_ x.1 x.2.1 x.2.2 n = val_ h l r n := by
  unfold val_
  cases n with
  | none => exact (plain_fin g p).2
  | some n =>
    dsimp only
    by_cases c : n = 0
    · rw [if_pos c, if_pos c]
    · rw [if_neg c, if_neg c]
      exact plain_at p n (by omega)
end
theorem beh_plain {h1 l1 h2 l2 : List Int} {r1 r2 : Int} {x y : List Int × List Int × Int} (g1 : Good h1 l1 r1) (p1 : IsPlain h1 l1 r1 x) (p2 : IsPlain h2 l2 r2 y) (n : Nat) (hn : 1 ≤ n) : beh x.1 x.2.1 x.2.2 y.1 y.2.1 y.2.2 n = beh h1 l1 r1 h2 l2 r2 n := by
  unfold beh
  rw [plain_at p2 n hn, val_plain g1 p1]
/-- what is not after a place at which a bound is passed -/
theorem far_of {h l : List Int} {r : Int} (g : Good h l r) (hl : l ≠ []) {lead : Nat} {lim : Int} (e : lim < num h l r (lead + 1)) (n : Nat) (hn : lead < n) : ∃ v, at_ h l r n = some v ∧ lim < v := by
  refine ⟨_, at_some n (.inr hl), ?_⟩
  have := (asc_at g).mono (m := lead + 1) (n := n) (by omega) (by omega) (by rw [at_some n (.inr hl)]; exact fun z => by cases z)
  exact Int.lt_of_lt_of_le e this
end NT
set_option linter.all false
set_option maxHeartbeats 4000000
/-! Deeds of makers: none gives a piece, some i takes one at inlet i. Plain Lean. -/
namespace NT
abbrev Deed := Option Nat
/-- how many pieces are taken at inlet i -/
def took (i : Nat) : List Deed → Nat
  | [] => 0
  | none :: ds => took i ds
  | some j :: ds => (if j = i then 1 else 0) + took i ds
/-- for each give how many pieces are taken at inlet i ahead of it, t of them before -/
def ahead (i : Nat) : List Deed → Int → List Int
  | [], _ => []
  | none :: ds, t => t :: ahead i ds t
  | some j :: ds, t => ahead i ds (if j = i then t + 1 else t)
theorem took_app {i : Nat} : ∀ {a b : List Deed}, took i (a ++ b) = took i a + took i b
  | [], b => by simp [took]
  | none :: a, b => by simp only [List.cons_append, took]; exact took_app
  | some j :: a, b => by simp only [List.cons_append, took]; rw [took_app]; omega
theorem ahead_app {i : Nat} : ∀ {a b : List Deed} {t : Int}, ahead i (a ++ b) t = ahead i a t ++ ahead i b (t + (took i a : Int))
  | [], b, t => by simp [took, ahead]
  | none :: a, b, t => by simp only [List.cons_append, took, ahead]; rw [ahead_app]
  | some j :: a, b, t => by
    simp only [List.cons_append, took, ahead]
    rw [ahead_app]
    congr 2
    by_cases h : j = i
    · rw [if_pos h, if_pos h]; omega
    · rw [if_neg h, if_neg h]; omega
theorem ahead_add {i : Nat} : ∀ {a : List Deed} {t c : Int}, ahead i a (t + c) = (ahead i a t).map (· + c)
  | [], _, _ => rfl
  | none :: a, t, c => by simp only [ahead, List.map_cons]; rw [ahead_add]
  | some j :: a, t, c => by
    simp only [ahead]
    by_cases h : j = i
    · rw [if_pos h, if_pos h, show t + c + 1 = t + 1 + c by omega, ahead_add]
    · rw [if_neg h, if_neg h, ahead_add]
theorem ahead_off {i : Nat} {a : List Deed} {t : Int} : ahead i a t = (ahead i a 0).map (t + ·) := by
  have := ahead_add (i := i) (a := a) (t := 0) (c := t)
  rw [Int.zero_add] at this
  rw [this]
  exact List.map_congr_left fun x _ => Int.add_comm _ _
theorem ahead_len {i : Nat} : ∀ {a : List Deed} {t : Int}, (ahead i a t).length ≤ a.length
  | [], _ => Nat.le_refl _
  | none :: a, t => by simp only [ahead, List.length_cons]; exact Nat.succ_le_succ ahead_len
  | some j :: a, t => by simp only [ahead, List.length_cons]; exact Nat.le_succ_of_le ahead_len
theorem took_len {i : Nat} : ∀ {a : List Deed}, took i a ≤ a.length
  | [] => Nat.le_refl _
  | none :: a => by simp only [took, List.length_cons]; exact Nat.le_succ_of_le took_len
  | some j :: a => by
    have := took_len (i := i) (a := a)
    simp only [took, List.length_cons]
    by_cases h : j = i
    · rw [if_pos h]; omega
    · rw [if_neg h]; omega
theorem ahead_climbs {i : Nat} : ∀ {a : List Deed} {lo t : Int}, lo ≤ t → climbs lo (ahead i a t)
  | [], _, _, _ => trivial
  | none :: a, lo, t, h => ⟨h, ahead_climbs (Int.le_refl t)⟩
  | some j :: a, lo, t, h => by
    simp only [ahead]
    by_cases e : j = i
    · rw [if_pos e]; exact ahead_climbs (by omega)
    · rw [if_neg e]; exact ahead_climbs h
theorem ahead_le {i : Nat} : ∀ {a : List Deed} {t : Int}, ∀ x ∈ ahead i a t, t ≤ x ∧ x ≤ t + (took i a : Int)
  | [], _, x, h => nomatch h
  | none :: a, t, x, h => by
    simp only [ahead, took] at h ⊢
    rcases List.mem_cons.mp h with rfl | h
    · omega
    · exact ahead_le x h
  | some j :: a, t, x, h => by
    simp only [ahead, took] at h ⊢
    by_cases e : j = i
    · rw [if_pos e] at h ⊢
      have := ahead_le x h
      omega
    · rw [if_neg e] at h ⊢
      have := ahead_le x h
      omega
theorem ahead_nil {i : Nat} : ∀ {a : List Deed} {t : Int}, ahead i a t = [] ↔ none ∉ a
  | [], _ => by simp [ahead]
  | none :: a, t => by simp [ahead]
  | some j :: a, t => by simp only [ahead]; rw [ahead_nil]; simp
theorem took_snoc {i : Nat} {a : List Deed} {d : Deed} : took i (a ++ [d]) = match d with
  | none => took i a
  | some j => if j = i then took i a + 1 else took i a := by
  rw [took_app]
  cases d with
  | none => rfl
  | some j =>
    show took i a + ((if j = i then 1 else 0) + 0) = if j = i then took i a + 1 else took i a
    split <;> omega
theorem ahead_snoc {i : Nat} {a : List Deed} {d : Deed} : ahead i (a ++ [d]) 0 = match d with
  | none => ahead i a 0 ++ [(took i a : Int)]
  | some _ => ahead i a 0 := by
  rw [ahead_app, Int.zero_add]
  cases d with
  | none => rfl
  | some j => exact List.append_nil _
/-- the need at inlet i: first these deeds, then those for ever -/
def needT (i : Nat) (b c : List Deed) : List Int × List Int × Int :=
  (ahead i b 0, ahead i c (took i b : Int), if ahead i c (took i b : Int) = [] then 0 else (took i c : Int))
theorem getD_mem {l : List Int} {k : Nat} (h : k < l.length) : l.getD k 0 ∈ l := by
  rw [List.getD_eq_getElem?_getD, List.getElem?_eq_getElem h]
  exact List.getElem_mem h
theorem needT_good (i : Nat) (b c : List Deed) : Good (needT i b c).1 (needT i b c).2.1 (needT i b c).2.2 := by
  unfold needT
  refine ⟨ahead_climbs (Int.le_refl 0), ahead_climbs (by omega), fun h1 h2 => ?_, ?_, fun h => if_pos h, fun h => ?_⟩
  · dsimp only at h1 h2
    have p1 := List.length_pos_iff.mpr h1
    have p2 := List.length_pos_iff.mpr h2
    have q1 := ahead_le _ (getD_mem (l := ahead i b 0) (k := (ahead i b 0).length - 1) (by omega))
    have q2 := ahead_le _ (getD_mem (l := ahead i c (took i b : Int)) (k := 0) p2)
    dsimp only
    omega
  · dsimp only
    split <;> omega
  · dsimp only at h ⊢
    rw [if_neg h]
    have p2 := List.length_pos_iff.mpr h
    have q1 := ahead_le _ (getD_mem (l := ahead i c (took i b : Int)) (k := 0) p2)
    have q2 := ahead_le _ (getD_mem (l := ahead i c (took i b : Int)) (k := (ahead i c (took i b : Int)).length - 1) (by omega))
    omega
/-- so often -/
def rep (c : List Deed) : Nat → List Deed
  | 0 => []
  | k + 1 => c ++ rep c k
theorem walk_shift {l : List Int} {r c : Int} {q : Nat} (h : 0 < l.length) : walk (l.map (· + c)) r q = walk l r q + c := by
  unfold walk
  rw [List.length_map, List.getD_eq_getElem?_getD, List.getD_eq_getElem?_getD, List.getElem?_map, List.getElem?_eq_getElem (Nat.mod_lt _ h)]
  show _ + c + _ = _
  show l[q % l.length]'(Nat.mod_lt _ h) + c + _ = l[q % l.length]'(Nat.mod_lt _ h) + _ + c
  omega
theorem rep_walk {i : Nat} {c : List Deed} : ∀ {k : Nat} {t : Int} {q : Nat}, q < k * (ahead i c t).length → q < (ahead i (rep c k) t).length ∧ (ahead i (rep c k) t).getD q 0 = walk (ahead i c t) (took i c : Int) q
  | 0, _, _, h => by omega
  | k + 1, t, q, h => by
    have l0 : 0 < (ahead i c t).length := by
      rcases Nat.eq_zero_or_pos (ahead i c t).length with z | z
      · rw [z] at h; omega
      · exact z
    have e : (ahead i c (t + (took i c : Int))) = (ahead i c t).map (· + (took i c : Int)) := ahead_add
    have el : (ahead i c (t + (took i c : Int))).length = (ahead i c t).length := by rw [e, List.length_map]
    simp only [rep]
    rw [ahead_app, List.length_append]
    by_cases z : q < (ahead i c t).length
    · refine ⟨by omega, ?_⟩
      rw [List.getD_eq_getElem?_getD, List.getElem?_append_left z, ← List.getD_eq_getElem?_getD, walk_lt z]
    · have h2 : q - (ahead i c t).length < k * (ahead i c (t + (took i c : Int))).length := by
        rw [el]
        rw [Nat.succ_mul] at h
        omega
      obtain ⟨r1, r2⟩ := rep_walk h2
      refine ⟨by omega, ?_⟩
      rw [List.getD_eq_getElem?_getD, List.getElem?_append_right (by omega), ← List.getD_eq_getElem?_getD, r2, e, walk_shift l0]
      have := walk_add (l := ahead i c t) (r := (took i c : Int)) l0 (q - (ahead i c t).length)
      rw [show q - (ahead i c t).length + (ahead i c t).length = q by omega] at this
      exact this.symm
theorem rep_none {i : Nat} {c : List Deed} (h : ∀ t, ahead i c t = []) : ∀ {k : Nat} {t : Int}, ahead i (rep c k) t = []
  | 0, _ => rfl
  | k + 1, t => by simp only [rep]; rw [ahead_app, h, rep_none h]; rfl
/-- the need, place by place, as it comes by walking -/
theorem needT_at {i : Nat} {b c : List Deed} {k n : Nat} (hn : 1 ≤ n) (hk : n ≤ k) : at_ (needT i b c).1 (needT i b c).2.1 (needT i b c).2.2 n = (ahead i (b ++ rep c k) 0)[n - 1]? := by
  unfold needT
  dsimp only
  rw [ahead_app, Int.zero_add]
  by_cases h : n ≤ (ahead i b 0).length
  · unfold at_
    rw [if_pos h, List.getElem?_append_left (by omega), List.getD_eq_getElem?_getD, List.getElem?_eq_getElem (by omega)]
    rfl
  · rw [List.getElem?_append_right (by omega)]
    by_cases z : ahead i c (took i b : Int) = []
    · unfold at_
      rw [if_neg h, if_pos z, rep_none fun t => ahead_nil.mpr (ahead_nil.mp z)]
      rfl
    · have l0 := List.length_pos_iff.mpr z
      rw [at_loop z (by omega), if_neg z]
      have lt : n - 1 - (ahead i b 0).length < k * (ahead i c (took i b : Int)).length := Nat.lt_of_lt_of_le (show n - 1 - (ahead i b 0).length < k by omega) (Nat.le_mul_of_pos_right _ l0)
      obtain ⟨r1, r2⟩ := rep_walk lt
      rw [List.getElem?_eq_getElem r1]
      rw [List.getD_eq_getElem?_getD, List.getElem?_eq_getElem r1] at r2
      rw [show n - (ahead i b 0).length - 1 = n - 1 - (ahead i b 0).length by omega, ← r2]
      rfl
end NT
set_option Elab.async false
set_option linter.all false
set_option maxRecDepth 100000
set_option maxHeartbeats 4000000
/-! A comprehension over a list or a tuple; rows of deeds. -/
namespace NF
open PySem PySem.Spec PyProof.Rows L2 He RZ NT
theorem lc_row {K : PySem.W.Frag} {a : Addr} {xs : List V} {g : TG} {tt : TT} {te : TE} {vs : List Nat} {σ : L2.St} {H1 : Hp} {Qd : Addr → Hp → Prop} (hr : Row K H1 a xs) (Pv : Addr → Nat → Hp → Prop) (h0 : ∀ D, H1 D = none → Pv D 0 (upd H1 D (.lst [])))
    (hl : ∀ D i H, H1 D = none → Pv D i H → Same H1 H)
    (hs : ∀ D, H1 D = none → ∀ i x H, xs[i]? = some x → Pv D i H → g x (wipe σ vs) H fun σ2 H2 => wipe σ2 vs = wipe σ vs ∧ tt σ2 H2 fun b H3 =>
      if b = true then te σ2 H3 fun y H4 => ∃ acc, H4 D = some (.lst acc) ∧ acc.length < sizeLine ∧ Pv D (i + 1) (upd H4 D (.lst (acc ++ [y]))) else Pv D (i + 1) H3) (hd : ∀ D, H1 D = none → ∀ H, Pv D xs.length H → Qd D H) :
    ((∃ xs, SqL K H1 a xs) ∧ ∀ D, H1 D = none → ∃ W : Nat → Nat → Hp → Prop, (∃ m, W 0 m (upd H1 D (.lst []))) ∧ ∀ i m H, W i m H →
      ((Itl K a).stop i H ∧ Qd D H) ∨ ((Itl K a).go i H ∧ ∃ Nx : Hp → Prop, (∀ H', Nx H' → ∃ m', m' < m ∧ W (i + 1) m' H') ∧ ∀ x H', (Itl K a).yld i H x H' → g x (wipe σ vs) H' fun σ2 H2 => wipe σ2 vs = wipe σ vs ∧ tt σ2 H2 fun b H3 =>
        if b = true then te σ2 H3 fun y H4 => ∃ acc, H4 D = some (.lst acc) ∧ acc.length < sizeLine ∧ Nx (upd H4 D (.lst (acc ++ [y]))) else Nx H3)) ∨
    ((∃ xs, SqT K H1 a xs) ∧ ∀ D, H1 D = none → ∃ W : Nat → Nat → Hp → Prop, (∃ m, W 0 m (upd H1 D (.lst []))) ∧ ∀ i m H, W i m H →
      ((Itt K a).stop i H ∧ Qd D H) ∨ ((Itt K a).go i H ∧ ∃ Nx : Hp → Prop, (∀ H', Nx H' → ∃ m', m' < m ∧ W (i + 1) m' H') ∧ ∀ x H', (Itt K a).yld i H x H' → g x (wipe σ vs) H' fun σ2 H2 => wipe σ2 vs = wipe σ vs ∧ tt σ2 H2 fun b H3 =>
        if b = true then te σ2 H3 fun y H4 => ∃ acc, H4 D = some (.lst acc) ∧ acc.length < sizeLine ∧ Nx (upd H4 D (.lst (acc ++ [y]))) else Nx H3)) := by
  rcases hr with hr | hr
  · exact .inl ⟨⟨_, hr⟩, fun D hD => lc_list (Pv D) (h0 D hD) (fun i H _ p => L2.Same.seq (hl D i H hD p) hr) (hs D hD) (hd D hD)⟩
  · exact .inr ⟨⟨_, hr⟩, fun D hD => lc_tup (Pv D) (h0 D hD) (fun i H _ p => NF.Same.tup (hl D i H hD p) hr) (hs D hD) (hd D hD)⟩
theorem for_rowM {K : PySem.W.Frag} {a : Addr} {xs : List V} {g : TG} {tb : TS} {D : Ends} {σ : L2.St} {H H0 : Hp} (hr : Row K H0 a xs) (Pv : Nat → L2.St → Hp → Prop) (h0 : Pv 0 σ H) (hm : ∀ i σ H', Pv i σ H' → Same H0 H')
    (hs : ∀ i x σ H, xs[i]? = some x → Pv i σ H → g x σ H fun σ2 H2 => tb { D with nx := Pv (i + 1), ct := Pv (i + 1), bk := D.nx } σ2 H2) (hd : ∀ σ H, Pv xs.length σ H → D.nx σ H) :
    ((∃ xs, SqL K H a xs) ∧ (∃ W : Nat → Nat → L2.St → Hp → Prop, (∃ m, W 0 m σ H) ∧ ∀ i m σ H, W i m σ H →
      ((Itl K a).stop i H ∧ D.nx σ H) ∨ ((Itl K a).go i H ∧ ∃ N : L2.St → Hp → Prop, (∀ σ' H', N σ' H' → ∃ m', m' < m ∧ W (i + 1) m' σ' H') ∧ ∀ x H', (Itl K a).yld i H x H' → g x σ H' fun σ2 H2 => tb { D with nx := N, ct := N, bk := D.nx } σ2 H2))) ∨
    ((∃ xs, SqT K H a xs) ∧ (∃ W : Nat → Nat → L2.St → Hp → Prop, (∃ m, W 0 m σ H) ∧ ∀ i m σ H, W i m σ H →
      ((Itt K a).stop i H ∧ D.nx σ H) ∨ ((Itt K a).go i H ∧ ∃ N : L2.St → Hp → Prop, (∀ σ' H', N σ' H' → ∃ m', m' < m ∧ W (i + 1) m' σ' H') ∧ ∀ x H', (Itt K a).yld i H x H' → g x σ H' fun σ2 H2 => tb { D with nx := N, ct := N, bk := D.nx } σ2 H2))) := by
  rcases hr with hr | hr
  · exact .inl ⟨⟨_, L2.Same.seq (hm 0 σ H h0) hr⟩, for_list Pv h0 (fun i σ H' _ p => L2.Same.seq (hm i σ H' p) hr) hs hd⟩
  · exact .inr ⟨⟨_, NF.Same.tup (hm 0 σ H h0) hr⟩, for_tup Pv h0 (fun i σ H' _ p => NF.Same.tup (hm i σ H' p) hr) hs hd⟩
theorem cr_tupK {X : Cx} {K : PySem.W.Frag} (h : X.K = K := by rfl) : CallR X (.type "tuple") (rTupOf K) := h ▸ cr_tup
theorem call_list_ofK {X : Cx} {K : PySem.W.Frag} (h : X.K = K := by rfl) : CallR X (.type "list") (fun xs H Q => ∃ p ys, xs = [.ref p] ∧ (SqL K H p ys ∨ SqT K H p ys) ∧ ∀ l, H l = none → Q (.ref l) (upd H l (.lst ys))) := h ▸ call_list_of
theorem call_isiK {X : Cx} {K : PySem.W.Frag} (h : X.K = K := by rfl) : CallR X (.builtin "isinstance") (rIsi K) := h ▸ call_isi
/-- a deed -/
def dV : Deed → V
  | none => .str "give"
  | some i => .int (i : Int)
theorem dV_give {d : Deed} : decide (dV d = V.str "give") = d.isNone := by
  cases d with
  | none => exact decide_eq_true rfl
  | some i => exact decide_eq_false fun z => by cases z
theorem dV_int {j i : Nat} : decide (dV (some j) = V.int (i : Int)) = decide (j = i) := by
  by_cases h : j = i
  · subst h
    rw [decide_eq_true rfl]
    exact decide_eq_true rfl
  · rw [decide_eq_false h]
    exact decide_eq_false fun z => h (by injection z with z; omega)
theorem dV_scal {d : Deed} {s : Str} : scal (dV d) (.str s) = true := by cases d <;> rfl
theorem dV_scalI {d : Deed} {i : Int} : scal (dV d) (.int i) = true := by cases d <;> rfl
/-- rows of deeds, each one at its own address -/
def WaysR (K : PySem.W.Frag) (H : Hp) (pw : Addr) (ws : List (List Deed)) : Prop := ∃ as : List Addr, Row K H pw (as.map V.ref) ∧ as.length = ws.length ∧ ∀ (j : Nat) (a : Addr) (w : List Deed), as[j]? = some a → ws[j]? = some w → Row K H a (w.map dV)
def WaysT (K : PySem.W.Frag) (H : Hp) (pw : Addr) (ws : List (List Deed)) : Prop := ∃ as : List Addr, SqT K H pw (as.map V.ref) ∧ as.length = ws.length ∧ ∀ (j : Nat) (a : Addr) (w : List Deed), as[j]? = some a → ws[j]? = some w → SqT K H a (w.map dV)
theorem WaysT.r {K : PySem.W.Frag} {H : Hp} {pw : Addr} {ws : List (List Deed)} (h : WaysT K H pw ws) : WaysR K H pw ws := by
  obtain ⟨as, h1, h2, h3⟩ := h
  exact ⟨as, .inr h1, h2, fun j a w e1 e2 => .inr (h3 j a w e1 e2)⟩
theorem WaysR.mono {K : PySem.W.Frag} {H H' : Hp} {pw : Addr} {ws : List (List Deed)} (h : WaysR K H pw ws) (s : Same H H') : WaysR K H' pw ws := by
  obtain ⟨as, h1, h2, h3⟩ := h
  exact ⟨as, h1.mono s, h2, fun j a w e1 e2 => (h3 j a w e1 e2).mono s⟩
theorem WaysT.mono {K : PySem.W.Frag} {H H' : Hp} {pw : Addr} {ws : List (List Deed)} (h : WaysT K H pw ws) (s : Same H H') : WaysT K H' pw ws := by
  obtain ⟨as, h1, h2, h3⟩ := h
  exact ⟨as, NF.Same.tup s h1, h2, fun j a w e1 e2 => NF.Same.tup s (h3 j a w e1 e2)⟩
end NF
set_option Elab.async false
set_option linter.all false
set_option maxRecDepth 100000
set_option maxHeartbeats 4000000
/-! Deep == of rows of anything that is equal only to itself. -/
namespace NF
open PySem PySem.Spec PyProof.Rows L2 He RZ NT
theorem iteT' {b : Bool} {A B : Prop} (e : b = true) (h : A) : if b = true then A else B := by rw [e]; exact iteT h
theorem iteF' {b : Bool} {A B : Prop} (e : b = false) (h : B) : if b = true then A else B := by rw [e]; exact iteF h
theorem eqv_map {α : Type} [DecidableEq α] {f : α → PyData} (h : ∀ a b, PyData.eqv (f a) (f b) = decide (a = b)) : ∀ a b : List α, PyData.eqvAll (a.map f) (b.map f) = decide (a = b)
  | [], [] => rfl
  | [], _ :: _ => rfl
  | _ :: _, [] => rfl
  | x :: a, y :: b => by
    show (PyData.eqv (f x) (f y) && PyData.eqvAll (a.map f) (b.map f)) = _
    rw [eqv_map h a b, h]
    by_cases h1 : x = y <;> by_cases h2 : a = b <;> simp [h1, h2]
theorem lay_map {α : Type} {f : α → PyData} : ∀ (l : List α), (∀ a ∈ l, PyData.canLay0 (f a) = true) → PyData.canLayAll0 (l.map f) = true
  | [], _ => rfl
  | a :: l, h => by
    show (PyData.canLay0 (f a) && PyData.canLayAll0 (l.map f)) = true
    rw [h a List.mem_cons_self, lay_map l fun b hb => h b (List.mem_cons_of_mem _ hb)]
    rfl
theorem depth_map {α : Type} {f : α → PyData} {n : Nat} : ∀ (l : List α), (∀ a ∈ l, PyData.depth (f a) ≤ n) → PyData.depthAll (l.map f) ≤ n
  | [], _ => Nat.zero_le _
  | a :: l, h => by
    show max (PyData.depth (f a)) (PyData.depthAll (l.map f)) ≤ n
    have := h a List.mem_cons_self
    have := depth_map l fun b hb => h b (List.mem_cons_of_mem _ hb)
    omega
theorem shaped_map {α : Type} {f : α → PyData} {n : Nat} (l : List α) (h1 : ∀ a ∈ l, PyData.canLay0 (f a) = true) (h2 : ∀ a ∈ l, PyData.depth (f a) ≤ n) (h3 : n ≤ 60) : SeqAt.shaped (.tuple (l.map f)) = true := by
  show (PyData.canLayAll0 (l.map f) && decide (PyData.depthAll (l.map f) + 1 ≤ 64)) = true
  rw [lay_map l h1, decide_eq_true (by have := depth_map l h2; omega)]
  rfl
/-- a deed as data -/
def dataD : Deed → PyData
  | none => .str "give"
  | some i => .int (i : Int)
theorem eqv_dP : ∀ a b : Deed, PyData.eqv (dataD a) (dataD b) = decide (a = b)
  | none, none => by decide
  | none, some _ => rfl
  | some _, none => rfl
  | some i, some j => by
    show ((i : Int) == (j : Int)) = _
    by_cases h : i = j
    · subst h
      simp
    · rw [decide_eq_false (fun z => h (by injection z))]
      exact beq_eq_false_iff_ne.mpr fun z => h (by omega)
theorem lay_dP (a : Deed) : PyData.canLay0 (dataD a) = true := by
  cases a with
  | none => decide +kernel
  | some i => rfl
theorem depth_dP (a : Deed) : PyData.depth (dataD a) ≤ 0 := by cases a <;> exact Nat.le_refl _
theorem dp_deeds {K : PySem.W.Frag} {H : Hp} : ∀ l : List Deed, DpAll K H (l.map dV) (l.map dataD)
  | [] => .nil
  | none :: l => .cons (.str _) (dp_deeds l)
  | some i :: l => .cons (.int _) (dp_deeds l)
def dataW (w : List Deed) : PyData := .tuple (w.map dataD)
theorem eqv_wP (a b : List Deed) : PyData.eqv (dataW a) (dataW b) = decide (a = b) := eqv_map eqv_dP a b
theorem lay_wP (a : List Deed) : PyData.canLay0 (dataW a) = true := lay_map a fun d _ => lay_dP d
theorem depth_wP (a : List Deed) : PyData.depth (dataW a) ≤ 1 := by
  show PyData.depthAll (a.map dataD) + 1 ≤ 1
  have := depth_map a fun d _ => depth_dP d
  omega
theorem shaped_wP (a : List Deed) : SeqAt.shaped (dataW a) = true := shaped_map a (fun d _ => lay_dP d) (fun d _ => depth_dP d) (by decide)
theorem dp_way {K : PySem.W.Frag} {H : Hp} {a : Addr} {w : List Deed} (h : SqT K H a (w.map dV)) : Dp K H (.ref a) (dataW w) := .tup h (dp_deeds w)
theorem dp_waysL {K : PySem.W.Frag} {H : Hp} : ∀ (as : List Addr) (ws : List (List Deed)), as.length = ws.length → (∀ (j : Nat) (a : Addr) (w : List Deed), as[j]? = some a → ws[j]? = some w → SqT K H a (w.map dV)) → DpAll K H (as.map V.ref) (ws.map dataW)
  | [], [], _, _ => .nil
  | [], _ :: _, h, _ => nomatch h
  | _ :: _, [], h, _ => nomatch h
  | a :: as, w :: ws, h, q => .cons (dp_way (q 0 a w rfl rfl)) (dp_waysL as ws (by simpa using h) fun j a' w' e1 e2 => q (j + 1) a' w' (by simpa using e1) (by simpa using e2))
def dataWs (ws : List (List Deed)) : PyData := .tuple (ws.map dataW)
theorem eqv_wsP (a b : List (List Deed)) : PyData.eqv (dataWs a) (dataWs b) = decide (a = b) := eqv_map eqv_wP a b
theorem shaped_wsP (a : List (List Deed)) : SeqAt.shaped (dataWs a) = true := shaped_map a (fun w _ => lay_wP w) (fun w _ => depth_wP w) (by decide)
theorem dp_ways {K : PySem.W.Frag} {H : Hp} {pw : Addr} {ws : List (List Deed)} (h : WaysT K H pw ws) : Dp K H (.ref pw) (dataWs ws) := by
  obtain ⟨as, h1, h2, h3⟩ := h
  exact .tup h1 (dp_waysL as ws h2 h3)
theorem eqD_deeds {K : PySem.W.Frag} {H : Hp} {a b : Addr} {x y : List Deed} {Q : VK} (hx : SqT K H a (x.map dV)) (hy : SqT K H b (y.map dV)) (q : Q (.bl (decide (x = y))) H) : rEqD K (.ref a) (.ref b) H Q :=
  ⟨_, _, dp_way hx, dp_way hy, shaped_wP x, shaped_wP y, by rw [eqv_wP]; exact q⟩
theorem eqD_ways {K : PySem.W.Frag} {H : Hp} {a b : Addr} {x y : List (List Deed)} {Q : VK} (hx : WaysT K H a x) (hy : WaysT K H b y) (q : Q (.bl (decide (x = y))) H) : rEqD K (.ref a) (.ref b) H Q :=
  ⟨_, _, dp_ways hx, dp_ways hy, shaped_wsP x, shaped_wsP y, by rw [eqv_wsP]; exact q⟩
end NF
set_option Elab.async false
set_option linter.all false
set_option maxRecDepth 100000
set_option maxHeartbeats 4000000
/-! f(e, .., k = v, ..) of a def with keyword-only parameters. -/
namespace NF
open PySem PySem.Spec PyProof.Rows L2 He
theorem kbN {K : PySem.W.Frag} {x qual : Str} {params : Arguments} {body : List Stmt} {scope : Scope} {kws : List (Str × V)} {f : Addr} {fd : FuncData} {ps : List Str} (F : FunD K x qual params body scope [] kws f fd) (n : Nat) (ks : List Str)
    (h : ∀ (kV doc pm : Value) (an : Option Addr) (cdv ct : Value) (us ws : List Value), us.length = n → ws.length = ks.length → bindArgs (PySem.W.fnOf x qual params body scope .none kV doc pm an cdv ct) ⟨us, ks.zip ws⟩ = pure (ps.zip (us ++ ws))) : KBn K fd ps n ks (fun us ws => us ++ ws) (fun vs zs => vs ++ zs) := by
  obtain ⟨oc, od, dV, kV, doc, pm, an, cdv, ct, osl, rfl, lk, hcd, hD, hK⟩ := F.ex
  rcases hD with ⟨_, rfl⟩ | ⟨e, _⟩
  · exact ⟨fun s us ws X l1 l2 => .of_eq (h kV doc pm an cdv ct us ws l1 l2), fun r1 r2 => r1.append r2⟩
  · exact absurd rfl e
structure CalK (P : Program) (w : World) (K : PySem.W.Frag) (mg : Str → Option Value) (base : Heap) (k : Nat) (x : Str) (n : Nat) (ks : List Str) (sp : Sp) : Prop where
  ex : ∃ (f : Addr) (fd : FuncData) (ps : List Str), FnOk P w K mg base CX0 k f fd ps sp ∧ mg x = some (.ref f) ∧ PySem.W.keepIn K (.ref f) = true ∧ KBn K fd ps n ks (fun us ws => us ++ ws) (fun vs zs => vs ++ zs)
theorem pe_ck {X : Cx} {k j n : Nat} {x : Str} {ks : List Str} {sp : Sp} {e : Expr} {es : List Expr} {kws : List Keyword} {t tk : TA} {p pos : Pos} (c : CalK X.prog X.w X.K X.mg X.base k x n ks sp) (hr : Room j X.A) (hk : k ≤ j) (hg : Gl X x) (ha : PA X (e :: es) t) (hkw : PK X kws tk)
    (hall : (backToKw pos (keywordEach kws X.env)).all (·.1.isSome) = true := by rfl) (hks : (backToKw pos (keywordEach kws X.env)).filterMap (·.1) = ks := by rfl)
    (hdb : (x == ("__debug__" : Str)) = false := by decide) (he : starEach (e :: es) X.env = (false, eval e X.env) :: starEach es X.env := by rfl)
    (hpl : ((backTo pos (starEach (e :: es) X.env)).any (·.1) || (backToKw pos (keywordEach kws X.env)).any (·.1.isNone)) = false := by rfl) :
    PE X (.Call (.Name x p) (e :: es) kws pos) (tCallN n ks.length sp (fun vs zs => vs ++ zs) E0 t tk) := by
  obtain ⟨f, fd, ps, F, hm, kp, b⟩ := c.ex
  exact pe_callN F (hr.mono hk) hg hm kp b pass0 ha hkw hall hks hdb he hpl
end NF
set_option Elab.async false
set_option linter.all false
set_option maxRecDepth 100000
set_option maxHeartbeats 4000000
/-! f(e, ..) of a def whose keyword-only parameters keep their defaults. -/
namespace NF
open PySem PySem.Spec PyProof.Rows L2 He
def dGk (x : Str) (st : Stmt) (kwd : List (Str × He.Dv)) : Adr := (fun K => ga K x, ⟨(x, none), x, x, defArgs st, defBody st, defScope st, [], kwd⟩)
structure CalD (P : Program) (w : World) (K : PySem.W.Frag) (mg : Str → Option Value) (base : Heap) (k : Nat) (x : Str) (sp : Sp) (dvs : List V) : Prop where
  ex : ∃ (f : Addr) (fd : FuncData) (ps : List Str) (ds : List Value), FnOk P w K mg base CX0 k f fd ps sp ∧ mg x = some (.ref f) ∧ PySem.W.keepIn K (.ref f) = true ∧ Binds K fd ps ds ∧ Vals dvs ds
theorem pe_cd {X : Cx} {k j : Nat} {x : Str} {sp : Sp} {dvs : List V} {e : Expr} {es : List Expr} {t : TA} {p pos : Pos} (c : CalD X.prog X.w X.K X.mg X.base k x sp dvs) (hr : Room j X.A) (hk : k ≤ j) (hg : Gl X x) (ha : PA X (e :: es) t)
    (hdb : (x == ("__debug__" : Str)) = false := by decide) (he : starEach (e :: es) X.env = (false, eval e X.env) :: starEach es X.env := by rfl) (hpl : (backTo pos (starEach es X.env)).any (·.1) = false := by rfl) :
    PE X (.Call (.Name x p) (e :: es) [] pos) (tCall sp dvs E0 t) := by
  obtain ⟨f, fd, ps, ds, F, hm, kp, b, v⟩ := c.ex
  exact pe_call F (hr.mono hk) hg hm kp b v pass0 ha hdb he hpl
end NF
set_option Elab.async false
set_option linter.all false
set_option maxRecDepth 100000
set_option maxHeartbeats 0
namespace K25
open PySem PySem.Spec PyProof.Rows L2 He NF RZ
def top (i : Nat) : Stmt := PySem.Challenge.pw_needforth_k25_whole_bad_makers.main.body.getD i (.Pass ⟨0, 0, 0, 0⟩)
abbrev s__wall : Stmt := top 1
abbrev s_TooMany_init : Stmt := inClass (top 4) 0
abbrev s_BadCount_init : Stmt := inClass (top 5) 0
abbrev s_BadInlet_init : Stmt := inClass (top 6) 0
abbrev s_BadCourse_init : Stmt := inClass (top 7) 0
abbrev s_BadTable_init : Stmt := inClass (top 8) 0
abbrev s_BadMaker_init : Stmt := inClass (top 9) 0
abbrev s_is_integer : Stmt := top 11
abbrev s_is_count : Stmt := top 12
abbrev s_is_row : Stmt := top 13
abbrev s_is_pair : Stmt := top 14
abbrev s_is_climb : Stmt := top 15
abbrev s_end_of : Stmt := top 17
abbrev s_value_at : Stmt := top 18
abbrev s_values_from : Stmt := top 19
abbrev s_many_at_most : Stmt := top 20
abbrev s_last_at_most : Stmt := top 21
abbrev s_shortest_lap : Stmt := top 22
abbrev s_plain_form : Stmt := top 23
abbrev s_settled_form : Stmt := top 24
abbrev s_spread : Stmt := top 25
abbrev s_ladder_of : Stmt := top 27
abbrev s_least_in : Stmt := top 28
abbrev s_first_under : Stmt := top 29
abbrev s_last_under : Stmt := top 30
abbrev s_Chase_init : Stmt := inClass (top 31) 0
abbrev s_Chase_ladder_from : Stmt := inClass (top 31) 1
abbrev s_Chase_runners_of : Stmt := inClass (top 31) 2
abbrev s_Chase_greatest_lead : Stmt := inClass (top 31) 3
abbrev s_Chase_first_lead : Stmt := inClass (top 31) 4
abbrev s_Chase_last_lead : Stmt := inClass (top 31) 5
abbrev s_Chase_place_of : Stmt := inClass (top 31) 6
abbrev s_drift_of : Stmt := top 32
abbrev s_longest_head : Stmt := top 33
abbrev s_values_behind : Stmt := top 35
abbrev s_behind_form : Stmt := top 36
abbrev s_chosen : Stmt := top 37
abbrev s_settling : Stmt := top 38
abbrev s_joined_form : Stmt := top 39
abbrev s_both_form : Stmt := top 40
abbrev s_either_form : Stmt := top 41
abbrev s_turn_form : Stmt := top 42
abbrev s_check_table : Stmt := top 44
abbrev s_Table_init : Stmt := inClass (top 45) 0
abbrev s_Table_eq : Stmt := inClass (top 45) 1
abbrev s_Table_call : Stmt := inClass (top 45) 2
abbrev s_Table_end : Stmt := inClass (top 45) 3
abbrev s_Table_rate : Stmt := inClass (top 45) 4
abbrev s_Table_steady : Stmt := inClass (top 45) 5
abbrev s_Table_shift : Stmt := inClass (top 45) 6
abbrev s_Table_mul : Stmt := inClass (top 45) 7
abbrev s_Table_and : Stmt := inClass (top 45) 8
abbrev s_Table_or : Stmt := inClass (top 45) 9
abbrev s_Table_invert : Stmt := inClass (top 45) 10
abbrev s_Round_init : Stmt := inClass (top 47) 0
abbrev s_marks_along : Stmt := top 48
abbrev s_is_deed : Stmt := top 56
abbrev s_are_deeds : Stmt := top 57
abbrev s_are_ways : Stmt := top 58
abbrev s_check_maker : Stmt := top 59
abbrev s_are_numbers : Stmt := top 60
abbrev s_is_course : Stmt := top 61
abbrev s_check_inlet : Stmt := top 62
abbrev s_Maker_init : Stmt := inClass (top 63) 0
abbrev s_Maker_eq : Stmt := inClass (top 63) 1
abbrev s_Maker_need : Stmt := inClass (top 63) 2
abbrev s_Outlook_init : Stmt := inClass (top 65) 0
abbrev s_Outlook_stopping : Stmt := inClass (top 65) 1
abbrev s_Outlook_look : Stmt := inClass (top 65) 2
abbrev s_Outlook_better : Stmt := inClass (top 65) 3
abbrev s_Outlook_best_way : Stmt := inClass (top 65) 4
abbrev s_Outlook_ahead_of : Stmt := inClass (top 65) 5
abbrev s_Outlook_values_up_to : Stmt := inClass (top 65) 6
abbrev s_Outlook_form : Stmt := inClass (top 65) 7
abbrev s_Outlook_course : Stmt := inClass (top 65) 8
abbrev s_Outlook_others_ahead : Stmt := inClass (top 65) 9
abbrev s_least : Stmt := top 68
abbrev s_greatest : Stmt := top 69
abbrev s_course_of : Stmt := top 70
abbrev s__law_source : Stmt := top 72
abbrev s__law_pick : Stmt := top 73
abbrev s__law_is_integer : Stmt := top 74
abbrev s__law_is_count : Stmt := top 75
abbrev s__law_deeds : Stmt := top 76
abbrev s__law_maker : Stmt := top 77
abbrev s__law_made : Stmt := top 78
abbrev s__law_is_deeds : Stmt := top 79
abbrev s__law_due : Stmt := top 80
abbrev s__law_seen : Stmt := top 81
abbrev s__law_spoilt : Stmt := top 82
abbrev s__law_refused : Stmt := top 83
abbrev s__law_need_seen : Stmt := top 84
abbrev s__law_piece_seen : Stmt := top 85
abbrev s_law : Stmt := top 86
def FS : List Str := ["len", "int", "abs", "range", "isinstance", "all", "bool", "tuple", "list", "zip", "divmod", "max", "min", "enumerate", "str", "sum", "sorted", "dict", "set", "any"]
end K25
set_option Elab.async false
set_option linter.all false
set_option maxRecDepth 100000
set_option maxHeartbeats 0
namespace K25
open PySem PySem.Spec PyProof.Rows L2 He NF RZ
def e0 (K : PySem.W.Frag) : Addr := He.dflAt ("Table", some "__init__") 0 K
def kits : List (Str × Str × Bool) := [("BadMaker", "NeedforthError", true), ("TooMany", "BadMaker", false)]
def exms : List (Str × Str × Bool) := [("BadMaker", "BadMaker", true), ("TooMany", "BadMaker", false), ("TooMany", "TooMany", true), ("BadInlet", "BadInlet", true), ("BadCourse", "BadInlet", false), ("BadCourse", "BadCourse", true), ("BadCount", "BadInlet", false), ("BadCount", "BadCount", true)]
def fn : List Adr := ([dG "shortest_lap" s_shortest_lap, dG "plain_form" s_plain_form, dG "is_integer" s_is_integer, dG "is_count" s_is_count, dG "is_row" s_is_row, dG "is_climb" s_is_climb, dG "check_table" s_check_table, dM "Table" "__init__" "Table.__init__" s_Table_init [.adr e0, .int 0], dG "is_deed" s_is_deed, dG "are_deeds" s_are_deeds, dG "are_ways" s_are_ways, dG "check_maker" s_check_maker, dM "Maker" "__init__" "Maker.__init__" s_Maker_init [], dM "Round" "__init__" "Round.__init__" s_Round_init [], dG "is_pair" s_is_pair, dG "are_numbers" s_are_numbers, dG "is_course" s_is_course, dG "check_inlet" s_check_inlet, dG "marks_along" s_marks_along, dG "_law_pick" s__law_pick] : List Adr) ++ ([dG "_law_source" s__law_source, dG "_law_deeds" s__law_deeds, dG "_law_maker" s__law_maker, dG "_law_made" s__law_made, dM "Outlook" "better" "Outlook.better" s_Outlook_better [], dM "Outlook" "stopping" "Outlook.stopping" s_Outlook_stopping [], dM "Outlook" "__init__" "Outlook.__init__" s_Outlook_init [], dM "Outlook" "look" "Outlook.look" s_Outlook_look [], dM "Outlook" "best_way" "Outlook.best_way" s_Outlook_best_way [], dM "Outlook" "ahead_of" "Outlook.ahead_of" s_Outlook_ahead_of [], dM "Outlook" "values_up_to" "Outlook.values_up_to" s_Outlook_values_up_to [], dM "Outlook" "others_ahead" "Outlook.others_ahead" s_Outlook_others_ahead [], dM "Outlook" "form" "Outlook.form" s_Outlook_form [], dM "Outlook" "course" "Outlook.course" s_Outlook_course [], dM "Maker" "__init__" "Maker.__init__" s_Maker_init [], dM "Maker" "need" "Maker.need" s_Maker_need [], dG "least" s_least, dG "greatest" s_greatest, dGk "course_of" s_course_of [("most", .bl true)], dG "_law_is_integer" s__law_is_integer] : List Adr) ++ ([dG "_law_is_count" s__law_is_count, dG "_law_is_deeds" s__law_is_deeds, dG "_law_due" s__law_due, dG "_law_seen" s__law_seen, dG "_law_need_seen" s__law_need_seen, dG "_law_piece_seen" s__law_piece_seen, dG "_law_refused" s__law_refused, dG "_law_spoilt" s__law_spoilt, dG "law" s_law, dM "BadMaker" "__init__" "BadMaker.__init__" s_BadMaker_init [], dM "TooMany" "__init__" "TooMany.__init__" s_TooMany_init [], dM "BadInlet" "__init__" "BadInlet.__init__" s_BadInlet_init [], dM "BadCourse" "__init__" "BadCourse.__init__" s_BadCourse_init [], dM "BadCount" "__init__" "BadCount.__init__" s_BadCount_init []] : List Adr)
def gs : List Str := (["shortest_lap", "plain_form", "is_integer", "is_count", "is_row", "is_climb", "check_table", "is_deed", "are_deeds", "are_ways", "check_maker", "is_pair", "are_numbers", "is_course", "check_inlet", "marks_along", "_law_pick", "_law_source", "_law_deeds", "_law_maker", "_law_made", "least", "greatest", "course_of", "_law_is_integer"] : List Str) ++ (["_law_is_count", "_law_is_deeds", "_law_due", "_law_seen", "_law_need_seen", "_law_piece_seen", "_law_refused", "_law_spoilt", "law", "NeedforthError", "TooMany", "BadCount", "BadInlet", "BadCourse", "BadTable", "BadMaker", "Chase", "Table", "Round", "Maker", "Outlook"] : List Str)
def exL : List (PySem.W.Frag → Bool) := [namB gs FS, intB "MOST_INLETS" 3, intB "MOST_WAYS" 4, intB "MOST_DEEDS" 600, intB "MOST_DEEDS_OF_SEVERAL" 24, intB "MOST_FIRST" 200, intB "MOST_THEN" 40, intB "LAST_PIECE" 2000, excKB "BadMaker" "word", excKB "TooMany" "word", excKB "BadInlet" "thing", excKB "BadCourse" "thing", excKB "BadCount" "thing", kitPB kits, exmPB exms, clsB "Table", fldsB "Table" ["head", "loop", "rise"], tyB "Table", mkB "Table", callB "Table", clsB "Maker", fldsB "Maker" ["inlets", "begin", "ways"], tyB "Maker", mkB "Maker", metB "Maker" "need", clsB "Round", fldsB "Round" ["taken", "marks"], mkB "Round", clsB "Outlook", fldsB "Outlook" ["most", "begin", "rounds", "giving", "shares", "taken", "lasts"], mkB "Outlook", metB "Outlook" "better", metB "Outlook" "stopping", metB "Outlook" "look", metB "Outlook" "best_way", metB "Outlook" "ahead_of", metB "Outlook" "values_up_to", metB "Outlook" "others_ahead", metB "Outlook" "form", metB "Outlook" "course"]
def exB (K : PySem.W.Frag) : Bool := exL.all fun f => f K
end K25
set_option Elab.async false
set_option linter.all false
set_option maxRecDepth 100000
set_option maxHeartbeats 0
namespace K25
open PySem PySem.Spec PyProof.Rows L2 He NF
abbrev R : PySem.W.OpenRow := PySem.W.OpenLaw.row PySem.Challenge.rw_needforth_k25_whole_bad_makers
abbrev hk : PySem.W.Hook := hookQ 5 exB fn
def ob (s : PySem.W.SharedT) : He.AlD := obsQG 5 exB fn (HandSHeadRun.getT s)
theorem ob_eq (s : PySem.W.SharedT) : ob s = hk.obs s.abs := obsQG_eq (HandSHeadRun.getT_eq s)
def loose : List Str := (["_wall", "__name__", "NeedforthError", "TooMany", "BadCount", "BadInlet", "BadCourse", "BadTable", "BadMaker", "is_integer", "is_count", "is_row", "is_pair", "is_climb", "end_of", "value_at", "values_from", "many_at_most", "last_at_most", "shortest_lap", "plain_form", "settled_form", "spread", "ladder_of", "least_in"] : List Str) ++ (["first_under", "last_under", "Chase", "drift_of", "longest_head", "values_behind", "behind_form", "chosen", "settling", "joined_form", "both_form", "either_form", "turn_form", "check_table", "Table", "Round", "marks_along", "MOST_INLETS", "MOST_WAYS", "MOST_DEEDS", "MOST_DEEDS_OF_SEVERAL", "MOST_FIRST", "MOST_THEN", "is_deed", "are_deeds"] : List Str) ++ (["are_ways", "check_maker", "are_numbers", "is_course", "check_inlet", "Maker", "Outlook", "LAST_PIECE", "least", "greatest", "course_of", "_law_source", "_law_pick", "_law_is_integer", "_law_is_count", "_law_deeds", "_law_maker", "_law_made", "_law_is_deeds", "_law_due", "_law_seen", "_law_spoilt", "_law_refused", "_law_need_seen", "_law_piece_seen"] : List Str)
theorem run (w : World) : HandSHeadRun.RunEqI R (PySem.W.view R.prog [0, 86]) hk ob 12000 loose w := by
  show _ = _
  kernel_rfl
end K25
set_option Elab.async false
set_option linter.all false
set_option maxRecDepth 100000
set_option maxHeartbeats 4000000
namespace K25
open PySem PySem.Spec PyProof.Rows L2 He NF RZ NT
/-- the shortest lap of a loop -/
def spLap (K : PySem.W.Frag) : Sp := fun vs H Q _ => ∃ (a : Addr) (l : List Int) (r : Int), vs = [.ref a, .int r] ∧ SqT K H a (vI l) ∧ l ≠ [] ∧ l.length ≤ 10000 ∧ ∀ m H', LapIs l r m → Same H H' → Q (.int (m : Int)) H'
theorem sc_shortest_lap : FnScope ["loop", "rise", "following", "steps", "many", "entry", "later"] ["loop", "rise"] (defScope s_shortest_lap) := ⟨rfl, rfl, rfl, by decide +kernel, rfl, by decide +kernel, by decide +kernel⟩
theorem following_is {l : List Int} {r : Int} (hl : l ≠ []) : cutV (vI l) (some 1) none ++ [V.int (l.getD 0 0 + r)] = vI ((List.range l.length).map fun k => walk l r (k + 1)) := by
  rw [show (1 : Int) = ((1 : Nat) : Int) from rfl, cut_from]
  have hp := len_pos hl
  refine List.ext_getElem? fun k => ?_
  simp only [vI, List.getElem?_map]
  by_cases c : k + 1 < l.length
  · rw [List.getElem?_append_left (by rw [List.length_drop, List.length_map]; omega), List.getElem?_drop, List.getElem?_map, List.getElem?_range (by omega), List.getElem?_eq_getElem (show 1 + k < l.length by omega)]
    simp only [Option.map_some]
    rw [walk_i c, List.getD_eq_getElem?_getD, List.getElem?_eq_getElem c]
    simp only [Option.getD_some, Option.some.injEq, V.int.injEq]
    congr 1
    omega
  · by_cases c2 : k + 1 = l.length
    · rw [List.getElem?_append_right (by rw [List.length_drop, List.length_map]; omega), List.length_drop, List.length_map, show k - (l.length - 1) = 0 by omega, List.getElem?_range (by omega)]
      simp only [Option.map_some, List.getElem?_cons_zero]
      rw [show k + 1 = 0 + l.length by omega, walk_add hp, walk_i hp]
    · rw [List.getElem?_eq_none (by rw [List.length_append, List.length_drop, List.length_map, List.length_singleton]; omega), List.getElem?_eq_none (by rw [List.length_range]; omega)]
      rfl
theorem steps_get {l : List Int} {r : Int} {k : Nat} (h : k < l.length) : (vI (steps l r))[k]? = some (V.int (walk l r (k + 1) - l.getD k 0)) := by
  unfold steps
  simp only [vI, List.getElem?_map]
  rw [List.getElem?_range h]
  simp only [Option.map_some, sk]
  rw [walk_i h]
section
variable {P : Program} {w : World} {K : PySem.W.Frag} {mg : Str → Option Value} {base : Heap} {gs fs : List Str}
theorem ok_shortest_lap {f : Addr} {fd : FuncData} (F : FunD K "shortest_lap" "shortest_lap" (defArgs s_shortest_lap) (defBody s_shortest_lap) (defScope s_shortest_lap) [] [] f fd) (T : Txt K mg gs fs) (hfs : fs = FS) : FnOk P w K mg base CX0 1 f fd ["loop", "rise"] (spLap K) := by
  subst hfs
  refine F.ok sc_shortest_lap (fun vs H Q E h => ?_) (fun cdv A outer s H vs Q E hr h => ?_)
  · obtain ⟨a, l, r, rfl, _⟩ := h
    rfl
  · obtain ⟨a, l, r, rfl, ha, hl, hz, q⟩ := h
    have hu : (A.deeper (envOfC "shortest_lap" (defScope s_shortest_lap) s.heap.objs.size f cdv)).units + 64 < cLine := by
      have := hr.un
      omega
    have hp := len_pos hl
    refine ⟨_, PSs.nox (pss_cons (ps_set (i := 2) sc_shortest_lap.nd rfl (Or.inl rfl) (pe_op op_catA (pe_slice sl_tupA (pv 0) (po_some pe_int) po_none) (pe_tup (pa_cons (pe_op op_add (pe_ix (ixt (K := K)) (pv 0) pe_int fun _ _ => rfl) (pv 1)) pa_nil)))) (pss_cons (ps_setLc (i := 3) (own := [("entry", 5), ("later", 6)]) rfl sc_shortest_lap.nd rfl rfl (sw_true rfl rfl rfl (by decide +kernel)) (pi_zipA rfl (T.fr _ (by decide +kernel)) (pa_cons (pv 0) (pa_cons (pv 2) pa_nil))) (blkOk_by (N := ["loop", "rise", "following", "steps", "many", "entry", "later"]) (sc := defScope s_shortest_lap) (by decide +kernel)) (fun _ _ _ _ _ => by exact (pgt (K := K) (n := 2) rfl rfl (pgs_cons (pg_name (i := 5) sc_shortest_lap.nd rfl (Or.inl rfl)) (pgs_cons (pg_name (i := 6) sc_shortest_lap.nd rfl (Or.inl rfl)) pgs_nil)))) (fun _ _ _ _ _ => by exact pts_nil) (fun _ _ _ _ _ => by exact (pe_op op_sub (pv 6) (pv 5)))) (pss_cons (ps_for PassesOwn.never rfl (pi_range2 rfl (T.fr _ (by decide +kernel)) (pa_cons pe_int (pa_cons (pe_op op_add (pe_op op_fdiv (pe_callB call_len_seq rfl (T.fr _ (by decide +kernel)) boot_len (pa_cons (pv 3) pa_nil)) pe_int) pe_int) pa_nil))) (pg_name (i := 4) sc_shortest_lap.nd rfl (Or.inl rfl)) (pss_one (ps_if (PW.pt (pw_and (pt_cmpR op_eq (pe_op op_mod (pe_callB call_len_seq rfl (T.fr _ (by decide +kernel)) boot_len (pa_cons (pv 3) pa_nil)) (pv 4)) pe_int (nomark _)) (pw_and1 (pt_cmpR (op_eqD hu) (pe_slice sl_list (pv 3) (po_some (pv 4)) po_none) (pe_slice sl_list (pv 3) po_none (po_some (pe_un un_neg (pv 4)))) (nomark _))))) (pss_one (ps_ret (pv 4))) pss_nil))) (pss_one (ps_ret (pe_callB call_len_seq rfl (T.fr _ (by decide +kernel)) boot_len (pa_cons (pv 3) pa_nil))))))), ?_⟩
    refine ⟨_, rfl, _, rfl, ?_⟩
    refine slA_from (K := K) ha fun p1 H1 s1 t1 => ?_
    refine ⟨_, rfl, a, _, 0, _, rfl, rfl, NF.Same.tup s1 ha, at_int (k := 0) rfl hp, _, rfl, _, _, rfl, rfl, (by show 1 ≤ sizeLine; decide), fun p2 hp2 => ?_⟩
    refine catA_done (NF.Same.tup (NF.Same.new (Same.refl _) hp2) t1) (SqT.of upd_same) ?_ fun p3 H3 s3 t3 => ?_
    · have : (cutV (vI l) (some 1) none).length = l.length - 1 := by
        rw [show (1 : Int) = ((1 : Nat) : Int) from rfl, cut_from, List.length_drop, List.length_map]
      rw [this]
      exact Nat.le_trans (show l.length - 1 + 1 ≤ 10001 by omega) (by decide)
    rw [following_is hl] at t3
    have s03 : Same H H3 := Same.trans s1 (Same.trans (NF.Same.new (Same.refl _) hp2) s3)
    refine ⟨_, rfl, _, rfl, a, p3, _, _, rfl, Or.inr ⟨NF.Same.tup s03 ha, t3, fun D hD => ?_⟩⟩
    have hsl : (vI (steps l r)).length = l.length := by unfold steps; simp
    refine lc_zipT (by simp) (fun i G => Same H3 G ∧ G D = some (.lst ((vI (steps l r)).take i))) ⟨NF.Same.new (Same.refl _) hD, upd_same⟩ (fun i G z => ⟨NF.Same.tup (Same.trans s03 z.1) ha, NF.Same.tup z.1 t3⟩) ?_ ?_
    · rintro i x y U G hx hy ⟨hG, hD2⟩ hU
      have hi : i < l.length := by
        have := (List.getElem?_eq_some_iff.mp hx).1
        rw [List.length_map] at this
        exact this
      obtain rfl : x = V.int (l.getD i 0) := by
        rw [List.getElem?_map, List.getElem?_eq_getElem hi] at hx
        rw [List.getD_eq_getElem?_getD, List.getElem?_eq_getElem hi]
        exact (Option.some.inj hx).symm
      obtain rfl : y = V.int (walk l r (i + 1)) := by
        rw [List.getElem?_map, List.getElem?_map, List.getElem?_range hi] at hy
        exact (Option.some.inj hy).symm
      refine ⟨U, _, rfl, SqT.of upd_same, rfl, _, _, rfl, _, _, rfl, rfl, rfl, ?_⟩
      refine ⟨_, rfl, _, rfl, _, _, rfl, rfl, (vI (steps l r)).take i, ?_, ?_, ?_, ?_⟩
      · rw [upd_ne (ne_of_none hD2 hU)]
        exact hD2
      · rw [List.length_take, hsl]
        exact Nat.lt_of_le_of_lt (show min i l.length ≤ 10000 by omega) (by decide)
      · exact NF.Same.mut (NF.Same.new hG hU) hD
      · rw [upd_same, List.take_add_one, steps_get hi]
        rfl
    · rintro G ⟨hG, hD2⟩
      rw [List.length_map, List.take_of_length_le (by rw [hsl]; exact Nat.le_refl _)] at hD2
      have hlen : (vI (steps l r)).length = l.length := hsl
      refine ⟨_, rfl, D, _, rfl, Or.inl (SqL.of hD2), _, _, rfl, rfl, ⟨by decide, by decide⟩, _, _, rfl, rfl, 1, _, rfl, ⟨by decide, by decide, ?_, ?_⟩, ?_⟩
      · rw [hlen]; omega
      · rw [hlen]; omega
      have en : (((vI (steps l r)).length : Int) / 2 + 1 - 1).toNat = l.length / 2 := by rw [hlen]; omega
      have s0G : Same H G := Same.trans s03 hG
      show (fun J H1 => _) (Itr 1 (((vI (steps l r)).length : Int) / 2 + 1 - 1).toNat) G
      rw [en]
      refine for_range (lo := 1) (n := l.length / 2) (fun i σ G' => Same G G' ∧ (∀ m', 0 < m' → m' ≤ i → m' ∣ l.length → ¬ Per (walk l r) m') ∧ ∃ v : Option V, σ = [some (.ref a), some (.int r), some (.ref p3), some (.ref D), v, none, none])
        ⟨Same.refl _, fun m' h1 h2 => by omega, none, rfl⟩ ?_ ?_
      · rintro i σ G' hi ⟨hs, hno, v, rfl⟩
        have e1 : (1 : Int) + (i : Int) = ((i + 1 : Nat) : Int) := by omega
        rw [e1]
        have hD3 := hs _ _ hD2
        refine ⟨_, rfl, D, _, rfl, Or.inl (SqL.of hD3), _, rfl, _, _, rfl, rfl, (by show (0 : Int) < ((i + 1 : Nat) : Int); omega), rfl, _, rfl, ?_⟩
        have hnext : ¬ ((i + 1 ∣ l.length) ∧ Per (walk l r) (i + 1)) → (∀ m', 0 < m' → m' ≤ i + 1 → m' ∣ l.length → ¬ Per (walk l r) m') := fun hn m' h1 h2 h3 h4 => by
          by_cases c : m' ≤ i
          · exact hno m' h1 c h3 h4
          · have : m' = i + 1 := by omega
            subst this
            exact hn ⟨h3, h4⟩
        refine ite2 (fun hc => ?_) (fun hc => ?_)
        · have hd : i + 1 ∣ l.length := by
            have hc := of_decide_eq_true hc
            injection hc with hc
            rw [hlen] at hc
            have := Int.dvd_of_emod_eq_zero hc
            exact Int.natCast_dvd_natCast.mp this
          refine ⟨_, rfl, _, rfl, _, rfl, D, _, rfl, SqL.of hD3, fun q1 hq1 => ?_⟩
          have hD4 : upd G' q1 (.lst (cutV (vI (steps l r)) (some ((i + 1 : Nat) : Int)) none)) D = some (.lst (vI (steps l r))) := by
            rw [upd_ne (ne_of_none hD3 hq1)]
            exact hD3
          refine ⟨_, rfl, _, rfl, _, rfl, _, rfl, D, _, rfl, SqL.of hD4, fun q2 hq2 => ?_⟩
          have hq3 : upd (upd G' q1 (.lst (cutV (vI (steps l r)) (some ((i + 1 : Nat) : Int)) none))) q2 (.lst (cutV (vI (steps l r)) none (some (-((i + 1 : Nat) : Int))))) q1 = some (.lst (vI ((steps l r).drop (i + 1)))) := by
            rw [upd_ne (ne_of_none upd_same hq2), upd_same, cut_from, vI_drop]
          have hq4 : upd (upd G' q1 (.lst (cutV (vI (steps l r)) (some ((i + 1 : Nat) : Int)) none))) q2 (.lst (cutV (vI (steps l r)) none (some (-((i + 1 : Nat) : Int))))) q2 = some (.lst (vI ((steps l r).take (l.length - (i + 1))))) := by
            rw [upd_same, cut_toN (by omega), hlen, vI_take]
          have hsD : Same G (upd (upd G' q1 (.lst (cutV (vI (steps l r)) (some ((i + 1 : Nat) : Int)) none))) q2 (.lst (cutV (vI (steps l r)) none (some (-((i + 1 : Nat) : Int)))))) := NF.Same.new (NF.Same.new hs hq1) hq2
          refine eqL_done (SqL.of hq3) (SqL.of hq4) ⟨_, rfl, ?_⟩
          refine ite2 (fun hc2 => ?_) (fun hc2 => ?_)
          · have hper := (cond_iff hl (Nat.succ_pos i) hd).mp (of_decide_eq_true hc2)
            exact ⟨_, rfl, q (i + 1) _ (lap_prog hl (Nat.succ_pos i) (by omega) hd hper fun m' h1 h2 h3 h4 => hno m' h1 (by omega) h3 h4) (Same.trans s0G hsD)⟩
          · refine ⟨hsD, hnext fun ⟨_, h⟩ => hc2 (decide_eq_true ((cond_iff hl (Nat.succ_pos i) hd).mpr h)), _, rfl⟩
        · refine ⟨hs, hnext fun ⟨h, _⟩ => hc (decide_eq_true ?_), _, rfl⟩
          rw [hlen]
          exact congrArg V.int (Int.emod_eq_zero_of_dvd (Int.natCast_dvd_natCast.mpr h))
      · rintro σ G' ⟨hs, hno, v, rfl⟩
        refine ⟨_, rfl, D, _, rfl, Or.inl (SqL.of (hs _ _ hD2)), ?_⟩
        rw [hlen]
        exact q l.length _ (lap_whole hl hno) (Same.trans s0G hs)
end
end K25
set_option Elab.async false
set_option linter.all false
set_option maxRecDepth 100000
set_option maxHeartbeats 4000000
namespace K25
open PySem PySem.Spec PyProof.Rows L2 He NF RZ NT
/-- a tuple of two tuples of ints and an int stands at p -/
def FormAt (K : PySem.W.Frag) (H : Hp) (p : Addr) (x : List Int × List Int × Int) : Prop := ∃ a b, SqT K H p [.ref a, .ref b, .int x.2.2] ∧ SqT K H a (vI x.1) ∧ SqT K H b (vI x.2.1)
theorem FormAt.mono {K : PySem.W.Frag} {H H' : Hp} {p : Addr} {x : List Int × List Int × Int} (h : FormAt K H p x) (s : Same H H') : FormAt K H' p x := by
  obtain ⟨a, b, h1, h2, h3⟩ := h
  exact ⟨a, b, NF.Same.tup s h1, NF.Same.tup s h2, NF.Same.tup s h3⟩
def spForm (K : PySem.W.Frag) : Sp := fun vs H Q _ => ∃ (a b : Addr) (h l : List Int) (r : Int), vs = [.ref a, .ref b, .int r] ∧ SqT K H a (vI h) ∧ SqT K H b (vI l) ∧ h.length + l.length ≤ 10000 ∧ ∀ x p H', IsPlain h l r x → Same H H' → FormAt K H' p x → Q (.ref p) H'
theorem sc_plain_form : FnScope ["head", "loop", "rise", "many", "lap_rise", "entries", "left"] ["head", "loop", "rise"] (defScope s_plain_form) := ⟨rfl, rfl, rfl, by decide +kernel, rfl, by decide +kernel, by decide +kernel⟩
section
variable {P : Program} {w : World} {K : PySem.W.Frag} {mg : Str → Option Value} {base : Heap} {gs fs : List Str}
theorem ok_plain_form {f : Addr} {fd : FuncData} (F : FunD K "plain_form" "plain_form" (defArgs s_plain_form) (defBody s_plain_form) (defScope s_plain_form) [] [] f fd) (T : Txt K mg gs fs) (hfs : fs = FS) (c_shortest_lap : Cal P w K mg base 1 "shortest_lap" (spLap K)) : FnOk P w K mg base CX0 2 f fd ["head", "loop", "rise"] (spForm K) := by
  subst hfs
  refine F.ok sc_plain_form (fun vs H Q E h => ?_) (fun cdv A outer s H vs Q E hr h => ?_)
  · obtain ⟨a, b, h, l, r, rfl, _⟩ := h
    rfl
  · obtain ⟨a, b, h, l, r, rfl, ha, hb, hz, q⟩ := h
    refine ⟨_, PSs.nox (pss_cons (ps_if (pt_not (pt_truth (pv 1) (fun _ => rfl))) (pss_one (ps_ret (pe_tup (pa_cons (pv 0) (pa_cons (pe_tup pa_nil) (pa_cons pe_int pa_nil)))))) pss_nil) (pss_cons (ps_set (i := 3) sc_plain_form.nd rfl (Or.inl rfl) (pe_c c_shortest_lap hr (by decide) rfl (pa_cons (pv 1) (pa_cons (pv 2) pa_nil)))) (pss_cons (ps_set (i := 4) sc_plain_form.nd rfl (Or.inl rfl) (pe_op op_fdiv (pe_op op_mul (pv 2) (pv 3)) (pe_callB call_len_seq rfl (T.fr _ (by decide +kernel)) boot_len (pa_cons (pv 1) pa_nil)))) (pss_cons (ps_set (i := 5) sc_plain_form.nd rfl (Or.inl rfl) (pe_op op_catA (pv 0) (pe_slice sl_tupA (pv 1) po_none (po_some (pv 3))))) (pss_cons (ps_set (i := 6) sc_plain_form.nd rfl (Or.inl rfl) (pe_callB call_len_seq rfl (T.fr _ (by decide +kernel)) boot_len (pa_cons (pv 0) pa_nil))) (pss_cons (ps_while PassesOwn.never (PW.pt (pw_and (pt_cmpR op_gt (pv 6) pe_int (nomark _)) (pw_and1 (pt_cmpR op_eq (pe_op op_add (pe_ix (ixt (K := K)) (pv 5) (pe_op op_sub (pv 6) pe_int) fun _ _ => rfl) (pv 4)) (pe_ix (ixt (K := K)) (pv 5) (pe_op op_add (pe_op op_sub (pv 6) pe_int) (pv 3)) fun _ _ => rfl) (nomark _))))) (pss_one (ps_set (i := 6) sc_plain_form.nd rfl (Or.inl rfl) (pe_op op_sub (pv 6) pe_int)))) (pss_one (ps_ret (pe_tup (pa_cons (pe_slice sl_tupA (pv 5) po_none (po_some (pv 6))) (pa_cons (pe_slice sl_tupA (pv 5) (po_some (pv 6)) (po_some (pe_op op_add (pv 6) (pv 3)))) (pa_cons (pv 4) pa_nil)))))))))))), ?_⟩
    refine ⟨_, rfl, _, tru_tup hb, ?_⟩
    by_cases hl : l = []
    · subst hl
      refine iteT ?_
      refine ⟨_, rfl, (by show 0 ≤ sizeLine; decide), fun p1 hp1 => ⟨(by show 3 ≤ sizeLine; decide), fun p2 hp2 => ?_⟩⟩
      have s1 := NF.Same.new (o := .tup []) (Same.refl H) hp1
      have s2 := NF.Same.new (o := .tup [V.ref a, V.ref p1, V.int 0]) s1 hp2
      exact q (h, [], 0) p2 _ (.inl ⟨rfl, rfl⟩) s2 ⟨a, p1, SqT.of upd_same, NF.Same.tup s2 ha, SqT.of (by rw [upd_ne (ne_of_none upd_same hp2)]; exact upd_same)⟩
    · have hne : (!l.isEmpty) = true := by cases l with
        | nil => exact absurd rfl hl
        | cons _ _ => rfl
      rw [hne]
      refine iteF ?_
      have hp := len_pos hl
      refine ⟨_, rfl, _, rfl, b, l, r, rfl, hb, hl, by omega, fun m H1 hm s1 => ?_⟩
      have hle : m ≤ l.length := Nat.le_of_dvd hp hm.dvd
      obtain ⟨t, ht⟩ := hm.dvd
      have hc := per_at hl hm.pos hm.per ht.symm
      have hb1 := NF.Same.tup s1 hb
      have t0 : 0 < t := Nat.pos_of_ne_zero fun z => by rw [z, Nat.mul_zero] at ht; omega
      have hcr : r * (m : Int) / ((vI l).length : Int) = r / (t : Int) := by
        rw [vI_len]
        have hr := per_rise hl hc ht.symm
        have e : r * (m : Int) = r / (t : Int) * (l.length : Int) := by
          rw [ht, Int.natCast_mul]
          calc r * (m : Int) = (r / (t : Int) * (t : Int)) * (m : Int) := by rw [← hr]
            _ = r / (t : Int) * ((m : Int) * (t : Int)) := by rw [Int.mul_assoc, Int.mul_comm (t : Int)]
        rw [e]
        exact Int.mul_ediv_cancel _ (by omega)
      refine ⟨_, rfl, _, rfl, _, _, rfl, rfl, Or.inr ⟨by omega, by omega⟩, ?_⟩
      refine ⟨_, rfl, b, _, rfl, Or.inr hb1, _, _, rfl, rfl, ⟨by rw [vI_len]; omega, by rw [vI_len]; omega⟩, ?_⟩
      show gName 4 (V.int (r * (m : Int) / ((vI l).length : Int))) _ _ _
      rw [hcr]
      generalize hcc : r / (t : Int) = cc at hc
      refine ⟨_, rfl, _, rfl, _, rfl, _, rfl, ?_⟩
      refine slA_done (K := K) hb1 fun p2 H2 s2 t2 => ?_
      rw [cut_to, vI_take] at t2
      refine catA_done (K := K) (NF.Same.tup (Same.trans s1 s2) ha) t2 (Nat.le_trans (show (vI h).length + (vI (l.take m)).length ≤ 10000 by rw [vI_len, vI_len, List.length_take]; omega) (by decide)) fun p3 H3 s3 t3 => ?_
      rw [vI_app] at t3
      have s03 : Same H H3 := Same.trans s1 (Same.trans s2 s3)
      refine ⟨_, rfl, a, _, rfl, Or.inr (NF.Same.tup s03 ha), ?_⟩
      rw [vI_len]
      have hel : (h ++ l.take m).length = h.length + m := by rw [List.length_append, List.length_take, Nat.min_eq_left hle]
      refine ⟨fun k σ G => G = H3 ∧ k ≤ h.length ∧ cut (h ++ l.take m) m cc h.length = cut (h ++ l.take m) m cc k ∧ σ = [some (.ref a), some (.ref b), some (.int r), some (.int (m : Int)), some (.int cc), some (.ref p3), some (.int (k : Int))], ⟨h.length, rfl, Nat.le_refl _, rfl, rfl⟩, ?_⟩
      rintro k σ G ⟨rfl, hk, hcut, rfl⟩
      -- what is handed back
      have hdone : cut (h ++ l.take m) m cc k = k → (tRet (tTup (tCons (tSl (rSlA K) (tVar 5) tNoPart (tPart (tVar 6))) (tCons (tSl (rSlA K) (tVar 5) (tPart (tVar 6)) (tPart (tOp (rI0 fun i j => .int (i + j)) (tVar 6) (tVar 3)))) (tCons (tVar 4) tNil))))) { nx := fun _ H' => Q .non H', rt := Q }
          [some (.ref a), some (.ref b), some (.int r), some (.int (m : Int)), some (.int cc), some (.ref p3), some (.int (k : Int))] G := fun hk2 => by
        refine ⟨_, rfl, _, rfl, _, rfl, ?_⟩
        refine slA_done (K := K) t3 fun p4 H4 s4 t4 => ?_
        refine ⟨_, rfl, _, rfl, _, rfl, _, rfl, _, rfl, _, _, rfl, rfl, _, rfl, ?_⟩
        refine slA_done (K := K) (NF.Same.tup s4 t3) fun p5 H5 s5 t5 => ?_
        refine ⟨_, rfl, (by show 3 ≤ sizeLine; decide), fun p6 hp6 => ?_⟩
        have s6 := NF.Same.new (o := .tup [V.ref p4, V.ref p5, V.int cc]) (Same.refl H5) hp6
        have hx := plain_is (h := h) hl hm hc
        rw [hcut, hk2] at hx
        rw [cut_to, vI_take] at t4
        rw [show (k : Int) + (m : Int) = ((k + m : Nat) : Int) by omega, cut_mid (by omega) (by rw [vI_len, hel]; omega), vI_drop, vI_take, show k + m - k = m by omega] at t5
        exact q _ p6 _ hx (Same.trans s03 (Same.trans s4 (Same.trans s5 s6))) ⟨p4, p5, SqT.of upd_same, NF.Same.tup (Same.trans s5 s6) t4, NF.Same.tup s6 t5⟩
      refine ⟨_, rfl, _, _, rfl, rfl, _, rfl, ?_⟩
      refine ite2 (fun h1 => ?_) (fun h1 => ?_)
      · have k0 : 0 < k := by
          have := of_decide_eq_true h1
          omega
        obtain ⟨j, rfl⟩ : ∃ j, k = j + 1 := ⟨k - 1, by omega⟩
        have e1 : ((j + 1 : Nat) : Int) - 1 = (j : Int) := by omega
        refine ⟨_, rfl, _, rfl, _, _, rfl, rfl, p3, _, _, _, rfl, rfl, t3, at_int (k := j) e1 (by rw [hel]; omega), _, rfl, _, _, rfl, rfl, ?_⟩
        refine ⟨_, rfl, _, rfl, _, _, rfl, rfl, _, rfl, _, _, rfl, rfl, p3, _, _, _, rfl, rfl, t3, at_int (k := j + m) (by omega) (by rw [hel]; omega), rfl, _, rfl, ?_⟩
        refine ite2 (fun h2 => ?_) (fun h2 => ?_)
        · have h2' : (h ++ l.take m).getD j 0 + cc = (h ++ l.take m).getD (j + m) 0 := by
            have := of_decide_eq_true h2
            injection this
          refine ⟨fun σ' G' => G' = G ∧ σ' = [some (.ref a), some (.ref b), some (.int r), some (.int (m : Int)), some (.int cc), some (.ref p3), some (.int (j : Int))], fun σ' G' ⟨z1, z2⟩ => ⟨j, Nat.lt_succ_self j, z1, by omega, ?_, z2⟩, ?_⟩
          · rw [hcut]
            show (if (h ++ l.take m).getD j 0 + cc = (h ++ l.take m).getD (j + m) 0 then _ else _) = _
            rw [if_pos h2']
          · refine ⟨_, rfl, _, _, rfl, rfl, rfl, ?_⟩
            show _ = _
            rw [← e1]
            rfl
        · refine hdone ?_
          show (if (h ++ l.take m).getD j 0 + cc = (h ++ l.take m).getD (j + m) 0 then _ else _) = _
          rw [if_neg fun z => h2 (decide_eq_true (congrArg V.int z))]
      · have k0 : k = 0 := by
          have : ¬ (0 : Int) < (k : Int) := fun z => h1 (decide_eq_true z)
          omega
        subst k0
        exact hdone rfl
end
end K25
set_option Elab.async false
set_option linter.all false
set_option maxRecDepth 100000
set_option maxHeartbeats 4000000
namespace K25
open PySem PySem.Spec PyProof.Rows L2 He NF RZ NT
def spIsInt : Sp := fun vs H Q _ => ∃ i : Int, vs = [.int i] ∧ Q (.bl true) H
def spIsCount : Sp := fun vs H Q _ => ∃ i : Int, vs = [.int i] ∧ Q (.bl (decide (0 ≤ i))) H
def spIsRow (K : PySem.W.Frag) : Sp := fun vs H Q _ => ∃ (a : Addr) (xs : List V), vs = [.ref a] ∧ Row K H a xs ∧ ∀ H', Same H H' → Q (.bl true) H'
def spIsClimb (K : PySem.W.Frag) : Sp := fun vs H Q _ => ∃ (a : Addr) (l : List Int), vs = [.ref a] ∧ Row K H a (vI l) ∧ climbs 0 l ∧ ∀ H', Same H H' → Q (.bl true) H'
def spCheck (K : PySem.W.Frag) : Sp := fun vs H Q _ => ∃ (a b : Addr) (h l : List Int) (r : Int), vs = [.ref a, .ref b, .int r] ∧ Row K H a (vI h) ∧ Row K H b (vI l) ∧ Good h l r ∧ ∀ H', Same H H' → Q .non H'
theorem sc_is_integer : FnScope ["thing"] ["thing"] (defScope s_is_integer) := ⟨rfl, rfl, rfl, by decide +kernel, rfl, by decide +kernel, by decide +kernel⟩
theorem sc_is_count : FnScope ["thing"] ["thing"] (defScope s_is_count) := ⟨rfl, rfl, rfl, by decide +kernel, rfl, by decide +kernel, by decide +kernel⟩
theorem sc_is_row : FnScope ["thing"] ["thing"] (defScope s_is_row) := ⟨rfl, rfl, rfl, by decide +kernel, rfl, by decide +kernel, by decide +kernel⟩
theorem sc_is_climb : FnScope ["thing", "last", "entry"] ["thing"] (defScope s_is_climb) := ⟨rfl, rfl, rfl, by decide +kernel, rfl, by decide +kernel, by decide +kernel⟩
theorem sc_check_table : FnScope ["head", "loop", "rise"] ["head", "loop", "rise"] (defScope s_check_table) := ⟨rfl, rfl, rfl, by decide +kernel, rfl, by decide +kernel, by decide +kernel⟩
theorem climbs_get : ∀ {l : List Int} {lo : Int} {i : Nat}, climbs lo l → i < l.length → (if i = 0 then lo else l.getD (i - 1) 0) ≤ l.getD i 0
  | [], _, _, _, h => by simp at h
  | x :: l, lo, 0, c, _ => c.1
  | x :: l, lo, i + 1, c, h => by
    have ih := climbs_get (i := i) c.2 (by simpa using h)
    rw [if_neg (Nat.succ_ne_zero i)]
    by_cases z : i = 0
    · subst z
      simpa using ih
    · rw [if_neg z] at ih
      obtain ⟨j, rfl⟩ : ∃ j, i = j + 1 := ⟨i - 1, by omega⟩
      simpa using ih
section
variable {P : Program} {w : World} {K : PySem.W.Frag} {mg : Str → Option Value} {base : Heap} {gs fs : List Str}
theorem ok_is_integer {f : Addr} {fd : FuncData} (F : FunD K "is_integer" "is_integer" (defArgs s_is_integer) (defBody s_is_integer) (defScope s_is_integer) [] [] f fd) (T : Txt K mg gs FS) : FnOk P w K mg base CX0 1 f fd ["thing"] spIsInt := by
  refine F.ok sc_is_integer (fun vs H Q E h => ?_) (fun cdv A outer s H vs Q E hr h => ?_)
  · obtain ⟨i, rfl, _⟩ := h
    rfl
  · obtain ⟨i, rfl, q⟩ := h
    refine ⟨_, PSs.nox (pss_one (ps_ret (pe_and (pe_callB call_isi rfl (T.fr _ (by decide +kernel)) (by decide +kernel) (pa_cons (pv 0) (pa_cons (pe_bltn (v := .ty "int") rfl (T.fr _ (by decide +kernel)) (by decide +kernel) rfl) pa_nil))) (pe_one (pe_not (pe_callB call_isi rfl (T.fr _ (by decide +kernel)) (by decide +kernel) (pa_cons (pv 0) (pa_cons (pe_bltn (v := .ty "bool") rfl (T.fr _ (by decide +kernel)) (by decide +kernel) rfl) pa_nil)))))))), ?_⟩
    exact ⟨_, rfl, _, _, _, _, true, rfl, .ty "int", .base (.int i), kit_i_i K, true, rfl, _, rfl, _, _, _, _, false, rfl, .ty "bool", .base (.int i), kit_i_b K, false, rfl, q⟩
theorem ok_is_count {f : Addr} {fd : FuncData} (F : FunD K "is_count" "is_count" (defArgs s_is_count) (defBody s_is_count) (defScope s_is_count) [] [] f fd) (T : Txt K mg gs FS) (c_is_integer : Cal P w K mg base 1 "is_integer" spIsInt) : FnOk P w K mg base CX0 2 f fd ["thing"] spIsCount := by
  refine F.ok sc_is_count (fun vs H Q E h => ?_) (fun cdv A outer s H vs Q E hr h => ?_)
  · obtain ⟨i, rfl, _⟩ := h
    rfl
  · obtain ⟨i, rfl, q⟩ := h
    refine ⟨_, PSs.nox (pss_one (ps_ret (pe_and (pe_c c_is_integer hr (by decide) rfl (pa_cons (pv 0) pa_nil)) (pe_one (pe_cmpR op_ge (pv 0) pe_int (nomark _)))))), ?_⟩
    exact ⟨_, rfl, i, rfl, true, rfl, _, rfl, _, _, rfl, rfl, q⟩
theorem ok_is_row {f : Addr} {fd : FuncData} (F : FunD K "is_row" "is_row" (defArgs s_is_row) (defBody s_is_row) (defScope s_is_row) [] [] f fd) (T : Txt K mg gs FS) : FnOk P w K mg base CX0 1 f fd ["thing"] (spIsRow K) := by
  refine F.ok sc_is_row (fun vs H Q E h => ?_) (fun cdv A outer s H vs Q E hr h => ?_)
  · obtain ⟨a, xs, rfl, _⟩ := h
    rfl
  · obtain ⟨a, xs, rfl, ha, q⟩ := h
    refine ⟨_, PSs.nox (pss_one (ps_ret (pe_callB call_isiT rfl (T.fr _ (by decide +kernel)) (by decide +kernel) (pa_cons (pv 0) (pa_cons (pe_tup (pa_cons (pe_bltn (v := .ty "tuple") rfl (T.fr _ (by decide +kernel)) (by decide +kernel) rfl) (pa_cons (pe_bltn (v := .ty "list") rfl (T.fr _ (by decide +kernel)) (by decide +kernel) rfl) pa_nil))) pa_nil))))), ?_⟩
    refine ⟨_, rfl, (by show 2 ≤ sizeLine; decide), fun p hp => ?_⟩
    have s1 := NF.Same.new (o := .tup [V.ty "tuple", V.ty "list"]) (Same.refl H) hp
    rcases ha.mono s1 with h | h
    · exact ⟨_, p, _, _, _, true, rfl, upd_same, .cons (.ty _) (.cons (.ty _) .nil), tyx_lst h, kit_l_tl K, q _ s1⟩
    · exact ⟨_, p, _, _, _, true, rfl, upd_same, .cons (.ty _) (.cons (.ty _) .nil), tyx_tup h, kit_t_tl K, q _ s1⟩
theorem ok_is_climb {f : Addr} {fd : FuncData} (F : FunD K "is_climb" "is_climb" (defArgs s_is_climb) (defBody s_is_climb) (defScope s_is_climb) [] [] f fd) (T : Txt K mg gs FS) (c_is_row : Cal P w K mg base 1 "is_row" (spIsRow K)) (c_is_integer : Cal P w K mg base 1 "is_integer" spIsInt) : FnOk P w K mg base CX0 2 f fd ["thing"] (spIsClimb K) := by
  refine F.ok sc_is_climb (fun vs H Q E h => ?_) (fun cdv A outer s H vs Q E hr h => ?_)
  · obtain ⟨a, l, rfl, _⟩ := h
    rfl
  · obtain ⟨a, l, rfl, ha, hc, q⟩ := h
    refine ⟨_, PSs.nox (pss_cons (ps_if (pt_not (pt_val (pe_c c_is_row hr (by decide) rfl (pa_cons (pv 0) pa_nil)))) (pss_one (ps_ret pe_bl)) pss_nil) (pss_cons (ps_set (i := 1) sc_is_climb.nd rfl (Or.inl rfl) pe_int) (pss_cons (ps_for PassesOwn.never rfl (pi_row (pv 0)) (pg_name (i := 2) sc_is_climb.nd rfl (Or.inl rfl)) (pss_cons (ps_if (PW.pt (pw_or (pt_not (pt_val (pe_c c_is_integer hr (by decide) rfl (pa_cons (pv 2) pa_nil)))) (pw_or1 (pt_cmpR op_lt (pv 2) (pv 1) (nomark _))))) (pss_one (ps_ret pe_bl)) pss_nil) (pss_one (ps_set (i := 1) sc_is_climb.nd rfl (Or.inl rfl) (pv 2))))) (pss_one (ps_ret pe_bl))))), ?_⟩
    refine ⟨_, rfl, a, _, rfl, ha, fun H1 s1 => ⟨true, rfl, iteF ?_⟩⟩
    refine ⟨_, rfl, a, rfl, ?_⟩
    refine for_row (ha.mono s1) (fun i σ G => Same H1 G ∧ ∃ v : Option V, σ = [some (.ref a), some (.int (if i = 0 then 0 else l.getD (i - 1) 0)), v]) ⟨Same.refl _, none, rfl⟩ (fun i σ G z => z.1) ?_ ?_
    · rintro i x σ G hx ⟨s2, v, rfl⟩
      have hi : i < l.length := by
        have := (List.getElem?_eq_some_iff.mp hx).1
        rw [List.length_map] at this
        exact this
      obtain rfl : x = V.int (l.getD i 0) := by
        rw [List.getElem?_map, List.getElem?_eq_getElem hi] at hx
        rw [List.getD_eq_getElem?_getD, List.getElem?_eq_getElem hi]
        exact (Option.some.inj hx).symm
      have hle := climbs_get hc hi
      refine ⟨_, rfl, _, rfl, true, rfl, iteF ⟨_, rfl, _, rfl, _, _, rfl, rfl, false, congrArg V.bl (decide_eq_false (by omega)), iteF ?_⟩⟩
      refine ⟨_, rfl, s2, some (V.int (l.getD i 0)), ?_⟩
      rw [if_neg (Nat.succ_ne_zero i)]
      rfl
    · rintro σ G ⟨s2, v, rfl⟩
      exact q _ (Same.trans s1 s2)
theorem ok_check_table {f : Addr} {fd : FuncData} (F : FunD K "check_table" "check_table" (defArgs s_check_table) (defBody s_check_table) (defScope s_check_table) [] [] f fd) (T : Txt K mg gs FS) (c_is_climb : Cal P w K mg base 2 "is_climb" (spIsClimb K)) (c_is_count : Cal P w K mg base 2 "is_count" spIsCount) : FnOk P w K mg base CX0 3 f fd ["head", "loop", "rise"] (spCheck K) := by
  refine F.ok sc_check_table (fun vs H Q E h => ?_) (fun cdv A outer s H vs Q E hr h => ?_)
  · obtain ⟨a, b, h, l, r, rfl, _⟩ := h
    rfl
  · obtain ⟨a, b, h, l, r, rfl, ha, hb, hg, q⟩ := h
    refine ⟨_, PSs.nox (pss_cons (ps_if (pt_not (pt_val (pe_c c_is_climb hr (by decide) rfl (pa_cons (pv 0) pa_nil)))) (pss_one ps_never) pss_nil) (pss_cons (ps_if (PW.pt (pw_or (pt_not (pt_val (pe_c c_is_climb hr (by decide) rfl (pa_cons (pv 1) pa_nil)))) (pw_or1 (PW.pt (pw_and (pt_truth (pv 1) (fun _ => rfl)) (pw_and (pt_truth (pv 0) (fun _ => rfl)) (pw_and1 (pt_cmpR op_lt (pe_ix (ixs (K := K)) (pv 1) pe_int fun _ _ => rfl) (pe_ix (ixs (K := K)) (pv 0) (pe_un un_neg pe_int) fun _ _ => rfl) (nomark _))))))))) (pss_one ps_never) pss_nil) (pss_one (ps_if (PW.pt (pw_or (pt_not (pt_val (pe_c c_is_count hr (by decide) rfl (pa_cons (pv 2) pa_nil)))) (pw_or (PW.pt (pw_and (pt_not (pt_truth (pv 1) (fun _ => rfl))) (pw_and1 (pt_cmpR op_ne (pv 2) pe_int (nomark _))))) (pw_or1 (PW.pt (pw_and (pt_truth (pv 1) (fun _ => rfl)) (pw_and1 (pt_cmpR op_gt (pe_ix (ixs (K := K)) (pv 1) (pe_un un_neg pe_int) fun _ _ => rfl) (pe_op op_add (pe_ix (ixs (K := K)) (pv 1) pe_int fun _ _ => rfl) (pv 2)) (nomark _))))))))) (pss_one ps_never) pss_nil)))), ?_⟩
    refine ⟨_, rfl, a, h, rfl, ha, hg.hd, fun H1 s1 => ⟨true, rfl, iteF ?_⟩⟩
    refine ⟨_, rfl, b, l, rfl, hb.mono s1, hg.lp, fun H2 s2 => ⟨true, rfl, iteF ?_⟩⟩
    have s02 := Same.trans s1 s2
    have ha2 := ha.mono s02
    have hb2 := hb.mono s02
    -- the rise
    have hrise : (tIfS (tOr (tNot (tB (tCall spIsCount [] E0 (tCons (tVar 2) tNil)))) (tOr (tAnd (tNot (fun σ H Q => tVar 1 σ H fun x H' => ∃ k, TruV K x H' k ∧ Q k H')) (tTest (tOp rNe (tVar 2) (tC (.int 0)))))
        (tAnd (fun σ H Q => tVar 1 σ H fun x H' => ∃ k, TruV K x H' k ∧ Q k H') (tTest (tOp (rI0 fun i j => .bl (decide (j < i))) (tOp (rIx K) (tVar 1) (tUn (rU fun i => .int (-i)) (tC (.int 1)))) (tOp (rI0 fun i j => .int (i + j)) (tOp (rIx K) (tVar 1) (tC (.int 0))) (tVar 2)))))))
        tNever tNext) { nx := fun _ H' => Q .non H', rt := Q } (start ["head", "loop", "rise"] [.ref a, .ref b, .int r]) H2 := by
      refine ⟨_, rfl, r, rfl, decide (0 ≤ r), rfl, ?_⟩
      rw [decide_eq_true hg.r0]
      refine iteF ?_
      refine ⟨_, rfl, _, tru_row hb2, ?_⟩
      by_cases hl : l = []
      · have hl2 : (!l.isEmpty) = false := by rw [hl]; rfl
        rw [hl2]
        refine iteT ⟨_, rfl, rfl, false, ?_, iteF ⟨_, rfl, _, tru_row hb2, ?_⟩⟩
        · rw [hg.rl hl]; rfl
        · rw [hl2]
          exact iteF (iteF (q _ s02))
      · have hl2 : (!l.isEmpty) = true := by cases l with
          | nil => exact absurd rfl hl
          | cons _ _ => rfl
        rw [hl2]
        refine iteF (iteF ⟨_, rfl, _, tru_row hb2, ?_⟩)
        rw [hl2]
        refine iteT ⟨_, rfl, _, rfl, ix_done hb2 (at_last (len_pos hl)) ⟨_, rfl, ix_done hb2 (at_int (k := 0) rfl (len_pos hl)) ⟨_, rfl, _, _, rfl, rfl, _, _, rfl, rfl, false, congrArg V.bl (decide_eq_false ?_), iteF (q _ s02)⟩⟩⟩
        have := hg.last hl
        omega
    refine ⟨_, rfl, _, tru_row hb2, ?_⟩
    by_cases hl : l = []
    · have hl2 : (!l.isEmpty) = false := by rw [hl]; rfl
      rw [hl2]
      exact iteF (iteF hrise)
    · have hl2 : (!l.isEmpty) = true := by cases l with
        | nil => exact absurd rfl hl
        | cons _ _ => rfl
      rw [hl2]
      refine iteT ⟨_, rfl, _, tru_row ha2, ?_⟩
      by_cases hh : h = []
      · have hh2 : (!h.isEmpty) = false := by rw [hh]; rfl
        rw [hh2]
        exact iteF (iteF hrise)
      · have hh2 : (!h.isEmpty) = true := by cases h with
          | nil => exact absurd rfl hh
          | cons _ _ => rfl
        rw [hh2]
        refine iteT ⟨_, rfl, ?_⟩
        refine ix_done hb2 (at_int (k := 0) rfl (len_pos hl)) ⟨_, rfl, _, rfl, ix_done ha2 (at_last (len_pos hh)) ⟨_, _, rfl, rfl, false, congrArg V.bl (decide_eq_false ?_), iteF hrise⟩⟩
        have := hg.join hh hl
        omega
end
end K25
set_option Elab.async false
set_option linter.all false
set_option maxRecDepth 100000
set_option maxHeartbeats 4000000
namespace K25
open PySem PySem.Spec PyProof.Rows L2 He NF RZ NT
/-- a table is told -/
def spInit (K : PySem.W.Frag) (C : Addr) : Sp := fun vs H Q _ => ∃ (x dx a b : Addr) (h l : List Int) (r : Int), vs = [.ref x, .ref a, .ref b, .int r] ∧ H x = some (.ins C dx []) ∧ Row K H a (vI h) ∧ Row K H b (vI l) ∧ Good h l r ∧ h.length + l.length ≤ 10000 ∧
  ∀ y H', IsPlain h l r y → Same (wo H x) H' → TabAt K C H' x y → Q .non H'
theorem sc_Table___init__ : FnScope ["self", "head", "loop", "rise"] ["self", "head", "loop", "rise"] (defScope s_Table_init) := ⟨rfl, rfl, rfl, by decide +kernel, rfl, by decide +kernel, by decide +kernel⟩
theorem tf_eq (a b : Addr) (r : Int) : putF "rise" (.int r) (putF "loop" (.ref b) (putF "head" (.ref a) [])) = tf a b r := by rfl
theorem few1 (a : V) : (putF "head" a []).length < 1000 := show 1 < 1000 by decide
theorem few2 (a b : V) : (putF "loop" b (putF "head" a [])).length < 1000 := show 2 < 1000 by decide
section
variable {P : Program} {w : World} {K : PySem.W.Frag} {mg : Str → Option Value} {base : Heap} {gs fs : List Str}
theorem ok_Table_init {C : Addr} {dvs : List V} {f : Addr} {fd : FuncData} (F : FunD K "__init__" "Table.__init__" (defArgs s_Table_init) (defBody s_Table_init) (defScope s_Table_init) dvs [] f fd) (T : Txt K mg gs FS) (hc : Cls K C) (n1 : NoAttr K C "head") (n2 : NoAttr K C "loop") (n3 : NoAttr K C "rise") (c_check_table : Cal P w K mg base 3 "check_table" (spCheck K)) (c_plain_form : Cal P w K mg base 2 "plain_form" (spForm K)) : FnOk P w K mg base CX0 4 f fd ["self", "head", "loop", "rise"] (spInit K C) := by
  refine F.ok sc_Table___init__ (fun vs H Q E h => ?_) (fun cdv A outer s H vs Q E hr h => ?_)
  · obtain ⟨x, dx, a, b, h, l, r, rfl, _⟩ := h
    rfl
  · obtain ⟨x, dx, a, b, h, l, r, rfl, hx, ha, hb, hg, hz, q⟩ := h
    refine ⟨_, PSs.nox (pss_cons (ps_expr (pe_c c_check_table hr (by decide) rfl (pa_cons (pv 1) (pa_cons (pv 2) (pa_cons (pv 3) pa_nil))))) (pss_one (ps_asg (pe_c c_plain_form hr (by decide) rfl (pa_cons (pe_callTy cr_tup rfl (T.fr _ (by decide +kernel)) (by decide +kernel) (pa_cons (pv 1) pa_nil)) (pa_cons (pe_callTy cr_tup rfl (T.fr _ (by decide +kernel)) (by decide +kernel) (pa_cons (pv 2) pa_nil)) (pa_cons (pv 3) pa_nil)))) (pgt (K := K) (n := 3) rfl rfl (pgs_cons (pg_fld (pv 0)) (pgs_cons (pg_fld (pv 0)) (pgs_cons (pg_fld (pv 0)) pgs_nil))))))), ?_⟩
    refine ⟨_, rfl, _, rfl, _, rfl, a, b, h, l, r, rfl, ha, hb, hg, fun H1 s1 => ?_⟩
    refine ⟨_, rfl, a, _, rfl, ha.mono s1, fun p1 H2 s2 t1 => ?_⟩
    refine ⟨_, rfl, b, _, rfl, hb.mono (Same.trans s1 s2), fun p2 H3 s3 t2 => ?_⟩
    refine ⟨_, rfl, p1, p2, h, l, r, rfl, NF.Same.tup s3 t1, t2, hz, fun y p H4 hy s4 fo => ?_⟩
    obtain ⟨u, v, f1, f2, f3⟩ := fo
    have s04 : Same H H4 := Same.trans s1 (Same.trans s2 (Same.trans s3 s4))
    have x4 := s04 _ _ hx
    refine ⟨p, _, rfl, f1, rfl, ?_⟩
    refine ⟨_, _, rfl, _, rfl, x, C, dx, _, rfl, x4, hc, n1, by decide, ?_⟩
    refine ⟨_, _, rfl, _, rfl, x, C, dx, _, rfl, upd_same, hc, n2, few1 _, ?_⟩
    refine ⟨_, _, rfl, _, rfl, x, C, dx, _, rfl, upd_same, hc, n3, few2 _ _, ?_⟩
    refine ⟨rfl, ?_⟩
    refine q y _ hy ?_ ⟨dx, u, v, ?_, ?_, ?_⟩
    · exact Same.put (Same.put (Same.put (Same.trans wo_same' s04) wo_none) wo_none) wo_none
    · rw [upd_same, ← tf_eq]
    · exact SqT.put (SqT.put (SqT.put f2 x4 trivial) upd_same trivial) upd_same trivial
    · exact SqT.put (SqT.put (SqT.put f3 x4 trivial) upd_same trivial) upd_same trivial
end
end K25
set_option Elab.async false
set_option linter.all false
set_option maxRecDepth 100000
set_option maxHeartbeats 4000000
namespace K25
open PySem PySem.Spec PyProof.Rows L2 He NF RZ NT
/-- what the class of tables is -/
structure TabC (K : PySem.W.Frag) (C : Addr) : Prop where
  cl : Cls K C
  hd : NoAttr K C "head"
  lp : NoAttr K C "loop"
  ri : NoAttr K C "rise"
  ac : PySem.W.findIn K (.ref C) "__class__" = some (some (.builtin "object.__class__"))
  ag : PySem.W.specialIn K (.builtin "object.__class__") "__get__" = some (some (.builtin "getset_descriptor.__get__"))
  at_ : PySem.W.takesIn K (.builtin "object.__class__") = some true
  am : PySem.W.mroIn K C (.type "object") = some true
  self : PySem.W.kitOne K (.ref C) (.ref C) = some true
  tup : PySem.W.kitOne K (.type "tuple") (.ref C) = some false
  int : PySem.W.kitOne K (.type "int") (.ref C) = some false
  non : PySem.W.kitOne K (.type "NoneType") (.ref C) = some false
theorem TabC.ty {K : PySem.W.Frag} {C : Addr} (c : TabC K C) {H : Hp} {a dx : Addr} {fs : List (Str × V)} (h : H a = some (.ins C dx fs)) : TyX K H (.ref a) (.ref C) := .base (.ins h c.cl c.ac c.ag c.at_ c.am)
/-- what a table must be that it can be asked -/
structure Small (y : List Int × List Int × Int) : Prop where
  h : y.1.length ≤ 10000
  l : y.2.1.length ≤ 10000
  r0 : 0 ≤ y.2.2
  r1 : y.2.2 ≤ 1000000
def spEnd (K : PySem.W.Frag) (C : Addr) : Sp := fun vs H Q _ => ∃ x y, vs = [.ref x] ∧ TabAt K C H x y ∧ Q (vO (fin_ y.2.1 y.2.2)) H
def spAt (K : PySem.W.Frag) (C : Addr) : Sp := fun vs H Q _ => ∃ x y n, vs = [.ref x, vN n] ∧ TabAt K C H x y ∧ Small y ∧ ∀ H', Same H H' → Q (vO (val_ y.1 y.2.1 y.2.2 n)) H'
/-- ==: with another table, with what is none -/
def spEq (K : PySem.W.Frag) (C : Addr) : Sp := fun vs H Q _ => ∃ x y v, vs = [.ref x, v] ∧ TabAt K C H x y ∧
  ((∃ x2 y2, v = .ref x2 ∧ TabAt K C H x2 y2 ∧ Q (.bl (decide (y = y2))) H) ∨ (∃ t, TyX K H v t ∧ PySem.W.kitOne K t (.ref C) = some false ∧ Q (.bl false) H))
theorem sc_end_of : FnScope ["table"] ["table"] (defScope s_end_of) := ⟨rfl, rfl, rfl, by decide +kernel, rfl, by decide +kernel, by decide +kernel⟩
theorem sc_value_at : FnScope ["table", "n", "lap", "at"] ["table", "n"] (defScope s_value_at) := ⟨rfl, rfl, rfl, by decide +kernel, rfl, by decide +kernel, by decide +kernel⟩
theorem sc_Table___call__ : FnScope ["self", "n"] ["self", "n"] (defScope s_Table_call) := ⟨rfl, rfl, rfl, by decide +kernel, rfl, by decide +kernel, by decide +kernel⟩
theorem sc_Table_end : FnScope ["self"] ["self"] (defScope s_Table_end) := ⟨rfl, rfl, rfl, by decide +kernel, rfl, by decide +kernel, by decide +kernel⟩
theorem sc_Table___eq__ : FnScope ["self", "other"] ["self", "other"] (defScope s_Table_eq) := ⟨rfl, rfl, rfl, by decide +kernel, rfl, by decide +kernel, by decide +kernel⟩
theorem ne_nil {l : List Int} (h : l ≠ []) : (!l.isEmpty) = true := by cases l with
  | nil => exact absurd rfl h
  | cons _ _ => rfl
theorem is_nil {l : List Int} (h : l = []) : (!l.isEmpty) = false := by rw [h]; rfl
section
variable {P : Program} {w : World} {K : PySem.W.Frag} {mg : Str → Option Value} {base : Heap} {gs fs : List Str} {C : Addr}
theorem ok_end_of {f : Addr} {fd : FuncData} (F : FunD K "end_of" "end_of" (defArgs s_end_of) (defBody s_end_of) (defScope s_end_of) [] [] f fd) (T : Txt K mg gs FS) (tc : TabC K C) : FnOk P w K mg base CX0 1 f fd ["table"] (spEnd K C) := by
  refine F.ok sc_end_of (fun vs H Q E h => ?_) (fun cdv A outer s H vs Q E hr h => ?_)
  · obtain ⟨x, y, rfl, _⟩ := h
    rfl
  · obtain ⟨x, ⟨h, l, r⟩, rfl, ⟨dx, a, b, hx, ha, hb⟩, q⟩ := h
    dsimp only at hx ha hb q
    refine ⟨_, PSs.nox (pss_cons (ps_if (PW.pt (pw_or (pt_not (pt_truth (pe_fld (pv 0) rfl) (fun _ => rfl))) (pw_or1 (pt_cmpR op_gt (pe_fld (pv 0) rfl) pe_int (nomark _))))) (pss_one (ps_ret pe_non)) pss_nil) (pss_one (ps_ret (pe_ix (ixt (K := K)) (pe_fld (pv 0) rfl) (pe_un un_neg pe_int) fun _ _ => rfl)))), ?_⟩
    refine ⟨_, rfl, x, C, dx, _, _, rfl, hx, tc.cl, tc.lp, rfl, _, tru_tup hb, ?_⟩
    by_cases hl : l = []
    · rw [is_nil hl]
      refine iteT (iteT ?_)
      unfold fin_ at q
      rw [if_pos (.inl hl)] at q
      exact q
    · rw [ne_nil hl]
      refine iteF ⟨_, rfl, x, C, dx, _, _, rfl, hx, tc.cl, tc.ri, rfl, _, _, rfl, rfl, _, rfl, ?_⟩
      refine ite2 (fun h1 => ?_) (fun h1 => ?_)
      · have h2 : (0 : Int) < r := of_decide_eq_true h1
        unfold fin_ at q
        rw [if_pos (.inr h2)] at q
        exact q
      · have h2 : ¬ (0 : Int) < r := fun z => h1 (decide_eq_true z)
        unfold fin_ at q
        rw [if_neg (fun z => z.elim hl h2)] at q
        exact ⟨_, rfl, x, C, dx, _, _, rfl, hx, tc.cl, tc.lp, rfl, _, rfl, b, _, _, _, rfl, rfl, hb, at_last (len_pos hl), q⟩
theorem ok_value_at {f : Addr} {fd : FuncData} (F : FunD K "value_at" "value_at" (defArgs s_value_at) (defBody s_value_at) (defScope s_value_at) [] [] f fd) (T : Txt K mg gs FS) (tc : TabC K C) (c_end_of : Cal P w K mg base 1 "end_of" (spEnd K C)) : FnOk P w K mg base CX0 2 f fd ["table", "n"] (spAt K C) := by
  refine F.ok sc_value_at (fun vs H Q E h => ?_) (fun cdv A outer s H vs Q E hr h => ?_)
  · obtain ⟨x, y, n, rfl, _⟩ := h
    rfl
  · obtain ⟨x, ⟨h, l, r⟩, n, rfl, tb, sm, q⟩ := h
    have tb0 := tb
    obtain ⟨dx, a, b, hx, ha, hb⟩ := tb0
    dsimp only at hx ha hb q
    refine ⟨_, PSs.nox (pss_cons (ps_if (pt_cmpR op_isN (pv 1) pe_non (nomark _)) (pss_one (ps_ret (pe_c c_end_of hr (by decide) rfl (pa_cons (pv 0) pa_nil)))) pss_nil) (pss_cons (ps_if (pt_cmpR op_eq (pv 1) pe_int (nomark _)) (pss_one (ps_ret pe_int)) pss_nil) (pss_cons (ps_if (pt_cmpR op_le (pv 1) (pe_callB call_len_seq rfl (T.fr _ (by decide +kernel)) boot_len (pa_cons (pe_fld (pv 0) rfl) pa_nil)) (nomark _)) (pss_one (ps_ret (pe_ix (ixt (K := K)) (pe_fld (pv 0) rfl) (pe_op op_sub (pv 1) pe_int) fun _ _ => rfl))) pss_nil) (pss_cons (ps_if (pt_not (pt_truth (pe_fld (pv 0) rfl) (fun _ => rfl))) (pss_one (ps_ret pe_non)) pss_nil) (pss_cons (ps_asg (pe_callB call_divmod rfl (T.fr _ (by decide +kernel)) (by decide +kernel) (pa_cons (pe_op op_sub (pe_op op_sub (pv 1) (pe_callB call_len_seq rfl (T.fr _ (by decide +kernel)) boot_len (pa_cons (pe_fld (pv 0) rfl) pa_nil))) pe_int) (pa_cons (pe_callB call_len_seq rfl (T.fr _ (by decide +kernel)) boot_len (pa_cons (pe_fld (pv 0) rfl) pa_nil)) pa_nil))) (pgt (K := K) (n := 2) rfl rfl (pgs_cons (pg_name (i := 2) sc_value_at.nd rfl (Or.inl rfl)) (pgs_cons (pg_name (i := 3) sc_value_at.nd rfl (Or.inl rfl)) pgs_nil)))) (pss_one (ps_ret (pe_op op_add (pe_ix (ixt (K := K)) (pe_fld (pv 0) rfl) (pv 3) fun _ _ => rfl) (pe_op op_mul (pv 2) (pe_fld (pv 0) rfl)))))))))), ?_⟩
    cases n with
    | none => exact ⟨_, rfl, rfl, _, rfl, iteT ⟨_, rfl, x, _, rfl, tb, q _ (Same.refl H)⟩⟩
    | some n =>
      refine ⟨_, rfl, rfl, _, rfl, iteF ?_⟩
      refine ⟨_, rfl, rfl, _, rfl, ite2 (fun h1 => ?_) (fun h1 => ?_)⟩
      · have h2 : n = 0 := by
          have := of_decide_eq_true h1
          injection this with this
          omega
        subst h2
        exact q _ (Same.refl H)
      have n0 : n ≠ 0 := fun z => h1 (by rw [z]; exact decide_eq_true rfl)
      unfold val_ at q
      dsimp only at q
      rw [if_neg n0] at q
      refine ⟨_, rfl, _, rfl, x, C, dx, _, _, rfl, hx, tc.cl, tc.hd, rfl, a, _, rfl, Or.inr ha, ?_⟩
      rw [vI_len]
      refine ⟨_, _, rfl, rfl, _, rfl, ite2 (fun h1 => ?_) (fun h1 => ?_)⟩
      · have h2 : n ≤ h.length := by
          have := of_decide_eq_true h1
          omega
        unfold at_ at q
        rw [if_pos h2] at q
        exact ⟨_, rfl, x, C, dx, _, _, rfl, hx, tc.cl, tc.hd, rfl, _, rfl, _, _, rfl, rfl, a, _, _, _, rfl, rfl, ha, at_int (k := n - 1) (by omega) (by omega), q _ (Same.refl H)⟩
      have h2 : ¬ n ≤ h.length := fun z => h1 (decide_eq_true (by omega))
      refine ⟨_, rfl, x, C, dx, _, _, rfl, hx, tc.cl, tc.lp, rfl, _, tru_tup hb, ?_⟩
      by_cases hl : l = []
      · rw [is_nil hl]
        unfold at_ at q
        rw [if_neg h2, if_pos hl] at q
        exact iteT (q _ (Same.refl H))
      rw [ne_nil hl]
      have hp := len_pos hl
      have hsl := sm.l
      dsimp only at hsl
      rw [at_loop hl (by omega)] at q
      refine iteF ?_
      refine ⟨_, rfl, _, rfl, x, C, dx, _, _, rfl, hx, tc.cl, tc.hd, rfl, a, _, rfl, Or.inr ha, _, _, rfl, rfl, _, _, rfl, rfl, ?_⟩
      refine ⟨_, rfl, x, C, dx, _, _, rfl, hx, tc.cl, tc.lp, rfl, b, _, rfl, Or.inr hb, ?_⟩
      rw [vI_len, vI_len]
      refine ⟨_, _, rfl, ⟨by omega, by omega⟩, fun p hpn => ?_⟩
      have s1 := NF.Same.new (o := .tup [V.int (((n : Int) - (h.length : Int) - 1) / (l.length : Int)), V.int (((n : Int) - (h.length : Int) - 1) % (l.length : Int))]) (Same.refl H) hpn
      refine ⟨p, _, rfl, SqT.of upd_same, rfl, _, _, rfl, ?_⟩
      refine ⟨_, _, rfl, ?_⟩
      refine ⟨rfl, ?_⟩
      have hx1 := s1 _ _ hx
      have hb1 := NF.Same.tup s1 hb
      have e1 : (n : Int) - (h.length : Int) - 1 = ((n - h.length - 1 : Nat) : Int) := by omega
      have e2 : ((n : Int) - (h.length : Int) - 1) % (l.length : Int) = (((n - h.length - 1) % l.length : Nat) : Int) := by rw [e1]; rfl
      refine ⟨_, rfl, x, C, dx, _, _, rfl, hx1, tc.cl, tc.lp, rfl, _, rfl, b, _, _, _, rfl, rfl, hb1, at_int (k := (n - h.length - 1) % l.length) e2 (Nat.mod_lt _ hp), ?_⟩
      have r0 := sm.r0
      have r1 := sm.r1
      dsimp only at r0 r1
      refine ⟨_, rfl, _, rfl, x, C, dx, _, _, rfl, hx1, tc.cl, tc.ri, rfl, _, _, rfl, rfl, Or.inr ⟨by omega, by omega⟩, ?_⟩
      refine ⟨_, _, rfl, rfl, ?_⟩
      have e3 : l.getD ((n - h.length - 1) % l.length) 0 + ((n : Int) - (h.length : Int) - 1) / (l.length : Int) * r = walk l r (n - h.length - 1) := by
        unfold walk
        rw [e1, Int.mul_comm]
        rfl
      show Q (V.int _) _
      rw [e3]
      exact q _ s1
theorem ok_Table_call {f : Addr} {fd : FuncData} (F : FunD K "__call__" "Table.__call__" (defArgs s_Table_call) (defBody s_Table_call) (defScope s_Table_call) [] [] f fd) (T : Txt K mg gs FS) (c_is_count : Cal P w K mg base 2 "is_count" spIsCount) (c_value_at : Cal P w K mg base 2 "value_at" (spAt K C)) : FnOk P w K mg base CX0 3 f fd ["self", "n"] (spAt K C) := by
  refine F.ok sc_Table___call__ (fun vs H Q E h => ?_) (fun cdv A outer s H vs Q E hr h => ?_)
  · obtain ⟨x, y, n, rfl, _⟩ := h
    rfl
  · obtain ⟨x, y, n, rfl, tb, sm, q⟩ := h
    refine ⟨_, PSs.nox (pss_cons (ps_if (PW.pt (pw_and (pt_cmpR op_notN (pv 1) pe_non (nomark _)) (pw_and1 (pt_not (pt_val (pe_c c_is_count hr (by decide) rfl (pa_cons (pv 1) pa_nil))))))) (pss_one ps_never) pss_nil) (pss_one (ps_ret (pe_c c_value_at hr (by decide) rfl (pa_cons (pv 0) (pa_cons (pv 1) pa_nil)))))), ?_⟩
    cases n with
    | none => exact ⟨_, rfl, rfl, _, rfl, iteF (iteF ⟨_, rfl, _, rfl, x, y, none, rfl, tb, sm, q⟩)⟩
    | some n =>
      refine ⟨_, rfl, rfl, _, rfl, iteT ⟨_, rfl, (n : Int), rfl, true, congrArg V.bl (decide_eq_true (by omega)), iteF ?_⟩⟩
      exact ⟨_, rfl, _, rfl, x, y, some n, rfl, tb, sm, q⟩
theorem ok_Table_end {f : Addr} {fd : FuncData} (F : FunD K "end" "Table.end" (defArgs s_Table_end) (defBody s_Table_end) (defScope s_Table_end) [] [] f fd) (T : Txt K mg gs FS) (c_end_of : Cal P w K mg base 1 "end_of" (spEnd K C)) : FnOk P w K mg base CX0 2 f fd ["self"] (spEnd K C) := by
  refine F.ok sc_Table_end (fun vs H Q E h => ?_) (fun cdv A outer s H vs Q E hr h => ?_)
  · obtain ⟨x, y, rfl, _⟩ := h
    rfl
  · obtain ⟨x, y, rfl, tb, q⟩ := h
    exact ⟨_, PSs.nox (pss_one (ps_ret (pe_c c_end_of hr (by decide) rfl (pa_cons (pv 0) pa_nil)))), _, rfl, x, y, rfl, tb, q⟩
theorem ok_Table_eq {f : Addr} {fd : FuncData} (F : FunD K "__eq__" "Table.__eq__" (defArgs s_Table_eq) (defBody s_Table_eq) (defScope s_Table_eq) [] [] f fd) (T : Txt K mg gs FS) (hT : mg "Table" = some (.ref C)) (tc : TabC K C) : FnOk P w K mg base CX0 1 f fd ["self", "other"] (spEq K C) := by
  refine F.ok sc_Table___eq__ (fun vs H Q E h => ?_) (fun cdv A outer s H vs Q E hr h => ?_)
  · obtain ⟨x, y, v, rfl, _⟩ := h
    rfl
  · obtain ⟨x, ⟨h, l, r⟩, v, rfl, ⟨dx, a, b, hx, ha, hb⟩, q⟩ := h
    have hu : (A.deeper (envOfC "Table.__eq__" (defScope s_Table_eq) s.heap.objs.size f cdv)).units + 64 < cLine := by
      have := hr.un
      omega
    refine ⟨_, PSs.nox (pss_one (ps_ret (pe_and (pe_callB call_isi rfl (T.fr _ (by decide +kernel)) (by decide +kernel) (pa_cons (pv 1) (pa_cons (pe_gl hT) pa_nil))) (pe_and (pe_cmpR (op_eqD hu) (pe_fld (pv 0) rfl) (pe_fld (pv 1) rfl) (nomark _)) (pe_and (pe_cmpR (op_eqD hu) (pe_fld (pv 0) rfl) (pe_fld (pv 1) rfl) (nomark _)) (pe_one (pe_cmpR op_eq (pe_fld (pv 0) rfl) (pe_fld (pv 1) rfl) (nomark _)))))))), ?_⟩
    rcases q with ⟨x2, ⟨h2, l2, r2⟩, rfl, ⟨dx2, a2, b2, hx2, ha2, hb2⟩, q⟩ | ⟨t, ty, hk, q⟩
    · have tx := tc.ty hx2
      dsimp only at hx ha hb hx2 ha2 hb2 q
      refine ⟨_, rfl, _, _, _, _, true, rfl, .own C, tx, tc.self, true, rfl, iteT ?_⟩
      refine ⟨_, rfl, x, C, dx, _, _, rfl, hx, tc.cl, tc.hd, rfl, _, rfl, x2, C, dx2, _, _, rfl, hx2, tc.cl, tc.hd, rfl, ?_⟩
      refine eqT_done (K := K) ha ha2 ⟨_, rfl, ite2 (fun h1 => ?_) (fun h1 => ?_)⟩
      · have e1 : h = h2 := of_decide_eq_true h1
        refine ⟨_, rfl, x, C, dx, _, _, rfl, hx, tc.cl, tc.lp, rfl, _, rfl, x2, C, dx2, _, _, rfl, hx2, tc.cl, tc.lp, rfl, ?_⟩
        refine eqT_done (K := K) hb hb2 ⟨_, rfl, ite2 (fun h3 => ?_) (fun h3 => ?_)⟩
        · have e2 : l = l2 := of_decide_eq_true h3
          refine ⟨_, rfl, x, C, dx, _, _, rfl, hx, tc.cl, tc.ri, rfl, _, rfl, x2, C, dx2, _, _, rfl, hx2, tc.cl, tc.ri, rfl, rfl, ?_⟩
          have e : decide ((h, l, r) = (h2, l2, r2)) = decide (V.int r = V.int r2) := by
            subst e1 e2
            by_cases z : r = r2
            · subst z; simp
            · rw [decide_eq_false (fun y => z (by injection y with _ y; injection y)), decide_eq_false (fun y => z (by injection y))]
          rw [← e]
          exact q
        · have e2 : l ≠ l2 := fun z => h3 (decide_eq_true z)
          rw [decide_eq_false (fun y => e2 (by injection y with _ y; injection y))] at q
          exact q
      · have e1 : h ≠ h2 := fun z => h1 (decide_eq_true z)
        rw [decide_eq_false (fun y => e1 (by injection y))] at q
        exact q
    · exact ⟨_, rfl, _, _, _, _, false, rfl, .own C, ty, hk, false, rfl, iteF q⟩
end
end K25
set_option Elab.async false
set_option linter.all false
set_option maxRecDepth 100000
set_option maxHeartbeats 4000000
/-! A comprehension with two fors: the outer one, the inner one. -/
namespace NF
open PySem PySem.Spec PyProof.Rows L2
theorem pi_tupK {X : Cx} {K : PySem.W.Frag} {tg l : Expr} {tl : TE} (hl : PE X l tl) (h : X.K = K := by rfl) : PI X tg l (iTup K tl) := h ▸ pi_tup hl
theorem pi_listK {X : Cx} {K : PySem.W.Frag} {tg l : Expr} {tl : TE} (hl : PE X l tl) (h : X.K = K := by rfl) : PI X tg l (iList K tl) := h ▸ pi_list hl
theorem pe_fldK {X : Cx} {K : PySem.W.Frag} {e : Expr} {f : Str} {pos : Pos} {ta : TE} (he : PE X e ta) (hb : attributeBase e f X.env (eval e X.env) = eval e X.env) (h : X.K = K := by rfl) : PE X (.Attribute e f pos) (tFld K ta f) := h ▸ pe_fld he hb
theorem lc2_range {lo : Int} {n : Nat} {g g1 : TG} {tt tt1 : TT} {wi1 : TI} {te : TE} {vs vs1 : List Nat} {σ : L2.St} {H1 : Hp} {D : Addr} {Qd : Hp → Prop} (Pv : Nat → Hp → Prop) (h0 : Pv 0 (upd H1 D (.lst [])))
    (hs : ∀ i H, i < n → Pv i H → g (.int (lo + i)) (wipe σ vs) H fun σ2 H2 => wipe σ2 vs = wipe σ vs ∧ tt σ2 H2 fun b H3 =>
      if b = true then wi1 σ2 H3 fun J1 H4 => ∃ W1 : Nat → Nat → Hp → Prop, (∃ m, W1 0 m H4) ∧ ∀ j k H, W1 j k H →
        (J1.stop j H ∧ Pv (i + 1) H) ∨ (J1.go j H ∧ ∃ Nx1 : Hp → Prop, (∀ H', Nx1 H' → ∃ k', k' < k ∧ W1 (j + 1) k' H') ∧ ∀ x H', J1.yld j H x H' → g1 x (wipe σ2 vs1) H' fun σ3 H5 => wipe σ3 vs1 = wipe σ2 vs1 ∧ tt1 σ3 H5 fun b H6 =>
          if b = true then te σ3 H6 fun y H7 => ∃ acc, H7 D = some (.lst acc) ∧ acc.length < sizeLine ∧ Nx1 (upd H7 D (.lst (acc ++ [y]))) else Nx1 H6)
      else Pv (i + 1) H3) (hd : ∀ H, Pv n H → Qd H) :
    ∃ W : Nat → Nat → Hp → Prop, (∃ m, W 0 m (upd H1 D (.lst []))) ∧ ∀ i m H, W i m H →
      ((Itr lo n).stop i H ∧ Qd H) ∨ ((Itr lo n).go i H ∧ ∃ Nx : Hp → Prop, (∀ H', Nx H' → ∃ m', m' < m ∧ W (i + 1) m' H') ∧ ∀ x H', (Itr lo n).yld i H x H' → g x (wipe σ vs) H' fun σ2 H2 => wipe σ2 vs = wipe σ vs ∧ tt σ2 H2 fun b H3 =>
        if b = true then wi1 σ2 H3 fun J1 H4 => ∃ W1 : Nat → Nat → Hp → Prop, (∃ m, W1 0 m H4) ∧ ∀ j k H, W1 j k H →
          (J1.stop j H ∧ Nx H) ∨ (J1.go j H ∧ ∃ Nx1 : Hp → Prop, (∀ H', Nx1 H' → ∃ k', k' < k ∧ W1 (j + 1) k' H') ∧ ∀ x H', J1.yld j H x H' → g1 x (wipe σ2 vs1) H' fun σ3 H5 => wipe σ3 vs1 = wipe σ2 vs1 ∧ tt1 σ3 H5 fun b H6 =>
            if b = true then te σ3 H6 fun y H7 => ∃ acc, H7 D = some (.lst acc) ∧ acc.length < sizeLine ∧ Nx1 (upd H7 D (.lst (acc ++ [y]))) else Nx1 H6)
        else Nx H3) := by
  refine ⟨fun i m H => m = n - i ∧ i ≤ n ∧ Pv i H, ⟨n, by simp, Nat.zero_le _, h0⟩, ?_⟩
  rintro i m H ⟨rfl, hi, p⟩
  by_cases hlt : i < n
  · refine .inr ⟨hlt, Pv (i + 1), fun H' p' => ⟨n - (i + 1), by omega, rfl, hlt, p'⟩, fun x H' y => ?_⟩
    obtain ⟨e, y⟩ := y
    subst e y
    exact hs i _ hlt p
  · have e : i = n := by omega
    subst e
    exact .inl ⟨Nat.le_refl _, hd H p⟩
theorem in_it {J : It} {n : Nat} {G : Hp → Prop} {Y : Nat → Hp → V → Hp → Prop} (w : Walk J n G Y) {g : TG} {tt : TT} {te : TE} {vs : List Nat} {σ : L2.St} {H4 : Hp} {D : Addr} {Qd : Hp → Prop} (Pv : Nat → Hp → Prop) (h0 : Pv 0 H4) (hG : ∀ i H, i ≤ n → Pv i H → G H)
    (hs : ∀ i x H H', i < n → Pv i H → Y i H x H' → g x (wipe σ vs) H' fun σ2 H2 => wipe σ2 vs = wipe σ vs ∧ tt σ2 H2 fun b H3 =>
      if b = true then te σ2 H3 fun y H4 => ∃ acc, H4 D = some (.lst acc) ∧ acc.length < sizeLine ∧ Pv (i + 1) (upd H4 D (.lst (acc ++ [y]))) else Pv (i + 1) H3) (hd : ∀ H, Pv n H → Qd H) :
    ∃ W : Nat → Nat → Hp → Prop, (∃ m, W 0 m H4) ∧ ∀ i m H, W i m H →
      (J.stop i H ∧ Qd H) ∨ (J.go i H ∧ ∃ Nx : Hp → Prop, (∀ H', Nx H' → ∃ m', m' < m ∧ W (i + 1) m' H') ∧ ∀ x H', J.yld i H x H' → g x (wipe σ vs) H' fun σ2 H2 => wipe σ2 vs = wipe σ vs ∧ tt σ2 H2 fun b H3 =>
        if b = true then te σ2 H3 fun y H4 => ∃ acc, H4 D = some (.lst acc) ∧ acc.length < sizeLine ∧ Nx (upd H4 D (.lst (acc ++ [y]))) else Nx H3) := by
  refine ⟨fun i m H => m = n - i ∧ i ≤ n ∧ Pv i H, ⟨n, by simp, Nat.zero_le _, h0⟩, ?_⟩
  rintro i m H ⟨rfl, hi, p⟩
  have q := hG i H hi p
  by_cases hlt : i < n
  · exact .inr ⟨w.goes i H hlt q, Pv (i + 1), fun H' p' => ⟨n - (i + 1), by omega, rfl, hlt, p'⟩, fun x H' y => hs i x H H' hlt p (w.yields i H x H' hlt q y)⟩
  · have e : i = n := by omega
    subst e
    exact .inl ⟨w.stops H q, hd H p⟩
end NF
set_option Elab.async false
set_option linter.all false
/-! Rules within a comprehension: what is read is told by the class's K, not by the block's. -/
namespace NF
open PySem PySem.Spec PyProof.Rows L2 He RZ
theorem call_lenK {X : Cx} {K : PySem.W.Frag} (h : X.K = K := by rfl) : CallR X (.builtin "len") (fun xs H Q => ∃ p ys, xs = [.ref p] ∧ (SqL K H p ys ∨ SqT K H p ys) ∧ Q (.int ys.length) H) := h ▸ call_len_seq
theorem pt_truthK {X : Cx} {K : PySem.W.Frag} {a : Expr} {ta : TE} (ha : PE X a ta) (he : ∀ whole, isTrue a X.env whole = (do let v ← whole; standAt a.pos; holding [v] (truthy v))) (h : X.K = K := by rfl) :
    PT X a (fun σ H Q => ta σ H fun x H' => ∃ k, TruV K x H' k ∧ Q k H') := h ▸ pt_truth ha he
end NF
set_option Elab.async false
set_option linter.all false
set_option maxRecDepth 100000
set_option maxHeartbeats 4000000
namespace K25
open PySem PySem.Spec PyProof.Rows L2 He NF RZ NT
/-- what the class of makers is -/
structure MakC (K : PySem.W.Frag) (C : Addr) : Prop where
  cl : Cls K C
  ni : NoAttr K C "inlets"
  nb : NoAttr K C "begin"
  nw : NoAttr K C "ways"
  ac : PySem.W.findIn K (.ref C) "__class__" = some (some (.builtin "object.__class__"))
  ag : PySem.W.specialIn K (.builtin "object.__class__") "__get__" = some (some (.builtin "getset_descriptor.__get__"))
  at_ : PySem.W.takesIn K (.builtin "object.__class__") = some true
  am : PySem.W.mroIn K C (.type "object") = some true
  self : PySem.W.kitOne K (.ref C) (.ref C) = some true
  tup : PySem.W.kitOne K (.type "tuple") (.ref C) = some false
  int : PySem.W.kitOne K (.type "int") (.ref C) = some false
theorem MakC.ty {K : PySem.W.Frag} {C : Addr} (c : MakC K C) {H : Hp} {a dx : Addr} {fs : List (Str × V)} (h : H a = some (.ins C dx fs)) : TyX K H (.ref a) (.ref C) := .base (.ins h c.cl c.ac c.ag c.at_ c.am)
structure RouC (K : PySem.W.Frag) (C : Addr) : Prop where
  cl : Cls K C
  nt : NoAttr K C "taken"
  nm : NoAttr K C "marks"
/-- a right maker -/
structure GoodM (n : Nat) (b : List Deed) (ws : List (List Deed)) : Prop where
  n1 : 1 ≤ n
  n3 : n ≤ 3
  bd : ∀ i, some i ∈ b → i < n
  wy : ∀ v ∈ ws, v ≠ [] ∧ (v.length ≤ 24 ∨ (ws.length = 1 ∧ v.length ≤ 600)) ∧ ∀ i, some i ∈ v → i < n
  m1 : 1 ≤ ws.length
  m4 : ws.length ≤ 4
  bl : b.length ≤ 600
def okD (n : Nat) : Deed → Bool
  | none => true
  | some i => decide (i < n)
def mf (n : Nat) (pb pw : Addr) : List (Str × V) := [("inlets", .int (n : Int)), ("begin", .ref pb), ("ways", .ref pw)]
def MakAt (K : PySem.W.Frag) (C : Addr) (H : Hp) (x : Addr) (n : Nat) (b : List Deed) (ws : List (List Deed)) : Prop := ∃ dx pb pw, H x = some (.ins C dx (mf n pb pw)) ∧ SqT K H pb (b.map dV) ∧ WaysT K H pw ws
theorem MakAt.mono {K : PySem.W.Frag} {C : Addr} {H H' : Hp} {x : Addr} {n : Nat} {b : List Deed} {ws : List (List Deed)} (h : MakAt K C H x n b ws) (s : Same H H') : MakAt K C H' x n b ws := by
  obtain ⟨dx, pb, pw, h1, h2, h3⟩ := h
  exact ⟨dx, pb, pw, s _ _ h1, NF.Same.tup s h2, h3.mono s⟩
def rf (i : Nat) (ds : List Deed) (m : Addr) : List (Str × V) := [("taken", .int (took i ds : Int)), ("marks", .ref m)]
def RouAt (K : PySem.W.Frag) (C : Addr) (H : Hp) (x : Addr) (i : Nat) (ds : List Deed) : Prop := ∃ dx m, H x = some (.ins C dx (rf i ds m)) ∧ SqT K H m (vI (ahead i ds 0))
theorem RouAt.mono {K : PySem.W.Frag} {C : Addr} {H H' : Hp} {x : Addr} {i : Nat} {ds : List Deed} (h : RouAt K C H x i ds) (s : Same H H') : RouAt K C H' x i ds := by
  obtain ⟨dx, m, h1, h2⟩ := h
  exact ⟨dx, m, s _ _ h1, NF.Same.tup s h2⟩
def spDeed : Sp := fun vs H Q _ => ∃ (d : Deed) (n : Nat), vs = [dV d, .int (n : Int)] ∧ Q (.bl (okD n d)) H
def spDeeds (K : PySem.W.Frag) : Sp := fun vs H Q _ => ∃ (a : Addr) (n : Nat) (ds : List Deed), vs = [.ref a, .int (n : Int)] ∧ Row K H a (ds.map dV) ∧ (∀ i, some i ∈ ds → i < n) ∧ ds.length ≤ 10000 ∧ ∀ H', Same H H' → Q (.bl true) H'
def spWays (K : PySem.W.Frag) : Sp := fun vs H Q _ => ∃ (a : Addr) (n : Nat) (b : List Deed) (ws : List (List Deed)), vs = [.ref a, .int (n : Int)] ∧ WaysR K H a ws ∧ GoodM n b ws ∧ ∀ H', Same H H' → Q (.bl true) H'
def spCheckM (K : PySem.W.Frag) : Sp := fun vs H Q _ => ∃ (pb pw : Addr) (n : Nat) (b : List Deed) (ws : List (List Deed)), vs = [.int (n : Int), .ref pb, .ref pw] ∧ Row K H pb (b.map dV) ∧ WaysR K H pw ws ∧ GoodM n b ws ∧ ∀ H', Same H H' → Q .non H'
theorem sc_is_deed : FnScope ["thing", "inlets"] ["thing", "inlets"] (defScope s_is_deed) := ⟨rfl, rfl, rfl, by decide +kernel, rfl, by decide +kernel, by decide +kernel⟩
theorem sc_are_deeds : FnScope ["thing", "inlets", "deed"] ["thing", "inlets"] (defScope s_are_deeds) := ⟨rfl, rfl, rfl, by decide +kernel, rfl, by decide +kernel, by decide +kernel⟩
theorem sc_are_ways : FnScope ["thing", "inlets", "way"] ["thing", "inlets"] (defScope s_are_ways) := ⟨rfl, rfl, rfl, by decide +kernel, rfl, by decide +kernel, by decide +kernel⟩
theorem sc_check_maker : FnScope ["inlets", "begin", "ways", "most", "way"] ["inlets", "begin", "ways"] (defScope s_check_maker) := ⟨rfl, rfl, rfl, by decide +kernel, rfl, by decide +kernel, by decide +kernel⟩
section
variable {P : Program} {w : World} {K : PySem.W.Frag} {mg : Str → Option Value} {base : Heap} {gs fs : List Str} {C : Addr}
theorem kit_s_s (K : PySem.W.Frag) : PySem.W.kitOne K (.type "str") (.type "str") = some true := if_pos (by decide +kernel)
theorem kit_i_s (K : PySem.W.Frag) : PySem.W.kitOne K (.type "int") (.type "str") = some false := by kernel_rfl
theorem ok_is_deed {f : Addr} {fd : FuncData} (F : FunD K "is_deed" "is_deed" (defArgs s_is_deed) (defBody s_is_deed) (defScope s_is_deed) [] [] f fd) (T : Txt K mg gs FS) (c_is_count : Cal P w K mg base 2 "is_count" spIsCount) : FnOk P w K mg base CX0 3 f fd ["thing", "inlets"] spDeed := by
  refine F.ok sc_is_deed (fun vs H Q E h => ?_) (fun cdv A outer s H vs Q E hr h => ?_)
  · obtain ⟨d, n, rfl, _⟩ := h
    rfl
  · obtain ⟨d, n, rfl, q⟩ := h
    refine ⟨_, PSs.nox (pss_cons (ps_if (pt_val (pe_callB call_isi rfl (T.fr _ (by decide +kernel)) (by decide +kernel) (pa_cons (pv 0) (pa_cons (pe_bltn (v := .ty "str") rfl (T.fr _ (by decide +kernel)) (by decide +kernel) rfl) pa_nil)))) (pss_one (ps_ret (pe_cmpR op_eq (pv 0) pe_str (nomark _)))) pss_nil) (pss_one (ps_ret (pe_and (pe_c c_is_count hr (by decide) rfl (pa_cons (pv 0) pa_nil)) (pe_one (pe_cmpR op_lt (pv 0) (pv 1) (nomark _))))))), ?_⟩
    cases d with
    | none => exact ⟨_, rfl, _, _, _, _, true, rfl, .ty "str", .base (.str _), kit_s_s K, true, rfl, iteT ⟨_, rfl, rfl, q⟩⟩
    | some i =>
      refine ⟨_, rfl, _, _, _, _, false, rfl, .ty "str", .base (.int _), kit_i_s K, false, rfl, iteF ?_⟩
      refine ⟨_, rfl, (i : Int), rfl, decide (0 ≤ (i : Int)), rfl, ?_⟩
      rw [decide_eq_true (by omega)]
      refine ⟨_, rfl, _, rfl, _, _, rfl, rfl, ?_⟩
      have e : decide ((i : Int) < (n : Int)) = okD n (some i) := by
        show _ = decide (i < n)
        by_cases h : i < n
        · rw [decide_eq_true h, decide_eq_true (by omega)]
        · rw [decide_eq_false h, decide_eq_false (by omega)]
      show Q (V.bl (decide ((i : Int) < (n : Int)))) H
      rw [e]
      exact q
theorem ok_are_deeds {f : Addr} {fd : FuncData} (F : FunD K "are_deeds" "are_deeds" (defArgs s_are_deeds) (defBody s_are_deeds) (defScope s_are_deeds) [] [] f fd) (T : Txt K mg gs FS) (c_is_row : Cal P w K mg base 1 "is_row" (spIsRow K)) (c_is_deed : Cal P w K mg base 3 "is_deed" spDeed) : FnOk P w K mg base CX0 4 f fd ["thing", "inlets"] (spDeeds K) := by
  refine F.ok sc_are_deeds (fun vs H Q E h => ?_) (fun cdv A outer s H vs Q E hr h => ?_)
  · obtain ⟨a, n, ds, rfl, _⟩ := h
    rfl
  · obtain ⟨a, n, ds, rfl, ha, ok, hl, q⟩ := h
    refine ⟨_, PSs.nox (pss_one (ps_ret (pe_and (pe_c c_is_row hr (by decide) rfl (pa_cons (pv 0) pa_nil)) (pe_one (pe_callB (cr_all rfl) rfl (T.fr _ (by decide +kernel)) (by decide +kernel) (pa_cons (pe_lc (own := [("deed", 2)]) rfl sc_are_deeds.nd (pi_row (pv 0)) (blkOk_by (N := ["thing", "inlets", "deed"]) (sc := defScope s_are_deeds) (by decide +kernel)) (fun _ _ _ _ _ => by exact (pg_name (i := 2) sc_are_deeds.nd rfl (Or.inl rfl))) (fun _ _ _ _ _ => by exact pts_nil) (fun _ _ _ _ _ => by exact (pe_c c_is_deed hr (by decide) rfl (pa_cons (pv 2) (pa_cons (pv 1) pa_nil))))) pa_nil)))))), ?_⟩
    refine ⟨_, rfl, a, _, rfl, ha, fun H1 s1 => ⟨true, rfl, iteT ?_⟩⟩
    refine ⟨_, rfl, a, rfl, ?_⟩
    refine lc_row (ha.mono s1) (fun D j G => Same H1 G ∧ G D = some (.lst ((List.replicate j true).map V.bl))) (fun D hD => ⟨NF.Same.new (Same.refl H1) hD, upd_same⟩) (fun D i G _ z => z.1) ?_ ?_
    · rintro D hD j v G hv ⟨hG, hD2⟩
      have hj := (List.getElem?_eq_some_iff.mp hv).1
      rw [List.length_map] at hj
      obtain rfl : dV (ds[j]) = v := by
        rw [List.getElem?_map, List.getElem?_eq_getElem hj] at hv
        exact Option.some.inj hv
      refine ⟨rfl, _, rfl, _, rfl, ds[j], n, rfl, ?_⟩
      have e : okD n ds[j] = true := by
        cases ed : ds[j] with
        | none => rfl
        | some i => exact decide_eq_true (ok i (by rw [← ed]; exact List.getElem_mem hj))
      rw [e]
      refine ⟨_, hD2, by rw [List.length_map, List.length_replicate]; exact Nat.lt_of_lt_of_le (show j < 10000 by omega) (by decide), NF.Same.mut hG hD, ?_⟩
      rw [upd_same, List.replicate_succ', List.map_append] <;> rfl
    · rintro D hD G ⟨hG, hD2⟩
      refine ⟨D, _, rfl, SqL.of hD2, ?_⟩
      have : (List.replicate ((ds.map dV).length) true).all id = true := by
        rw [List.all_replicate]
        simp
      rw [this]
      exact q G (Same.trans s1 hG)
theorem ok_are_ways {f : Addr} {fd : FuncData} (F : FunD K "are_ways" "are_ways" (defArgs s_are_ways) (defBody s_are_ways) (defScope s_are_ways) [] [] f fd) (T : Txt K mg gs FS) (h_MOST_WAYS : mg "MOST_WAYS" = some (.int 4 tok_w)) (c_is_row : Cal P w K mg base 1 "is_row" (spIsRow K)) (c_are_deeds : Cal P w K mg base 4 "are_deeds" (spDeeds K)) : FnOk P w K mg base CX0 5 f fd ["thing", "inlets"] (spWays K) := by
  refine F.ok sc_are_ways (fun vs H Q E h => ?_) (fun cdv A outer s H vs Q E hr h => ?_)
  · obtain ⟨a, n, b, ws, rfl, _⟩ := h
    rfl
  · obtain ⟨a, n, b, ws, rfl, ⟨as, ha, hl, hw⟩, g, q⟩ := h
    have m1 := g.m1
    have m4 := g.m4
    refine ⟨_, PSs.nox (pss_cons (ps_if (PW.pt (pw_or (pt_not (pt_val (pe_c c_is_row hr (by decide) rfl (pa_cons (pv 0) pa_nil)))) (pw_or1 (pt_not (pt_chain op_le op_le pe_int (pe_callB call_len_seq rfl (T.fr _ (by decide +kernel)) boot_len (pa_cons (pv 0) pa_nil)) (pe_glob (v := .int 4) rfl h_MOST_WAYS ⟨_, rfl⟩)))))) (pss_one (ps_ret pe_bl)) pss_nil) (pss_one (ps_ret (pe_callB (cr_all rfl) rfl (T.fr _ (by decide +kernel)) (by decide +kernel) (pa_cons (pe_lc (own := [("way", 2)]) rfl sc_are_ways.nd (pi_row (pv 0)) (blkOk_by (N := ["thing", "inlets", "way"]) (sc := defScope s_are_ways) (by decide +kernel)) (fun _ _ _ _ _ => by exact (pg_name (i := 2) sc_are_ways.nd rfl (Or.inl rfl))) (fun _ _ _ _ _ => by exact pts_nil) (fun _ _ _ _ _ => by exact (pe_and (pe_c c_are_deeds hr (by decide) rfl (pa_cons (pv 2) (pa_cons (pv 1) pa_nil))) (pe_one (pe_cmpR op_gt (pe_callB (call_lenK (K := K)) rfl (T.fr _ (by decide +kernel)) boot_len (pa_cons (pv 2) pa_nil)) pe_int (nomark _)))))) pa_nil))))), ?_⟩
    refine ⟨_, rfl, a, _, rfl, ha, fun H1 s1 => ⟨true, rfl, iteF ?_⟩⟩
    refine ⟨_, rfl, a, _, rfl, ha.mono s1, ?_⟩
    rw [List.length_map, hl]
    refine ⟨_, _, rfl, rfl, _, rfl, iteT' (decide_eq_true (by omega)) ⟨_, _, rfl, rfl, _, rfl, ?_⟩⟩
    rw [show decide ((ws.length : Int) ≤ 4) = true from decide_eq_true (by omega)]
    refine iteF ?_
    refine ⟨_, rfl, a, rfl, ?_⟩
    refine lc_row (ha.mono s1) (fun D j G => Same H1 G ∧ G D = some (.lst ((List.replicate j true).map V.bl))) (fun D hD => ⟨NF.Same.new (Same.refl H1) hD, upd_same⟩) (fun D i G _ z => z.1) ?_ ?_
    · rintro D hD j v G hv ⟨hG, hD2⟩
      have hj := (List.getElem?_eq_some_iff.mp hv).1
      rw [List.length_map] at hj
      obtain rfl : V.ref (as[j]) = v := by
        rw [List.getElem?_map, List.getElem?_eq_getElem hj] at hv
        exact Option.some.inj hv
      have hjw : j < ws.length := by omega
      have hr1 := (hw j as[j] ws[j] (List.getElem?_eq_getElem hj) (List.getElem?_eq_getElem hjw)).mono (Same.trans s1 hG)
      obtain ⟨w1, w2, w3⟩ := g.wy ws[j] (List.getElem_mem hjw)
      have w0 := List.length_pos_iff.mpr w1
      refine ⟨rfl, _, rfl, _, rfl, as[j], n, ws[j], rfl, hr1, w3, by omega, fun G2 s2 => ⟨true, rfl, iteT ?_⟩⟩
      refine ⟨_, rfl, as[j], _, rfl, hr1.mono s2, _, _, rfl, rfl, ?_⟩
      rw [List.length_map]
      refine ⟨_, s2 _ _ hD2, by rw [List.length_map, List.length_replicate]; exact Nat.lt_of_lt_of_le (show j < 10000 by omega) (by decide), NF.Same.mut (Same.trans hG s2) hD, ?_⟩
      rw [upd_same, List.replicate_succ', List.map_append]
      show some (HO.lst (_ ++ [V.bl (decide ((0 : Int) < (ws[j].length : Int)))])) = _
      rw [decide_eq_true (by omega)]
      rfl
    · rintro D hD G ⟨hG, hD2⟩
      refine ⟨D, _, rfl, SqL.of hD2, ?_⟩
      have : (List.replicate ((as.map V.ref).length) true).all id = true := by
        rw [List.all_replicate]
        simp
      rw [this]
      exact q G (Same.trans s1 hG)
theorem ok_check_maker {f : Addr} {fd : FuncData} (F : FunD K "check_maker" "check_maker" (defArgs s_check_maker) (defBody s_check_maker) (defScope s_check_maker) [] [] f fd) (T : Txt K mg gs FS) (h_MOST_INLETS : mg "MOST_INLETS" = some (.int 3 tok_i)) (h_MOST_DEEDS : mg "MOST_DEEDS" = some (.int 600 tok_d)) (h_MOST_DEEDS_OF_SEVERAL : mg "MOST_DEEDS_OF_SEVERAL" = some (.int 24 tok_s)) (c_is_integer : Cal P w K mg base 1 "is_integer" spIsInt) (c_are_deeds : Cal P w K mg base 4 "are_deeds" (spDeeds K)) (c_are_ways : Cal P w K mg base 5 "are_ways" (spWays K)) : FnOk P w K mg base CX0 6 f fd ["inlets", "begin", "ways"] (spCheckM K) := by
  refine F.ok sc_check_maker (fun vs H Q E h => ?_) (fun cdv A outer s H vs Q E hr h => ?_)
  · obtain ⟨pb, pw, n, b, ws, rfl, _⟩ := h
    rfl
  · obtain ⟨pb, pw, n, b, ws, rfl, hb, hw, g, q⟩ := h
    have n1 := g.n1
    have n3 := g.n3
    have m1 := g.m1
    have m4 := g.m4
    have gb := g.bl
    refine ⟨_, PSs.nox (pss_cons (ps_if (PW.pt (pw_or (pt_not (pt_val (pe_c c_is_integer hr (by decide) rfl (pa_cons (pv 0) pa_nil)))) (pw_or1 (pt_not (pt_chain op_le op_le pe_int (pv 0) (pe_glob (v := .int 3) rfl h_MOST_INLETS ⟨_, rfl⟩)))))) (pss_one ps_never) pss_nil) (pss_cons (ps_if (pt_not (pt_val (pe_c c_are_deeds hr (by decide) rfl (pa_cons (pv 1) (pa_cons (pv 0) pa_nil))))) (pss_one ps_never) pss_nil) (pss_cons (ps_if (pt_not (pt_val (pe_c c_are_ways hr (by decide) rfl (pa_cons (pv 2) (pa_cons (pv 0) pa_nil))))) (pss_one ps_never) pss_nil) (pss_cons (ps_set (i := 3) sc_check_maker.nd rfl (Or.inl rfl) (pe_ifExp (pt_cmpR op_eq (pe_callB call_len_seq rfl (T.fr _ (by decide +kernel)) boot_len (pa_cons (pv 2) pa_nil)) pe_int (nomark _)) (pe_glob (v := .int 600) rfl h_MOST_DEEDS ⟨_, rfl⟩) (pe_glob (v := .int 24) rfl h_MOST_DEEDS_OF_SEVERAL ⟨_, rfl⟩))) (pss_one (ps_if (PW.pt (pw_or (pt_cmpR op_gt (pe_callB call_len_seq rfl (T.fr _ (by decide +kernel)) boot_len (pa_cons (pv 1) pa_nil)) (pe_glob (v := .int 600) rfl h_MOST_DEEDS ⟨_, rfl⟩) (nomark _)) (pw_or1 (pt_cmpR op_gt (pe_callB (cr_max rfl) rfl (T.fr _ (by decide +kernel)) (by decide +kernel) (pa_cons (pe_lc (own := [("way", 4)]) rfl sc_check_maker.nd (pi_row (pv 2)) (blkOk_by (N := ["inlets", "begin", "ways", "most", "way"]) (sc := defScope s_check_maker) (by decide +kernel)) (fun _ _ _ _ _ => by exact (pg_name (i := 4) sc_check_maker.nd rfl (Or.inl rfl))) (fun _ _ _ _ _ => by exact pts_nil) (fun _ _ _ _ _ => by exact (pe_callB (call_lenK (K := K)) rfl (T.fr _ (by decide +kernel)) boot_len (pa_cons (pv 4) pa_nil)))) pa_nil)) (pv 3) (nomark _))))) (pss_one ps_never) pss_nil)))))), ?_⟩
    refine ⟨_, rfl, (n : Int), rfl, true, rfl, iteF ?_⟩
    refine ⟨_, rfl, _, _, rfl, rfl, _, rfl, iteT' (decide_eq_true (by omega)) ⟨_, _, rfl, rfl, _, rfl, ?_⟩⟩
    rw [show decide ((n : Int) ≤ 3) = true from decide_eq_true (by omega)]
    refine iteF ?_
    refine ⟨_, rfl, _, rfl, pb, n, b, rfl, hb, g.bd, by omega, fun H1 s1 => ⟨true, rfl, iteF ?_⟩⟩
    refine ⟨_, rfl, _, rfl, pw, n, b, ws, rfl, hw.mono s1, g, fun H2 s2 => ⟨true, rfl, iteF ?_⟩⟩
    have s02 := Same.trans s1 s2
    obtain ⟨as, ha, hl, hws⟩ := hw.mono s02
    refine ⟨_, rfl, pw, _, rfl, ha, rfl, _, rfl, ite2 (fun c1 => ?_) (fun c1 => ?_)⟩
    all_goals
      refine ⟨_, rfl, pb, _, rfl, hb.mono s02, _, _, rfl, rfl, _, rfl, iteF' (decide_eq_false (by rw [List.length_map]; omega)) ?_⟩
      refine ⟨_, rfl, pw, rfl, ?_⟩
      refine lc_row ha (fun D j G => Same H2 G ∧ G D = some (.lst (vI ((ws.take j).map fun v => (v.length : Int))))) (fun D hD => ⟨NF.Same.new (Same.refl H2) hD, upd_same⟩) (fun D i G _ z => z.1) ?_ ?_
      · rintro D hD j v G hv ⟨hG, hD2⟩
        have hj := (List.getElem?_eq_some_iff.mp hv).1
        rw [List.length_map] at hj
        obtain rfl : V.ref (as[j]) = v := by
          rw [List.getElem?_map, List.getElem?_eq_getElem hj] at hv
          exact Option.some.inj hv
        have hjw : j < ws.length := by omega
        have hr1 := (hws j as[j] ws[j] (List.getElem?_eq_getElem hj) (List.getElem?_eq_getElem hjw)).mono hG
        refine ⟨rfl, _, rfl, as[j], _, rfl, hr1, ?_⟩
        rw [List.length_map]
        refine ⟨_, hD2, by rw [vI_len, List.length_map, List.length_take]; exact Nat.lt_of_le_of_lt (show min j ws.length ≤ 4 by omega) (by decide), NF.Same.mut hG hD, ?_⟩
        rw [upd_same, List.take_add_one, List.getElem?_eq_getElem hjw, List.map_append, ← vI_app]
        rfl
      · rintro D hD G ⟨hG, hD2⟩
        rw [List.length_map, hl, List.take_length] at hD2
        refine ⟨D, _, rfl, SqL.of hD2, by rw [List.length_map]; omega, fun m hm _ => ?_⟩
        have e1 : V.int (((as.map V.ref).length : Nat) : Int) = V.int 1 ↔ ws.length = 1 := by
          rw [List.length_map, hl]
          constructor
          · intro z
            injection z with z
            omega
          · intro z
            rw [z]
            rfl
        have m24 : m ≤ 24 ∨ (ws.length = 1 ∧ m ≤ 600) := by
          obtain ⟨v, hv, rfl⟩ := List.mem_map.mp hm
          have := (g.wy v hv).2.1
          omega
        have c2 := fun z => e1.mp (of_decide_eq_true (p := V.int (((as.map V.ref).length : Nat) : Int) = V.int 1) z)
        have c3 := fun z => decide_eq_true (p := V.int (((as.map V.ref).length : Nat) : Int) = V.int 1) (e1.mpr z)
        refine ⟨_, rfl, _, _, rfl, rfl, _, rfl, iteF' (decide_eq_false (by first | omega | (have nn : ¬ ws.length = 1 := fun z => c1 (c3 z); omega))) ?_⟩
        exact q G (Same.trans s02 hG)
end
/-- a maker is made -/
def spMkInit (K : PySem.W.Frag) (C : Addr) : Sp := fun vs H Q _ => ∃ (x dx pb pw : Addr) (n : Nat) (b : List Deed) (ws : List (List Deed)), vs = [.ref x, .int (n : Int), .ref pb, .ref pw] ∧ H x = some (.ins C dx []) ∧ Row K (wo H x) pb (b.map dV) ∧ WaysR K (wo H x) pw ws ∧ GoodM n b ws ∧
  ∀ H', Same (wo H x) H' → MakAt K C H' x n b ws → Q .non H'
def spRoInit (K : PySem.W.Frag) (C : Addr) : Sp := fun vs H Q _ => ∃ (x dx a : Addr) (i : Nat) (ds : List Deed), vs = [.ref x, .ref a, .int (i : Int)] ∧ H x = some (.ins C dx []) ∧ Row K (wo H x) a (ds.map dV) ∧ ds.length ≤ 10000 ∧
  ∀ H', Same (wo H x) H' → RouAt K C H' x i ds → Q .non H'
theorem sc_Maker___init__ : FnScope ["self", "inlets", "begin", "ways", "way"] ["self", "inlets", "begin", "ways"] (defScope s_Maker_init) := ⟨rfl, rfl, rfl, by decide +kernel, rfl, by decide +kernel, by decide +kernel⟩
theorem sc_Round___init__ : FnScope ["self", "deeds", "inlet", "taken", "marks", "deed"] ["self", "deeds", "inlet"] (defScope s_Round_init) := ⟨rfl, rfl, rfl, by decide +kernel, rfl, by decide +kernel, by decide +kernel⟩
theorem mf_eq (n : Nat) (pb pw : Addr) : putF "ways" (.ref pw) (putF "begin" (.ref pb) (putF "inlets" (.int (n : Int)) [])) = mf n pb pw := by rfl
theorem rf_eq (i : Nat) (ds : List Deed) (m : Addr) : putF "marks" (.ref m) (putF "taken" (.int (took i ds : Int)) []) = rf i ds m := by rfl
section
variable {P : Program} {w : World} {K : PySem.W.Frag} {mg : Str → Option Value} {base : Heap} {gs fs : List Str} {C : Addr}
theorem ok_Maker_init {f : Addr} {fd : FuncData} (F : FunD K "__init__" "Maker.__init__" (defArgs s_Maker_init) (defBody s_Maker_init) (defScope s_Maker_init) [] [] f fd) (T : Txt K mg gs FS) (mc : MakC K C) (c_check_maker : Cal P w K mg base 6 "check_maker" (spCheckM K)) : FnOk P w K mg base CX0 7 f fd ["self", "inlets", "begin", "ways"] (spMkInit K C) := by
  refine F.ok sc_Maker___init__ (fun vs H Q E h => ?_) (fun cdv A outer s H vs Q E hr h => ?_)
  · obtain ⟨x, dx, pb, pw, n, b, ws, rfl, _⟩ := h
    rfl
  · obtain ⟨x, dx, pb, pw, n, b, ws, rfl, hx, hb, hw, g, q⟩ := h
    refine ⟨_, PSs.nox (pss_cons (ps_expr (pe_c c_check_maker hr (by decide) rfl (pa_cons (pv 1) (pa_cons (pv 2) (pa_cons (pv 3) pa_nil))))) (pss_cons (ps_fld (pv 0) (pv 1) rfl) (pss_cons (ps_fld (pv 0) (pe_callTy cr_tup rfl (T.fr _ (by decide +kernel)) (by decide +kernel) (pa_cons (pv 2) pa_nil)) rfl) (pss_one (ps_fld (pv 0) (pe_callTy cr_tup rfl (T.fr _ (by decide +kernel)) (by decide +kernel) (pa_cons (pe_lc (own := [("way", 4)]) rfl sc_Maker___init__.nd (pi_row (pv 3)) (blkOk_by (N := ["self", "inlets", "begin", "ways", "way"]) (sc := defScope s_Maker_init) (by decide +kernel)) (fun _ _ _ _ _ => by exact (pg_name (i := 4) sc_Maker___init__.nd rfl (Or.inl rfl))) (fun _ _ _ _ _ => by exact pts_nil) (fun _ _ _ _ _ => by exact (pe_callTy (cr_tupK (K := K)) rfl (T.fr _ (by decide +kernel)) (by decide +kernel) (pa_cons (pv 4) pa_nil)))) pa_nil)) rfl))))), ?_⟩
    have hb0 := hb.mono wo_same'
    have hw0 := hw.mono wo_same'
    refine ⟨_, rfl, _, rfl, _, rfl, pb, pw, n, b, ws, rfl, hb0, hw0, g, fun H1 s1 => ?_⟩
    have sw : Same (wo H x) H1 := Same.trans wo_same' s1
    have hx1 := s1 _ _ hx
    refine ⟨_, rfl, _, rfl, x, C, dx, _, rfl, hx1, mc.cl, mc.ni, (by decide), ?_⟩
    have sw2 := NF.Same.put (o := .ins C dx (putF "inlets" (.int (n : Int)) [])) sw wo_none
    have hx2 := upd_same (H := H1) (a := x) (o := .ins C dx (putF "inlets" (.int (n : Int)) []))
    generalize upd H1 x (.ins C dx (putF "inlets" (.int (n : Int)) [])) = H2 at sw2 hx2
    refine ⟨_, rfl, pb, _, rfl, hb.mono sw2, fun p1 H3 s3 t1 => ?_⟩
    have hx3 := s3 _ _ hx2
    have sw3 := Same.trans sw2 s3
    refine ⟨_, rfl, x, C, dx, _, rfl, hx3, mc.cl, mc.nb, (show 1 < 1000 by decide), ?_⟩
    have sw4 := NF.Same.put (o := .ins C dx (putF "begin" (.ref p1) (putF "inlets" (.int (n : Int)) []))) sw3 wo_none
    have hx4 := upd_same (H := H3) (a := x) (o := .ins C dx (putF "begin" (.ref p1) (putF "inlets" (.int (n : Int)) [])))
    have t1 := SqT.put (o := .ins C dx (putF "begin" (.ref p1) (putF "inlets" (.int (n : Int)) []))) t1 hx3 trivial
    generalize upd H3 x (.ins C dx (putF "begin" (.ref p1) (putF "inlets" (.int (n : Int)) []))) = H4 at sw4 hx4 t1
    obtain ⟨as, ha, hl, hws⟩ := hw.mono sw4
    have m4 := g.m4
    refine ⟨_, rfl, pw, rfl, ?_⟩
    refine lc_row ha (fun D j G => Same H4 G ∧ ∃ bs : List Addr, bs.length = j ∧ G D = some (.lst (bs.map V.ref)) ∧ ∀ (k : Nat) (c : Addr) (v : List Deed), bs[k]? = some c → ws[k]? = some v → SqT K G c (v.map dV)) (fun D hD => ⟨NF.Same.new (Same.refl H4) hD, [], rfl, upd_same, fun k c v e => by simp at e⟩) (fun D i G _ z => z.1) ?_ ?_
    · rintro D hD j v G hv ⟨hG, bs, hbs, hD2, hts⟩
      have hj := (List.getElem?_eq_some_iff.mp hv).1
      rw [List.length_map] at hj
      obtain rfl : V.ref (as[j]) = v := by
        rw [List.getElem?_map, List.getElem?_eq_getElem hj] at hv
        exact Option.some.inj hv
      have hjw : j < ws.length := by omega
      have hr1 := (hws j as[j] ws[j] (List.getElem?_eq_getElem hj) (List.getElem?_eq_getElem hjw)).mono hG
      refine ⟨rfl, _, rfl, as[j], _, rfl, hr1, fun p G2 s2 t2 => ?_⟩
      have hD3 := s2 _ _ hD2
      refine ⟨_, hD3, by rw [List.length_map, hbs]; exact Nat.lt_of_lt_of_le (show j < 10000 by omega) (by decide), NF.Same.mut (Same.trans hG s2) hD, bs ++ [p], by simp [hbs], ?_, fun k c v e1 e2 => ?_⟩
      · rw [upd_same, List.map_append]
        rfl
      · refine SqT.put ?_ hD3 trivial
        rcases Nat.lt_trichotomy k j with h | h | h
        · rw [List.getElem?_append_left (by omega)] at e1
          exact NF.Same.tup s2 (hts k c v e1 e2)
        · subst h
          rw [List.getElem?_append_right (by omega), hbs, Nat.sub_self] at e1
          rw [List.getElem?_eq_getElem hjw] at e2
          cases e1
          cases e2
          exact t2
        · rw [List.getElem?_eq_none (by simp [hbs]; omega)] at e1
          cases e1
    · rintro D hD G ⟨hG, bs, hbs, hD2, hts⟩
      rw [List.length_map, hl] at hbs
      refine ⟨D, _, rfl, .inl (SqL.of hD2), fun p2 G2 s2 t2 => ?_⟩
      have hx5 := s2 _ _ (hG _ _ hx4)
      refine ⟨_, rfl, x, C, dx, _, rfl, hx5, mc.cl, mc.nw, (show 2 < 1000 by decide), ?_⟩
      have sw5 := NF.Same.put (o := .ins C dx (putF "ways" (.ref p2) (putF "begin" (.ref p1) (putF "inlets" (.int (n : Int)) [])))) (Same.trans sw4 (Same.trans hG s2)) wo_none
      refine q _ sw5 ⟨dx, p1, p2, ?_, SqT.put (NF.Same.tup (Same.trans hG s2) t1) hx5 trivial, bs, SqT.put t2 hx5 trivial, hbs, fun k c v e1 e2 => SqT.put (NF.Same.tup s2 (hts k c v e1 e2)) hx5 trivial⟩
      rw [upd_same, ← mf_eq]
theorem ok_Round_init {f : Addr} {fd : FuncData} (F : FunD K "__init__" "Round.__init__" (defArgs s_Round_init) (defBody s_Round_init) (defScope s_Round_init) [] [] f fd) (T : Txt K mg gs FS) (rc : RouC K C) : FnOk P w K mg base CX0 1 f fd ["self", "deeds", "inlet"] (spRoInit K C) := by
  refine F.ok sc_Round___init__ (fun vs H Q E h => ?_) (fun cdv A outer s H vs Q E hr h => ?_)
  · obtain ⟨x, dx, a, i, ds, rfl, _⟩ := h
    rfl
  · obtain ⟨x, dx, a, i, ds, rfl, hx, ha, hl, q⟩ := h
    refine ⟨_, PSs.nox (pss_cons (ps_set (i := 3) sc_Round___init__.nd rfl (Or.inl rfl) pe_int) (pss_cons (ps_set (i := 4) sc_Round___init__.nd rfl (Or.inl rfl) (pe_lst pa_nil)) (pss_cons (ps_for PassesOwn.never rfl (pi_row (pv 1)) (pg_name (i := 5) sc_Round___init__.nd rfl (Or.inl rfl)) (pss_one (ps_if (pt_cmpR op_eq (pv 5) pe_str (nomark _)) (pss_one (ps_expr (pe_bm PySem.F.plainAttrs_list PySem.F.slot_list_append PySem.F.type_list_append mt_append (pv 4) (pa_cons (pv 3) pa_nil)))) (pss_one (ps_if (pt_cmpR op_eq (pv 5) (pv 2) (nomark _)) (pss_one (ps_set (i := 3) sc_Round___init__.nd rfl (Or.inl rfl) (pe_op op_add (pv 3) pe_int))) pss_nil))))) (pss_cons (ps_fld (pv 0) (pv 3) rfl) (pss_one (ps_fld (pv 0) (pe_callTy cr_tup rfl (T.fr _ (by decide +kernel)) (by decide +kernel) (pa_cons (pv 4) pa_nil)) rfl)))))), ?_⟩
    have ha0 := ha.mono wo_same'
    refine ⟨(by show 0 ≤ sizeLine; decide), fun D hD => ?_⟩
    have s1 := NF.Same.new (o := .lst []) (Same.refl H) hD
    have hD1 := upd_same (H := H) (a := D) (o := .lst [])
    have hx1 := s1 _ _ hx
    have hDx : D ≠ x := fun z => by rw [z, hx] at hD; cases hD
    generalize upd H D (.lst []) = H1 at s1 hD1 hx1
    refine ⟨_, rfl, a, rfl, ?_⟩
    refine for_rowM ha0 (fun j σ G => Same H G ∧ G D = some (.lst (vI (ahead i (ds.take j) 0))) ∧ ∃ v : Option V, σ = [some (.ref x), some (.ref a), some (.int (i : Int)), some (.int (took i (ds.take j) : Int)), some (.ref D), v]) ⟨s1, hD1, none, rfl⟩ (fun j σ G z => z.1) ?_ ?_
    · rintro j v σ G hv ⟨sG, hG, v5, rfl⟩
      have hj := (List.getElem?_eq_some_iff.mp hv).1
      rw [List.length_map] at hj
      obtain rfl : dV (ds[j]) = v := by
        rw [List.getElem?_map, List.getElem?_eq_getElem hj] at hv
        exact Option.some.inj hv
      have et : ds.take (j + 1) = ds.take j ++ [ds[j]] := by rw [List.take_add_one, List.getElem?_eq_getElem hj]; rfl
      have al := ahead_len (i := i) (a := ds.take j) (t := 0)
      rw [List.length_take] at al
      refine ⟨_, rfl, dV_scal, _, rfl, ?_⟩
      rw [dV_give]
      generalize ds[j] = d at et
      cases d with
      | none =>
        refine iteT ?_
        refine ⟨_, rfl, .inl ⟨rfl, _, SqL.of hG⟩, _, rfl, D, _, _, rfl, rfl, hG, by rw [vI_len]; exact Nat.lt_of_le_of_lt (show (ahead i (ds.take j) 0).length ≤ 10000 by omega) (by decide), ?_⟩
        refine ⟨NF.Same.mut sG hD, ?_, some (dV none), ?_⟩
        · rw [upd_same, et, ahead_snoc, ← vI_app]
          rfl
        · rw [et, took_snoc]
          rfl
      | some k =>
        refine iteF ?_
        refine ⟨_, rfl, _, rfl, dV_scalI, _, rfl, ?_⟩
        rw [dV_int]
        refine ite2 (fun h => ?_) (fun h => ?_)
        · have h := of_decide_eq_true h
          refine ⟨_, rfl, _, _, rfl, rfl, sG, ?_, some (dV (some k)), ?_⟩
          · rw [et, ahead_snoc]
            exact hG
          · rw [et, took_snoc]
            show _ = [_, _, _, some (V.int ((if k = i then took i (ds.take j) + 1 else took i (ds.take j) : Nat) : Int)), _, _]
            rw [if_pos h]
            rfl
        · have h : ¬ k = i := fun z => h (decide_eq_true z)
          refine ⟨sG, ?_, some (dV (some k)), ?_⟩
          · rw [et, ahead_snoc]
            exact hG
          · rw [et, took_snoc]
            show _ = [_, _, _, some (V.int ((if k = i then took i (ds.take j) + 1 else took i (ds.take j) : Nat) : Int)), _, _]
            rw [if_neg h]
            rfl
    · rintro σ G ⟨sG, hG, v5, rfl⟩
      rw [List.length_map, List.take_length] at hG
      have hx2 := sG _ _ hx
      rw [List.length_map, List.take_length]
      refine ⟨_, rfl, _, rfl, x, C, dx, _, rfl, hx2, rc.cl, rc.nt, (by decide), ?_⟩
      have sw : Same (wo H x) G := Same.trans wo_same' sG
      have sw2 := NF.Same.put (o := .ins C dx (putF "taken" (.int (took i ds : Int)) [])) sw wo_none
      have hx3 := upd_same (H := G) (a := x) (o := .ins C dx (putF "taken" (.int (took i ds : Int)) []))
      have hG3 := (upd_ne (o := .ins C dx (putF "taken" (.int (took i ds : Int)) [])) hDx).trans hG
      generalize upd G x (.ins C dx (putF "taken" (.int (took i ds : Int)) [])) = H3 at sw2 hx3 hG3
      refine ⟨_, rfl, D, _, rfl, .inl (SqL.of hG3), fun p1 H4 s4 t1 => ?_⟩
      have hx4 := s4 _ _ hx3
      refine ⟨_, rfl, x, C, dx, _, rfl, hx4, rc.cl, rc.nm, (show 1 < 1000 by decide), ?_⟩
      refine q _ (NF.Same.put (Same.trans sw2 s4) wo_none) ⟨dx, p1, ?_, SqT.put t1 hx4 trivial⟩
      rw [upd_same, ← rf_eq]
end
end K25
set_option Elab.async false
set_option linter.all false
set_option maxRecDepth 100000
set_option maxHeartbeats 4000000
/-! x != i: an instance of a class with an own == and no != of its own, and an int. -/
namespace NF
open PySem PySem.Spec PyProof.Rows L2 He RZ
section
variable {prog : Program} {w : World} {A : Around} {E : Value → Shared → Prop} {h : Heap} {g : Array GenState} {d : Drawn} {t : Nat} {os : OsState} {C x f : Addr} {b : Value} {B : String} {bm : List Value}
theorem ne_entry_any (X : h.OwnEqNoNe x C f B bm) (room : A.units < cLine) {Q : Fin → Shared → Prop} (run : wpAny (model prog w) A (call (.ref f) [.ref x, b]) (fun r z => ∃ k, r = .bool k ∧ Q (.done (.ret (.bool (!k)))) z) E ⟨h, g, d, t, os⟩) :
    wpAny (model prog w) A (Builtin.«object.__ne__» ⟨[.ref x, b], []⟩) Q E ⟨h, g, d, t, os⟩ := by
  have after : ∀ (r : Value) (z : Shared), (∃ k, r = .bool k ∧ Q (.done (.ret (.bool (!k)))) z) → ∃ k, r = .bool k ∧ Q (.done (.ret (.bool (!k)))) z := fun _ _ q => q
  unfold Builtin.«object.__ne__»
  repeat (first | with_reducible refine wpAny_cRoomFor room ?_ | (refine wpAny_bind (m := callSpecialIfBound? (.ref x) (Str.ofString "__eq__") [b]) (wpAny_callSpecialIfBound?_own X.ownEq (wpAny_mono run (fun r z hz => by
    obtain ⟨k, rfl, q⟩ := hz
    repeat (first | exact q | exact wpAny_pure q | exact wpAny_truthy_bool q | (refine wpAny_bind (m := truthy (.bool _)) (wpAny_truthy_bool ?_)) | wp_step)) fun _ _ e => e))) | wp_step)
theorem try_ne_any (FB : CmpFacts B bm) (X : h.OwnEqNoNe x C f B bm) (room : A.units + 1 < cLine) {Q : Option Value → Shared → Prop} (run : wpAny (model prog w) A.in1 (call (.ref f) [.ref x, b]) (fun r z => ∃ k, r = .bool k ∧ Q (some (.bool (!k))) z) E ⟨h, g, d, t, os⟩) :
    wpAny (model prog w) A (tryCompare (.ref x) "__ne__" b) Q E ⟨h, g, d, t, os⟩ := by
  obtain ⟨ox, of, nm, qn, N, bs, hd, sn, sub, ab, col, dd, k0, k1, k2, k3, k5, nid, mN, yv, e1, e2, e3, e4, _, _, _, _, _, e5⟩ := id X
  simp only [tryCompare]
  have run' := ne_entry_any (A := A.in1) (Q := fun z s' => ∃ k, z = .done (.ret (.bool (!k))) ∧ Q (some (.bool (!k))) s') X room (wpAny_mono run (fun r z hz => by
    obtain ⟨k, rfl, q⟩ := hz
    exact ⟨k, rfl, k, rfl, q⟩) fun _ _ e => e)
  refine wpAny_bind (wpAny_callSpecialIfBound?_inst e1 e2 e3 e4 e5 FB.mro FB.ne (wpAny_call (codeAny_call_builtin FB.ne.plain F.cmpEntry_ne (wpAny_check_slot_inst F.cmpKind_ne F.cmpSplit_ne (F.cmpArgs_ne _ _) FB.hasObject e1 e2 e3 (wpAny_mono run' (fun z s' hz => ?_) fun _ _ e => e)))))
  obtain ⟨k, rfl, q⟩ := hz
  first | exact wpAny_pure q | exact wpAny_pure (wpAny_pure q) | exact ⟨_, rfl, wpAny_pure q⟩ | exact ⟨_, rfl, wpAny_pure (wpAny_pure q)⟩
theorem rich_ne_any {K : PySem.W.Frag} {tb : Value} (FB : CmpFacts B bm) (X : h.OwnEqNoNe x C f B bm) (kin : K.In h) (tyb : PySem.W.Looks (model prog w) h (typeOf b) tb) (nsub : PySem.W.notFirst K C tb = true) (room : A.units + 1 < cLine) {Q : Value → Shared → Prop}
    (run : wpAny (model prog w) A.in1 (call (.ref f) [.ref x, b]) (fun r z => ∃ k, r = .bool k ∧ Q (.bool (!k)) z) E ⟨h, g, d, t, os⟩) : wpAny (model prog w) A (richCompare .NotEq (.ref x) b) Q E ⟨h, g, d, t, os⟩ := by
  have one : wpAny (model prog w) A (tryCompare (.ref x) "__ne__" b) (fun r z => ∃ v, r = some v ∧ Q v z) E ⟨h, g, d, t, os⟩ := try_ne_any FB X room (wpAny_mono run (fun r z hz => by
    obtain ⟨k, rfl, q⟩ := hz
    exact ⟨k, rfl, _, rfl, q⟩) fun _ _ e => e)
  obtain ⟨ox, _, _, _, _, _, _, _, _, _, _, _, _, _, _, _, _, _, _, _, e1, e2, _⟩ := id X
  unfold richCompare
  simp only [oneThing_ref]
  refine wpAny_holding (wpAny_bind (wpAny_cRoomFor (Nat.lt_of_succ_lt room) ?_))
  rw [cmpInfo_NotEq]
  dsimp only
  refine wpAny_bind (wpAny_typeOf_ref e1 ?_)
  rw [e2]
  refine wpAny_bind (tyb.here ?_)
  have fin : wpAny (model prog w) A (tryCompare (.ref x) "__ne__" b) (fun r z => ∃ v, r = some v ∧ Q v z) E ⟨h, g, d, t, os⟩ := one
  split
  · rename_i q
    have sf : PySem.W.subIn K tb (.ref C) = some false := by
      rcases Bool.or_eq_true_iff.mp nsub with z | z
      · rw [beq_iff_eq.mp z] at q
        simp at q
      · exact beq_iff_eq.mp z
    refine wpAny_bind ((PySem.W.looks_subIn kin sf).here ?_)
    simp only [Bool.false_eq_true, if_false]
    exact wpAny_bind (wpAny_mono fin (fun r z hz => by
      obtain ⟨v, rfl, q⟩ := hz
      exact wpAny_pure q) fun _ _ e => e)
  · refine wpAny_bind (wpAny_pure ?_)
    simp only [Bool.false_eq_true, if_false]
    exact wpAny_bind (wpAny_mono fin (fun r z hz => by
      obtain ⟨v, rfl, q⟩ := hz
      exact wpAny_pure q) fun _ _ e => e)
end
/-- x != i, x an instance of C -/
def rNeI (K : PySem.W.Frag) (C : Addr) (sp : Sp) : R2 := fun x y H Q => ∃ a dx fs i, x = .ref a ∧ H a = some (.ins C dx fs) ∧ y = .int i ∧ PySem.W.notFirst K C (.type "int") = true ∧ sp [.ref a, .int i] H (fun v H' => ∃ t, v = .bl t ∧ Q (.bl (!t)) H') E0
theorem op_neI {X : Cx} {k j : Nat} {C : Addr} {sp : Sp} (c : EqC X.prog X.w X.K X.mg X.base k C sp) (hr : Room j X.A) (hk : k + 1 ≤ j) : OpR X (compareOp .NotEq) (rNeI X.K C sp) := by
  obtain ⟨f, fd, ps, F, hs, hf, hp, hb⟩ := c.ex
  intro pins s σ H x y v u Q I rx ry h
  obtain ⟨a, dx, fs, i, rfl, ha, rfl, nf, q⟩ := h
  cases rx
  obtain ⟨mA, O, _⟩ := ins_get I.hok ha
  obtain ⟨od, J, _⟩ := O.look
  obtain ⟨P, Z, p, _⟩ := kit_of I ry (.base (.int i) : TyX X.K H (.int i) (.type "int"))
  obtain ⟨ti, rfl⟩ := id ry
  obtain ⟨nm, qn, N, bs, sn, sub, ab, col, dd, k0, k1, k2, k3, k5, hl, hok, he, hne⟩ := plObjB_ok hp
  have G : s.heap.Ns N (s.heap.nsMap N) := .of_isNs (PySem.W.isNs_of_in I.kIn hok)
  have hr1 := hr.mono hk
  have r2 : Vals [V.ref a, .int i] [Value.ref a, .int i ti] := .cons rfl (.cons ⟨ti, rfl⟩ .nil)
  have n2 := F.len _ _ _ _ q
  have bd := hb s [.ref a, .int i ti] I.kIn (by simpa using n2)
  have run : wpAny (model X.prog X.w) X.A.in1 (call (.ref f) [.ref a, .int i ti]) (fun v s' => ∃ t, v = .bool t ∧ EP X pins σ Q (.bool (!t)) s') X.xe s := by
    refine wpAny_call (codeAny_mono (F.run X.A.in1 X.stack s H ⟨[.ref a, .int i ti], []⟩ [.ref a, .int i ti] [.ref a, .int i] _ E0 hr1.in1 I.env0.in1 (by simpa using bd) r2 q) fun r s' hq => ?_)
    cases r with
    | error e => exact hq.elim
    | ok fl =>
      cases fl with
      | ret z' =>
        obtain ⟨z, H', I', rz, t, ez, q3⟩ := I.after hq
        subst ez
        cases rz
        exact ⟨t, rfl, .bl (!t), H', I', rfl, q3⟩
      | _ => exact hq.elim
  obtain ⟨j1, j2, _⟩ := J
  obtain ⟨of, hfo, hfc⟩ : ∃ of, s.heap.get? f = some of ∧ of.cls = .type "function" := by
    obtain ⟨o, ho, hc⟩ := Option.map_eq_some_iff.mp (beq_iff_eq.mp hf : (X.K.lookup f).map (·.cls) = some (.type "function"))
    exact ⟨o, I.kIn _ _ ho, hc⟩
  have ty : PySem.W.Looks (model X.prog X.w) s.heap (typeOf (.int i ti)) (.type "int") := Z.ty _ _ I.kIn p
  have kin := I.kIn
  have hu : X.A.units + 1 < cLine := by
    have := hr.un
    omega
  obtain ⟨hp', g, d, tk, os⟩ := s
  show wpAny (model X.prog X.w) X.A (richCompare .NotEq (.ref a) (.int i ti)) (EP X pins σ Q) X.xe _
  exact rich_ne_any (B := "object") (bm := [.type "object"]) PySem.F.cmp_object ⟨_, of, nm, qn, N, bs, true, sn, sub, ab, col, dd, k0, k1, k2, k3, k5, "object.__new__", _, _, j1, j2, kin _ _ hl, G, ns_some_of kin G he, hfo, hfc, PySem.F.cmp_object.mro, PySem.F.cmp_object.eq.lookup, PySem.W.ns_none_of kin G hne⟩ kin ty nf hu run
end NF
set_option Elab.async false
set_option linter.all false
set_option maxRecDepth 100000
set_option maxHeartbeats 4000000
namespace K25
open PySem PySem.Spec PyProof.Rows L2 He NF RZ NT
def vNs (ks : List Nat) : List V := ks.map fun k : Nat => V.int (k : Int)
/-- the deeds of these ways, one behind the other -/
def deedsOf (ws : List (List Deed)) (ks : List Nat) : List Deed := (ks.map fun k => ws.getD k []).flatten
def CrsR (K : PySem.W.Frag) (H : Hp) (a : Addr) (fs ts : List Nat) : Prop := ∃ p1 p2, Row K H a [.ref p1, .ref p2] ∧ Row K H p1 (vNs fs) ∧ Row K H p2 (vNs ts)
theorem CrsR.mono {K : PySem.W.Frag} {H H' : Hp} {a : Addr} {fs ts : List Nat} (h : CrsR K H a fs ts) (s : Same H H') : CrsR K H' a fs ts := by
  obtain ⟨p1, p2, h1, h2, h3⟩ := h
  exact ⟨p1, p2, h1.mono s, h2.mono s, h3.mono s⟩
structure CrsOk (m : Nat) (fs ts : List Nat) : Prop where
  f : ∀ k ∈ fs, k < m
  t : ∀ k ∈ ts, k < m
  fl : fs.length ≤ 200
  t1 : 1 ≤ ts.length
  tl : ts.length ≤ 40
def spPair (K : PySem.W.Frag) : Sp := fun vs H Q _ => ∃ (a : Addr) (xs : List V), vs = [.ref a] ∧ Row K H a xs ∧ xs.length = 2 ∧ ∀ H', Same H H' → Q (.bl true) H'
def spNums (K : PySem.W.Frag) : Sp := fun vs H Q _ => ∃ (a : Addr) (ks : List Nat) (lo hi m : Nat), vs = [.ref a, .int (lo : Int), .int (hi : Int), .int (m : Int)] ∧ Row K H a (vNs ks) ∧ lo ≤ ks.length ∧ ks.length ≤ hi ∧ hi ≤ 10000 ∧ (∀ k ∈ ks, k < m) ∧ ∀ H', Same H H' → Q (.bl true) H'
def spCrs (K : PySem.W.Frag) (C : Addr) : Sp := fun vs H Q _ => ∃ (a x : Addr) (n : Nat) (b : List Deed) (ws : List (List Deed)) (fs ts : List Nat), vs = [.ref a, .ref x] ∧ MakAt K C H x n b ws ∧ CrsR K H a fs ts ∧ CrsOk ws.length fs ts ∧ ∀ H', Same H H' → Q (.bl true) H'
def spChkI (K : PySem.W.Frag) (C : Addr) : Sp := fun vs H Q _ => ∃ (x : Addr) (n i : Nat) (b : List Deed) (ws : List (List Deed)), vs = [.ref x, .int (i : Int)] ∧ MakAt K C H x n b ws ∧ i < n ∧ Q .non H
def spMarks (K : PySem.W.Frag) (C : Addr) : Sp := fun vs H Q _ => ∃ (a : Addr) (t i : Nat) (xs : List Addr) (rs : List (List Deed)), vs = [.ref a, .int (t : Int)] ∧ SqL K H a (xs.map V.ref) ∧ xs.length = rs.length ∧ (∀ (j : Nat) (x : Addr) (r : List Deed), xs[j]? = some x → rs[j]? = some r → RouAt K C H x i r) ∧ rs.flatten.length ≤ 10000 ∧
  ∀ p q H', Same H H' → SqT K H' p [.ref q, .int ((t + took i rs.flatten : Nat) : Int)] → H' q = some (.lst (vI (ahead i rs.flatten (t : Int)))) → Q (.ref p) H'
theorem sc_is_pair : FnScope ["thing"] ["thing"] (defScope s_is_pair) := ⟨rfl, rfl, rfl, by decide +kernel, rfl, by decide +kernel, by decide +kernel⟩
theorem sc_are_numbers : FnScope ["thing", "least", "most", "many", "number"] ["thing", "least", "most", "many"] (defScope s_are_numbers) := ⟨rfl, rfl, rfl, by decide +kernel, rfl, by decide +kernel, by decide +kernel⟩
theorem sc_is_course : FnScope ["thing", "maker", "many"] ["thing", "maker"] (defScope s_is_course) := ⟨rfl, rfl, rfl, by decide +kernel, rfl, by decide +kernel, by decide +kernel⟩
theorem sc_check_inlet : FnScope ["maker", "inlet"] ["maker", "inlet"] (defScope s_check_inlet) := ⟨rfl, rfl, rfl, by decide +kernel, rfl, by decide +kernel, by decide +kernel⟩
theorem sc_marks_along : FnScope ["rounds", "taken", "found", "one", "mark"] ["rounds", "taken"] (defScope s_marks_along) := ⟨rfl, rfl, rfl, by decide +kernel, rfl, by decide +kernel, by decide +kernel⟩
section
variable {P : Program} {w : World} {K : PySem.W.Frag} {mg : Str → Option Value} {base : Heap} {gs fs : List Str} {C : Addr} {tok1 tok2 : Tok}
theorem ok_is_pair {f : Addr} {fd : FuncData} (F : FunD K "is_pair" "is_pair" (defArgs s_is_pair) (defBody s_is_pair) (defScope s_is_pair) [] [] f fd) (T : Txt K mg gs FS) (c_is_row : Cal P w K mg base 1 "is_row" (spIsRow K)) : FnOk P w K mg base CX0 2 f fd ["thing"] (spPair K) := by
  refine F.ok sc_is_pair (fun vs H Q E h => ?_) (fun cdv A outer s H vs Q E hr h => ?_)
  · obtain ⟨a, xs, rfl, _⟩ := h
    rfl
  · obtain ⟨a, xs, rfl, ha, hl, q⟩ := h
    refine ⟨_, PSs.nox (pss_one (ps_ret (pe_and (pe_c c_is_row hr (by decide) rfl (pa_cons (pv 0) pa_nil)) (pe_one (pe_cmpR op_eq (pe_callB call_len_seq rfl (T.fr _ (by decide +kernel)) boot_len (pa_cons (pv 0) pa_nil)) pe_int (nomark _)))))), ?_⟩
    refine ⟨_, rfl, a, _, rfl, ha, fun H1 s1 => ⟨true, rfl, iteT ?_⟩⟩
    refine ⟨_, rfl, a, _, rfl, ha.mono s1, rfl, ?_⟩
    rw [hl]
    exact q H1 s1
theorem ok_are_numbers {f : Addr} {fd : FuncData} (F : FunD K "are_numbers" "are_numbers" (defArgs s_are_numbers) (defBody s_are_numbers) (defScope s_are_numbers) [] [] f fd) (T : Txt K mg gs FS) (c_is_row : Cal P w K mg base 1 "is_row" (spIsRow K)) (c_is_count : Cal P w K mg base 2 "is_count" spIsCount) : FnOk P w K mg base CX0 3 f fd ["thing", "least", "most", "many"] (spNums K) := by
  refine F.ok sc_are_numbers (fun vs H Q E h => ?_) (fun cdv A outer s H vs Q E hr h => ?_)
  · obtain ⟨a, ks, lo, hi, m, rfl, _⟩ := h
    rfl
  · obtain ⟨a, ks, lo, hi, m, rfl, ha, h1, h2, h3, ok, q⟩ := h
    refine ⟨_, PSs.nox (pss_cons (ps_if (PW.pt (pw_or (pt_not (pt_val (pe_c c_is_row hr (by decide) rfl (pa_cons (pv 0) pa_nil)))) (pw_or1 (pt_not (pt_chain op_le op_le (pv 1) (pe_callB call_len_seq rfl (T.fr _ (by decide +kernel)) boot_len (pa_cons (pv 0) pa_nil)) (pv 2)))))) (pss_one (ps_ret pe_bl)) pss_nil) (pss_one (ps_ret (pe_callB (cr_all rfl) rfl (T.fr _ (by decide +kernel)) (by decide +kernel) (pa_cons (pe_lc (own := [("number", 4)]) rfl sc_are_numbers.nd (pi_row (pv 0)) (blkOk_by (N := ["thing", "least", "most", "many", "number"]) (sc := defScope s_are_numbers) (by decide +kernel)) (fun _ _ _ _ _ => by exact (pg_name (i := 4) sc_are_numbers.nd rfl (Or.inl rfl))) (fun _ _ _ _ _ => by exact pts_nil) (fun _ _ _ _ _ => by exact (pe_and (pe_c c_is_count hr (by decide) rfl (pa_cons (pv 4) pa_nil)) (pe_one (pe_cmpR op_lt (pv 4) (pv 3) (nomark _)))))) pa_nil))))), ?_⟩
    refine ⟨_, rfl, a, _, rfl, ha, fun H1 s1 => ⟨true, rfl, iteF ?_⟩⟩
    refine ⟨_, rfl, _, rfl, a, _, rfl, ha.mono s1, ?_⟩
    rw [show (vNs ks).length = ks.length from List.length_map ..]
    refine ⟨_, _, rfl, rfl, _, rfl, iteT' (decide_eq_true (by omega)) ⟨_, rfl, _, _, rfl, rfl, _, rfl, ?_⟩⟩
    rw [show decide ((ks.length : Int) ≤ (hi : Int)) = true from decide_eq_true (by omega)]
    refine iteF ?_
    refine ⟨_, rfl, a, rfl, ?_⟩
    refine lc_row (ha.mono s1) (fun D j G => Same H1 G ∧ G D = some (.lst ((List.replicate j true).map V.bl))) (fun D hD => ⟨NF.Same.new (Same.refl H1) hD, upd_same⟩) (fun D i G _ z => z.1) ?_ ?_
    · rintro D hD j v G hv ⟨hG, hD2⟩
      have hj := (List.getElem?_eq_some_iff.mp hv).1
      rw [show (vNs ks).length = ks.length from List.length_map ..] at hj
      obtain rfl : V.int ((ks[j] : Nat) : Int) = v := by
        unfold vNs at hv
        rw [List.getElem?_map, List.getElem?_eq_getElem hj] at hv
        exact Option.some.inj hv
      have km := ok ks[j] (List.getElem_mem hj)
      refine ⟨rfl, _, rfl, _, rfl, decide (0 ≤ ((ks[j] : Nat) : Int)), rfl, ?_⟩
      rw [decide_eq_true (show 0 ≤ ((ks[j] : Nat) : Int) by omega)]
      refine iteT ⟨_, rfl, _, rfl, _, _, rfl, rfl, ?_⟩
      refine ⟨_, hD2, by rw [List.length_map, List.length_replicate]; exact Nat.lt_of_lt_of_le (show j < 10000 by omega) (by decide), NF.Same.mut hG hD, ?_⟩
      rw [upd_same, List.replicate_succ', List.map_append]
      show some (HO.lst (_ ++ [V.bl (decide (((ks[j] : Nat) : Int) < (m : Int)))])) = _
      rw [decide_eq_true (by omega)]
      rfl
    · rintro D hD G ⟨hG, hD2⟩
      refine ⟨D, _, rfl, SqL.of hD2, ?_⟩
      have : (List.replicate ((vNs ks).length) true).all id = true := by
        rw [List.all_replicate]
        simp
      rw [this]
      exact q G (Same.trans s1 hG)
theorem ok_is_course {f : Addr} {fd : FuncData} (F : FunD K "is_course" "is_course" (defArgs s_is_course) (defBody s_is_course) (defScope s_is_course) [] [] f fd) (T : Txt K mg gs FS) (mc : MakC K C) (h_MOST_FIRST : mg "MOST_FIRST" = some (.int 200 tok1)) (h_MOST_THEN : mg "MOST_THEN" = some (.int 40 tok2)) (c_is_pair : Cal P w K mg base 2 "is_pair" (spPair K)) (c_are_numbers : Cal P w K mg base 3 "are_numbers" (spNums K)) : FnOk P w K mg base CX0 4 f fd ["thing", "maker"] (spCrs K C) := by
  refine F.ok sc_is_course (fun vs H Q E h => ?_) (fun cdv A outer s H vs Q E hr h => ?_)
  · obtain ⟨a, x, n, b, ws, fs, ts, rfl, _⟩ := h
    rfl
  · obtain ⟨a, x, n, b, ws, fs, ts, rfl, ⟨dx, pb, pw, hx, hb, as, hw, hl, _⟩, ⟨p1, p2, ha, hp1, hp2⟩, ok, q⟩ := h
    refine ⟨_, PSs.nox (pss_cons (ps_set (i := 2) sc_is_course.nd rfl (Or.inl rfl) (pe_callB call_len_seq rfl (T.fr _ (by decide +kernel)) boot_len (pa_cons (pe_fld (pv 1) rfl) pa_nil))) (pss_one (ps_ret (pe_and (pe_c c_is_pair hr (by decide) rfl (pa_cons (pv 0) pa_nil)) (pe_and (pe_c c_are_numbers hr (by decide) rfl (pa_cons (pe_ix (ixs (K := K)) (pv 0) pe_int fun _ _ => rfl) (pa_cons pe_int (pa_cons (pe_glob (v := .int 200) rfl h_MOST_FIRST ⟨_, rfl⟩) (pa_cons (pv 2) pa_nil))))) (pe_one (pe_c c_are_numbers hr (by decide) rfl (pa_cons (pe_ix (ixs (K := K)) (pv 0) pe_int fun _ _ => rfl) (pa_cons pe_int (pa_cons (pe_glob (v := .int 40) rfl h_MOST_THEN ⟨_, rfl⟩) (pa_cons (pv 2) pa_nil))))))))))), ?_⟩
    refine ⟨_, rfl, x, C, dx, _, _, rfl, hx, mc.cl, mc.nw, rfl, pw, _, rfl, .inr hw, ?_⟩
    rw [List.length_map, hl]
    refine ⟨_, rfl, a, _, rfl, ha, rfl, fun H1 s1 => ⟨true, rfl, iteT ?_⟩⟩
    refine ⟨_, rfl, ?_⟩
    refine ix_done (K := K) (ha.mono s1) (show atI [V.ref p1, V.ref p2] 0 = some (V.ref p1) from rfl) ?_
    refine ⟨_, rfl, p1, fs, 0, 200, ws.length, rfl, hp1.mono s1, Nat.zero_le _, ok.fl, by decide, ok.f, fun H2 s2 => ⟨true, rfl, iteT ?_⟩⟩
    refine ⟨_, rfl, ?_⟩
    have s12 := Same.trans s1 s2
    refine ix_done (K := K) (ha.mono s12) (show atI [V.ref p1, V.ref p2] 1 = some (V.ref p2) from rfl) ?_
    exact ⟨_, rfl, p2, ts, 1, 40, ws.length, rfl, hp2.mono s12, ok.t1, ok.tl, by decide, ok.t, fun H3 s3 => q H3 (Same.trans s12 s3)⟩
theorem ok_check_inlet {f : Addr} {fd : FuncData} (F : FunD K "check_inlet" "check_inlet" (defArgs s_check_inlet) (defBody s_check_inlet) (defScope s_check_inlet) [] [] f fd) (T : Txt K mg gs FS) (mc : MakC K C) (c_is_count : Cal P w K mg base 2 "is_count" spIsCount) : FnOk P w K mg base CX0 3 f fd ["maker", "inlet"] (spChkI K C) := by
  refine F.ok sc_check_inlet (fun vs H Q E h => ?_) (fun cdv A outer s H vs Q E hr h => ?_)
  · obtain ⟨x, n, i, b, ws, rfl, _⟩ := h
    rfl
  · obtain ⟨x, n, i, b, ws, rfl, ⟨dx, pb, pw, hx, hb, hw⟩, hi, q⟩ := h
    refine ⟨_, PSs.nox (pss_one (ps_if (PW.pt (pw_or (pt_not (pt_val (pe_c c_is_count hr (by decide) rfl (pa_cons (pv 1) pa_nil)))) (pw_or1 (pt_cmpR op_ge (pv 1) (pe_fld (pv 0) rfl) (nomark _))))) (pss_one ps_never) pss_nil)), ?_⟩
    refine ⟨_, rfl, (i : Int), rfl, decide (0 ≤ (i : Int)), rfl, ?_⟩
    rw [decide_eq_true (by omega)]
    refine iteF ⟨_, rfl, _, rfl, x, C, dx, _, _, rfl, hx, mc.cl, mc.ni, rfl, _, _, rfl, rfl, _, rfl, iteF' (decide_eq_false (by omega)) ?_⟩
    exact q
theorem ok_marks_along {f : Addr} {fd : FuncData} (F : FunD K "marks_along" "marks_along" (defArgs s_marks_along) (defBody s_marks_along) (defScope s_marks_along) [] [] f fd) (T : Txt K mg gs FS) (rc : RouC K C) : FnOk P w K mg base CX0 1 f fd ["rounds", "taken"] (spMarks K C) := by
  refine F.ok sc_marks_along (fun vs H Q E h => ?_) (fun cdv A outer s H vs Q E hr h => ?_)
  · obtain ⟨a, t, i, xs, rs, rfl, _⟩ := h
    rfl
  · obtain ⟨a, t, i, xs, rs, rfl, ha, hl, hrs, size, q⟩ := h
    refine ⟨_, PSs.nox (pss_cons (ps_set (i := 2) sc_marks_along.nd rfl (Or.inl rfl) (pe_lst pa_nil)) (pss_cons (ps_for PassesOwn.never rfl (pi_list (pv 0)) (pg_name (i := 3) sc_marks_along.nd rfl (Or.inl rfl)) (pss_cons (ps_expr (pe_bm PySem.F.plainAttrs_list PySem.F.slot_list_extend PySem.F.type_list_extend mt_extend (pv 2) (pa_cons (pe_lc (own := [("mark", 4)]) rfl sc_marks_along.nd (pi_tup (pe_fld (pv 3) rfl)) (blkOk_by (N := ["rounds", "taken", "found", "one", "mark"]) (sc := defScope s_marks_along) (by decide +kernel)) (fun _ _ _ _ _ => by exact (pg_name (i := 4) sc_marks_along.nd rfl (Or.inl rfl))) (fun _ _ _ _ _ => by exact pts_nil) (fun _ _ _ _ _ => by exact (pe_op op_add (pv 1) (pv 4)))) pa_nil))) (pss_one (ps_set (i := 1) sc_marks_along.nd rfl (Or.inr rfl) (pe_op op_add (pv 1) (pe_fld (pv 3) rfl)))))) (pss_one (ps_ret (pe_tup (pa_cons (pv 2) (pa_cons (pv 1) pa_nil))))))), ?_⟩
    refine ⟨(by show 0 ≤ sizeLine; decide), fun D hD => ?_⟩
    have s1 := NF.Same.new (o := .lst []) (Same.refl H) hD
    have hD1 := upd_same (H := H) (a := D) (o := .lst [])
    generalize upd H D (.lst []) = H1 at s1 hD1
    refine ⟨_, rfl, a, rfl, ⟨_, L2.Same.seq s1 ha⟩, ?_⟩
    refine for_list (xs := xs.map V.ref) (fun j σ G => Same H G ∧ G D = some (.lst (vI (ahead i (rs.take j).flatten (t : Int)))) ∧ ∃ v3 v4 : Option V, σ = [some (.ref a), some (.int ((t + took i (rs.take j).flatten : Nat) : Int)), some (.ref D), v3, v4]) ⟨s1, hD1, none, none, rfl⟩ (fun j σ G _ z => L2.Same.seq z.1 ha) ?_ ?_
    · rintro j v σ G hv ⟨sG, hG, v3, v4, rfl⟩
      have hj := (List.getElem?_eq_some_iff.mp hv).1
      rw [List.length_map] at hj
      obtain rfl : V.ref (xs[j]) = v := by
        rw [List.getElem?_map, List.getElem?_eq_getElem hj] at hv
        exact Option.some.inj hv
      have hjr : j < rs.length := by omega
      have ro := (hrs j xs[j] rs[j] (List.getElem?_eq_getElem hj) (List.getElem?_eq_getElem hjr)).mono sG
      generalize hr0 : rs[j] = r at ro
      generalize xs[j] = x at ro
      obtain ⟨dx, m, hx, hm⟩ := ro
      have et : (rs.take (j + 1)).flatten = (rs.take j).flatten ++ r := by
        rw [List.take_add_one, List.getElem?_eq_getElem hjr, List.flatten_append, hr0]
        simp
      have sz : (rs.take j).flatten.length + r.length ≤ 10000 := by
        have e : rs.flatten = (rs.take (j + 1)).flatten ++ (rs.drop (j + 1)).flatten := by rw [← List.flatten_append, List.take_append_drop]
        rw [e, et] at size
        rw [List.length_append, List.length_append] at size
        omega
      have a1 := ahead_len (i := i) (a := (rs.take j).flatten) (t := (t : Int))
      have a2 := ahead_len (i := i) (a := r) (t := 0)
      refine ⟨_, rfl, .inl ⟨rfl, _, SqL.of hG⟩, ?_⟩
      refine ⟨_, rfl, x, C, dx, _, _, rfl, hx, rc.cl, rc.nm, rfl, m, rfl, ⟨_, hm⟩, fun B hB => ?_⟩
      have hDB : D ≠ B := ne_of_none hG hB
      refine lc_tup (xs := vI (ahead i r 0)) (fun l G' => Same G G' ∧ G' B = some (.lst (vI (((ahead i r 0).take l).map (((t + took i (rs.take j).flatten : Nat) : Int) + ·))))) ⟨NF.Same.new (Same.refl G) hB, upd_same⟩ (fun l G' _ z => NF.Same.tup z.1 hm) ?_ ?_
      · rintro l v G' hv ⟨sG', hB'⟩
        have hl' := (List.getElem?_eq_some_iff.mp hv).1
        rw [vI_len] at hl'
        obtain rfl : V.int ((ahead i r 0)[l]) = v := by
          unfold vI at hv
          rw [List.getElem?_map, List.getElem?_eq_getElem hl'] at hv
          exact Option.some.inj hv
        refine ⟨rfl, _, rfl, _, rfl, _, _, rfl, rfl, ?_⟩
        refine ⟨_, hB', by rw [vI_len, List.length_map, List.length_take]; exact Nat.lt_of_le_of_lt (show min l (ahead i r 0).length ≤ 10000 by omega) (by decide), NF.Same.mut sG' hB, ?_⟩
        rw [upd_same, List.take_add_one, List.getElem?_eq_getElem hl', List.map_append, ← vI_app]
        rfl
      · rintro G' ⟨sG', hB'⟩
        rw [vI_len, List.take_length] at hB'
        have hG' := sG' _ _ hG
        refine ⟨D, B, _, _, rfl, rfl, hG', hB', ?_, ?_⟩
        · rw [vI_len, vI_len, List.length_map]
          exact Nat.le_trans (show (ahead i (rs.take j).flatten (t : Int)).length + (ahead i r 0).length ≤ 10000 by omega) (by decide)
        · have hx' := (upd_ne (o := .lst (vI (ahead i (rs.take j).flatten (t : Int)) ++ vI ((ahead i r 0).map (((t + took i (rs.take j).flatten : Nat) : Int) + ·)))) (show x ≠ D from fun z => by rw [z, hG] at hx; cases hx)).trans (sG' _ _ hx)
          refine ⟨_, rfl, _, rfl, x, C, dx, _, _, rfl, hx', rc.cl, rc.nt, rfl, _, _, rfl, rfl, ?_⟩
          refine ⟨NF.Same.mut (Same.trans sG sG') hD, ?_, some (.ref x), v4, ?_⟩
          · rw [upd_same, vI_app, et, ahead_app, ← ahead_off]
            rfl
          · rw [et, took_app, ← Nat.add_assoc]
            rfl
    · rintro σ G ⟨sG, hG, v3, v4, rfl⟩
      rw [List.length_map, hl, List.take_length] at hG ⊢
      refine ⟨_, rfl, _, rfl, (by show 2 ≤ sizeLine; decide), fun p hp => ?_⟩
      have s2 := NF.Same.new (o := .tup [V.ref D, V.int ((t + took i rs.flatten : Nat) : Int)]) (Same.refl G) hp
      exact q p D _ (Same.trans sG s2) (SqT.of upd_same) (s2 _ _ hG)
end
/-- the need at an inlet on a course -/
def spNeed (K : PySem.W.Frag) (CT C : Addr) : Sp := fun vs H Q _ => ∃ (x a : Addr) (n i : Nat) (b : List Deed) (ws : List (List Deed)) (fs ts : List Nat), vs = [.ref x, .int (i : Int), .ref a] ∧ MakAt K C H x n b ws ∧ GoodM n b ws ∧ i < n ∧ CrsR K H a fs ts ∧ CrsOk ws.length fs ts ∧ (deedsOf ws fs).length ≤ 4800 ∧ (deedsOf ws ts).length ≤ 1200 ∧
  ∀ y z H', IsPlain (needT i (b ++ deedsOf ws fs) (deedsOf ws ts)).1 (needT i (b ++ deedsOf ws fs) (deedsOf ws ts)).2.1 (needT i (b ++ deedsOf ws fs) (deedsOf ws ts)).2.2 z → Same H H' → TabAt K CT H' y z → Q (.ref y) H'
/-- ==: with another maker, with what is none -/
def spMEq (K : PySem.W.Frag) (C : Addr) : Sp := fun vs H Q _ => ∃ (x : Addr) (n : Nat) (b : List Deed) (ws : List (List Deed)) (v : V), vs = [.ref x, v] ∧ MakAt K C H x n b ws ∧
  ((∃ x2 n2 b2 ws2, v = .ref x2 ∧ MakAt K C H x2 n2 b2 ws2 ∧ Q (.bl (decide ((n, b, ws) = (n2, b2, ws2)))) H) ∨ (∃ t, TyX K H v t ∧ PySem.W.kitOne K t (.ref C) = some false ∧ Q (.bl false) H))
theorem sc_Maker_need : FnScope ["self", "inlet", "course", "rounds", "start", "head", "taken", "loop", "behind", "way", "number"] ["self", "inlet", "course"] (defScope s_Maker_need) := ⟨rfl, rfl, rfl, by decide +kernel, rfl, by decide +kernel, by decide +kernel⟩
theorem sc_Maker___eq__ : FnScope ["self", "other"] ["self", "other"] (defScope s_Maker_eq) := ⟨rfl, rfl, rfl, by decide +kernel, rfl, by decide +kernel, by decide +kernel⟩
theorem deeds_len {ws : List (List Deed)} {ks : List Nat} {B : Nat} (h : ∀ v ∈ ws, v.length ≤ B) : (deedsOf ws ks).length ≤ ks.length * B := by
  unfold deedsOf
  induction ks with
  | nil => simp
  | cons k ks ih =>
    rw [List.map_cons, List.flatten_cons, List.length_append, List.length_cons, Nat.succ_mul]
    have : (ws.getD k []).length ≤ B := by
      by_cases c : k < ws.length
      · rw [List.getD_eq_getElem?_getD, List.getElem?_eq_getElem c]
        exact h _ (List.getElem_mem c)
      · rw [List.getD_eq_getElem?_getD, List.getElem?_eq_none (by omega)]
        exact Nat.zero_le _
    omega
section
variable {P : Program} {w : World} {K : PySem.W.Frag} {mg : Str → Option Value} {base : Heap} {gs fs : List Str} {C CT CR : Addr}
theorem ok_Maker_eq {f : Addr} {fd : FuncData} (F : FunD K "__eq__" "Maker.__eq__" (defArgs s_Maker_eq) (defBody s_Maker_eq) (defScope s_Maker_eq) [] [] f fd) (T : Txt K mg gs FS) (hM : mg "Maker" = some (.ref C)) (mc : MakC K C) : FnOk P w K mg base CX0 1 f fd ["self", "other"] (spMEq K C) := by
  refine F.ok sc_Maker___eq__ (fun vs H Q E h => ?_) (fun cdv A outer s H vs Q E hr h => ?_)
  · obtain ⟨x, n, b, ws, v, rfl, _⟩ := h
    rfl
  · obtain ⟨x, n, b, ws, v, rfl, ⟨dx, pb, pw, hx, hb, hw⟩, q⟩ := h
    have hu : (A.deeper (envOfC "Maker.__eq__" (defScope s_Maker_eq) s.heap.objs.size f cdv)).units + 64 < cLine := by
      have := hr.un
      omega
    refine ⟨_, PSs.nox (pss_one (ps_ret (pe_and (pe_callB call_isi rfl (T.fr _ (by decide +kernel)) (by decide +kernel) (pa_cons (pv 1) (pa_cons (pe_gl hM) pa_nil))) (pe_and (pe_cmpR op_eq (pe_fld (pv 0) rfl) (pe_fld (pv 1) rfl) (nomark _)) (pe_and (pe_cmpR (op_eqD hu) (pe_fld (pv 0) rfl) (pe_fld (pv 1) rfl) (nomark _)) (pe_one (pe_cmpR (op_eqD hu) (pe_fld (pv 0) rfl) (pe_fld (pv 1) rfl) (nomark _)))))))), ?_⟩
    rcases q with ⟨x2, n2, b2, ws2, rfl, ⟨dx2, pb2, pw2, hx2, hb2, hw2⟩, q⟩ | ⟨t, ty, hk, q⟩
    · have tx := mc.ty hx2
      refine ⟨_, rfl, _, _, _, _, true, rfl, .own C, tx, mc.self, true, rfl, iteT ?_⟩
      refine ⟨_, rfl, x, C, dx, _, _, rfl, hx, mc.cl, mc.ni, rfl, _, rfl, x2, C, dx2, _, _, rfl, hx2, mc.cl, mc.ni, rfl, rfl, ?_⟩
      have e0 : decide (V.int (n : Int) = V.int (n2 : Int)) = decide (n = n2) := by
        by_cases z : n = n2
        · subst z
          rw [decide_eq_true rfl, decide_eq_true rfl]
        · rw [decide_eq_false z, decide_eq_false (fun h => z (by injection h with h; omega))]
      show ∃ c, V.bl (decide (V.int (n : Int) = V.int (n2 : Int))) = V.bl c ∧ _
      rw [e0]
      refine ⟨_, rfl, ite2 (fun h1 => ?_) (fun h1 => ?_)⟩
      · have h1 := of_decide_eq_true h1
        refine ⟨_, rfl, x, C, dx, _, _, rfl, hx, mc.cl, mc.nb, rfl, _, rfl, x2, C, dx2, _, _, rfl, hx2, mc.cl, mc.nb, rfl, ?_⟩
        refine eqD_deeds (K := K) hb hb2 ⟨_, rfl, ite2 (fun h2 => ?_) (fun h2 => ?_)⟩
        · have h2 := of_decide_eq_true h2
          refine ⟨_, rfl, x, C, dx, _, _, rfl, hx, mc.cl, mc.nw, rfl, _, rfl, x2, C, dx2, _, _, rfl, hx2, mc.cl, mc.nw, rfl, ?_⟩
          refine eqD_ways (K := K) hw hw2 ?_
          subst h1 h2
          have e : decide ((n, b, ws) = (n, b, ws2)) = decide (ws = ws2) := by
            by_cases z : ws = ws2
            · subst z
              rw [decide_eq_true rfl, decide_eq_true rfl]
            · rw [decide_eq_false z, decide_eq_false (fun h => z (by injection h with h h'; injection h' with h' h''))]
          rw [← e]
          exact q
        · have h2 : ¬ b = b2 := fun z => h2 (decide_eq_true z)
          rw [decide_eq_false (fun h => h2 (by injection h with h h'; injection h' with h' h''))] at q
          exact q
      · have h1 : ¬ n = n2 := fun z => h1 (decide_eq_true z)
        rw [decide_eq_false (fun h => h1 (by injection h with h h'))] at q
        exact q
    · refine ⟨_, rfl, _, _, _, _, false, rfl, .own C, ty, hk, false, rfl, iteF ?_⟩
      exact q
theorem same_made {H H' : Hp} {x dx : Addr} {o o' : HO} (nx : H x = none) (nd : H dx = none) (s : Same (wo (upd (upd H dx o) x o') x) H') : Same H H' := fun b u e =>
  s b u (by rw [wo_ne (ne_of_none e nx), upd_ne (ne_of_none e nx), upd_ne (ne_of_none e nd)]; exact e)
theorem row_made {K : PySem.W.Frag} {H : Hp} {x dx a : Addr} {o o' : HO} {xs : List V} (nx : H x = none) (nd : H dx = none) (h : Row K H a xs) : Row K (upd (upd H dx o) x o') a xs := h.mono fun b u e => by
  rw [upd_ne (ne_of_none e nx), upd_ne (ne_of_none e nd)]
  exact e
theorem same_woM {H : Hp} {x dx : Addr} {o o' : HO} (nx : H x = none) (nd : H dx = none) : Same H (wo (upd (upd H dx o) x o') x) := fun b u e => by
  rw [wo_ne (ne_of_none e nx), upd_ne (ne_of_none e nx), upd_ne (ne_of_none e nd)]
  exact e
theorem at_nat {ks : List Nat} {j : Nat} (h : j < ks.length) : (vNs ks)[j]? = some (V.int ((ks[j] : Nat) : Int)) := by
  unfold vNs
  rw [List.getElem?_map, List.getElem?_eq_getElem h]
  rfl
/-- what a list of chosen rounds is -/
def Chosen (K : PySem.W.Frag) (C : Addr) (G : Hp) (xs : List Addr) (i : Nat) (rs : List (List Deed)) : Prop := xs.length = rs.length ∧ ∀ (j : Nat) (x : Addr) (r : List Deed), xs[j]? = some x → rs[j]? = some r → RouAt K C G x i r
theorem Chosen.mono {G G' : Hp} {xs : List Addr} {i : Nat} {rs : List (List Deed)} (h : Chosen K C G xs i rs) (s : Same G G') : Chosen K C G' xs i rs := ⟨h.1, fun j x r e1 e2 => (h.2 j x r e1 e2).mono s⟩
theorem RouAt.put {G : Hp} {x D : Addr} {i : Nat} {r : List Deed} {l : List V} {o : HO} (h : RouAt K C G x i r) (hD : G D = some (.lst l)) : RouAt K C (upd G D o) x i r := by
  obtain ⟨dx, m, h1, h2⟩ := h
  refine ⟨dx, m, ?_, SqT.put h2 hD trivial⟩
  rw [upd_ne fun z => by rw [z, hD] at h1; cases h1]
  exact h1
theorem ok_Maker_need {f : Addr} {fd : FuncData} (F : FunD K "need" "Maker.need" (defArgs s_Maker_need) (defBody s_Maker_need) (defScope s_Maker_need) [] [] f fd) (T : Txt K mg gs FS) (mc : MakC K C) (rc : RouC K CR) (c_check_inlet : Cal P w K mg base 3 "check_inlet" (spChkI K C)) (c_is_course : Cal P w K mg base 4 "is_course" (spCrs K C)) (c_marks_along : Cal P w K mg base 1 "marks_along" (spMarks K CR)) (m_Round2 : Mak P w K mg base 1 0 "Round" CR (spRoInit K CR) []) (m_Table : Mak P w K mg base 4 0 "Table" CT (spInit K CT) []) : FnOk P w K mg base CX0 6 f fd ["self", "inlet", "course"] (spNeed K CT C) := by
  refine F.ok sc_Maker_need (fun vs H Q E h => ?_) (fun cdv A outer s H vs Q E hr h => ?_)
  · obtain ⟨x, a, n, i, b, ws, fs, ts, rfl, _⟩ := h
    rfl
  · obtain ⟨x, a, n, i, b, ws, fs, ts, rfl, mk, g, hi, cr, ok, l1, l2, q⟩ := h
    refine ⟨_, PSs.nox (pss_cons (ps_expr (pe_c c_check_inlet hr (by decide) rfl (pa_cons (pv 0) (pa_cons (pv 1) pa_nil)))) (pss_cons (ps_if (pt_not (pt_val (pe_c c_is_course hr (by decide) rfl (pa_cons (pv 2) (pa_cons (pv 0) pa_nil))))) (pss_one ps_never) pss_nil) (pss_cons (ps_set (i := 3) sc_Maker_need.nd rfl (Or.inr rfl) (pe_lc (own := [("way", 9)]) rfl sc_Maker_need.nd (pi_tup (pe_fld (pv 0) rfl)) (blkOk_by (N := ["self", "inlet", "course", "rounds", "start", "head", "taken", "loop", "behind", "way", "number"]) (sc := defScope s_Maker_need) (by decide +kernel)) (fun _ _ _ _ _ => by exact (pg_name (i := 9) sc_Maker_need.nd rfl (Or.inl rfl))) (fun _ _ _ _ _ => by exact pts_nil) (fun _ _ _ _ _ => by exact (pe_mk m_Round2 hr (by decide) rfl (pa_cons (pv 9) (pa_cons (pv 1) pa_nil)))))) (pss_cons (ps_set (i := 4) sc_Maker_need.nd rfl (Or.inl rfl) (pe_op op_cat (pe_lst (pa_cons (pe_mk m_Round2 hr (by decide) rfl (pa_cons (pe_fld (pv 0) rfl) (pa_cons (pv 1) pa_nil))) pa_nil)) (pe_lc (own := [("number", 10)]) rfl sc_Maker_need.nd (pi_row (pe_ix (ixs (K := K)) (pv 2) pe_int fun _ _ => rfl)) (blkOk_by (N := ["self", "inlet", "course", "rounds", "start", "head", "taken", "loop", "behind", "way", "number"]) (sc := defScope s_Maker_need) (by decide +kernel)) (fun _ _ _ _ _ => by exact (pg_name (i := 10) sc_Maker_need.nd rfl (Or.inl rfl))) (fun _ _ _ _ _ => by exact pts_nil) (fun _ _ _ _ _ => by exact (pe_ix (ixl (K := K)) (pv 3) (pv 10) fun _ _ => rfl))))) (pss_cons (ps_asg (pe_c c_marks_along hr (by decide) rfl (pa_cons (pv 4) (pa_cons pe_int pa_nil))) (pgt (K := K) (n := 2) rfl rfl (pgs_cons (pg_name (i := 5) sc_Maker_need.nd rfl (Or.inl rfl)) (pgs_cons (pg_name (i := 6) sc_Maker_need.nd rfl (Or.inl rfl)) pgs_nil)))) (pss_cons (ps_asg (pe_c c_marks_along hr (by decide) rfl (pa_cons (pe_lc (own := [("number", 10)]) rfl sc_Maker_need.nd (pi_row (pe_ix (ixs (K := K)) (pv 2) pe_int fun _ _ => rfl)) (blkOk_by (N := ["self", "inlet", "course", "rounds", "start", "head", "taken", "loop", "behind", "way", "number"]) (sc := defScope s_Maker_need) (by decide +kernel)) (fun _ _ _ _ _ => by exact (pg_name (i := 10) sc_Maker_need.nd rfl (Or.inl rfl))) (fun _ _ _ _ _ => by exact pts_nil) (fun _ _ _ _ _ => by exact (pe_ix (ixl (K := K)) (pv 3) (pv 10) fun _ _ => rfl))) (pa_cons (pv 6) pa_nil))) (pgt (K := K) (n := 2) rfl rfl (pgs_cons (pg_name (i := 7) sc_Maker_need.nd rfl (Or.inl rfl)) (pgs_cons (pg_name (i := 8) sc_Maker_need.nd rfl (Or.inl rfl)) pgs_nil)))) (pss_one (ps_ret (pe_mk m_Table hr (by decide) rfl (pa_cons (pv 5) (pa_cons (pv 7) (pa_cons (pe_ifExp (pt_truth (pv 7) (fun _ => rfl)) (pe_op op_sub (pv 8) (pv 6)) pe_int) pa_nil)))))))))))), ?_⟩
    refine ⟨_, rfl, _, rfl, x, n, i, b, ws, rfl, mk, hi, ?_⟩
    refine ⟨_, rfl, _, rfl, a, x, n, b, ws, fs, ts, rfl, mk, cr, ok, fun H1 s1 => ⟨true, rfl, iteF ?_⟩⟩
    have cr := cr.mono s1
    obtain ⟨dx, pb, pw, hx, hb, as, hw, hl, hws⟩ := mk.mono s1
    have m4 := g.m4
    -- the rounds
    refine ⟨_, rfl, x, C, dx, _, _, rfl, hx, mc.cl, mc.nw, rfl, pw, rfl, ⟨_, hw⟩, fun D hD => ?_⟩
    refine lc_tup (xs := as.map V.ref) (fun j G => Same H1 G ∧ ∃ xs : List Addr, G D = some (.lst (xs.map V.ref)) ∧ Chosen K CR G xs i (ws.take j)) ⟨NF.Same.new (Same.refl H1) hD, [], upd_same, rfl, fun j x r e => by simp at e⟩ (fun j G _ z => NF.Same.tup z.1 hw) ?_ ?_
    · rintro j v G hv ⟨sG, xs, hG, ch⟩
      have hj := (List.getElem?_eq_some_iff.mp hv).1
      rw [List.length_map] at hj
      obtain rfl : V.ref (as[j]) = v := by
        rw [List.getElem?_map, List.getElem?_eq_getElem hj] at hv
        exact Option.some.inj hv
      have hjw : j < ws.length := by omega
      have hr1 := NF.Same.tup sG (hws j as[j] ws[j] (List.getElem?_eq_getElem hj) (List.getElem?_eq_getElem hjw))
      obtain ⟨w1, w2, w3⟩ := g.wy ws[j] (List.getElem_mem hjw)
      have xl : xs.length = j := by
        rw [ch.1, List.length_take]
        omega
      refine ⟨rfl, _, rfl, _, rfl, ?_⟩
      intro y dy ny nd ne
      refine ⟨y, dy, as[j], i, ws[j], rfl, upd_same, .inr (NF.Same.tup (same_woM ny nd) hr1), by omega, fun G2 s2 ro => ⟨rfl, ?_⟩⟩
      have s3 : Same G G2 := Same.trans (same_woM ny nd) s2
      have hG2 := s3 _ _ hG
      refine ⟨_, hG2, by rw [List.length_map, xl]; exact Nat.lt_of_lt_of_le (show j < 10000 by omega) (by decide), NF.Same.mut (Same.trans sG s3) hD, xs ++ [y], ?_, ?_, fun k z r e1 e2 => ?_⟩
      · rw [upd_same, List.map_append]
        rfl
      · rw [List.length_append, xl, List.length_take]
        show j + 1 = _
        omega
      · refine RouAt.put ?_ hG2
        rw [List.getElem?_take] at e2
        rcases Nat.lt_trichotomy k j with h | h | h
        · rw [List.getElem?_append_left (by omega)] at e1
          rw [if_pos (by omega)] at e2
          exact (ch.2 k z r e1 (by rw [List.getElem?_take, if_pos h]; exact e2)).mono s3
        · subst h
          rw [List.getElem?_append_right (by omega), xl, Nat.sub_self] at e1
          rw [if_pos (by omega), List.getElem?_eq_getElem hjw] at e2
          cases e1
          cases e2
          exact ro
        · rw [if_neg (by omega)] at e2
          cases e2
    · rintro G ⟨sG, rs, hG, ch⟩
      rw [List.length_map, hl, List.take_length] at ch
      have hx2 := sG _ _ hx
      have hb2 := NF.Same.tup sG hb
      have gb := g.bl
      have okfl := ok.fl
      have oktl := ok.tl
      -- the beginning
      refine ⟨_, rfl, x, C, dx, _, _, rfl, hx2, mc.cl, mc.nb, rfl, _, rfl, ?_⟩
      intro y dy ny nd ne
      refine ⟨y, dy, pb, i, b, rfl, upd_same, .inr (NF.Same.tup (same_woM ny nd) hb2), by omega, fun G2 s2 ro => ⟨rfl, ?_⟩⟩
      have s3 : Same G G2 := Same.trans (same_woM ny nd) s2
      refine ⟨(by show 1 ≤ sizeLine; decide), fun q1 hq1 => ?_⟩
      have s4 := NF.Same.new (o := .lst [V.ref y]) (Same.refl G2) hq1
      have hq1' := upd_same (H := G2) (a := q1) (o := .lst [V.ref y])
      have ro := ro.mono s4
      have sA := Same.trans s3 s4
      generalize upd G2 q1 (.lst [V.ref y]) = G3 at s4 hq1' ro sA
      have hD3 := sA _ _ hG
      have ch3 := ch.mono sA
      obtain ⟨p1, p2, ha, hp1, hp2⟩ := cr.mono (Same.trans sG sA)
      refine ⟨_, rfl, ?_⟩
      refine ix_done (K := K) ha (show atI [V.ref p1, V.ref p2] 0 = some (V.ref p1) from rfl) ?_
      refine ⟨p1, rfl, ?_⟩
      refine lc_row hp1 (fun B j G' => Same G3 G' ∧ ∃ ys : List Addr, G' B = some (.lst (ys.map V.ref)) ∧ Chosen K CR G' ys i ((fs.map fun k => ws.getD k []).take j)) (fun B hB => ⟨NF.Same.new (Same.refl G3) hB, [], upd_same, rfl, fun j x r e => by simp at e⟩) (fun B j G' _ z => z.1) ?_ ?_
      · rintro B hB j v G' hv ⟨sG', ys, hB', ch'⟩
        have hj := (List.getElem?_eq_some_iff.mp hv).1
        rw [show (vNs fs).length = fs.length from List.length_map ..] at hj
        rw [at_nat hj] at hv
        obtain rfl := Option.some.inj hv
        have km := ok.f fs[j] (List.getElem_mem hj)
        have rl : fs[j] < rs.length := by rw [ch.1]; exact km
        have yl : ys.length = j := by
          rw [ch'.1, List.length_take, List.length_map]
          omega
        have hD' := sG' _ _ hD3
        refine ⟨rfl, _, rfl, _, rfl, D, _, _, _, rfl, rfl, SqL.of hD', atI_nat (by rw [List.getElem?_map, List.getElem?_eq_getElem rl]; rfl), ?_⟩
        have ro := (ch3.2 fs[j] rs[fs[j]] ws[fs[j]] (List.getElem?_eq_getElem rl) (List.getElem?_eq_getElem km)).mono sG'
        refine ⟨_, hB', by rw [List.length_map, yl]; exact Nat.lt_of_lt_of_le (show j < 10000 by have := okfl; omega) (by decide), NF.Same.mut sG' hB, ys ++ [rs[fs[j]]], ?_, ?_, fun k z r e1 e2 => ?_⟩
        · rw [upd_same, List.map_append]
          rfl
        · rw [List.length_append, yl, List.length_take, List.length_map]
          show j + 1 = _
          omega
        · refine RouAt.put ?_ hB'
          rw [List.getElem?_take] at e2
          rcases Nat.lt_trichotomy k j with h | h | h
          · rw [List.getElem?_append_left (by omega)] at e1
            rw [if_pos (by omega)] at e2
            exact ch'.2 k z r e1 (by rw [List.getElem?_take, if_pos h]; exact e2)
          · subst h
            rw [List.getElem?_append_right (by omega), yl, Nat.sub_self] at e1
            rw [if_pos (by omega), List.getElem?_map, List.getElem?_eq_getElem hj] at e2
            cases e1
            cases e2
            show RouAt K CR G' _ i (ws.getD _ [])
            rw [List.getD_eq_getElem?_getD, List.getElem?_eq_getElem km]
            exact ro
          · rw [if_neg (by omega)] at e2
            cases e2
      rintro B hB G4 ⟨sB, ys, hB4, ch4⟩
      rw [show (vNs fs).length = fs.length from List.length_map .., show (fs.map fun k => ws.getD k []).take fs.length = fs.map fun k => ws.getD k [] by rw [List.take_of_length_le (by simp)]] at ch4
      have hq14 := sB _ _ hq1'
      have yl : ys.length = fs.length := by rw [ch4.1, List.length_map]
      refine ⟨q1, B, _, _, rfl, rfl, hq14, hB4, (by rw [List.length_map, yl]; exact Nat.le_trans (show 1 + fs.length ≤ 201 by omega) (by decide)), fun q3 hq3 => ?_⟩
      have s5 := NF.Same.new (o := .lst ([V.ref y] ++ ys.map V.ref)) (Same.refl G4) hq3
      have hq3' := upd_same (H := G4) (a := q3) (o := .lst ([V.ref y] ++ ys.map V.ref))
      generalize upd G4 q3 (.lst ([V.ref y] ++ ys.map V.ref)) = G5 at s5 hq3'
      have sC := Same.trans sB s5
      refine ⟨_, rfl, q3, 0, i, y :: ys, b :: (fs.map fun k => ws.getD k []), rfl, SqL.of hq3', by rw [List.length_cons, List.length_cons, ch4.1], fun j z r e1 e2 => ?_, ?_, fun p h1 G6 s6 tp hh => ?_⟩
      · cases j with
        | zero =>
          cases e1
          cases e2
          exact ro.mono sC
        | succ j => exact (ch4.2 j z r (by simpa using e1) (by simpa using e2)).mono s5
      · show (b ++ deedsOf ws fs).length ≤ 10000
        rw [List.length_append]
        omega
      have tp : SqT K G6 p [V.ref h1, V.int ((0 + took i (b ++ deedsOf ws fs) : Nat) : Int)] := tp
      have hh : G6 h1 = some (.lst (vI (ahead i (b ++ deedsOf ws fs) 0))) := hh
      refine ⟨p, _, rfl, tp, rfl, _, _, rfl, ?_⟩
      refine ⟨_, _, rfl, ?_⟩
      refine ⟨rfl, ?_⟩
      have sD := Same.trans sC s6
      have hD6 := sD _ _ hD3
      have ch6 := ch3.mono sD
      have ha6 := ha.mono sD
      have hp6 := hp2.mono sD
      refine ⟨_, rfl, ?_⟩
      refine ix_done (K := K) ha6 (show atI [V.ref p1, V.ref p2] 1 = some (V.ref p2) from rfl) ?_
      refine ⟨p2, rfl, ?_⟩
      refine lc_row hp6 (fun B j G' => Same G6 G' ∧ ∃ ys : List Addr, G' B = some (.lst (ys.map V.ref)) ∧ Chosen K CR G' ys i ((ts.map fun k => ws.getD k []).take j)) (fun B hB => ⟨NF.Same.new (Same.refl G6) hB, [], upd_same, rfl, fun j x r e => by simp at e⟩) (fun B j G' _ z => z.1) ?_ ?_
      · rintro B hB j v G' hv ⟨sG', ys, hB', ch'⟩
        have hj := (List.getElem?_eq_some_iff.mp hv).1
        rw [show (vNs ts).length = ts.length from List.length_map ..] at hj
        rw [at_nat hj] at hv
        obtain rfl := Option.some.inj hv
        have km := ok.t ts[j] (List.getElem_mem hj)
        have rl : ts[j] < rs.length := by rw [ch.1]; exact km
        have yl : ys.length = j := by
          rw [ch'.1, List.length_take, List.length_map]
          omega
        have hD' := sG' _ _ hD6
        refine ⟨rfl, _, rfl, _, rfl, D, _, _, _, rfl, rfl, SqL.of hD', atI_nat (by rw [List.getElem?_map, List.getElem?_eq_getElem rl]; rfl), ?_⟩
        have ro := (ch6.2 ts[j] rs[ts[j]] ws[ts[j]] (List.getElem?_eq_getElem rl) (List.getElem?_eq_getElem km)).mono sG'
        refine ⟨_, hB', by rw [List.length_map, yl]; exact Nat.lt_of_lt_of_le (show j < 10000 by have := oktl; omega) (by decide), NF.Same.mut sG' hB, ys ++ [rs[ts[j]]], ?_, ?_, fun k z r e1 e2 => ?_⟩
        · rw [upd_same, List.map_append]
          rfl
        · rw [List.length_append, yl, List.length_take, List.length_map]
          show j + 1 = _
          omega
        · refine RouAt.put ?_ hB'
          rw [List.getElem?_take] at e2
          rcases Nat.lt_trichotomy k j with h | h | h
          · rw [List.getElem?_append_left (by omega)] at e1
            rw [if_pos (by omega)] at e2
            exact ch'.2 k z r e1 (by rw [List.getElem?_take, if_pos h]; exact e2)
          · subst h
            rw [List.getElem?_append_right (by omega), yl, Nat.sub_self] at e1
            rw [if_pos (by omega), List.getElem?_map, List.getElem?_eq_getElem hj] at e2
            cases e1
            cases e2
            show RouAt K CR G' _ i (ws.getD _ [])
            rw [List.getD_eq_getElem?_getD, List.getElem?_eq_getElem km]
            exact ro
          · rw [if_neg (by omega)] at e2
            cases e2
      rintro B2 hB2 G7 ⟨sE, zs, hB7, ch7⟩
      rw [show (vNs ts).length = ts.length from List.length_map .., show (ts.map fun k => ws.getD k []).take ts.length = ts.map fun k => ws.getD k [] by rw [List.take_of_length_le (by simp)]] at ch7
      refine ⟨_, rfl, B2, 0 + took i (b ++ deedsOf ws fs), i, zs, ts.map fun k => ws.getD k [], rfl, SqL.of hB7, ch7.1, ch7.2, (by show (deedsOf ws ts).length ≤ 10000; omega), fun p7 h2 G8 s8 tp8 hh8 => ?_⟩
      have tp8 : SqT K G8 p7 [V.ref h2, V.int ((0 + took i (b ++ deedsOf ws fs) + took i (deedsOf ws ts) : Nat) : Int)] := tp8
      have hh8 : G8 h2 = some (.lst (vI (ahead i (deedsOf ws ts) ((0 + took i (b ++ deedsOf ws fs) : Nat) : Int)))) := hh8
      rw [Nat.zero_add] at tp8 hh8
      refine ⟨p7, _, rfl, tp8, rfl, _, _, rfl, ?_⟩
      refine ⟨_, _, rfl, ?_⟩
      refine ⟨rfl, ?_⟩
      have hh1 := s8 _ _ (sE _ _ hh)
      have sF : Same H G8 := Same.trans s1 (Same.trans sG (Same.trans sA (Same.trans sD (Same.trans sE s8))))
      have gd := needT_good i (b ++ deedsOf ws fs) (deedsOf ws ts)
      have n1 := ahead_len (i := i) (a := b ++ deedsOf ws fs) (t := 0)
      have n2 := ahead_len (i := i) (a := deedsOf ws ts) (t := (took i (b ++ deedsOf ws fs) : Int))
      rw [List.length_append] at n1
      have fin : ∀ r : Int, r = (needT i (b ++ deedsOf ws fs) (deedsOf ws ts)).2.2 → tMake CT (spInit K CT) [] E0 (fun _ G' R => R [V.ref h1, V.ref h2, V.int r] G') [] G8 fun v G' => Q v G' := fun r er => by
        intro y dy ny nd ne
        subst er
        exact ⟨y, dy, h1, h2, (needT i (b ++ deedsOf ws fs) (deedsOf ws ts)).1, (needT i (b ++ deedsOf ws fs) (deedsOf ws ts)).2.1, _, rfl, upd_same, row_made ny nd (.inl (SqL.of hh1)), row_made ny nd (.inl (SqL.of hh8)), gd, (by show (ahead i _ 0).length + (ahead i _ _).length ≤ 10000; omega), fun z H' hz s tb => ⟨rfl, q y z H' hz (Same.trans sF (same_made ny nd s)) tb⟩⟩
      refine ⟨_, rfl, _, rfl, _, rfl, _, tru_row (.inl (SqL.of hh8)), ?_⟩
      by_cases e : ahead i (deedsOf ws ts) (took i (b ++ deedsOf ws fs) : Int) = []
      · rw [show (!(ahead i (deedsOf ws ts) (took i (b ++ deedsOf ws fs) : Int)).isEmpty) = false by rw [e]; rfl]
        refine iteF ?_
        exact fin 0 (if_pos e).symm
      · rw [ne_nil e]
        refine iteT ?_
        refine ⟨_, rfl, _, rfl, _, _, rfl, rfl, ?_⟩
        refine fin _ ?_
        show _ = if _ then _ else _
        rw [if_neg e]
        omega
end
end K25
set_option linter.all false
set_option maxHeartbeats 4000000
/-! Cheapest totals of rounds: ways G, each gives m pieces and costs d. Plain Lean. -/
namespace NT
/-- the least of a set of numbers, none if there is none -/
def MinOf (S : Int → Prop) : Option Int → Prop
  | none => ∀ c, ¬ S c
  | some u => S u ∧ ∀ c, S c → u ≤ c
theorem MinOf.one {S : Int → Prop} {a b : Option Int} (h : MinOf S a) (k : MinOf S b) : a = b := by
  cases a with
  | none => cases b with
    | none => rfl
    | some v => exact absurd k.1 (h v)
  | some u => cases b with
    | none => exact absurd h.1 (k u)
    | some v =>
      have h1 := h.2 v k.1
      have h2 := k.2 u h.1
      rw [show u = v by omega]
theorem MinOf.congr {S T : Int → Prop} {o : Option Int} (h : MinOf S o) (e : ∀ c, S c ↔ T c) : MinOf T o := by
  cases o with
  | none => exact fun c t => h c ((e c).mpr t)
  | some u => exact ⟨(e u).mp h.1, fun c t => h.2 c ((e c).mpr t)⟩
/-- the lesser of what was found and one more -/
def rlx (o : Option Int) (v : Int) : Option Int := match o with
  | none => some v
  | some u => if v < u then some v else some u
/-- whether one more is less than what was found -/
def less (v : Int) : Option Int → Bool
  | none => true
  | some u => decide (v < u)
theorem rlx_less (o : Option Int) (v : Int) : rlx o v = if less v o = true then some v else o := by
  cases o with
  | none => rfl
  | some u =>
    show (if v < u then some v else some u) = if decide (v < u) = true then some v else some u
    by_cases h : v < u
    · rw [if_pos h, if_pos (decide_eq_true h)]
    · rw [if_neg h, if_neg (by simp [h])]
theorem MinOf.push {S T : Int → Prop} {o : Option Int} {v : Int} (h : MinOf S o) (t : T v ∧ ∀ c, T c → v ≤ c) : MinOf (fun c => S c ∨ T c) (rlx o v) := by
  cases o with
  | none => exact ⟨.inr t.1, fun c hc => hc.elim (fun z => absurd z (h c)) (t.2 c)⟩
  | some u =>
    show MinOf _ (if v < u then some v else some u)
    by_cases e : v < u
    · rw [if_pos e]
      exact ⟨.inr t.1, fun c hc => hc.elim (fun z => by have := h.2 c z; omega) (t.2 c)⟩
    · rw [if_neg e]
      exact ⟨.inl h.1, fun c hc => hc.elim (h.2 c) fun z => by have := t.2 c z; omega⟩
theorem MinOf.skip {S T : Int → Prop} {o : Option Int} (h : MinOf S o) (t : ∀ c, ¬ T c) : MinOf (fun c => S c ∨ T c) o :=
  h.congr fun c => ⟨.inl, fun z => z.elim id fun y => absurd y (t c)⟩
theorem MinOf.shift {S : Int → Prop} {u : Int} (h : MinOf S (some u)) (d : Int) : (∃ c, S c ∧ u + d = c + d) ∧ ∀ c, (∃ c', S c' ∧ c = c' + d) → u + d ≤ c :=
  ⟨⟨u, h.1, rfl⟩, fun c ⟨c', hc, e⟩ => by have := h.2 c' hc; omega⟩
/-- finitely many sets with a least number have one together -/
theorem min_any {α : Type} (S : α → Int → Prop) : ∀ l : List α, (∀ a ∈ l, ∃ o, MinOf (S a) o) → ∃ o, MinOf (fun c => ∃ a ∈ l, S a c) o
  | [], _ => ⟨none, fun c ⟨a, h, _⟩ => nomatch h⟩
  | a :: l, h => by
    obtain ⟨o1, h1⟩ := h a List.mem_cons_self
    obtain ⟨o2, h2⟩ := min_any S l fun b hb => h b (List.mem_cons_of_mem _ hb)
    have e : ∀ c, ((∃ b ∈ l, S b c) ∨ S a c) ↔ ∃ b ∈ a :: l, S b c := fun c => by simp [or_comm]
    cases o1 with
    | none => exact ⟨o2, (h2.skip h1).congr e⟩
    | some v => exact ⟨rlx o2 v, (h2.push h1).congr e⟩
/-! ### rounds -/
/-- rounds of these ways that give g pieces in all and cost c -/
def Rch (G : List Nat) (m : Nat → Nat) (d : Nat → Int) (g : Nat) (c : Int) : Prop := ∃ ks : List Nat, (∀ k ∈ ks, k ∈ G) ∧ (ks.map m).sum = g ∧ (ks.map d).sum = c
section
variable {G : List Nat} {m : Nat → Nat} {d : Nat → Int}
theorem rch_nil : Rch G m d 0 0 := ⟨[], by simp, rfl, rfl⟩
theorem rch_step {g k : Nat} {c : Int} (h : Rch G m d g c) (hk : k ∈ G) : Rch G m d (g + m k) (c + d k) := by
  obtain ⟨ks, h1, h2, h3⟩ := h
  exact ⟨k :: ks, fun j hj => (List.mem_cons.mp hj).elim (fun z => z ▸ hk) (h1 j), by rw [List.map_cons, List.sum_cons, h2]; omega, by rw [List.map_cons, List.sum_cons, h3]; omega⟩
theorem rch_inv {g : Nat} {c : Int} (h : Rch G m d g c) : (g = 0 ∧ c = 0) ∨ ∃ k ∈ G, ∃ g' c', Rch G m d g' c' ∧ g = g' + m k ∧ c = c' + d k := by
  obtain ⟨ks, h1, h2, h3⟩ := h
  cases ks with
  | nil => exact .inl ⟨h2.symm, h3.symm⟩
  | cons k ks => exact .inr ⟨k, h1 k List.mem_cons_self, _, _, ⟨ks, fun j hj => h1 j (List.mem_cons_of_mem _ hj), rfl, rfl⟩, by rw [← h2, List.map_cons, List.sum_cons]; omega, by rw [← h3, List.map_cons, List.sum_cons]; omega⟩
theorem rch_min (hm : ∀ k ∈ G, 1 ≤ m k) : ∀ g, ∃ o, MinOf (Rch G m d g) o := by
  intro g
  induction g using Nat.strongRecOn with
  | ind g ih =>
    have h : ∀ k ∈ G, ∃ o, MinOf (fun c => ∃ g' c', Rch G m d g' c' ∧ g = g' + m k ∧ c = c' + d k) o := fun k hk => by
      have k1 := hm k hk
      by_cases e : m k ≤ g
      · obtain ⟨o, ho⟩ := ih (g - m k) (by omega)
        cases o with
        | none => exact ⟨none, fun c ⟨g', c', r, e1, e2⟩ => ho c' (by rw [show g - m k = g' by omega]; exact r)⟩
        | some u => exact ⟨some (u + d k), ⟨_, u, ho.1, by omega, rfl⟩, fun c ⟨g', c', r, e1, e2⟩ => by
            have := ho.2 c' (by rw [show g - m k = g' by omega]; exact r)
            omega⟩
      · exact ⟨none, fun c ⟨g', c', r, e1, e2⟩ => by omega⟩
    obtain ⟨o, ho⟩ := min_any (fun k c => ∃ g' c', Rch G m d g' c' ∧ g = g' + m k ∧ c = c' + d k) G h
    by_cases z : g = 0
    · subst z
      refine ⟨some 0, rch_nil, fun c hc => ?_⟩
      rcases rch_inv hc with ⟨_, rfl⟩ | ⟨k, hk, g', c', _, e, _⟩
      · exact Int.le_refl _
      · have := hm k hk
        omega
    · exact ⟨o, ho.congr fun c => ⟨fun ⟨k, hk, g', c', r, e1, e2⟩ => by rw [e1, e2]; exact rch_step r hk, fun r => (rch_inv r).elim (fun y => absurd y.1 z) id⟩⟩
/-! ### found out step by step -/
/-- rounds whose last one was looked at: ways behind fewer than B pieces, and the first j of those behind B -/
def Psh (G : List Nat) (m : Nat → Nat) (d : Nat → Int) (B j h : Nat) (c : Int) : Prop := (h = 0 ∧ c = 0) ∨ ∃ idx k g' c', G[idx]? = some k ∧ (g' < B ∨ (g' = B ∧ idx < j)) ∧ Rch G m d g' c' ∧ h = g' + m k ∧ c = c' + d k
theorem psh_zero (h : Nat) : MinOf (Psh G m d 0 0 h) (if h = 0 then some 0 else none) := by
  by_cases z : h = 0
  · rw [if_pos z]
    exact ⟨.inl ⟨z, rfl⟩, fun c hc => by
      rcases hc with ⟨_, rfl⟩ | ⟨_, _, g', _, _, h1, _⟩
      · exact Int.le_refl _
      · omega⟩
  · rw [if_neg z]
    exact fun c hc => by
      rcases hc with ⟨h0, _⟩ | ⟨_, _, g', _, _, h1, _⟩
      · exact z h0
      · omega
theorem psh_done (hm : ∀ k ∈ G, 1 ≤ m k) {B j h : Nat} (hb : h ≤ B) (c : Int) : Psh G m d B j h c ↔ Rch G m d h c := by
  constructor
  · rintro (⟨rfl, rfl⟩ | ⟨idx, k, g', c', e, _, r, rfl, rfl⟩)
    · exact rch_nil
    · exact rch_step r (List.mem_of_getElem? e)
  · intro r
    rcases rch_inv r with ⟨h0, c0⟩ | ⟨k, hk, g', c', r', e1, e2⟩
    · exact .inl ⟨h0, c0⟩
    · obtain ⟨idx, hi, e⟩ := List.mem_iff_getElem.mp hk
      have := hm k hk
      exact .inr ⟨idx, k, g', c', by rw [List.getElem?_eq_getElem hi, e], .inl (by omega), r', e1, e2⟩
theorem psh_next {B h : Nat} (c : Int) : Psh G m d B G.length h c ↔ Psh G m d (B + 1) 0 h c := by
  constructor
  · rintro (z | ⟨idx, k, g', c', e, lt, r⟩)
    · exact .inl z
    · exact .inr ⟨idx, k, g', c', e, .inl (by omega), r⟩
  · rintro (z | ⟨idx, k, g', c', e, lt, r⟩)
    · exact .inl z
    · have hi := (List.getElem?_eq_some_iff.mp e).1
      exact .inr ⟨idx, k, g', c', e, by omega, r⟩
theorem psh_none {B j h : Nat} (n : MinOf (Rch G m d B) none) (c : Int) : Psh G m d B j h c ↔ Psh G m d (B + 1) 0 h c := by
  constructor
  · rintro (z | ⟨idx, k, g', c', e, lt, r⟩)
    · exact .inl z
    · exact .inr ⟨idx, k, g', c', e, .inl (by omega), r⟩
  · rintro (z | ⟨idx, k, g', c', e, lt, r, r2⟩)
    · exact .inl z
    · refine .inr ⟨idx, k, g', c', e, .inl ?_, r, r2⟩
      by_cases h : g' = B
      · rw [h] at r
        exact absurd r (n c')
      · omega
theorem psh_step {B j k h : Nat} (e : G[j]? = some k) (c : Int) : Psh G m d B (j + 1) h c ↔ (Psh G m d B j h c ∨ (h = B + m k ∧ ∃ c', Rch G m d B c' ∧ c = c' + d k)) := by
  constructor
  · rintro (z | ⟨idx, k', g', c', e', lt, r, e1, e2⟩)
    · exact .inl (.inl z)
    · by_cases y : g' = B ∧ idx = j
      · obtain ⟨rfl, rfl⟩ := y
        rw [e] at e'
        cases e'
        exact .inr ⟨e1, c', r, e2⟩
      · exact .inl (.inr ⟨idx, k', g', c', e', by omega, r, e1, e2⟩)
  · rintro ((z | ⟨idx, k', g', c', e', lt, r⟩) | ⟨e1, c', r, e2⟩)
    · exact .inl z
    · exact .inr ⟨idx, k', g', c', e', by omega, r⟩
    · exact .inr ⟨j, k, B, c', e, by omega, r, e1, e2⟩
/-- a way behind B pieces, which is told -/
theorem psh_put {B j k : Nat} {u : Int} {o : Option Int} (e : G[j]? = some k) (hu : MinOf (Rch G m d B) (some u)) (ho : MinOf (Psh G m d B j (B + m k)) o) : MinOf (Psh G m d B (j + 1) (B + m k)) (rlx o (u + d k)) :=
  (ho.push (T := fun c => ∃ c', Rch G m d B c' ∧ c = c' + d k) ⟨⟨u, hu.1, rfl⟩, fun c ⟨c', r, e'⟩ => by have := hu.2 c' r; omega⟩).congr fun c => by
    rw [psh_step e]
    exact ⟨fun z => z.elim .inl fun y => .inr ⟨rfl, y⟩, fun z => z.elim .inl fun y => .inr y.2⟩
theorem psh_off {B j k h : Nat} {o : Option Int} (e : G[j]? = some k) (hh : h ≠ B + m k) (ho : MinOf (Psh G m d B j h) o) : MinOf (Psh G m d B (j + 1) h) o :=
  ho.congr fun c => by
    rw [psh_step e]
    exact ⟨.inl, fun z => z.elim id fun y => absurd y.1 hh⟩
/-- what rounds cost at least -/
theorem rch_low (dm : ∀ k ∈ G, 0 ≤ d k) {g : Nat} {c : Int} (h : Rch G m d g c) : 0 ≤ c := by
  obtain ⟨ks, h1, -, rfl⟩ := h
  induction ks with
  | nil => exact Int.le_refl _
  | cons k ks ih =>
    rw [List.map_cons, List.sum_cons]
    have := ih fun j hj => h1 j (List.mem_cons_of_mem _ hj)
    have := dm k (h1 k List.mem_cons_self)
    omega
end
/-! ### one round of the best way more -/
theorem pigeon : ∀ (p : Nat) (f : Nat → Nat), (∀ i, i ≤ p → f i < p) → ∃ i j, i < j ∧ j ≤ p ∧ f i = f j
  | 0, f, h => absurd (h 0 (Nat.le_refl _)) (Nat.not_lt_zero _)
  | p + 1, f, h => by
    by_cases c : ∃ i, i ≤ p ∧ f i = f (p + 1)
    · obtain ⟨i, hi, e⟩ := c
      exact ⟨i, p + 1, by omega, Nat.le_refl _, e⟩
    · have c : ∀ i, i ≤ p → f i ≠ f (p + 1) := fun i hi e => c ⟨i, hi, e⟩
      obtain ⟨i, j, h1, h2, h3⟩ := pigeon p (fun i => if f i = p then f (p + 1) else f i) fun i hi => by
        have h1 := h i (by omega)
        have h2 := h (p + 1) (Nat.le_refl _)
        have h3 := c i hi
        show (if f i = p then f (p + 1) else f i) < p
        split <;> omega
      refine ⟨i, j, h1, by omega, ?_⟩
      have c1 := c i (by omega)
      have c2 := c j h2
      split at h3 <;> split at h3 <;> omega
theorem sum_le {l : List Nat} {M : Nat} (h : ∀ x ∈ l, x ≤ M) : l.sum ≤ l.length * M := by
  induction l with
  | nil => simp
  | cons x l ih =>
    rw [List.sum_cons, List.length_cons, Nat.succ_mul]
    have := h x List.mem_cons_self
    have := ih fun y hy => h y (List.mem_cons_of_mem _ hy)
    omega
theorem len_le_sum {l : List Nat} (h : ∀ x ∈ l, 1 ≤ x) : l.length ≤ l.sum := by
  induction l with
  | nil => simp
  | cons x l ih =>
    rw [List.sum_cons, List.length_cons]
    have := h x List.mem_cons_self
    have := ih fun y hy => h y (List.mem_cons_of_mem _ hy)
    omega
theorem sum_rate {l : List Nat} {m : Nat → Nat} {d : Nat → Int} {D : Int} {p : Nat} (h : ∀ k ∈ l, D * (m k : Int) ≤ d k * (p : Int)) : D * (((l.map m).sum : Nat) : Int) ≤ (l.map d).sum * (p : Int) := by
  induction l with
  | nil => simp
  | cons x l ih =>
    rw [List.map_cons, List.sum_cons, List.map_cons, List.sum_cons, Int.add_mul]
    have h1 := h x List.mem_cons_self
    have h2 := ih fun y hy => h y (List.mem_cons_of_mem _ hy)
    rw [Int.natCast_add, Int.mul_add]
    omega
theorem sum_rep {α : Type} {f : α → Nat} {b : α} {q : Nat} : ((List.replicate q b).map f).sum = q * f b := by
  induction q with
  | zero => simp
  | succ q ih => rw [List.replicate_succ, List.map_cons, List.sum_cons, ih, Nat.succ_mul]; omega
theorem sum_repI {α : Type} {f : α → Int} {b : α} {q : Nat} : ((List.replicate q b).map f).sum = (q : Int) * f b := by
  induction q with
  | zero => simp
  | succ q ih => rw [List.replicate_succ, List.map_cons, List.sum_cons, ih, Int.natCast_add, Int.add_mul]; omega
section
variable {G : List Nat} {m : Nat → Nat} {d : Nat → Int}
/-- with so many pieces a round of b may be among them -/
def Exch (G : List Nat) (m : Nat → Nat) (d : Nat → Int) (b L0 : Nat) : Prop := ∀ g c, L0 ≤ g → Rch G m d g c → ∃ c', Rch G m d (g - m b) c' ∧ c' + d b ≤ c ∧ m b ≤ g
theorem exch_mem {b : Nat} {ks : List Nat} {g : Nat} {c : Int} (hb : b ∈ ks) (h1 : ∀ k ∈ ks, k ∈ G) (h2 : (ks.map m).sum = g) (h3 : (ks.map d).sum = c) : ∃ c', Rch G m d (g - m b) c' ∧ c' + d b ≤ c ∧ m b ≤ g := by
  obtain ⟨s, t, rfl⟩ := List.append_of_mem hb
  have e2 : ((s ++ t).map m).sum + m b = g := by
    rw [← h2]
    simp only [List.map_append, List.map_cons, List.sum_append, List.sum_cons]
    omega
  have e3 : ((s ++ t).map d).sum + d b = c := by
    rw [← h3]
    simp only [List.map_append, List.map_cons, List.sum_append, List.sum_cons]
    omega
  exact ⟨_, ⟨s ++ t, fun k hk => h1 k (by simp at hk ⊢; exact hk.elim .inl fun z => .inr (.inr z)), by omega, rfl⟩, by omega, by omega⟩
theorem exch_one {b : Nat} (ha : ∀ k ∈ G, k = b) : Exch G m d b 1 := fun g c hg ⟨ks, h1, h2, h3⟩ => by
  cases ks with
  | nil => simp at h2; omega
  | cons k ks =>
    have := ha k (h1 k List.mem_cons_self)
    subst this
    exact exch_mem List.mem_cons_self h1 h2 h3
theorem exch_all {b M : Nat} (hb : b ∈ G) (hm : ∀ k ∈ G, 1 ≤ m k) (hM : ∀ k ∈ G, m k ≤ M) (hr : ∀ k ∈ G, d b * (m k : Int) ≤ d k * (m b : Int)) : Exch G m d b ((m b - 1) * M + 1) := fun g c hg ⟨ks, h1, h2, h3⟩ => by
  have p1 := hm b hb
  have hlen : m b ≤ ks.length := by
    rcases Nat.lt_or_ge ks.length (m b) with h | h
    · have q1 := sum_le (l := ks.map m) (M := M) fun x hx => by
        obtain ⟨k, hk, rfl⟩ := List.mem_map.mp hx
        exact hM k (h1 k hk)
      rw [List.length_map] at q1
      have q2 := Nat.mul_le_mul_right M (show ks.length ≤ m b - 1 by omega)
      omega
    · exact h
  -- two beginnings that leave the same rest
  obtain ⟨i, j, lt, hj, e⟩ := pigeon (m b) (fun i => ((ks.take i).map m).sum % m b) fun i _ => Nat.mod_lt _ p1
  have ek : ks = ks.take i ++ ((ks.drop i).take (j - i) ++ ks.drop j) := by
    rw [← List.append_assoc]
    have e1 : ks.take i ++ (ks.drop i).take (j - i) = ks.take j := by
      have := List.take_add (l := ks) (i := i) (j := j - i)
      rw [show i + (j - i) = j by omega] at this
      exact this.symm
    rw [e1, List.take_append_drop]
  generalize hA : ks.take i = A at ek e
  generalize hB : (ks.drop i).take (j - i) = B at ek
  generalize hC : ks.drop j = C at ek
  have eJ : ks.take j = A ++ B := by
    have := List.take_add (l := ks) (i := i) (j := j - i)
    rw [show i + (j - i) = j by omega, hA, hB] at this
    exact this
  have lB : B.length = j - i := by rw [← hB, List.length_take, List.length_drop]; omega
  rw [eJ, List.map_append, List.sum_append] at e
  have sub : ∀ k, (k ∈ A ∨ k ∈ B ∨ k ∈ C) → k ∈ G := fun k hk => h1 k (by rw [ek]; simp; exact hk)
  have b1 := len_le_sum (l := B.map m) fun x hx => by
    obtain ⟨k, hk, rfl⟩ := List.mem_map.mp hx
    exact hm k (sub k (.inr (.inl hk)))
  rw [List.length_map, lB] at b1
  -- the middle gives a multiple
  obtain ⟨q, hq⟩ : ∃ q, (B.map m).sum = m b * q := by
    have d1 := Nat.div_add_mod (A.map m).sum (m b)
    have d2 := Nat.div_add_mod ((A.map m).sum + (B.map m).sum) (m b)
    rw [← e] at d2
    refine ⟨((A.map m).sum + (B.map m).sum) / m b - (A.map m).sum / m b, ?_⟩
    rw [Nat.mul_sub]
    omega
  have q1 : 1 ≤ q := by
    rcases Nat.eq_zero_or_pos q with z | z
    · rw [z] at hq
      omega
    · exact z
  have cost := sum_rate (l := B) (m := m) (d := d) (D := d b) (p := m b) fun k hk => hr k (sub k (.inr (.inl hk)))
  rw [hq, Int.natCast_mul, show d b * ((m b : Int) * (q : Int)) = (d b * (q : Int)) * (m b : Int) by rw [Int.mul_assoc, Int.mul_comm (m b : Int)]] at cost
  have cost : d b * (q : Int) ≤ (B.map d).sum := Int.le_of_mul_le_mul_right cost (by omega)
  have eq : (q : Int) = ((q - 1 : Nat) : Int) + 1 := by omega
  refine ⟨(A.map d).sum + ((q - 1 : Nat) : Int) * d b + (C.map d).sum, ⟨A ++ (List.replicate (q - 1) b ++ C), fun k hk => ?_, ?_, ?_⟩, ?_, ?_⟩
  · simp only [List.mem_append] at hk
    rcases hk with hk | hk | hk
    · exact sub k (.inl hk)
    · rw [(List.mem_replicate.mp hk).2]; exact hb
    · exact sub k (.inr (.inr hk))
  · rw [ek] at h2
    simp only [List.map_append, List.sum_append] at h2 ⊢
    rw [sum_rep, ← h2, hq, show m b * q = (q - 1) * m b + m b by rw [Nat.mul_comm, ← Nat.succ_mul]; congr 1; omega]
    omega
  · simp only [List.map_append, List.sum_append]
    rw [sum_repI]
    omega
  · rw [ek] at h3
    simp only [List.map_append, List.sum_append] at h3
    rw [← h3]
    rw [eq, Int.mul_add, Int.mul_one, Int.mul_comm] at cost
    omega
  · rw [ek] at h2
    simp only [List.map_append, List.sum_append] at h2
    have := Nat.le_mul_of_pos_right (m b) q1
    omega
end
end NT
set_option linter.all false
set_option maxHeartbeats 4000000
/-! What the n-th piece costs at least, over all rounds. Plain Lean. -/
namespace NT
/-- the least of a set, if it has one -/
noncomputable def minV (S : Int → Prop) : Int := open Classical in if h : ∃ u, MinOf S (some u) then h.choose else 0
theorem minV_of {S : Int → Prop} {u : Int} (h : MinOf S (some u)) : minV S = u := by
  unfold minV
  have h' : ∃ u, MinOf S (some u) := ⟨u, h⟩
  rw [dif_pos h']
  have := h'.choose_spec.one h
  injection this
theorem minV_is {S : Int → Prop} (h : ∃ u, MinOf S (some u)) : MinOf S (some (minV S)) := by
  obtain ⟨u, hu⟩ := h
  rw [minV_of hu]
  exact hu
/-- the n-th piece comes from a round of k -/
def Wn (G : List Nat) (m : Nat → Nat) (d : Nat → Int) (mk : Nat → Nat → Int) (k n : Nat) (c : Int) : Prop := ∃ a g c', a < m k ∧ g + a + 1 = n ∧ Rch G m d g c' ∧ c = c' + mk k a
/-- what the n-th piece may cost -/
def Wv (G : List Nat) (m : Nat → Nat) (d : Nat → Int) (mk : Nat → Nat → Int) (n : Nat) (c : Int) : Prop := ∃ k ∈ G, Wn G m d mk k n c
section
variable {G : List Nat} {m : Nat → Nat} {d : Nat → Int} {mk : Nat → Nat → Int}
theorem wn_min (hm : ∀ k ∈ G, 1 ≤ m k) (k n : Nat) : ∃ o, MinOf (Wn G m d mk k n) o := by
  obtain ⟨o, ho⟩ := min_any (fun a c => ∃ g c', g + a + 1 = n ∧ Rch G m d g c' ∧ c = c' + mk k a) (List.range (m k)) fun a _ => by
    by_cases h : a + 1 ≤ n
    · obtain ⟨o, ho⟩ := rch_min (d := d) hm (n - (a + 1))
      cases o with
      | none => exact ⟨none, fun c ⟨g, c', e, r, _⟩ => ho c' (by rw [show n - (a + 1) = g by omega]; exact r)⟩
      | some u => exact ⟨some (u + mk k a), ⟨_, u, by omega, ho.1, rfl⟩, fun c ⟨g, c', e, r, e2⟩ => by
          have := ho.2 c' (by rw [show n - (a + 1) = g by omega]; exact r)
          omega⟩
    · exact ⟨none, fun c ⟨g, c', e, _⟩ => by omega⟩
  exact ⟨o, ho.congr fun c => ⟨fun ⟨a, ha, g, c', e⟩ => ⟨a, g, c', List.mem_range.mp ha, e⟩, fun ⟨a, g, c', ha, e⟩ => ⟨a, List.mem_range.mpr ha, g, c', e⟩⟩⟩
theorem wv_min (hm : ∀ k ∈ G, 1 ≤ m k) (n : Nat) : ∃ o, MinOf (Wv G m d mk n) o := min_any (fun k c => Wn G m d mk k n c) G fun k _ => wn_min hm k n
theorem wv_some {b : Nat} (hb : b ∈ G) (hm : ∀ k ∈ G, 1 ≤ m k) {n : Nat} (hn : 1 ≤ n) : ∃ c, Wv G m d mk n c := by
  have p := hm b hb
  have h1 := Nat.div_add_mod (n - 1) (m b)
  have h2 := Nat.mod_lt (n - 1) p
  refine ⟨_, b, hb, (n - 1) % m b, m b * ((n - 1) / m b), _, h2, by omega, ⟨List.replicate ((n - 1) / m b) b, fun k hk => by rw [(List.mem_replicate.mp hk).2]; exact hb, by rw [sum_rep, Nat.mul_comm], rfl⟩, rfl⟩
theorem wv_val {b : Nat} (hb : b ∈ G) (hm : ∀ k ∈ G, 1 ≤ m k) {n : Nat} (hn : 1 ≤ n) : MinOf (Wv G m d mk n) (some (minV (Wv G m d mk n))) := by
  obtain ⟨o, ho⟩ := wv_min (d := d) (mk := mk) hm n
  obtain ⟨c, hc⟩ := wv_some (d := d) (mk := mk) hb hm hn
  cases o with
  | none => exact absurd hc (ho c)
  | some u => exact minV_is ⟨u, ho⟩
/-- a round of b more -/
theorem wv_per {b L0 M n : Nat} (ex : Exch G m d b L0) (hb : b ∈ G) (hm : ∀ k ∈ G, 1 ≤ m k) (hM : ∀ k ∈ G, m k ≤ M) (hn : 1 ≤ n) (h : L0 + M ≤ n + m b) : minV (Wv G m d mk (n + m b)) = minV (Wv G m d mk n) + d b := by
  refine minV_of ?_
  obtain ⟨⟨k, hk, a, g, c', ha, e, r, e2⟩, h2⟩ := wv_val (d := d) (mk := mk) hb hm hn
  refine ⟨⟨k, hk, a, g + m b, c' + d b, ha, by omega, rch_step r hb, by omega⟩, ?_⟩
  rintro c ⟨k', hk', a', g', c2, ha', e', r', e2'⟩
  have q := hM k' hk'
  obtain ⟨c3, r3, l3, l4⟩ := ex g' c2 (by omega) r'
  have := h2 (c3 + mk k' a') ⟨k', hk', a', g' - m b, c3, ha', by omega, r3, rfl⟩
  omega
/-- the piece ahead costs no more -/
theorem wv_down (h1 : ∀ k ∈ G, ∀ a, a + 1 < m k → mk k a ≤ mk k (a + 1)) (h2 : ∀ k ∈ G, ∀ a, a < m k → mk k a ≤ d k) (h0 : ∀ k ∈ G, ∀ a, a < m k → 0 ≤ mk k a) (hm : ∀ k ∈ G, 1 ≤ m k) {n : Nat} (hn : 1 ≤ n) {c : Int} (h : Wv G m d mk (n + 1) c) : ∃ c', Wv G m d mk n c' ∧ c' ≤ c := by
  obtain ⟨k, hk, a, g, c', ha, e, r, rfl⟩ := h
  cases a with
  | succ a =>
    have := h1 k hk a ha
    exact ⟨_, ⟨k, hk, a, g, c', by omega, by omega, r, rfl⟩, by omega⟩
  | zero =>
    rcases rch_inv r with ⟨g0, _⟩ | ⟨j, hj, g', c2, r2, e1, e2⟩
    · omega
    · have m1 := hm j hj
      have q1 := h2 j hj (m j - 1) (by omega)
      have q2 := h0 k hk 0 ha
      exact ⟨_, ⟨j, hj, m j - 1, g', c2, by omega, by omega, r2, rfl⟩, by omega⟩
theorem wv_up (h1 : ∀ k ∈ G, ∀ a, a + 1 < m k → mk k (a + 1) ≤ mk k a) (h2 : ∀ k ∈ G, ∀ a, a < m k → d k ≤ mk k a) (h0 : ∀ k ∈ G, ∀ a, a < m k → mk k a ≤ 0) (hm : ∀ k ∈ G, 1 ≤ m k) {n : Nat} {c : Int} (h : Wv G m d mk n c) : ∃ c', Wv G m d mk (n + 1) c' ∧ c' ≤ c := by
  obtain ⟨k, hk, a, g, c', ha, e, r, rfl⟩ := h
  by_cases l : a + 1 < m k
  · have := h1 k hk a l
    exact ⟨_, ⟨k, hk, a + 1, g, c', l, by omega, r, rfl⟩, by omega⟩
  · have m1 := hm k hk
    have q1 := h2 k hk a ha
    have q2 := h0 k hk 0 (by omega)
    exact ⟨_, ⟨k, hk, 0, g + m k, c' + d k, by omega, by omega, rch_step r hk, rfl⟩, by omega⟩
/-! ### in shares, with tolls -/
theorem sum_sc {sh : Int} {tl : Nat → Nat} (t1 : ∀ k, tl k ≤ 1) : ∀ ks : List Nat, ∃ r : Nat, r ≤ ks.length ∧ (ks.map fun k => d k * sh + (tl k : Int)).sum = (ks.map d).sum * sh + (r : Int)
  | [] => ⟨0, Nat.le_refl _, by simp⟩
  | k :: ks => by
    obtain ⟨r, h1, h2⟩ := sum_sc t1 ks
    have := t1 k
    refine ⟨r + tl k, by rw [List.length_cons]; omega, ?_⟩
    rw [List.map_cons, List.sum_cons, List.map_cons, List.sum_cons, h2, Int.add_mul]
    omega
theorem rch_sc {sh : Int} {tl : Nat → Nat} (t1 : ∀ k, tl k ≤ 1) (hm : ∀ k ∈ G, 1 ≤ m k) {g : Nat} {c : Int} (h : Rch G m (fun k => d k * sh + (tl k : Int)) g c) : ∃ c0 r : Int, Rch G m d g c0 ∧ c = c0 * sh + r ∧ 0 ≤ r ∧ r ≤ g := by
  obtain ⟨ks, h1, h2, h3⟩ := h
  obtain ⟨r, r1, r2⟩ := sum_sc (d := d) (sh := sh) t1 ks
  have := len_le_sum (l := ks.map m) fun x hx => by
    obtain ⟨k, hk, rfl⟩ := List.mem_map.mp hx
    exact hm k (h1 k hk)
  rw [List.length_map] at this
  exact ⟨_, r, ⟨ks, h1, h2, rfl⟩, by rw [← h3, r2], by omega, by omega⟩
theorem rch_unsc {sh : Int} {tl : Nat → Nat} (t1 : ∀ k, tl k ≤ 1) (hm : ∀ k ∈ G, 1 ≤ m k) {g : Nat} {c0 : Int} (h : Rch G m d g c0) : ∃ r : Int, 0 ≤ r ∧ r ≤ g ∧ Rch G m (fun k => d k * sh + (tl k : Int)) g (c0 * sh + r) := by
  obtain ⟨ks, h1, h2, h3⟩ := h
  obtain ⟨r, r1, r2⟩ := sum_sc (d := d) (sh := sh) t1 ks
  have := len_le_sum (l := ks.map m) fun x hx => by
    obtain ⟨k, hk, rfl⟩ := List.mem_map.mp hx
    exact hm k (h1 k hk)
  rw [List.length_map] at this
  exact ⟨r, by omega, by omega, ks, h1, h2, by rw [r2, h3]⟩
theorem share_le {u v sh r r' : Int} (s0 : 0 ≤ sh) (h : u * sh + r ≤ v * sh + r') (r0 : 0 ≤ r) (h' : r' < sh) : u ≤ v := by
  rcases Int.lt_or_le v u with z | z
  · have := Int.mul_le_mul_of_nonneg_right (show v + 1 ≤ u by omega) s0
    rw [Int.add_mul] at this
    omega
  · exact z
theorem share_div {u sh r : Int} (r0 : 0 ≤ r) (h : r < sh) : (u * sh + r) / sh = u := by
  rw [Int.add_comm, Int.add_mul_ediv_right _ _ (by omega), Int.ediv_eq_zero_of_lt r0 h, Int.zero_add]
/-- the least one in shares, over rounds that end with some k, tells the least one -/
theorem wn_best {sh : Int} {n : Nat} (hn : (n : Int) ≤ sh) (tl : Nat → Nat → Nat) (t1 : ∀ j k, tl j k ≤ 1) (hm : ∀ k ∈ G, 1 ≤ m k) {kb : Nat} {U : Int} (hk : kb ∈ G)
    (h : MinOf (Wn G m (fun k => d k * sh + (tl kb k : Int)) (fun k a => mk k a * sh) kb n) (some U))
    (hall : ∀ k ∈ G, ∀ u, MinOf (Wn G m (fun j => d j * sh + (tl k j : Int)) (fun j a => mk j a * sh) k n) (some u) → U ≤ u) : MinOf (Wv G m d mk n) (some (U / sh)) := by
  obtain ⟨⟨a, g, c', ha, e, r, e2⟩, h2⟩ := h
  obtain ⟨c0, r0, rr, e3, p1, p2⟩ := rch_sc (t1 kb) hm r
  have e2 : U = c' + mk kb a * sh := e2
  have eU : U = (c0 + mk kb a) * sh + r0 := by rw [e2, e3, Int.add_mul]; omega
  rw [eU, share_div p1 (by omega)]
  refine ⟨⟨kb, hk, a, g, c0, ha, e, rr, rfl⟩, ?_⟩
  rintro c ⟨k, hk', a', g', c1, ha', e', r', rfl⟩
  obtain ⟨q, q0, q1, rq⟩ := rch_unsc (sh := sh) (t1 k) hm r'
  have w : Wn G m (fun j => d j * sh + (tl k j : Int)) (fun j a => mk j a * sh) k n (c1 * sh + q + mk k a' * sh) := ⟨a', g', _, ha', e', rq, rfl⟩
  obtain ⟨o, ho⟩ := wn_min (G := G) (m := m) (d := fun j => d j * sh + (tl k j : Int)) (mk := fun j a => mk j a * sh) hm k n
  cases o with
  | none => exact absurd w (ho _)
  | some u =>
    have l1 := hall k hk' u ho
    have l2 := ho.2 _ w
    rw [eU] at l1
    refine share_le (sh := sh) (by omega) (r := r0) (r' := q) ?_ p1 (by omega)
    rw [Int.add_mul c1]
    omega
theorem wv_sc {sh : Int} {n : Nat} (hn : (n : Int) ≤ sh) (tl : Nat → Nat) (t1 : ∀ k, tl k ≤ 1) (hm : ∀ k ∈ G, 1 ≤ m k) {U : Int} (h : MinOf (Wv G m (fun k => d k * sh + (tl k : Int)) (fun k a => mk k a * sh) n) (some U)) : MinOf (Wv G m d mk n) (some (U / sh)) := by
  obtain ⟨⟨k, hk, w⟩, h2⟩ := h
  exact wn_best hn (fun _ => tl) (fun _ => t1) hm hk ⟨w, fun c hc => h2 c ⟨k, hk, hc⟩⟩ fun j hj u hu => h2 u ⟨j, hj, hu.1⟩
/-- with one way all is told -/
theorem wv_one {b : Nat} (ha : ∀ k ∈ G, k = b) (hb : 1 ≤ m b) {n : Nat} {c : Int} (h : Wv G m d mk n c) : c = (((n - 1) / m b : Nat) : Int) * d b + mk b ((n - 1) % m b) := by
  obtain ⟨k, hk, a, g, c', ha', e, ⟨ks, h1, h2, h3⟩, rfl⟩ := h
  have e0 := ha k hk
  subst e0
  have er : ks = List.replicate ks.length k := List.eq_replicate_iff.mpr ⟨rfl, fun j hj => ha j (h1 j hj)⟩
  rw [er, sum_rep] at h2
  rw [er, sum_repI] at h3
  have en : n - 1 = a + m k * ks.length := by rw [Nat.mul_comm]; omega
  rw [en, Nat.add_mul_div_left _ _ hb, Nat.div_eq_of_lt ha', Nat.add_mul_mod_self_left, Nat.mod_eq_of_lt ha', Nat.zero_add]
  omega
end
end NT
set_option linter.all false
/-! Where one walk leads another one: ladders of least values, lanes, leads. Plain Lean. -/
namespace NT
/-- Python's min of two -/
def mn (a b : Int) : Int := if b < a then b else a
/-- v is the least of f on the w places from i on -/
structure IsLo (f : Nat → Int) (i w : Nat) (v : Int) : Prop where
  le : ∀ j, i ≤ j → j < i + w → v ≤ f j
  at_ : ∃ j, i ≤ j ∧ j < i + w ∧ f j = v
theorem IsLo.one (f : Nat → Int) (i : Nat) : IsLo f i 1 (f i) := ⟨fun j h1 h2 => by rw [show j = i by omega]; exact Int.le_refl _, i, Nat.le_refl _, by omega, rfl⟩
theorem IsLo.join {f : Nat → Int} {i w d : Nat} {a b : Int} (h1 : IsLo f i w a) (h2 : IsLo f (i + d) w b) (hd : d ≤ w) : IsLo f i (w + d) (mn a b) := by
  have ha : mn a b ≤ a := by unfold mn; split <;> omega
  have hb : mn a b ≤ b := by unfold mn; split <;> omega
  refine ⟨fun j j1 j2 => ?_, ?_⟩
  · by_cases c : j < i + w
    · exact Int.le_trans ha (h1.le j j1 c)
    · exact Int.le_trans hb (h2.le j (by omega) (by omega))
  · unfold mn
    by_cases c : b < a
    · rw [if_pos c]
      obtain ⟨j, j1, j2, j3⟩ := h2.at_
      exact ⟨j, by omega, by omega, j3⟩
    · rw [if_neg c]
      obtain ⟨j, j1, j2, j3⟩ := h1.at_
      exact ⟨j, by omega, by omega, j3⟩
/-- a rung: the least values of f, window w, over the first n places -/
structure Rung (f : Nat → Int) (n w : Nat) (m : List Int) : Prop where
  w0 : 0 < w
  wn : w ≤ n
  len : m.length = n + 1 - w
  lo : ∀ i, i + w ≤ n → IsLo f i w (m.getD i 0)
theorem Rung.base {f : Nat → Int} {m : List Int} (h0 : 0 < m.length) (h : ∀ i, i < m.length → m.getD i 0 = f i) : Rung f m.length 1 m :=
  ⟨by decide, h0, by omega, fun i hi => by rw [h i (by omega)]; exact IsLo.one f i⟩
/-- the next rung -/
def nextRow (m : List Int) (w : Nat) : List Int := List.zipWith mn m (m.drop w)
theorem Rung.next {f : Nat → Int} {n w : Nat} {m : List Int} (h : Rung f n w m) (h2 : 2 * w ≤ n) : Rung f n (2 * w) (nextRow m w) := by
  have hl := h.len
  have w0 := h.w0
  have hz : (nextRow m w).length = n + 1 - 2 * w := by
    unfold nextRow
    rw [List.length_zipWith, List.length_drop]
    omega
  refine ⟨by omega, h2, hz, fun i hi => ?_⟩
  have e : (nextRow m w).getD i 0 = mn (m.getD i 0) (m.getD (i + w) 0) := by
    have h1 : i < m.length := by omega
    have h2 : w + i < m.length := by omega
    unfold nextRow
    rw [List.getD_eq_getElem?_getD, List.getD_eq_getElem?_getD, List.getD_eq_getElem?_getD, List.getElem?_zipWith, List.getElem?_drop, show i + w = w + i by omega, List.getElem?_eq_getElem h1, List.getElem?_eq_getElem h2]
    rfl
  rw [e, show 2 * w = w + w by omega]
  exact (h.lo i (by omega)).join (h.lo (i + w) (by omega)) (Nat.le_refl _)
/-- a ladder, the widest rung first -/
inductive Lad (f : Nat → Int) (n : Nat) : Nat → List (Nat × List Int) → Prop where
  | one {m : List Int} (h : Rung f n 1 m) : Lad f n 1 [(1, m)]
  | two {w : Nat} {m : List Int} {L : List (Nat × List Int)} (h : Rung f n (2 * w) m) (r : Lad f n w L) : Lad f n (2 * w) ((2 * w, m) :: L)
theorem Lad.head {f : Nat → Int} {n w : Nat} {L : List (Nat × List Int)} (h : Lad f n w L) : ∃ m L', L = (w, m) :: L' ∧ Rung f n w m := by
  cases h with
  | one h => exact ⟨_, _, rfl, h⟩
  | two h r => exact ⟨_, _, rfl, h⟩
theorem Lad.step {f : Nat → Int} {n w : Nat} {L : List (Nat × List Int)} (h : Lad f n w L) (h2 : 2 * w ≤ n) : ∃ m, L.head? = some (w, m) ∧ Lad f n (2 * w) ((2 * w, nextRow m w) :: L) := by
  obtain ⟨m, L', rfl, hm⟩ := h.head
  exact ⟨m, rfl, .two (hm.next h2) h⟩
theorem Lad.least {f : Nat → Int} {n w W i : Nat} {L : List (Nat × List Int)} (h : Lad f n w L) (h1 : w ≤ W) (h2 : W < 2 * w) (hi : i + W ≤ n) : ∃ m L', L = (w, m) :: L' ∧ i < m.length ∧ i + (W - w) < m.length ∧ IsLo f i W (mn (m.getD i 0) (m.getD (i + (W - w)) 0)) := by
  obtain ⟨m, L', rfl, hm⟩ := h.head
  have hl := hm.len
  refine ⟨m, L', rfl, by omega, by omega, ?_⟩
  have := (hm.lo i (by omega)).join (hm.lo (i + (W - w)) (by omega)) (by omega)
  rw [show w + (W - w) = W by omega] at this
  exact this
/-- the descent to the first place under a limit -/
def under (lim : Int) : Nat → List (Nat × List Int) → Nat
  | a, [] => a
  | a, (w, m) :: L => under lim (if a < m.length ∧ lim ≤ m.getD a 0 then a + w else a) L
/-- the first place from i on with f under the limit -/
structure First (f : Nat → Int) (lim : Int) (i t : Nat) : Prop where
  le : i ≤ t
  at_ : f t < lim
  no : ∀ j, i ≤ j → j < t → lim ≤ f j
theorem under_ok {f : Nat → Int} {n : Nat} {lim : Int} : ∀ {w : Nat} {L : List (Nat × List Int)}, Lad f n w L → ∀ {a t : Nat}, First f lim a t → t < a + 2 * w → t < n → under lim a L = t := by
  intro w L h
  induction h with
  | @one m h =>
    intro a t F h1 h2
    have hl := h.len
    show (if a < m.length ∧ lim ≤ m.getD a 0 then a + 1 else a) = t
    have han : a < n := Nat.lt_of_le_of_lt F.le h2
    have e : m.getD a 0 = f a := by
      obtain ⟨j, j1, j2, j3⟩ := (h.lo a (by omega)).at_
      rw [← j3, show j = a by omega]
    by_cases c : a < m.length ∧ lim ≤ m.getD a 0
    · rw [if_pos c]
      have hne : a ≠ t := fun z => by
        have := F.at_
        rw [← z, ← e] at this
        omega
      have := F.le
      omega
    · rw [if_neg c]
      have hlt : f a < lim := by
        rw [← e]
        refine Int.lt_of_not_ge fun z => c ⟨by omega, z⟩
      refine Classical.byContradiction fun z => ?_
      have := F.no a (Nat.le_refl _) (by have := F.le; omega)
      omega
  | @two w m L h r ih =>
    intro a t F h1 h2
    have hl := h.len
    show under lim (if a < m.length ∧ lim ≤ m.getD a 0 then a + 2 * w else a) L = t
    have w0 := h.w0
    by_cases c : a < m.length ∧ lim ≤ m.getD a 0
    · rw [if_pos c]
      have lo := h.lo a (by omega)
      have ht : a + 2 * w ≤ t := Nat.le_of_not_lt fun z => by
        have := lo.le t F.le z
        have := F.at_
        omega
      exact ih ⟨ht, F.at_, fun j j1 j2 => F.no j (by omega) j2⟩ (by omega) h2
    · rw [if_neg c]
      refine ih F ?_ h2
      by_cases hm : a < m.length
      · have hlt : m.getD a 0 < lim := Int.lt_of_not_ge fun z => c ⟨hm, z⟩
        have lo := h.lo a (by omega)
        obtain ⟨j, j1, j2, j3⟩ := lo.at_
        refine Classical.byContradiction fun z => ?_
        have := F.no j j1 (by omega)
        omega
      · omega
/-- the descent from behind to the last place under a limit; e: the place behind the last one looked at -/
def underB (lim : Int) (s : Nat) : Nat → List (Nat × List Int) → Nat
  | e, [] => e
  | e, (w, m) :: L => underB lim s (if s + w ≤ e ∧ lim ≤ m.getD (e - w) 0 then e - w else e) L
/-- the last place ahead of e, not ahead of s, with f under the limit -/
structure Last (f : Nat → Int) (lim : Int) (s e t : Nat) : Prop where
  ge : s ≤ t
  lt : t < e
  at_ : f t < lim
  no : ∀ j, t < j → j < e → lim ≤ f j
theorem underB_ok {f : Nat → Int} {n : Nat} {lim : Int} {s : Nat} : ∀ {w : Nat} {L : List (Nat × List Int)}, Lad f n w L → ∀ {e t : Nat}, Last f lim s e t → e ≤ t + 2 * w → e ≤ n → underB lim s e L = t + 1 := by
  intro w L h
  induction h with
  | @one m h =>
    intro e t F h1 h2
    have hl := h.len
    have f1 := F.ge
    have f2 := F.lt
    show (if s + 1 ≤ e ∧ lim ≤ m.getD (e - 1) 0 then e - 1 else e) = t + 1
    have e1 : m.getD (e - 1) 0 = f (e - 1) := by
      obtain ⟨j, j1, j2, j3⟩ := (h.lo (e - 1) (by omega)).at_
      rw [← j3, show j = e - 1 by omega]
    by_cases c : s + 1 ≤ e ∧ lim ≤ m.getD (e - 1) 0
    · rw [if_pos c]
      have hne : e - 1 ≠ t := fun z => by
        have := F.at_
        rw [← z, ← e1] at this
        omega
      omega
    · rw [if_neg c]
      have hlt : f (e - 1) < lim := by
        rw [← e1]
        refine Int.lt_of_not_ge fun z => c ⟨by omega, z⟩
      refine Classical.byContradiction fun z => ?_
      have := F.no (e - 1) (by omega) (by omega)
      omega
  | @two w m L h r ih =>
    intro e t F h1 h2
    have hl := h.len
    have w0 := h.w0
    have f1 := F.ge
    have f2 := F.lt
    show underB lim s (if s + 2 * w ≤ e ∧ lim ≤ m.getD (e - 2 * w) 0 then e - 2 * w else e) L = t + 1
    by_cases c : s + 2 * w ≤ e ∧ lim ≤ m.getD (e - 2 * w) 0
    · rw [if_pos c]
      have lo := h.lo (e - 2 * w) (by omega)
      have ht : t < e - 2 * w := Nat.lt_of_not_le fun z => by
        have := lo.le t z (by omega)
        have := F.at_
        omega
      exact ih ⟨f1, ht, F.at_, fun j j1 j2 => F.no j j1 (by omega)⟩ (by omega) (by omega)
    · rw [if_neg c]
      refine ih F ?_ h2
      by_cases hm : s + 2 * w ≤ e
      · have hlt : m.getD (e - 2 * w) 0 < lim := Int.lt_of_not_ge fun z => c ⟨hm, z⟩
        have lo := h.lo (e - 2 * w) (by omega)
        obtain ⟨j, j1, j2, j3⟩ := lo.at_
        refine Classical.byContradiction fun z => ?_
        have := F.no j (by omega) (by omega)
        omega
      · omega
end NT
set_option linter.all false
/-! Leads of one walk over another one: lanes, runners, the first and the last lead. Plain Lean. -/
namespace NT
/-- the numbers of two laps -/
structure Ln (L M g W V : Nat) : Prop where
  l0 : 0 < L
  m0 : 0 < M
  g0 : 0 < g
  w0 : 0 < W
  eL : L = g * V
  eM : M = g * W
  co : ∃ x y : Int, (L : Int) * x + (M : Int) * y = (g : Int)
theorem bez : ∀ m n : Nat, ∃ x y : Int, (m : Int) * x + (n : Int) * y = ((Nat.gcd m n : Nat) : Int) := by
  intro m
  induction m using Nat.strongRecOn with
  | _ m ih =>
    intro n
    cases m with
    | zero => exact ⟨0, 1, by rw [Nat.gcd_zero_left]; simp⟩
    | succ m =>
      obtain ⟨x, y, e⟩ := ih (n % (m + 1)) (Nat.mod_lt _ (Nat.succ_pos m)) (m + 1)
      refine ⟨y - ((n / (m + 1) : Nat) : Int) * x, x, ?_⟩
      rw [Nat.gcd_rec, ← e]
      have h : (n : Int) = ((n % (m + 1) : Nat) : Int) + ((m + 1 : Nat) : Int) * ((n / (m + 1) : Nat) : Int) := by
        rw [← Int.natCast_mul, ← Int.natCast_add, Nat.mod_add_div]
      generalize ((n % (m + 1) : Nat) : Int) = r at *
      generalize ((n / (m + 1) : Nat) : Int) = q at *
      generalize ((m + 1 : Nat) : Int) = k at *
      rw [h, Int.mul_sub, Int.add_mul]
      have : k * (q * x) = k * q * x := (Int.mul_assoc _ _ _).symm
      omega
theorem ln_of {L M : Nat} (hl : 0 < L) (hm : 0 < M) : Ln L M (Nat.gcd L M) (M / Nat.gcd L M) (L / Nat.gcd L M) := by
  have g0 : 0 < Nat.gcd L M := Nat.gcd_pos_of_pos_left _ hl
  have eL : L = Nat.gcd L M * (L / Nat.gcd L M) := (Nat.mul_div_cancel' (Nat.gcd_dvd_left L M)).symm
  have eM : M = Nat.gcd L M * (M / Nat.gcd L M) := (Nat.mul_div_cancel' (Nat.gcd_dvd_right L M)).symm
  exact ⟨hl, hm, g0, Nat.pos_of_ne_zero fun z => by rw [z, Nat.mul_zero] at eM; omega, eL, eM, bez L M⟩
section
variable {L M g W V : Nat}
theorem Ln.lap (h : Ln L M g W V) : L * W = M * V := by
  rw [h.eL, h.eM, Nat.mul_assoc, Nat.mul_assoc, Nat.mul_comm V W]
/-- each residue is that of a step in its lane -/
theorem Ln.reach (h : Ln L M g W V) (r : Nat) (hr : r < M) : ∃ s, s < W ∧ (r % g + L * s) % M = r := by
  obtain ⟨x, y, e⟩ := h.co
  have g0 := h.g0
  have W0 : (0 : Int) < (W : Int) := by have := h.w0; omega
  obtain ⟨c, hc⟩ : ∃ c : Nat, c = r / g := ⟨_, rfl⟩
  have er : r = r % g + g * c := by rw [hc]; exact (Nat.mod_add_div r g).symm
  obtain ⟨z, hz⟩ : ∃ z : Int, z = (x * (c : Int)) % (W : Int) := ⟨_, rfl⟩
  have z0 : 0 ≤ z := by rw [hz]; exact Int.emod_nonneg _ (by omega)
  have z1 : z < (W : Int) := by rw [hz]; exact Int.emod_lt_of_pos _ W0
  have ez : x * (c : Int) = z + (W : Int) * (x * (c : Int) / (W : Int)) := by rw [hz]; exact (Int.emod_add_mul_ediv _ _).symm
  generalize x * (c : Int) / (W : Int) = q at ez
  refine ⟨z.toNat, by omega, ?_⟩
  have hlap : (L : Int) * (W : Int) = (M : Int) * (V : Int) := by
    have := h.lap
    rw [← Int.natCast_mul, ← Int.natCast_mul, this]
  have key : ((r % g + L * z.toNat : Nat) : Int) = (r : Int) + (M : Int) * (- (y * (c : Int)) - (V : Int) * q) := by
    have h1 : (L : Int) * (x * (c : Int)) = (g : Int) * (c : Int) - (M : Int) * (y * (c : Int)) := by
      have : ((L : Int) * x + (M : Int) * y) * (c : Int) = (g : Int) * (c : Int) := by rw [e]
      rw [Int.add_mul, Int.mul_assoc, Int.mul_assoc] at this
      omega
    have h2 : (L : Int) * z = (L : Int) * (x * (c : Int)) - (M : Int) * ((V : Int) * q) := by
      rw [ez, Int.mul_add, ← Int.mul_assoc (L : Int) (W : Int) q, hlap, Int.mul_assoc]
      omega
    have h3 : (z.toNat : Int) = z := Int.toNat_of_nonneg z0
    have h4 : (r : Int) = ((r % g : Nat) : Int) + (g : Int) * (c : Int) := by
      rw [← Int.natCast_mul, ← Int.natCast_add, ← er]
    rw [Int.natCast_add, Int.natCast_mul, h3, h2, h1, Int.mul_sub, Int.mul_neg]
    omega
  have := congrArg (fun k : Int => k % (M : Int)) key
  simp only [Int.add_mul_emod_self_left] at this
  rw [← Int.natCast_emod, ← Int.natCast_emod, Nat.mod_eq_of_lt hr] at this
  exact Int.ofNat.inj this
/-- a step whose residue is that of a place lies in the place's lane -/
theorem Ln.lane (h : Ln L M g W V) {l s at_ : Nat} (hl : l < g) (e : (l + L * s) % M = at_ % M) : l = at_ % g := by
  have h1 := congrArg (fun k => k % g) e
  have d1 : g ∣ M := ⟨W, h.eM⟩
  have d2 : g ∣ L * s := ⟨V * s, by rw [h.eL, Nat.mul_assoc]⟩
  simp only [Nat.mod_mod_of_dvd _ d1] at h1
  obtain ⟨k, hk⟩ := d2
  rw [hk, Nat.add_mul_mod_self_left, Nat.mod_eq_of_lt hl] at h1
  exact h1
/-- how many whole laps lie between -/
theorem turns_of {x y M : Nat} (hM : 0 < M) (e : x % M = y % M) : (x : Int) - (y : Int) = (M : Int) * (((x : Int) - (y : Int)) / (M : Int)) := by
  have h1 : ((x : Int) - (y : Int)) % (M : Int) = 0 := by
    rw [Int.emod_eq_emod_iff_emod_sub_eq_zero.symm]
    rw [← Int.natCast_emod, ← Int.natCast_emod, e]
  have := Int.emod_add_mul_ediv ((x : Int) - (y : Int)) (M : Int)
  omega
end
/-- a row of a lane: the other walk at each step, less what the first one climbs -/
def rowR (B : List Int) (b : Int) (L : Nat) (a : Int) (lane s : Nat) : Int := walk B b (lane + L * s) - (s : Int) * a
/-- how far the first walk leads -/
def leadD (A : List Int) (a : Int) (B : List Int) (b : Int) (k : Nat) : Int := walk A a k - walk B b k
section
variable {A B : List Int} {a b : Int} {g W V : Nat}
theorem walk_int {l : List Int} {r : Int} (hl : 0 < l.length) {x y : Nat} {t : Int} (e : (x : Int) - (y : Int) = (l.length : Int) * t) : walk l r x = walk l r y + r * t := by
  by_cases h : 0 ≤ t
  · obtain ⟨n, rfl⟩ := Int.eq_ofNat_of_zero_le h
    rw [← walk_add_mul hl]
    congr 1
    have : ((y + l.length * n : Nat) : Int) = (x : Int) := by rw [Int.natCast_add, Int.natCast_mul]; omega
    omega
  · obtain ⟨n, hn⟩ := Int.eq_ofNat_of_zero_le (show 0 ≤ -t by omega)
    have et : t = -(n : Int) := by omega
    have := walk_add_mul (r := r) hl x n
    have e2 : x + l.length * n = y := by
      have : ((x + l.length * n : Nat) : Int) = (y : Int) := by
        rw [Int.natCast_add, Int.natCast_mul]
        rw [et, Int.mul_neg] at e
        omega
      omega
    rw [e2] at this
    rw [this, et, Int.mul_neg]
    omega
theorem rowR_per (h : Ln A.length B.length g W V) (lane s : Nat) : rowR B b A.length a lane (s + W) = rowR B b A.length a lane s - (a * (W : Int) - b * (V : Int)) := by
  unfold rowR
  have e : lane + A.length * (s + W) = lane + A.length * s + B.length * V := by rw [Nat.mul_add, h.lap]; omega
  rw [e, walk_add_mul h.m0, Int.natCast_add, Int.add_mul, Int.mul_comm (W : Int) a]
  omega
theorem drift_is (h : Ln A.length B.length g W V) : (a * (B.length : Int) - b * (A.length : Int)) / (g : Int) = a * (W : Int) - b * (V : Int) := by
  have e : a * (B.length : Int) - b * (A.length : Int) = (g : Int) * (a * (W : Int) - b * (V : Int)) := by
    rw [h.eM, h.eL, Int.natCast_mul, Int.natCast_mul, Int.mul_sub, Int.mul_left_comm, Int.mul_left_comm b]
  rw [e]
  exact Int.mul_ediv_cancel_left _ (by have := h.g0; omega)
/-- the lead at a step of a runner -/
theorem lead_at (h : Ln A.length B.length g W V) {at_ lane step s : Nat} {t : Int} (ha : at_ < A.length) (ht : ((lane + A.length * step : Nat) : Int) - (at_ : Int) = (B.length : Int) * t) :
    leadD A a B b (at_ + A.length * s) = (A.getD at_ 0 - (step : Int) * a + t * b) - rowR B b A.length a lane (step + s) := by
  unfold leadD rowR
  rw [walk_add_mul h.l0, walk_lt ha]
  have e : ((lane + A.length * (step + s) : Nat) : Int) - ((at_ + A.length * s : Nat) : Int) = (B.length : Int) * t := by
    rw [← ht, Nat.mul_add]
    omega
  have e2 := walk_int (r := b) h.m0 e
  rw [e2, Int.natCast_add, Int.add_mul, Int.mul_comm (s : Int) a, Int.mul_comm t b]
  omega
end
/-! ### the first step under a limit of a row that repeats with a drift -/
section
variable {f : Nat → Int} {W : Nat} {dr lim v : Int} {i : Nat}
theorem per_drift (hp : ∀ s, f (s + W) = f s - dr) (s : Nat) : ∀ u, f (s + W * u) = f s - dr * (u : Int)
  | 0 => by simp
  | u + 1 => by
    rw [Nat.mul_succ, ← Nat.add_assoc, hp, per_drift hp s u, Int.natCast_add, Int.mul_add]
    omega
theorem first_ex (lo : IsLo f i W v) (h : v < lim) : ∃ t, First f lim i t ∧ t < i + W := by
  obtain ⟨j, j1, j2, j3⟩ := lo.at_
  obtain ⟨t, ⟨t1, t2⟩, t3, t4⟩ := least_of (p := fun t => i ≤ t ∧ f t < lim) j ⟨j1, by rw [j3]; exact h⟩
  refine ⟨t, ⟨t1, t2, fun k k1 k2 => ?_⟩, by omega⟩
  refine Int.le_of_not_gt fun z => ?_
  have := t4 k ⟨k1, z⟩
  omega
theorem lapOf (hw : 0 < W) (k : Nat) : ∃ o u, k = o + W * u ∧ o < W := ⟨k % W, k / W, (Nat.mod_add_div k W).symm, Nat.mod_lt _ hw⟩
theorem lead_now (F : First f lim i (i + s)) : f (i + s) < lim ∧ ∀ s', s' < s → lim ≤ f (i + s') := ⟨F.at_, fun s' h => F.no _ (by omega) (by omega)⟩
theorem lead_later (hw : 0 < W) (hp : ∀ s, f (s + W) = f s - dr) (lo : IsLo f i W v) (hv : lim ≤ v) (hd : 0 < dr) {t : Nat} {n : Nat} (hn : (n : Int) = (v - lim) / dr + 1) (F : First f (lim + (n : Int) * dr) i (i + t)) (ht : t < W) :
    f (i + (t + W * n)) < lim ∧ ∀ s', s' < t + W * n → lim ≤ f (i + s') := by
  refine ⟨?_, fun s' hs => ?_⟩
  · rw [← Nat.add_assoc, per_drift hp]
    have := F.at_
    rw [Int.mul_comm (n : Int) dr] at this
    omega
  · obtain ⟨o, u, rfl, ho⟩ := lapOf hw s'
    rw [← Nat.add_assoc, per_drift hp]
    by_cases hu : u < n
    · have h1 := lo.le (i + o) (by omega) (by omega)
      have h2 : dr * (u : Int) ≤ dr * ((n : Int) - 1) := Int.mul_le_mul_of_nonneg_left (by omega) (by omega)
      have h3 : dr * ((v - lim) / dr) ≤ v - lim := Int.mul_ediv_self_le (by omega)
      have h4 : (n : Int) - 1 = (v - lim) / dr := by omega
      rw [h4] at h2
      omega
    · have hu2 : u = n := by
        refine Nat.le_antisymm (Nat.le_of_not_lt fun z => ?_) (by omega)
        have : W * (n + 1) ≤ W * u := Nat.mul_le_mul_left _ z
        rw [Nat.mul_succ] at this
        omega
      subst hu2
      have := F.no (i + o) (by omega) (by omega)
      rw [Int.mul_comm (u : Int) dr] at this
      omega
theorem lead_never (hw : 0 < W) (hp : ∀ s, f (s + W) = f s - dr) (lo : IsLo f i W v) (hv : lim ≤ v) (hd : dr ≤ 0) (s' : Nat) : lim ≤ f (i + s') := by
  obtain ⟨o, u, rfl, ho⟩ := lapOf hw s'
  rw [← Nat.add_assoc, per_drift hp]
  have h1 := lo.le (i + o) (by omega) (by omega)
  have h2 : dr * (u : Int) ≤ 0 * (u : Int) := Int.mul_le_mul_of_nonneg_right hd (by omega)
  omega
end
/-! ### all runners together -/
/-- the least number with P, or none -/
def LeastP (P : Nat → Prop) : Option Nat → Prop
  | some s => P s ∧ ∀ s', s' < s → ¬ P s'
  | none => ∀ s, ¬ P s
theorem least_runner {P : Nat → Prop} {L : Nat} (hL : 0 < L) {st : Nat → Option Nat} (h : ∀ at_, at_ < L → LeastP (fun s => P (at_ + L * s)) (st at_)) :
    (∀ r, (∃ at_ s, at_ < L ∧ st at_ = some s ∧ r = at_ + L * s) → (∀ at_ s, at_ < L → st at_ = some s → r ≤ at_ + L * s) → LeastP P (some r)) ∧ ((∀ at_, at_ < L → st at_ = none) → LeastP P none) := by
  refine ⟨fun r ⟨at_, s, h1, h2, h3⟩ hmin => ⟨?_, fun k hk hP => ?_⟩, fun hn k hP => ?_⟩
  · have := h at_ h1
    rw [h2] at this
    rw [h3]
    exact this.1
  · obtain ⟨o, u, rfl, ho⟩ := lapOf hL k
    have := h o ho
    cases e : st o with
    | none =>
      rw [e] at this
      exact this u hP
    | some s2 =>
      rw [e] at this
      have h4 := hmin o s2 ho e
      have h5 : u < s2 := Nat.lt_of_mul_lt_mul_left (a := L) (by omega)
      exact this.2 u h5 hP
  · obtain ⟨o, u, rfl, ho⟩ := lapOf hL k
    have := h o ho
    rw [hn o ho] at this
    exact this u hP
end NT
set_option linter.all false
set_option maxHeartbeats 4000000
/-! The last lead: of a row that repeats with a drift upwards, the last step under a limit. -/
namespace NT
section
variable {f : Nat → Int} {W : Nat} {dr lim v : Int} {i : Nat}
theorem last_ex (lo : IsLo f i W v) (h : v < lim) : ∃ t, Last f lim i (i + W) (i + t) ∧ t < W := by
  obtain ⟨j, j1, j2, j3⟩ := lo.at_
  obtain ⟨m, ⟨m1, m2⟩, _, m4⟩ := least_of (p := fun m => m < W ∧ f (i + (W - 1 - m)) < lim) (W - 1 - (j - i)) ⟨by omega, by
    rw [show i + (W - 1 - (W - 1 - (j - i))) = j by omega, j3]
    exact h⟩
  refine ⟨W - 1 - m, ⟨by omega, by omega, m2, fun k k1 k2 => ?_⟩, by omega⟩
  refine Int.le_of_not_gt fun z => ?_
  have := m4 (W - 1 - (k - i)) ⟨by omega, by
    rw [show i + (W - 1 - (W - 1 - (k - i))) = k by omega]
    exact z⟩
  omega
theorem last_later (hw : 0 < W) (hp : ∀ s, f (s + W) = f s - dr) (lo : IsLo f i W v) (hv : v < lim) (hd : dr < 0) {t n : Nat} (hn : (n : Int) = (lim - v - 1) / -dr) (F : Last f (lim + (n : Int) * dr) i (i + W) (i + t)) :
    f (i + (t + W * n)) < lim ∧ ∀ s', t + W * n < s' → lim ≤ f (i + s') := by
  refine ⟨?_, fun s' hs => ?_⟩
  · rw [← Nat.add_assoc, per_drift hp]
    have := F.at_
    rw [Int.mul_comm (n : Int) dr] at this
    omega
  · obtain ⟨o, u, rfl, ho⟩ := lapOf hw s'
    rw [← Nat.add_assoc, per_drift hp]
    have h1 := lo.le (i + o) (by omega) (by omega)
    by_cases hu : n < u
    · have h2 : -dr * ((n : Int) + 1) ≤ -dr * (u : Int) := Int.mul_le_mul_of_nonneg_left (by omega) (by omega)
      have h3 : lim - v - 1 < -dr * ((lim - v - 1) / -dr) + -dr := Int.lt_mul_ediv_self_add (by omega)
      rw [← hn] at h3
      rw [Int.mul_add, Int.mul_one] at h2
      rw [Int.neg_mul, Int.neg_mul] at h2
      rw [Int.neg_mul] at h3
      omega
    · have hu2 : u = n := by
        refine Nat.le_antisymm (by omega) (Nat.le_of_not_lt fun z => ?_)
        have : W * (u + 1) ≤ W * n := Nat.mul_le_mul_left _ z
        rw [Nat.mul_succ] at this
        have := F.ge
        omega
      subst hu2
      have := F.no (i + o) (by omega) (by omega)
      rw [Int.mul_comm (u : Int) dr] at this
      omega
/-- no step is under the limit -/
theorem last_never (hw : 0 < W) (hp : ∀ s, f (s + W) = f s - dr) (lo : IsLo f i W v) (hv : lim ≤ v) (hd : dr ≤ 0) (s' : Nat) : lim ≤ f (i + s') := lead_never hw hp lo hv hd s'
end
/-- the greatest number with P, or none -/
def GreatP (P : Nat → Prop) : Option Nat → Prop
  | some s => P s ∧ ∀ s', s < s' → ¬ P s'
  | none => ∀ s, ¬ P s
theorem great_runner {P : Nat → Prop} {L : Nat} (hL : 0 < L) {st : Nat → Option Nat} (h : ∀ at_, at_ < L → GreatP (fun s => P (at_ + L * s)) (st at_)) :
    (∀ r, (∃ at_ s, at_ < L ∧ st at_ = some s ∧ r = at_ + L * s) → (∀ at_ s, at_ < L → st at_ = some s → at_ + L * s ≤ r) → GreatP P (some r)) ∧ ((∀ at_, at_ < L → st at_ = none) → GreatP P none) := by
  refine ⟨fun r ⟨at_, s, h1, h2, h3⟩ hmax => ⟨?_, fun k hk hP => ?_⟩, fun hn k hP => ?_⟩
  · have := h at_ h1
    rw [h2] at this
    rw [h3]
    exact this.1
  · obtain ⟨o, u, rfl, ho⟩ := lapOf hL k
    have := h o ho
    cases e : st o with
    | none =>
      rw [e] at this
      exact this u hP
    | some s2 =>
      rw [e] at this
      have h4 := hmax o s2 ho e
      have h5 : s2 < u := Nat.lt_of_mul_lt_mul_left (a := L) (by omega)
      exact this.2 u h5 hP
  · obtain ⟨o, u, rfl, ho⟩ := lapOf hL k
    have := h o ho
    rw [hn o ho] at this
    exact this u hP
end NT
set_option linter.all false
set_option maxHeartbeats 4000000
/-! The least and the greatest place with a lead, gathered from the runners' own. Plain Lean. -/
namespace NT
theorem first_all {P : Nat → Prop} {L st : Nat} (hL : 0 < L) {ps : List Int} (h1 : ∀ y ∈ ps, ∃ o s, o < L ∧ P (o + L * s) ∧ y = ((st + 1 + (o + L * s) : Nat) : Int)) (h2 : ∀ o, o < L → (∀ s, ¬ P (o + L * s)) ∨ ∃ s, (∀ s', s' < s → ¬ P (o + L * s')) ∧ ((st + 1 + (o + L * s) : Nat) : Int) ∈ ps) :
    (ps = [] → LeastP P none) ∧ ∀ m ∈ ps, (∀ y ∈ ps, m ≤ y) → ∃ s, LeastP P (some s) ∧ m = ((st + 1 + s : Nat) : Int) := by
  refine ⟨fun e k hP => ?_, fun m hm hmin => ?_⟩
  · obtain ⟨o, u, rfl, ho⟩ := lapOf hL k
    rcases h2 o ho with h | ⟨s, _, h⟩
    · exact h u hP
    · rw [e] at h
      cases h
  · obtain ⟨o, s, ho, hP, rfl⟩ := h1 m hm
    refine ⟨_, ⟨hP, fun k hk hk2 => ?_⟩, rfl⟩
    obtain ⟨o2, u, rfl, ho2⟩ := lapOf hL k
    rcases h2 o2 ho2 with h | ⟨s2, h3, h4⟩
    · exact h u hk2
    · have h5 := hmin _ h4
      refine h3 u (Nat.lt_of_mul_lt_mul_left (a := L) ?_) hk2
      omega
theorem last_all {P : Nat → Prop} {L st : Nat} (hL : 0 < L) {ps : List Int} (h1 : ∀ y ∈ ps, ∃ o s, o < L ∧ P (o + L * s) ∧ y = ((st + 1 + (o + L * s) : Nat) : Int)) (h2 : ∀ o, o < L → (∀ s, ¬ P (o + L * s)) ∨ ∃ s, (∀ s', s < s' → ¬ P (o + L * s')) ∧ ((st + 1 + (o + L * s) : Nat) : Int) ∈ ps) :
    (ps = [] → GreatP P none) ∧ ∀ m ∈ ps, (∀ y ∈ ps, y ≤ m) → ∃ s, GreatP P (some s) ∧ m = ((st + 1 + s : Nat) : Int) := by
  refine ⟨fun e k hP => ?_, fun m hm hmin => ?_⟩
  · obtain ⟨o, u, rfl, ho⟩ := lapOf hL k
    rcases h2 o ho with h | ⟨s, _, h⟩
    · exact h u hP
    · rw [e] at h
      cases h
  · obtain ⟨o, s, ho, hP, rfl⟩ := h1 m hm
    refine ⟨_, ⟨hP, fun k hk hk2 => ?_⟩, rfl⟩
    obtain ⟨o2, u, rfl, ho2⟩ := lapOf hL k
    rcases h2 o2 ho2 with h | ⟨s2, h3, h4⟩
    · exact h u hk2
    · have h5 := hmin _ h4
      refine h3 u (Nat.lt_of_mul_lt_mul_left (a := L) ?_) hk2
      omega
/-- what the runners so far have: their own best steps -/
structure Got (R : Nat → Nat → Prop) (P : Nat → Prop) (L st j : Nat) (ps : List Int) : Prop where
  len : ps.length ≤ j
  some : ∀ y ∈ ps, ∃ o s, o < j ∧ P (o + L * s) ∧ y = ((st + 1 + (o + L * s) : Nat) : Int)
  all : ∀ o, o < j → (∀ s, ¬ P (o + L * s)) ∨ ∃ s, (∀ s', R s' s → ¬ P (o + L * s')) ∧ ((st + 1 + (o + L * s) : Nat) : Int) ∈ ps
section
variable {R : Nat → Nat → Prop} {P : Nat → Prop} {L st j : Nat} {ps : List Int}
theorem Got.nil : Got R P L st 0 [] := ⟨Nat.le_refl _, (fun y hy => nomatch hy), fun o ho => absurd ho (Nat.not_lt_zero _)⟩
theorem Got.skip (h : Got R P L st j ps) (n : ∀ s, ¬ P (j + L * s)) : Got R P L st (j + 1) ps := by
  refine ⟨by have := h.len; omega, fun y hy => ?_, fun o ho => ?_⟩
  · obtain ⟨o, s, h1, h2⟩ := h.some y hy
    exact ⟨o, s, by omega, h2⟩
  · by_cases c : o < j
    · exact h.all o c
    · rw [show o = j by omega]
      exact .inl n
theorem Got.add (h : Got R P L st j ps) {s : Nat} {y : Int} (hP : P (j + L * s)) (n : ∀ s', R s' s → ¬ P (j + L * s')) (e : y = ((st + 1 + (j + L * s) : Nat) : Int)) : Got R P L st (j + 1) (ps ++ [y]) := by
  subst e
  refine ⟨by rw [List.length_append]; exact Nat.succ_le_succ h.len, fun y hy => ?_, fun o ho => ?_⟩
  · rcases List.mem_append.mp hy with hy | hy
    · obtain ⟨o, s, h1, h2⟩ := h.some y hy
      exact ⟨o, s, by omega, h2⟩
    · rw [List.mem_singleton.mp hy]
      exact ⟨j, s, by omega, hP, rfl⟩
  · by_cases c : o < j
    · rcases h.all o c with h | ⟨s2, h1, h2⟩
      · exact .inl h
      · exact .inr ⟨s2, h1, List.mem_append.mpr (.inl h2)⟩
    · rw [show o = j by omega]
      exact .inr ⟨s, n, List.mem_append.mpr (.inr (List.mem_singleton.mpr rfl))⟩
end
end NT
set_option linter.all false
set_option maxHeartbeats 4000000
/-! The greater and the lesser one of two rows of values, never on top. Plain Lean. -/
namespace NT
/-- the greater, or the lesser, of two -/
def cho (g : Bool) (x y : Int) : Int := if g then (if x < y then y else x) else (if x < y then x else y)
def chO : Bool → Option Int → Option Int → Option Int
  | true, some x, some y => some (cho true x y)
  | true, _, _ => none
  | false, some x, some y => some (cho false x y)
  | false, some x, none => some x
  | false, none, o => o
def leO (a b : Option Int) : Prop := b = none ∨ ∃ x y, a = some x ∧ b = some y ∧ x ≤ y
theorem leO.refl (a : Option Int) : leO a a := by
  cases a with
  | none => exact .inl rfl
  | some x => exact .inr ⟨x, x, rfl, rfl, Int.le_refl _⟩
theorem leO.trans {a b c : Option Int} (h : leO a b) (k : leO b c) : leO a c := by
  rcases k with rfl | ⟨x, y, rfl, rfl, k⟩
  · exact .inl rfl
  · rcases h with h | ⟨u, v, rfl, e, h⟩
    · cases h
    · injection e with e
      exact .inr ⟨u, y, rfl, rfl, by omega⟩
theorem leO.total (a b : Option Int) : leO a b ∨ leO b a := by
  cases b with
  | none => exact .inl (.inl rfl)
  | some y =>
    cases a with
    | none => exact .inr (.inl rfl)
    | some x =>
      rcases Int.le_total x y with h | h
      · exact .inl (.inr ⟨x, y, rfl, rfl, h⟩)
      · exact .inr (.inr ⟨y, x, rfl, rfl, h⟩)
theorem cho_le {x y : Int} (h : x ≤ y) : cho true x y = y ∧ cho false x y = x := by
  show (if x < y then y else x) = y ∧ (if x < y then x else y) = x
  split <;> exact ⟨by omega, by omega⟩
theorem cho_comm (g : Bool) (x y : Int) : cho g x y = cho g y x := by
  cases g
  · show (if x < y then x else y) = (if y < x then y else x)
    split <;> split <;> omega
  · show (if x < y then y else x) = (if y < x then x else y)
    split <;> split <;> omega
theorem chO_le {a b : Option Int} (h : leO a b) : chO true a b = b ∧ chO false a b = a := by
  rcases h with rfl | ⟨x, y, rfl, rfl, h⟩
  · cases a <;> exact ⟨rfl, rfl⟩
  · exact ⟨congrArg some (cho_le h).1, congrArg some (cho_le h).2⟩
theorem chO_comm (g : Bool) (a b : Option Int) : chO g a b = chO g b a := by
  cases g <;> cases a <;> cases b <;> first | rfl | exact congrArg some (cho_comm ..)
theorem chO_ge {a b : Option Int} (h : leO b a) : chO true a b = a ∧ chO false a b = b := by
  rw [chO_comm, chO_comm false]
  exact chO_le h
theorem chO_some {g : Bool} {x y : Int} : chO g (some x) (some y) = some (cho g x y) := by cases g <;> rfl
theorem cho_add {g : Bool} {x y c : Int} : cho g (x + c) (y + c) = cho g x y + c := by
  cases g
  · show (if x + c < y + c then x + c else y + c) = (if x < y then x else y) + c
    split <;> split <;> omega
  · show (if x + c < y + c then y + c else x + c) = (if x < y then y else x) + c
    split <;> split <;> omega
theorem asc_cho {F G : Nat → Option Int} (A : Asc F) (B : Asc G) (g : Bool) : Asc fun n => chO g (F n) (G n) := by
  have lw : ∀ {x y : Int}, cho true x y = x ∧ y ≤ x ∧ cho false x y = y ∨ cho true x y = y ∧ x ≤ y ∧ cho false x y = x := fun {x y} => by
    rcases Int.le_total x y with h | h
    · exact .inr ⟨(cho_le h).1, h, (cho_le h).2⟩
    · have := cho_le h
      rw [cho_comm true, cho_comm false]
      exact .inl ⟨this.1, h, this.2⟩
  refine ⟨fun n v hn e => ?_, fun n v hn e => ?_⟩
  · cases ef : F n with
    | none =>
      rw [ef] at e
      cases eg : G n with
      | none => rw [eg] at e; cases g <;> cases e
      | some y =>
        rw [eg] at e
        cases g
        · injection e with e
          exact e ▸ B.ge n y hn eg
        · cases e
    | some x =>
      rw [ef] at e
      have x0 := A.ge n x hn ef
      cases eg : G n with
      | none =>
        rw [eg] at e
        cases g
        · injection e with e
          omega
        · cases e
      | some y =>
        rw [eg, chO_some] at e
        injection e with e
        have y0 := B.ge n y hn eg
        cases g <;> rcases @lw x y with ⟨h1, _, h2⟩ | ⟨h1, _, h2⟩ <;> omega
  · have up := fun (u : Int) (h : F (n + 1) = some u) => A.up n u hn h
    have vp := fun (u : Int) (h : G (n + 1) = some u) => B.up n u hn h
    show ∃ u, chO g (F n) (G n) = some u ∧ u ≤ v
    have e : chO g (F (n + 1)) (G (n + 1)) = some v := e
    cases ef : F (n + 1) with
    | none =>
      rw [ef] at e
      cases eg : G (n + 1) with
      | none => rw [eg] at e; cases g <;> cases e
      | some y =>
        rw [eg] at e
        obtain ⟨w, hw, le⟩ := vp y eg
        rw [hw]
        cases g
        · injection e with e
          subst e
          cases F n with
          | none => exact ⟨w, rfl, le⟩
          | some z =>
            refine ⟨_, rfl, ?_⟩
            rcases @lw z w with ⟨h1, _, h2⟩ | ⟨h1, _, h2⟩ <;> omega
        · cases e
    | some x =>
      rw [ef] at e
      obtain ⟨u, hu, lx⟩ := up x ef
      rw [hu]
      cases eg : G (n + 1) with
      | none =>
        rw [eg] at e
        cases g
        · injection e with e
          subst e
          cases G n with
          | none => exact ⟨u, rfl, lx⟩
          | some z =>
            refine ⟨_, rfl, ?_⟩
            rcases @lw u z with ⟨h1, _, h2⟩ | ⟨h1, _, h2⟩ <;> omega
        · cases e
      | some y =>
        rw [eg, chO_some] at e
        obtain ⟨w, hw, ly⟩ := vp y eg
        rw [hw, chO_some]
        injection e with e
        subst e
        refine ⟨_, rfl, ?_⟩
        cases g <;> rcases @lw x y with ⟨h1, _, h2⟩ | ⟨h1, _, h2⟩ <;> rcases @lw u w with ⟨k1, _, k2⟩ | ⟨k1, _, k2⟩ <;> omega
/-- behind N one of two rows is nowhere above the other one, or they go side by side -/
def Dom (F G : Nat → Option Int) (N : Nat) : Prop := (∀ n, N < n → leO (F n) (G n)) ∨ (∀ n, N < n → leO (G n) (F n)) ∨
  ∃ (m : Nat) (c : Int), 0 < m ∧ ∀ n, N < n → ∃ u v, F n = some u ∧ G n = some v ∧ F (n + m) = some (u + c) ∧ G (n + m) = some (v + c)
theorem Dom.symm {F G : Nat → Option Int} {N : Nat} (h : Dom F G N) : Dom G F N := by
  rcases h with h | h | ⟨m, c, hm, h⟩
  · exact .inr (.inl h)
  · exact .inl h
  · exact .inr (.inr ⟨m, c, hm, fun n hn => by obtain ⟨u, v, a, b, d, e⟩ := h n hn; exact ⟨v, u, b, a, e, d⟩⟩)
theorem Dom.self (F : Nat → Option Int) (N : Nat) : Dom F F N := .inl fun n _ => leO.refl _
theorem Dom.congr {F G F' : Nat → Option Int} {N : Nat} (h : Dom F G N) (e : ∀ n, N < n → F' n = F n) : Dom F' G N := by
  rcases h with h | h | ⟨m, c, hm, h⟩
  · exact .inl fun n hn => by rw [e n hn]; exact h n hn
  · exact .inr (.inl fun n hn => by rw [e n hn]; exact h n hn)
  · exact .inr (.inr ⟨m, c, hm, fun n hn => by rw [e n hn, e (n + m) (by omega)]; exact h n hn⟩)
theorem par_mul {F : Nat → Option Int} {N m : Nat} {c : Int} (h : ∀ n, N < n → ∃ u, F n = some u ∧ F (n + m) = some (u + c)) (j : Nat) : ∀ n, N < n → ∃ u, F n = some u ∧ F (n + m * j) = some (u + c * (j : Int)) := by
  induction j with
  | zero =>
    intro n hn
    obtain ⟨u, a, _⟩ := h n hn
    exact ⟨u, a, by simpa using a⟩
  | succ j ih =>
    intro n hn
    obtain ⟨u, a, b⟩ := ih n hn
    obtain ⟨v, a2, b2⟩ := h (n + m * j) (by omega)
    rw [b] at a2
    injection a2 with a2
    refine ⟨u, a, ?_⟩
    rw [Nat.mul_succ, ← Nat.add_assoc, b2, ← a2, Int.natCast_succ, Int.mul_add]
    congr 1
    omega
/-- side by side with one that goes side by side with a third one -/
theorem par_three {F G H : Nat → Option Int} {N m m' : Nat} {c c' : Int} (hm : 0 < m) (hm' : 0 < m') (h : ∀ n, N < n → ∃ u v, F n = some u ∧ G n = some v ∧ F (n + m) = some (u + c) ∧ G (n + m) = some (v + c)) (h' : ∀ n, N < n → ∃ u v, G n = some u ∧ H n = some v ∧ G (n + m') = some (u + c') ∧ H (n + m') = some (v + c')) :
    ∃ (k : Nat) (d : Int), 0 < k ∧ ∀ n, N < n → ∃ u v w, F n = some u ∧ G n = some v ∧ H n = some w ∧ F (n + k) = some (u + d) ∧ G (n + k) = some (v + d) ∧ H (n + k) = some (w + d) := by
  have pF := par_mul (F := F) (N := N) (m := m) (c := c) (fun n hn => by obtain ⟨u, v, a, b, x, y⟩ := h n hn; exact ⟨u, a, x⟩) m'
  have pG := par_mul (F := G) (N := N) (m := m) (c := c) (fun n hn => by obtain ⟨u, v, a, b, x, y⟩ := h n hn; exact ⟨v, b, y⟩) m'
  have pG' := par_mul (F := G) (N := N) (m := m') (c := c') (fun n hn => by obtain ⟨u, v, a, b, x, y⟩ := h' n hn; exact ⟨u, a, x⟩) m
  have pH := par_mul (F := H) (N := N) (m := m') (c := c') (fun n hn => by obtain ⟨u, v, a, b, x, y⟩ := h' n hn; exact ⟨v, b, y⟩) m
  refine ⟨m * m', c * (m' : Int), Nat.mul_pos hm hm', fun n hn => ?_⟩
  obtain ⟨u, a1, a2⟩ := pF n hn
  obtain ⟨v, b1, b2⟩ := pG n hn
  obtain ⟨v', b1', b2'⟩ := pG' n hn
  obtain ⟨w, d1, d2⟩ := pH n hn
  rw [b1] at b1'
  injection b1' with b1'
  subst b1'
  rw [Nat.mul_comm m' m] at b2' d2
  rw [b2] at b2'
  injection b2' with b2'
  have e : c' * (m : Int) = c * (m' : Int) := by omega
  rw [e] at d2
  exact ⟨u, v, w, a1, b1, d1, a2, b2, d2⟩
theorem dom_cho {F G H : Nat → Option Int} {N : Nat} (g : Bool) (fg : Dom F G N) (fh : Dom F H N) (gh : Dom G H N) : Dom (fun n => chO g (F n) (G n)) H N := by
  rcases fg with h | h | ⟨m, c, hm, h⟩
  · cases g
    · exact fh.congr fun n hn => (chO_le (h n hn)).2
    · exact gh.congr fun n hn => (chO_le (h n hn)).1
  · cases g
    · exact gh.congr fun n hn => (chO_ge (h n hn)).2
    · exact fh.congr fun n hn => (chO_ge (h n hn)).1
  · -- side by side
    have side : ∀ {m' : Nat} {c' : Int}, 0 < m' → (∀ n, N < n → ∃ u v, G n = some u ∧ H n = some v ∧ G (n + m') = some (u + c') ∧ H (n + m') = some (v + c')) → Dom (fun n => chO g (F n) (G n)) H N := fun {m' c'} hm' h' => by
      obtain ⟨k, d, hk, p⟩ := par_three hm hm' h h'
      refine .inr (.inr ⟨k, d, hk, fun n hn => ?_⟩)
      obtain ⟨u, v, w, a1, a2, a3, b1, b2, b3⟩ := p n hn
      refine ⟨cho g u v, w, ?_, a3, ?_, b3⟩
      · show chO g (F n) (G n) = _
        rw [a1, a2, chO_some]
      · show chO g (F (n + k)) (G (n + k)) = _
        rw [b1, b2, chO_some, cho_add]
    have side2 : ∀ {m' : Nat} {c' : Int}, 0 < m' → (∀ n, N < n → ∃ u v, F n = some u ∧ H n = some v ∧ F (n + m') = some (u + c') ∧ H (n + m') = some (v + c')) → Dom (fun n => chO g (F n) (G n)) H N := fun {m' c'} hm' h' => by
      obtain ⟨k, d, hk, p⟩ := par_three (F := G) (G := F) hm hm' (fun n hn => by obtain ⟨u, v, a, b, x, y⟩ := h n hn; exact ⟨v, u, b, a, y, x⟩) h'
      refine .inr (.inr ⟨k, d, hk, fun n hn => ?_⟩)
      obtain ⟨u, v, w, a1, a2, a3, b1, b2, b3⟩ := p n hn
      refine ⟨cho g v u, w, ?_, a3, ?_, b3⟩
      · show chO g (F n) (G n) = _
        rw [a1, a2, chO_some]
      · show chO g (F (n + k)) (G (n + k)) = _
        rw [b1, b2, chO_some, cho_add]
    rcases gh with gh | gh | ⟨m', c', hm', gh⟩
    · rcases fh with fh | fh | ⟨m', c', hm', fh⟩
      · -- both below H
        refine .inl fun n hn => ?_
        show leO (chO _ (F n) (G n)) (H n)
        rcases leO.total (F n) (G n) with q | q
        · cases g
          · rw [(chO_le q).2]; exact fh n hn
          · rw [(chO_le q).1]; exact gh n hn
        · cases g
          · rw [(chO_ge q).2]; exact gh n hn
          · rw [(chO_ge q).1]; exact fh n hn
      · cases g
        · -- the lesser one is below H
          refine .inl fun n hn => ?_
          show leO (chO _ (F n) (G n)) (H n)
          rcases leO.total (F n) (G n) with q | q
          · rw [(chO_le q).2]; exact q.trans (gh n hn)
          · rw [(chO_ge q).2]; exact gh n hn
        · refine .inr (.inl fun n hn => ?_)
          show leO (H n) (chO _ (F n) (G n))
          rcases leO.total (F n) (G n) with q | q
          · rw [(chO_le q).1]; exact (fh n hn).trans q
          · rw [(chO_ge q).1]; exact fh n hn
      · exact side2 hm' fh
    · rcases fh with fh | fh | ⟨m', c', hm', fh⟩
      · cases g
        · refine .inl fun n hn => ?_
          show leO (chO _ (F n) (G n)) (H n)
          rcases leO.total (F n) (G n) with q | q
          · rw [(chO_le q).2]; exact fh n hn
          · rw [(chO_ge q).2]; exact q.trans (fh n hn)
        · refine .inr (.inl fun n hn => ?_)
          show leO (H n) (chO _ (F n) (G n))
          rcases leO.total (F n) (G n) with q | q
          · rw [(chO_le q).1]; exact gh n hn
          · rw [(chO_ge q).1]; exact (gh n hn).trans q
      · refine .inr (.inl fun n hn => ?_)
        show leO (H n) (chO _ (F n) (G n))
        rcases leO.total (F n) (G n) with q | q
        · cases g
          · rw [(chO_le q).2]; exact fh n hn
          · rw [(chO_le q).1]; exact gh n hn
        · cases g
          · rw [(chO_ge q).2]; exact gh n hn
          · rw [(chO_ge q).1]; exact fh n hn
      · exact side2 hm' fh
    · exact side hm' gh
end NT
set_option linter.all false
set_option maxHeartbeats 4000000
/-! The least and the greatest needs over all courses of a maker. Plain Lean. -/
namespace NT
/-- 1 for the least, -1 for the greatest -/
def sg (most : Bool) : Int := if most then -1 else 1
theorem sg_sq (most : Bool) : sg most * sg most = 1 := by cases most <;> rfl
theorem sg_inv {most : Bool} {x y : Int} (h : y = sg most * x) : x = sg most * y := by rw [h, ← Int.mul_assoc, sg_sq, Int.one_mul]
/-- the deeds of these ways, one behind the other -/
def dso (ws : List (List Deed)) (ks : List Nat) : List Deed := (ks.map fun k => ws.getD k []).flatten
def mA (i : Nat) (ws : List (List Deed)) (k : Nat) : Nat := (ahead i (ws.getD k []) 0).length
def tA (i : Nat) (ws : List (List Deed)) (k : Nat) : Nat := took i (ws.getD k [])
def aA (i : Nat) (ws : List (List Deed)) (k a : Nat) : Int := (ahead i (ws.getD k []) 0).getD a 0
def dA (most : Bool) (i : Nat) (ws : List (List Deed)) (k : Nat) : Int := sg most * (tA i ws k : Int)
def mkA (most : Bool) (i : Nat) (ws : List (List Deed)) (k a : Nat) : Int := sg most * aA i ws k a
/-- the ways that give -/
def giv (i : Nat) (ws : List (List Deed)) : List Nat := (List.range ws.length).filter fun k => decide (mA i ws k ≠ 0)
theorem giv_mem {i : Nat} {ws : List (List Deed)} {k : Nat} : k ∈ giv i ws ↔ k < ws.length ∧ 1 ≤ mA i ws k := by
  unfold giv
  rw [List.mem_filter, List.mem_range, decide_eq_true_iff]
  omega
theorem giv_pos {i : Nat} {ws : List (List Deed)} : ∀ k ∈ giv i ws, 1 ≤ mA i ws k := fun k h => (giv_mem.mp h).2
/-- what the n-th piece of the rounds costs -/
noncomputable def best (most : Bool) (i : Nat) (ws : List (List Deed)) (n : Nat) : Int := minV (Wv (giv i ws) (mA i ws) (dA most i ws) (mkA most i ws) n)
/-- no course gives for ever, or one that does not is taken for the greatest -/
def stopT (most : Bool) (i : Nat) (ws : List (List Deed)) : Bool := if most then (giv i ws).length < ws.length else (giv i ws).isEmpty
/-- the least, or the greatest, need over all courses, place by place -/
noncomputable def ext (most : Bool) (i : Nat) (b : List Deed) (ws : List (List Deed)) (n : Nat) : Option Int :=
  if n ≤ (ahead i b 0).length then some ((ahead i b 0).getD (n - 1) 0) else if stopT most i ws = true then none else some ((took i b : Int) + sg most * best most i ws (n - (ahead i b 0).length))
section
variable {i : Nat} {b : List Deed} {ws : List (List Deed)} {most : Bool}
theorem aA_le {k a : Nat} (h : a < mA i ws k) : 0 ≤ aA i ws k a ∧ aA i ws k a ≤ (tA i ws k : Int) := by
  have := ahead_le _ (getD_mem (l := ahead i (ws.getD k []) 0) h)
  unfold aA tA
  omega
theorem aA_up {k a : Nat} (h : a + 1 < mA i ws k) : aA i ws k a ≤ aA i ws k (a + 1) := climbs_up (ahead_climbs (i := i) (a := ws.getD k []) (Int.le_refl 0)) h
theorem filter_len {l : List Nat} {p : Nat → Bool} (h : ¬ (l.filter p).length < l.length) : ∀ k ∈ l, p k = true := by
  induction l with
  | nil => simp
  | cons x l ih =>
    have := List.length_filter_le p l
    rw [List.filter_cons] at h
    intro k hk
    by_cases c : p x = true
    · rw [if_pos c] at h
      simp only [List.length_cons] at h
      rcases List.mem_cons.mp hk with rfl | hk
      · exact c
      · exact ih (by omega) k hk
    · rw [if_neg c] at h
      simp only [List.length_cons] at h
      omega
/-- if the greatest goes on, all ways give -/
theorem all_give (h : stopT true i ws = false) : ∀ k, k < ws.length → k ∈ giv i ws := fun k hk => by
  have h : ¬ (giv i ws).length < ws.length := by
    unfold stopT at h
    simpa using h
  have := filter_len (l := List.range ws.length) (p := fun k => decide (mA i ws k ≠ 0)) (by rw [List.length_range]; exact h) k (List.mem_range.mpr hk)
  exact List.mem_filter.mpr ⟨List.mem_range.mpr hk, this⟩
theorem some_gives (h0 : ws ≠ []) (h : stopT most i ws = false) : ∃ k, k ∈ giv i ws := by
  cases most with
  | true => exact ⟨0, all_give h 0 (List.length_pos_iff.mpr h0)⟩
  | false =>
    unfold stopT at h
    simp at h
    exact List.exists_mem_of_ne_nil _ h
theorem best_is {kb : Nat} (hb : kb ∈ giv i ws) {n : Nat} (hn : 1 ≤ n) : MinOf (Wv (giv i ws) (mA i ws) (dA most i ws) (mkA most i ws) n) (some (best most i ws n)) := wv_val hb giv_pos hn
/-- what is told does not fall -/
theorem best_up {kb : Nat} (hb : kb ∈ giv i ws) {n : Nat} (hn : 1 ≤ n) : 0 ≤ sg most * best most i ws n ∧ sg most * best most i ws n ≤ sg most * best most i ws (n + 1) := by
  have b1 := best_is (most := most) hb hn
  have b2 := best_is (most := most) hb (show 1 ≤ n + 1 by omega)
  have nn : ∀ g c, Rch (giv i ws) (mA i ws) (dA most i ws) g c → 0 ≤ sg most * c := fun g c h => by
    obtain ⟨ks, -, -, h3⟩ := h
    rw [← h3]
    clear h3
    induction ks with
    | nil => simp
    | cons k ks ih =>
      rw [List.map_cons, List.sum_cons, Int.mul_add]
      have : sg most * dA most i ws k = (tA i ws k : Int) := by unfold dA; rw [← Int.mul_assoc, sg_sq, Int.one_mul]
      omega
  refine ⟨?_, ?_⟩
  · obtain ⟨k, hk, a, g, c', ha, e, r, e2⟩ := b1.1
    rw [e2, Int.mul_add]
    have := nn g c' r
    have q : sg most * mkA most i ws k a = aA i ws k a := by unfold mkA; rw [← Int.mul_assoc, sg_sq, Int.one_mul]
    have := aA_le ha
    omega
  · cases most with
    | false =>
      obtain ⟨c', w, le⟩ := wv_down (fun k hk a ha => by have := aA_up ha; unfold mkA sg; simp; exact this) (fun k hk a ha => by have := aA_le ha; unfold mkA dA sg; simp; omega) (fun k hk a ha => by have := aA_le ha; unfold mkA sg; simp; omega) giv_pos hn b2.1
      have := b1.2 c' w
      show 1 * _ ≤ 1 * _
      omega
    | true =>
      obtain ⟨c', w, le⟩ := wv_up (fun k hk a ha => by have := aA_up ha; unfold mkA sg; simp; exact this) (fun k hk a ha => by have := aA_le ha; unfold mkA dA sg; simp; omega) (fun k hk a ha => by have := aA_le ha; unfold mkA sg; simp; omega) giv_pos b1.1
      have := b2.2 c' w
      show -1 * _ ≤ -1 * _
      omega
theorem ext_asc (h0 : ws ≠ []) : Asc (ext most i b ws) := by
  have hc := ahead_climbs (i := i) (a := b) (Int.le_refl 0)
  have hle : ∀ a, a < (ahead i b 0).length → 0 ≤ (ahead i b 0).getD a 0 ∧ (ahead i b 0).getD a 0 ≤ (took i b : Int) := fun a ha => by
    have := ahead_le _ (getD_mem (l := ahead i b 0) ha)
    omega
  refine ⟨fun n v hn e => ?_, fun n v hn e => ?_⟩
  · unfold ext at e
    by_cases c : n ≤ (ahead i b 0).length
    · rw [if_pos c] at e
      have := hle (n - 1) (by omega)
      injection e with e
      omega
    · rw [if_neg c] at e
      cases hs : stopT most i ws with
      | true => rw [hs] at e; cases e
      | false =>
        rw [hs, if_neg (by simp)] at e
        obtain ⟨k, hk⟩ := some_gives h0 hs
        have := (best_up (most := most) hk (show 1 ≤ n - (ahead i b 0).length by omega)).1
        injection e with e
        omega
  · unfold ext at e ⊢
    by_cases c : n + 1 ≤ (ahead i b 0).length
    · rw [if_pos c] at e
      rw [if_pos (by omega)]
      have := climbs_up (i := n - 1) hc (by omega)
      rw [show n - 1 + 1 = n + 1 - 1 by omega] at this
      injection e with e
      exact ⟨_, rfl, by omega⟩
    · rw [if_neg c] at e
      cases hs : stopT most i ws with
      | true => rw [hs] at e; cases e
      | false =>
        rw [hs, if_neg (by simp)] at e
        obtain ⟨k, hk⟩ := some_gives h0 hs
        injection e with e
        by_cases c2 : n ≤ (ahead i b 0).length
        · rw [if_pos c2]
          have := hle (n - 1) (by omega)
          have := (best_up (most := most) hk (show 1 ≤ n + 1 - (ahead i b 0).length by omega)).1
          exact ⟨_, rfl, by omega⟩
        · rw [if_neg c2, if_neg (by simp)]
          have := (best_up (most := most) hk (show 1 ≤ n - (ahead i b 0).length by omega)).2
          rw [show n - (ahead i b 0).length + 1 = n + 1 - (ahead i b 0).length by omega] at this
          exact ⟨_, rfl, by omega⟩
/-- the best way: no other one takes more (less) for each piece -/
def IsBest (most : Bool) (i : Nat) (ws : List (List Deed)) (kb : Nat) : Prop := kb ∈ giv i ws ∧ ∀ k ∈ giv i ws, dA most i ws kb * (mA i ws k : Int) ≤ dA most i ws k * (mA i ws kb : Int)
/-- the table that is told -/
theorem ext_form (h0 : ws ≠ []) (hs : stopT most i ws = false) {kb M lead : Nat} (hb : IsBest most i ws kb) (hM : ∀ k ∈ giv i ws, mA i ws k ≤ M) (hl : mA i ws kb * M ≤ lead ∨ ((∀ k ∈ giv i ws, k = kb) ∧ mA i ws kb ≤ lead)) :
    Good (segN (ext most i b ws) 0 ((ahead i b 0).length + lead)) (segN (ext most i b ws) ((ahead i b 0).length + lead) (mA i ws kb)) (tA i ws kb : Int) ∧
    ∀ n, 1 ≤ n → at_ (segN (ext most i b ws) 0 ((ahead i b 0).length + lead)) (segN (ext most i b ws) ((ahead i b 0).length + lead) (mA i ws kb)) (tA i ws kb : Int) n = ext most i b ws n := by
  have p := giv_pos kb hb.1
  refine looped (ext_asc h0) p (fun n hn => ?_) fun n hn => ?_
  · unfold ext
    by_cases c : n ≤ (ahead i b 0).length
    · rw [if_pos c]; simp
    · rw [if_neg c, hs]; simp
  · have per : best most i ws (n - (ahead i b 0).length + mA i ws kb) = best most i ws (n - (ahead i b 0).length) + dA most i ws kb := by
      rcases hl with hl | ⟨h1, h2⟩
      · refine wv_per (exch_all hb.1 giv_pos hM hb.2) hb.1 giv_pos hM (by omega) ?_
        obtain ⟨q, hq⟩ : ∃ q, mA i ws kb = q + 1 := ⟨mA i ws kb - 1, by omega⟩
        rw [hq] at hl ⊢
        rw [Nat.add_sub_cancel]
        rw [Nat.succ_mul] at hl
        omega
      · refine wv_per (exch_one h1) hb.1 giv_pos (M := mA i ws kb) (fun k hk => by rw [h1 k hk]; exact Nat.le_refl _) (by omega) (by omega)
    unfold numF ext
    rw [if_neg (show ¬ n + mA i ws kb ≤ (ahead i b 0).length by omega), if_neg (show ¬ n ≤ (ahead i b 0).length by omega), hs, if_neg (by simp)]
    rw [show n + mA i ws kb - (ahead i b 0).length = n - (ahead i b 0).length + mA i ws kb by omega, per, Int.mul_add]
    show _ + (_ + sg most * dA most i ws kb) = _ + _ + _
    have : sg most * dA most i ws kb = (tA i ws kb : Int) := by unfold dA; rw [← Int.mul_assoc, sg_sq, Int.one_mul]
    rw [this]
    show _ = (took i b : Int) + sg most * _ + (tA i ws kb : Int)
    omega
/-- the values as they are told: those of the beginning, then these -/
noncomputable def vls (most : Bool) (i : Nat) (b : List Deed) (ws : List (List Deed)) (n : Nat) : List Int := (List.range n).map fun j => (took i b : Int) + sg most * best most i ws (j + 1)
theorem vls_len {n : Nat} : (vls most i b ws n).length = n := by unfold vls; rw [List.length_map, List.length_range]
theorem ext_vls (hs : stopT most i ws = false) {n : Nat} : segN (ext most i b ws) 0 ((ahead i b 0).length + n) = ahead i b 0 ++ vls most i b ws n := by
  apply List.ext_getElem?
  intro k
  unfold segN vls
  by_cases c : k < (ahead i b 0).length + n
  · rw [List.getElem?_map, List.getElem?_range c]
    show some (numF (ext most i b ws) (0 + k + 1)) = _
    unfold numF ext
    by_cases c2 : k < (ahead i b 0).length
    · rw [if_pos (by omega), List.getElem?_append_left c2, List.getElem?_eq_getElem c2]
      show some ((ahead i b 0).getD (0 + k + 1 - 1) 0) = _
      rw [show 0 + k + 1 - 1 = k by omega, List.getD_eq_getElem?_getD, List.getElem?_eq_getElem c2]
      rfl
    · rw [if_neg (by omega), hs, if_neg (by simp), List.getElem?_append_right (by omega), List.getElem?_map, List.getElem?_range (by omega)]
      show some ((took i b : Int) + sg most * best most i ws (0 + k + 1 - (ahead i b 0).length)) = some ((took i b : Int) + sg most * best most i ws (k - (ahead i b 0).length + 1))
      rw [show 0 + k + 1 - (ahead i b 0).length = k - (ahead i b 0).length + 1 by omega]
  · rw [List.getElem?_eq_none (by rw [List.length_map, List.length_range]; omega), List.getElem?_eq_none (by rw [List.length_append, List.length_map, List.length_range]; omega)]
theorem seg_split {F : Nat → Option Int} {a m : Nat} : segN F 0 (a + m) = segN F 0 a ++ segN F a m := by
  unfold segN
  apply List.ext_getElem?
  intro k
  by_cases c : k < a + m
  · rw [List.getElem?_map, List.getElem?_range c]
    by_cases c2 : k < a
    · rw [List.getElem?_append_left (by rw [List.length_map, List.length_range]; exact c2), List.getElem?_map, List.getElem?_range c2]
    · rw [List.getElem?_append_right (by rw [List.length_map, List.length_range]; omega), List.length_map, List.length_range, List.getElem?_map, List.getElem?_range (by omega)]
      show some (numF F (0 + k + 1)) = some (numF F (a + (k - a) + 1))
      rw [show 0 + k + 1 = a + (k - a) + 1 by omega]
  · rw [List.getElem?_eq_none (by rw [List.length_map, List.length_range]; omega), List.getElem?_eq_none (by rw [List.length_append, List.length_map, List.length_range, List.length_map, List.length_range]; omega)]
/-- where they are cut into head and loop -/
theorem ext_cut (hs : stopT most i ws = false) {lead lap : Nat} : segN (ext most i b ws) 0 ((ahead i b 0).length + lead) = ahead i b 0 ++ (vls most i b ws (lead + lap)).take lead ∧ segN (ext most i b ws) ((ahead i b 0).length + lead) lap = (vls most i b ws (lead + lap)).drop lead := by
  have e1 := ext_vls (b := b) hs (n := lead + lap)
  have e2 := seg_split (F := ext most i b ws) (a := (ahead i b 0).length + lead) (m := lap)
  rw [Nat.add_assoc, e1] at e2
  have l1 : (segN (ext most i b ws) 0 ((ahead i b 0).length + lead)).length = (ahead i b 0 ++ (vls most i b ws (lead + lap)).take lead).length := by
    rw [segN_len, List.length_append, List.length_take, vls_len]
    omega
  have e3 : (ahead i b 0 ++ (vls most i b ws (lead + lap)).take lead) ++ (vls most i b ws (lead + lap)).drop lead = segN (ext most i b ws) 0 ((ahead i b 0).length + lead) ++ segN (ext most i b ws) ((ahead i b 0).length + lead) lap := by
    rw [List.append_assoc, List.take_append_drop]
    exact e2
  have := List.append_inj e3 l1.symm
  exact ⟨this.1.symm, this.2.symm⟩
end
end NT
set_option linter.all false
set_option maxHeartbeats 4000000
/-! Needs on courses against the least and the greatest ones. Plain Lean. -/
namespace NT
section
variable {i : Nat} {b : List Deed} {ws : List (List Deed)} {most : Bool}
theorem dso_app {a c : List Nat} : dso ws (a ++ c) = dso ws a ++ dso ws c := by unfold dso; rw [List.map_append, List.flatten_append]
theorem dso_rep {ts : List Nat} : ∀ {k : Nat}, dso ws (List.replicate k ts).flatten = rep (dso ws ts) k
  | 0 => rfl
  | k + 1 => by
    rw [List.replicate_succ, List.flatten_cons, dso_app, dso_rep]
    rfl
theorem dso_took : ∀ {ks : List Nat}, took i (dso ws ks) = (ks.map (tA i ws)).sum
  | [] => rfl
  | k :: ks => by
    show took i (ws.getD k [] ++ dso ws ks) = _
    rw [took_app, dso_took]
    rfl
theorem dso_marks : ∀ {ks : List Nat} {t : Int}, (ahead i (dso ws ks) t).length = (ks.map (mA i ws)).sum
  | [], _ => rfl
  | k :: ks, t => by
    show (ahead i (ws.getD k [] ++ dso ws ks) t).length = _
    rw [ahead_app, List.length_append, dso_marks, ahead_off, List.length_map]
    rfl
theorem wv_step {G : List Nat} {m : Nat → Nat} {d : Nat → Int} {mk : Nat → Nat → Int} {n k : Nat} {c : Int} (h : Wv G m d mk n c) (hk : k ∈ G) : Wv G m d mk (n + m k) (c + d k) := by
  obtain ⟨j, hj, a, g, c', ha, e, r, rfl⟩ := h
  exact ⟨j, hj, a, g + m k, c' + d k, ha, by omega, rch_step r hk, by omega⟩
/-- a piece on a course, among what pieces may cost -/
theorem crs_wv : ∀ (ks : List Nat) (n : Nat) (v : Int), (∀ k ∈ ks, k < ws.length) → (most = false ∨ ∀ k ∈ ks, k ∈ giv i ws) → 1 ≤ n → (ahead i (dso ws ks) 0)[n - 1]? = some v → ∃ c, Wv (giv i ws) (mA i ws) (dA most i ws) (mkA most i ws) n c ∧ c ≤ sg most * v
  | [], n, v, _, _, _, e => by cases e
  | k :: ks, n, v, hk, hg, hn, e => by
    have e : (ahead i (ws.getD k [] ++ dso ws ks) 0)[n - 1]? = some v := e
    rw [ahead_app] at e
    have k1 := hk k List.mem_cons_self
    by_cases c : n - 1 < mA i ws k
    · rw [List.getElem?_append_left c] at e
      refine ⟨_, ⟨k, giv_mem.mpr ⟨k1, by omega⟩, n - 1, 0, 0, c, by omega, rch_nil, rfl⟩, ?_⟩
      unfold mkA aA
      rw [List.getD_eq_getElem?_getD, e]
      show 0 + sg most * v ≤ _
      omega
    · have le : (ahead i (ws.getD k []) 0).length ≤ n - 1 := by show mA i ws k ≤ n - 1; omega
      rw [List.getElem?_append_right le, Int.zero_add, ahead_off, List.getElem?_map] at e
      have e : ((ahead i (dso ws ks) 0)[n - 1 - mA i ws k]?).map (fun x => (tA i ws k : Int) + x) = some v := e
      cases e' : (ahead i (dso ws ks) 0)[n - 1 - mA i ws k]? with
      | none => rw [e'] at e; cases e
      | some v' =>
        rw [e'] at e
        have ev : (tA i ws k : Int) + v' = v := Option.some.inj e
        have hn' : 1 ≤ n - mA i ws k := by
          omega
        obtain ⟨c', w, le'⟩ := crs_wv ks (n - mA i ws k) v' (fun j hj => hk j (List.mem_cons_of_mem _ hj)) (hg.imp id fun h j hj => h j (List.mem_cons_of_mem _ hj)) hn' (by rw [show n - mA i ws k - 1 = n - 1 - mA i ws k by omega]; exact e')
        by_cases g : k ∈ giv i ws
        · refine ⟨c' + dA most i ws k, ?_, ?_⟩
          · have := wv_step w g
            rw [show n - mA i ws k + mA i ws k = n by omega] at this
            exact this
          · rw [← ev, Int.mul_add]
            unfold dA
            omega
        · have m0 : mA i ws k = 0 := by
            rcases Nat.eq_zero_or_pos (mA i ws k) with z | z
            · exact z
            · exact absurd (giv_mem.mpr ⟨k1, z⟩) g
          rw [m0, Nat.sub_zero] at w
          rcases hg with rfl | hg
          · refine ⟨c', w, ?_⟩
            rw [← ev]
            unfold sg at le' ⊢
            simp at le' ⊢
            omega
          · exact absurd (hg k List.mem_cons_self) g
/-- the need on a course, place by place, along the course -/
theorem need_crs {fs ts : List Nat} {n : Nat} (hn : 1 ≤ n) : at_ (needT i (b ++ dso ws fs) (dso ws ts)).1 (needT i (b ++ dso ws fs) (dso ws ts)).2.1 (needT i (b ++ dso ws fs) (dso ws ts)).2.2 n = (ahead i (b ++ dso ws (fs ++ (List.replicate n ts).flatten)) 0)[n - 1]? := by
  rw [needT_at hn (Nat.le_refl n), List.append_assoc, dso_app, dso_rep]
theorem mem_crs {fs ts : List Nat} {n k : Nat} (h : k ∈ fs ++ (List.replicate n ts).flatten) : k ∈ fs ∨ k ∈ ts := by
  rcases List.mem_append.mp h with h | h
  · exact .inl h
  · obtain ⟨l, hl, hk⟩ := List.mem_flatten.mp h
    rw [(List.mem_replicate.mp hl).2] at hk
    exact .inr hk
/-- a need behind the beginning, on a course, against the least or the greatest -/
theorem crs_le {ks : List Nat} {n : Nat} {v : Int} (hk : ∀ k ∈ ks, k < ws.length) (hg : most = false ∨ ∀ k ∈ ks, k ∈ giv i ws) (hn : (ahead i b 0).length < n) (e : (ahead i (b ++ dso ws ks) 0)[n - 1]? = some v) : ∃ kb, kb ∈ giv i ws ∧ best most i ws (n - (ahead i b 0).length) ≤ sg most * (v - (took i b : Int)) := by
  rw [ahead_app, List.getElem?_append_right (by omega), Int.zero_add, ahead_off, List.getElem?_map] at e
  cases e' : (ahead i (dso ws ks) 0)[n - 1 - (ahead i b 0).length]? with
  | none => rw [e'] at e; cases e
  | some v' =>
    rw [e'] at e
    have ev : (took i b : Int) + v' = v := Option.some.inj e
    obtain ⟨c, w, le⟩ := crs_wv (most := most) ks (n - (ahead i b 0).length) v' hk hg (by omega) (by rw [show n - (ahead i b 0).length - 1 = n - 1 - (ahead i b 0).length by omega]; exact e')
    obtain ⟨kb, hkb, _⟩ := id w
    refine ⟨kb, hkb, ?_⟩
    have := (best_is (most := most) hkb (show 1 ≤ n - (ahead i b 0).length by omega)).2 c w
    rw [show v - (took i b : Int) = v' by omega]
    omega
theorem giv_empty (h : stopT false i ws = true) : giv i ws = [] := by
  unfold stopT at h
  simpa using h
/-- the least need is not above the one on any course -/
theorem ext_least {fs ts : List Nat} {n : Nat} (hn : 1 ≤ n) (hf : ∀ k ∈ fs, k < ws.length) (ht : ∀ k ∈ ts, k < ws.length) :
    leO (ext false i b ws n) (at_ (needT i (b ++ dso ws fs) (dso ws ts)).1 (needT i (b ++ dso ws fs) (dso ws ts)).2.1 (needT i (b ++ dso ws fs) (dso ws ts)).2.2 n) := by
  rw [need_crs hn]
  unfold ext
  by_cases c : n ≤ (ahead i b 0).length
  · rw [if_pos c, ahead_app, List.getElem?_append_left (by omega), List.getD_eq_getElem?_getD, List.getElem?_eq_getElem (by omega)]
    exact leO.refl _
  · rw [if_neg c]
    cases e : (ahead i (b ++ dso ws (fs ++ (List.replicate n ts).flatten)) 0)[n - 1]? with
    | none => exact .inl rfl
    | some v =>
      obtain ⟨kb, hkb, le⟩ := crs_le (most := false) (fun k hk => (mem_crs hk).elim (hf k) (ht k)) (.inl rfl) (by omega) e
      have hs : stopT false i ws = false := by
        cases h : stopT false i ws with
        | false => rfl
        | true =>
          rw [giv_empty h] at hkb
          cases hkb
      rw [hs, if_neg (by simp)]
      refine .inr ⟨_, _, rfl, rfl, ?_⟩
      unfold sg at le ⊢
      simp at le ⊢
      omega
/-- the greatest need is not below the one on any course -/
theorem ext_greatest {fs ts : List Nat} {n : Nat} (hn : 1 ≤ n) (hf : ∀ k ∈ fs, k < ws.length) (ht : ∀ k ∈ ts, k < ws.length) (t1 : ts ≠ []) :
    leO (at_ (needT i (b ++ dso ws fs) (dso ws ts)).1 (needT i (b ++ dso ws fs) (dso ws ts)).2.1 (needT i (b ++ dso ws fs) (dso ws ts)).2.2 n) (ext true i b ws n) := by
  rw [need_crs hn]
  unfold ext
  by_cases c : n ≤ (ahead i b 0).length
  · rw [if_pos c, ahead_app, List.getElem?_append_left (by omega), List.getD_eq_getElem?_getD, List.getElem?_eq_getElem (by omega)]
    exact leO.refl _
  · rw [if_neg c]
    cases hs : stopT true i ws with
    | true => exact .inl rfl
    | false =>
      rw [if_neg (by simp)]
      have hall := all_give hs
      have hk : ∀ k ∈ fs ++ (List.replicate n ts).flatten, k < ws.length := fun k hk => (mem_crs hk).elim (hf k) (ht k)
      -- it gives so many pieces
      have long : n - 1 < (ahead i (b ++ dso ws (fs ++ (List.replicate n ts).flatten)) 0).length := by
        rw [ahead_app, List.length_append, dso_marks, List.map_append, List.sum_append]
        have l1 := len_le_sum (l := ((List.replicate n ts).flatten).map (mA i ws)) fun x hx => by
          obtain ⟨k, hk', rfl⟩ := List.mem_map.mp hx
          exact giv_pos k (hall k (hk k (List.mem_append.mpr (.inr hk'))))
        rw [List.length_map] at l1
        have l2 : n ≤ ((List.replicate n ts).flatten).length := by
          have p := List.length_pos_iff.mpr t1
          clear l1 hk c hn
          induction n with
          | zero => exact Nat.zero_le _
          | succ n ih =>
            rw [List.replicate_succ, List.flatten_cons, List.length_append]
            omega
        omega
      cases e : (ahead i (b ++ dso ws (fs ++ (List.replicate n ts).flatten)) 0)[n - 1]? with
      | none =>
        rw [List.getElem?_eq_none_iff] at e
        omega
      | some v =>
        obtain ⟨kb, hkb, le⟩ := crs_le (most := true) hk (.inr fun k hk' => hall k (hk k hk')) (by omega) e
        refine .inr ⟨_, _, rfl, rfl, ?_⟩
        unfold sg at le ⊢
        simp at le ⊢
        omega
/-- the course that was found: these rounds, then kb for ever -/
theorem found_at {fs : List Nat} {kb q a n : Nat} {sh U : Int} (hf : ∀ k ∈ fs, k ∈ giv i ws) (hb : kb ∈ giv i ws) (ha : a < mA i ws kb) (hn : (fs.map (mA i ws)).sum + q * mA i ws kb + a + 1 = n) (hsh : (n : Int) ≤ sh)
    (hU : U = (fs.map fun k => dA most i ws k * sh + ((if k = kb then 0 else 1 : Nat) : Int)).sum + (q : Int) * (dA most i ws kb * sh) + mkA most i ws kb a * sh) (hB : U / sh = best most i ws n) :
    at_ (needT i (b ++ dso ws fs) (dso ws [kb])).1 (needT i (b ++ dso ws fs) (dso ws [kb])).2.1 (needT i (b ++ dso ws fs) (dso ws [kb])).2.2 ((ahead i b 0).length + n) = some ((took i b : Int) + sg most * best most i ws n) := by
  obtain ⟨r, r1, r2⟩ := sum_sc (d := dA most i ws) (sh := sh) (tl := fun k => if k = kb then 0 else 1) (fun k => by split <;> omega) fs
  have lf := len_le_sum (l := fs.map (mA i ws)) fun x hx => by
    obtain ⟨k, hk, rfl⟩ := List.mem_map.mp hx
    exact giv_pos k (hf k hk)
  rw [List.length_map] at lf
  have eU : U = ((fs.map (dA most i ws)).sum + (q : Int) * dA most i ws kb + mkA most i ws kb a) * sh + (r : Int) := by
    rw [hU, r2, Int.add_mul, Int.add_mul, Int.mul_assoc]
    omega
  rw [eU, share_div (by omega) (by omega)] at hB
  -- the value
  have hdd : ∀ ks : List Nat, (ks.map (dA most i ws)).sum = sg most * (((ks.map (tA i ws)).sum : Nat) : Int) := fun ks => by
    induction ks with
    | nil => simp
    | cons k ks ih =>
      rw [List.map_cons, List.sum_cons, List.map_cons, List.sum_cons, ih, Int.natCast_add, Int.mul_add]
      rfl
  have ev : sg most * best most i ws n = (((fs.map (tA i ws)).sum : Nat) : Int) + (q : Int) * (tA i ws kb : Int) + aA i ws kb a := by
    rw [← hB, hdd]
    unfold dA mkA
    rw [show (q : Int) * (sg most * (tA i ws kb : Int)) = sg most * ((q : Int) * (tA i ws kb : Int)) by rw [← Int.mul_assoc, ← Int.mul_assoc, Int.mul_comm (q : Int)], ← Int.mul_add, ← Int.mul_add, ← Int.mul_assoc, sg_sq, Int.one_mul]
  rw [ev]
  have mb : 1 ≤ mA i ws kb := giv_pos kb hb
  have ed : dso ws [kb] = ws.getD kb [] := by
    unfold dso
    simp
  have hl : ahead i (dso ws [kb]) (took i (b ++ dso ws fs) : Int) = (ahead i (ws.getD kb []) 0).map ((took i (b ++ dso ws fs) : Int) + ·) := by rw [ed, ahead_off]
  have hlen : (ahead i (b ++ dso ws fs) 0).length = (ahead i b 0).length + (fs.map (mA i ws)).sum := by rw [ahead_app, List.length_append, dso_marks]
  have hne : ahead i (dso ws [kb]) (took i (b ++ dso ws fs) : Int) ≠ [] := fun z => by
    rw [hl] at z
    have := congrArg List.length z
    rw [List.length_map] at this
    have : mA i ws kb = 0 := this
    omega
  unfold needT at_
  dsimp only
  rw [if_neg (by rw [hlen]; omega), if_neg hne, if_neg hne]
  unfold walk
  rw [hl, List.length_map]
  show some (List.getD _ ((_ - _ - 1) % mA i ws kb) 0 + _ * (((_ - _ - 1) / mA i ws kb : Nat) : Int)) = _
  rw [hlen, show (ahead i b 0).length + n - ((ahead i b 0).length + (fs.map (mA i ws)).sum) - 1 = a + mA i ws kb * q by rw [Nat.mul_comm (mA i ws kb)]; omega, Nat.add_mul_mod_self_left, Nat.mod_eq_of_lt ha, Nat.add_mul_div_left _ _ (by omega), Nat.div_eq_of_lt ha, Nat.zero_add]
  rw [List.getD_eq_getElem?_getD, List.getElem?_map, List.getElem?_eq_getElem ha]
  show some (((took i (b ++ dso ws fs) : Nat) : Int) + (ahead i (ws.getD kb []) 0)[a] + _) = _
  rw [took_app, dso_took, ed]
  have ea : aA i ws kb a = (ahead i (ws.getD kb []) 0)[a]'ha := by
    unfold aA
    rw [List.getD_eq_getElem?_getD, List.getElem?_eq_getElem ha]
    rfl
  rw [ea]
  congr 1
  show _ = (took i b : Int) + ((((fs.map (tA i ws)).sum : Nat) : Int) + (q : Int) * (took i (ws.getD kb []) : Int) + _)
  rw [Int.natCast_add, Int.mul_comm (took i (ws.getD kb []) : Int)]
  omega
/-- ahead of the rounds the course does not matter -/
theorem begun_at {fs ts : List Nat} {n : Nat} (hn : 1 ≤ n) (h : n ≤ (ahead i b 0).length) : at_ (needT i (b ++ dso ws fs) (dso ws ts)).1 (needT i (b ++ dso ws fs) (dso ws ts)).2.1 (needT i (b ++ dso ws fs) (dso ws ts)).2.2 n = ext most i b ws n := by
  rw [need_crs hn]
  unfold ext
  rw [if_pos h, ahead_app, List.getElem?_append_left (by omega), List.getD_eq_getElem?_getD, List.getElem?_eq_getElem (by omega)]
  rfl
/-- a way that does not give -/
theorem still_at {kb n : Nat} (h : mA i ws kb = 0) (hn : (ahead i b 0).length < n) : at_ (needT i (b ++ dso ws []) (dso ws [kb])).1 (needT i (b ++ dso ws []) (dso ws [kb])).2.1 (needT i (b ++ dso ws []) (dso ws [kb])).2.2 n = none := by
  have ed : dso ws [kb] = ws.getD kb [] := by
    unfold dso
    simp
  have e0 : b ++ dso ws [] = b := List.append_nil _
  have z : ahead i (dso ws [kb]) (took i b : Int) = [] := by
    rw [ed, ahead_off, List.length_eq_zero_iff.mp h]
    rfl
  unfold needT at_
  dsimp only
  rw [e0, if_neg (by omega), if_pos z]
/-- with one way there is one need -/
theorem ext_one {w : List Deed} {n : Nat} (hn : 1 ≤ n) : ext most i b [w] n = at_ (needT i (b ++ dso [w] []) (dso [w] [0])).1 (needT i (b ++ dso [w] []) (dso [w] [0])).2.1 (needT i (b ++ dso [w] []) (dso [w] [0])).2.2 n := by
  by_cases c : n ≤ (ahead i b 0).length
  · exact (begun_at hn c).symm
  · by_cases z : mA i [w] 0 = 0
    · rw [still_at z (by omega)]
      have ge : giv i [w] = [] := by
        unfold giv
        simp [z]
      have hs : stopT most i [w] = true := by
        unfold stopT
        rw [ge]
        cases most <;> rfl
      unfold ext
      rw [if_neg c, if_pos hs]
    · have ge : giv i [w] = [0] := by
        unfold giv
        simp [z]
      have hs : stopT most i [w] = false := by
        unfold stopT
        rw [ge]
        cases most <;> rfl
      have g0 : 0 ∈ giv i [w] := by rw [ge]; exact List.mem_singleton.mpr rfl
      obtain ⟨m, hm⟩ : ∃ m, n = (ahead i b 0).length + m := ⟨n - (ahead i b 0).length, by omega⟩
      have bi := best_is (most := most) g0 (show 1 ≤ m by omega)
      have bo := wv_one (fun k hk => by rw [ge] at hk; exact List.mem_singleton.mp hk) (by omega) bi.1
      have md := Nat.div_add_mod (m - 1) (mA i [w] 0)
      have ml := Nat.mod_lt (m - 1) (show 0 < mA i [w] 0 by omega)
      have := found_at (most := most) (b := b) (fs := []) (kb := 0) (q := (m - 1) / mA i [w] 0) (a := (m - 1) % mA i [w] 0) (n := m) (sh := (m : Int)) (U := best most i [w] m * (m : Int)) (by simp) g0 ml (by rw [Nat.mul_comm] at md; simp; omega) (Int.le_refl _) (by rw [bo, Int.add_mul, Int.mul_assoc]; simp) (by
        rw [Int.mul_ediv_cancel _ (by omega)])
      rw [hm, this]
      unfold ext
      rw [if_neg (by omega), hs, if_neg (by simp), Nat.add_sub_cancel_left]
/-! ### the best of all ways -/
theorem rate_trans {d1 d2 d3 : Int} {m1 m2 m3 : Nat} (h : d1 * (m2 : Int) ≤ d2 * (m1 : Int)) (k : d2 * (m3 : Int) ≤ d3 * (m2 : Int)) (p : 1 ≤ m2) : d1 * (m3 : Int) ≤ d3 * (m1 : Int) := by
  have h1 := Int.mul_le_mul_of_nonneg_right h (show (0 : Int) ≤ m3 by omega)
  have h2 := Int.mul_le_mul_of_nonneg_right k (show (0 : Int) ≤ m1 by omega)
  have e1 : d1 * (m2 : Int) * (m3 : Int) = d1 * (m3 : Int) * (m2 : Int) := by rw [Int.mul_assoc, Int.mul_comm (m2 : Int), ← Int.mul_assoc]
  have e2 : d2 * (m1 : Int) * (m3 : Int) = d2 * (m3 : Int) * (m1 : Int) := by rw [Int.mul_assoc, Int.mul_comm (m1 : Int), ← Int.mul_assoc]
  have e3 : d3 * (m2 : Int) * (m1 : Int) = d3 * (m1 : Int) * (m2 : Int) := by rw [Int.mul_assoc, Int.mul_comm (m2 : Int), ← Int.mul_assoc]
  exact Int.le_of_mul_le_mul_right (show d1 * (m3 : Int) * (m2 : Int) ≤ d3 * (m1 : Int) * (m2 : Int) by omega) (by omega)
end
end NT
set_option Elab.async false
set_option linter.all false
set_option maxRecDepth 100000
set_option maxHeartbeats 4000000
/-! enumerate(xs, start=k) of a list. -/
namespace NF
open PySem PySem.Spec PyProof.Rows L2 He RZ
section
variable {M : Model} {A : Around} {E : Value → Shared → Prop} {s : Shared} {env : Env}
theorem callWith_typeK {pos : Pos} {T : String} {first : List Value} {args : List (Bool × Sem Value)} {keywords : List (Option Str × Sem Value)} {Q : Value → Shared → Prop}
    (hplain : args.any (·.1) = false) (hkw : keywords.any (·.1.isNone) = false)
    (h : wpAny M A (evalArgs (.type T) true args keywords) (fun a s₁ => wpAny M A (call (.type T) (first ++ a.pos) a.kw) Q E s₁) E s) :
    wpAny M A (callWith pos (.type T) first args keywords) Q E s := by
  unfold callWith
  refine wpAny_bind (wpAny_holding (wpAny_mono h (fun a s₁ h₁ => wpAny_bind (wpAny_standAt ?_)) fun _ _ x => x))
  simp only [hplain, hkw, Bool.or_false]
  refine wpAny_bind (wpAny_pure ?_)
  exact wpAny_bind (wpAny_mono h₁ (fun r s₂ hr => wpAny_bind (wpAny_holding (wpAny_point (wpAny_pure hr)))) fun _ _ x => x)
theorem callWith_kwT {pos : Pos} {T : String} {e : Expr} {rest : List Expr} {kws : List Keyword} {Q : Value → Shared → Prop}
    (h : wpAny M A (spliced (backTo pos (starEach (e :: rest) env))) (fun vs s₁ => wpAny M A (evalAll ((backToKw pos (keywordEach kws env)).map (·.2)))
      (fun kvs s₂ => wpAny M A (call (.type T) vs (((backToKw pos (keywordEach kws env)).filterMap (·.1)).zip kvs)) Q E s₂) E s₁) E s)
    (he : backTo pos (starEach (e :: rest) env) = (false, eval e env) :: backTo pos (starEach rest env) := by rfl)
    (hplain : (backTo pos (starEach (e :: rest) env)).any (·.1) = false := by rfl)
    (hall : (backToKw pos (keywordEach kws env)).all (·.1.isSome) = true := by rfl)
    (hkw : (backToKw pos (keywordEach kws env)).any (·.1.isNone) = false := by rfl) :
    wpAny M A (callWith pos (.type T) [] (backTo pos (starEach (e :: rest) env)) (backToKw pos (keywordEach kws env))) Q E s := by
  refine callWith_typeK hplain hkw ?_
  rw [he] at h ⊢
  exact evalArgs_kwB hall h
end
/-- the list at a as it stands at each turn, each item in a new pair behind its number, from k on -/
def Its (K : PySem.W.Frag) (k : Int) (a : Addr) : It :=
  ⟨fun i H => ∃ (xs : List V) (x : V), SqL K H a xs ∧ xs[i]? = some x, fun i H v H' => ∃ T x, v = .ref T ∧ H T = none ∧ H' = upd H T (.tup [.int (k + (i : Nat)), x]) ∧ ∀ xs, SqL K H a xs → xs[i]? = some x, fun i H => ∃ xs : List V, SqL K H a xs ∧ xs.length = i⟩
theorem turn_enumS {P : Program} {w : World} {K : PySem.W.Frag} {elts : List Expr} {kk : Nat} {tpos : Pos} {k : Int} (a e it : Addr) (hne : e ≠ it) (hae : e ≠ a) (hai : a ≠ it) :
    Turn P w K (.Tuple elts kk tpos) (Its K k a) [e, it] e (fun i h => (∃ old, IsEnum h e it (k + (i : Nat)) old) ∧ h.IsListIter it a i) where
  mem := by simp
  obj := fun i h st b hb => by
    obtain ⟨⟨old, he⟩, ⟨o, ho, hc, hd⟩⟩ := st
    have e' : b = e ∨ b = it := by simpa using hb
    rcases e' with z | z
    · rw [z]; exact ⟨_, he, fun v q => nomatch q⟩
    · rw [z]; exact ⟨o, ho, fun v q => by rw [hd] at q; cases q⟩
  keep := fun i h h' st k => let ⟨⟨old, he⟩, hi⟩ := st; ⟨⟨old, k e (by simp) _ he⟩, hi.at fun o q => k it (by simp) o q⟩
  item := by
    intro X hP hw hK hc i pins s σ H E I hf st hg
    subst hP hw hK
    obtain ⟨⟨old, he⟩, hit⟩ := st
    obtain ⟨xs, x, hq, hx⟩ := hg
    obtain ⟨its, rv, p, hz⟩ := I.list hq
    obtain ⟨u, hu, ru⟩ := rv.get hx
    have hel : e < s.heap.objs.size := Heap.lt_size he
    have hil : it < s.heap.objs.size := by obtain ⟨_, q, _⟩ := hit; exact Heap.lt_size q
    have li : i < its.toArray.size := by
      have := (List.getElem?_eq_some_iff.mp hu).1
      simpa using this
    have hd : X.A.in1.handled = none := I.ok.hd hc
    refine wpAny_pyNext_enum_itemC (i := i) (Draws.list hd it a hai its.toArray) he ⟨hit, p.isList⟩ li hne (by simp [hne, hae]) fun x' h' tk hP ho st2 hT hsz hk => ?_
    obtain rfl : u = x' := by
      have : its[i]? = some x' := by simpa using hP
      exact Option.some.inj (hu.symm.trans this)
    refine ⟨_, rfl, wpAny_letOwnedTupleGo_enum (s := { s with heap := h', toks := tk + 1 }) ho fun h'' he' sb => ?_⟩
    have hT2 : h''.get? s.heap.objs.size = some { cls := .type "tuple", data := .seq #[.int (k + (i : Nat)) tk, u] } := (sb.2 _ (Nat.ne_of_gt hel)).trans hT
    have new : ObjOk X.prog X.w (upd H s.heap.objs.size (.tup [.int (k + (i : Nat)), x])) h'' s.heap.objs.size (.tup [.int (k + (i : Nat)), x]) :=
      ⟨by show 2 ≤ sizeLine; decide, [.int (k + (i : Nat)) tk, u], .cons ⟨_, rfl⟩ (.cons ru .nil), ⟨_, hT2, rfl, _, rfl⟩⟩
    have I1 : Inv X pins σ (upd H s.heap.objs.size (.tup [.int (k + (i : Nat)), x])) { s with heap := h'', toks := tk + 1 } :=
      I.turnedNew (ch := [e, it]) (fun b ob hb q => (sb.2 b (fun z => hb (by simp [z]))).trans (hk b ob (fun z => hb (by simp [z])) (fun z => hb (by simp [z])) q)) hf (Nat.le_refl _) new
    refine ⟨.ref s.heap.objs.size, _, I1, rfl, ⟨_, x, rfl, I.hok.fresh (Nat.le_refl _), rfl, fun ys hy => by rw [I.list_inj hy hq]; exact hx⟩, ⟨⟨u, ?_⟩, st2.1.at fun o q => (sb.2 it (Ne.symm hne)).trans q⟩, fun b hb => ?_⟩
    · have e1 : k + ((i + 1 : Nat) : Int) = k + (i : Int) + 1 := by omega
      rw [e1]; exact he'
    · have hb' : b < s.heap.objs.size := by
        have e' : b = e ∨ b = it := by simpa using hb
        rcases e' with z | z
        · rw [z]; exact hel
        · rw [z]; exact hil
      rw [upd_ne (Nat.ne_of_lt hb')]
      exact (hf b hb).1
  done := by
    intro X hP hw hK hc i pins s σ H E I hf st hg
    subst hP hw hK
    obtain ⟨⟨old, he⟩, hit⟩ := st
    obtain ⟨xs, hq, hx⟩ := hg
    obtain ⟨its, rv, p, hz⟩ := I.list hq
    obtain ⟨f0, f1, f2, f3, f4, f5⟩ := hf it (by simp)
    have hl := rv.length
    have hd : X.A.in1.handled = none := I.ok.hd hc
    have en : its.toArray.size = i := by simp; omega
    subst en
    exact wpAny_pyNext_enum_endD (Draws.list hd it a hai its.toArray) he ⟨hit, p.isList⟩ fun h' eb => ⟨rfl, I.turned (t' := s.toks) (fun b o hb q => eb b o hb q) f0 f1 f3 f4 f5⟩
  self := fun A i s Q E st h => let ⟨⟨_, he⟩, _⟩ := st; wpAny_pyIter_enum he h
def iEnumS (K : PySem.W.Frag) (ta tk : TA) : TI := fun σ H R => ta σ H fun vs H1 => tk σ H1 fun zs H2 => ∃ a xs k, vs = [.ref a] ∧ zs = [.int k] ∧ 0 ≤ k ∧ k < 1000000 ∧ SqL K H2 a xs ∧ R (Its K k a) H2
theorem pi_enumS {X : Cx} {e : Expr} {ta tk : TA} {p pos tpos : Pos} {elts : List Expr} {kk : Nat} {kws : List Keyword} (hg : Gl X "enumerate") (hm : X.mg "enumerate" = none) (ha : PA X [e] ta) (hk : PK X kws tk)
    (he : backTo pos (starEach [e] X.env) = (false, eval e X.env) :: backTo pos (starEach [] X.env) := by rfl) (hpl : (backTo pos (starEach [e] X.env)).any (·.1) = false := by rfl)
    (hall : (backToKw pos (keywordEach kws X.env)).all (·.1.isSome) = true := by rfl) (hnone : (backToKw pos (keywordEach kws X.env)).any (·.1.isNone) = false := by rfl) (hks : (backToKw pos (keywordEach kws X.env)).filterMap (·.1) = [Str.ofString "start"] := by rfl) :
    PI X (.Tuple elts kk tpos) (.Call (.Name "enumerate" p) [e] kws pos) (iEnumS X.K ta tk) := by
  refine ⟨fun pins s σ H R I h => ?_⟩
  refine wpAny_Call_Name_kw (ld_blt I hg hm boot_enumerate ?_)
  refine callWith_kwT (thn (ha.run pos pins s σ H _ I h) fun us s1 ⟨vs, H1, I1, r1, q1⟩ => thn (hk.run pos pins s1 σ H1 _ I1 q1) fun ws s2 ⟨zs, H2, I2, r2, a, xs, k, ex, ez, k0, k1, hq, q⟩ => ?_) he hpl hall hnone
  rw [hks]
  subst ex ez
  obtain rfl := Vals.ref1 r1
  obtain ⟨w1, rfl, t, rfl⟩ : ∃ w1, ws = [w1] ∧ ∃ t, w1 = Value.int k t := by
    cases r2 with
    | cons r rr =>
      cases rr
      obtain ⟨t, e⟩ := r
      exact ⟨_, rfl, t, e⟩
  obtain ⟨its, rv, p', hz⟩ := I2.list hq
  show wpAny _ _ (call (.type "enumerate") [.ref a] [(Str.ofString "start", .int k t)]) _ _ s2
  refine enum_begins_start (begins_list a its.toArray) p'.isList (by omega) (by omega) fun h' he' hit hsz hkp => wpAny_pyIter_enum he' ?_
  have I3 : Inv X pins σ H2 { s2 with heap := h' } := I2.kept (t' := s2.toks) hkp
  have la : a < s2.heap.objs.size := p'.lt
  refine ⟨s2.heap.objs.size + 1, [s2.heap.objs.size + 1, s2.heap.objs.size], _, _, H2, rfl, I3, turn_enumS (k := k) a (s2.heap.objs.size + 1) s2.heap.objs.size (Nat.succ_ne_self _) (Nat.ne_of_gt (Nat.lt_succ_of_lt la)) (Nat.ne_of_lt la), ⟨⟨.none, by rw [Int.ofNat_zero, Int.add_zero]; exact he'⟩, ⟨_, hit, rfl, rfl⟩⟩, fun b hb => ?_, q⟩
  have e' : b = s2.heap.objs.size + 1 ∨ b = s2.heap.objs.size := by simpa using hb
  have hle : s2.heap.objs.size ≤ b := by
    rcases e' with z | z
    · rw [z]; exact Nat.le_add_right _ _
    · rw [z]; exact Nat.le_refl _
  exact I2.fpOk hle (I2.hok.fresh hle)
theorem walk_enumS {K : PySem.W.Frag} {k : Int} {a : Addr} {xs : List V} : Walk (Its K k a) xs.length (fun H => SqL K H a xs) (YPair (fun i => some (.int (k + (i : Nat)))) (fun i => xs[i]?)) := by
  refine ⟨fun i _ hi q => ⟨xs, xs[i], q, by simp [hi]⟩, fun _ q => ⟨xs, q, rfl⟩, fun i H v H' _ q y => ?_⟩
  obtain ⟨T, x, h1, h2, h3, h4⟩ := y
  exact ⟨T, .int (k + (i : Nat)), x, h1, h2, h3, rfl, h4 xs q⟩
end NF
set_option Elab.async false
set_option linter.all false
set_option maxRecDepth 100000
set_option maxHeartbeats 4000000
/-! enumerate(t) and enumerate(t, start=k) of a tuple. -/
namespace NF
open PySem PySem.Spec PyProof.Rows L2 He RZ
theorem meets_enum1 {v : Value} {o : Obj} {H : Heap → Prop} (B : Begins v o H) :
    Meets (Builtin.«enumerate.__new__» ⟨[.type "enumerate", v], []⟩) (fun _ R s => H s.heap ∧
      R (.ok (.ret (.ref (s.heap.push o).objs.size))) { s with heap := (s.heap.push o).push { cls := .type "enumerate", data := .fields #[.none, .bool false, .ref s.heap.objs.size, rawInt 0, .none, .none] } }) :=
  .of_wp fun prog w A R s h => by
    obtain ⟨hp, g, d, tk, os⟩ := s
    obtain ⟨h1, h⟩ := h
    have hsub := sub_enumerate
    have q1 : ∀ {A' : Around} {E : Value → Shared → Prop} {Q : Value → Shared → Prop}, Q (.ref hp.objs.size) ⟨hp.push o, g, d, tk, os⟩ → wpAny (model prog w) A' (pyIter v) Q E ⟨hp, g, d, tk, os⟩ :=
      fun q => B.iter prog w _ _ ⟨hp, g, d, tk, os⟩ _ h1 q
    wp_walk using q1
    refine wpAny_stack_any fun st => wpAny_pure ?_
    split
    · rename_i c _ _ _ _ _
      cases (c == Value.type "enumerate")
      · wp_walk using q1
        exact ⟨_, rfl, h⟩
      · wp_walk using q1
        exact ⟨_, rfl, h⟩
    · wp_walk using q1
      exact ⟨_, rfl, h⟩
section
variable {prog : Program} {w : World} {A : Around} {E : Value → Shared → Prop} {s : Shared}
theorem enum_begins1 {v : Value} {o : Obj} {H : Heap → Prop} {Q : Value → Shared → Prop} (B : Begins v o H) (h1 : H s.heap)
    (h : ∀ h', IsEnum h' (s.heap.objs.size + 1) s.heap.objs.size 0 .none → h'.get? s.heap.objs.size = some o → h'.objs.size = s.heap.objs.size + 2 →
      (∀ b o, s.heap.get? b = some o → h'.get? b = some o) → Q (.ref (s.heap.objs.size + 1)) { s with heap := h' }) :
    wpAny (model prog w) A (call (.type "enumerate") [v]) Q E s := by
  refine callType_new F.called_enumerate (by decide) (F.typeCall_enumerate_1 _) (F.newCall_enumerate_1 _) (fun obj => F.args_object_init_2 obj _) F.entry_enumerate_new
    (meets_enum1 B) ⟨h1, ?_⟩
  have hz : (s.heap.push o).objs.size = s.heap.objs.size + 1 := Heap.size_push ..
  show _ ∧ _
  rw [hz]
  have he : IsEnum ((s.heap.push o).push { cls := .type "enumerate", data := .fields #[.none, .bool false, .ref s.heap.objs.size, rawInt 0, .none, .none] }) (s.heap.objs.size + 1) s.heap.objs.size 0 .none := by
    have := Heap.get?_push_size (s.heap.push o) (o := { cls := .type "enumerate", data := .fields #[.none, .bool false, .ref s.heap.objs.size, rawInt 0, .none, .none] }) rfl
    rw [hz] at this; exact this
  exact ⟨⟨_, he, rfl⟩, h _ he (Heap.get?_push_of_some _ (Heap.get?_push_size _ B.free)) (by rw [Heap.size_push, hz]) fun b o x => Heap.get?_push_of_some _ (Heap.get?_push_of_some _ x)⟩
end
/-- the tuple at a, each item in a new pair behind its number, from k on -/
def Itst (K : PySem.W.Frag) (k : Int) (a : Addr) : It :=
  ⟨fun i H => ∃ (xs : List V) (x : V), SqT K H a xs ∧ xs[i]? = some x, fun i H v H' => ∃ T x, v = .ref T ∧ H T = none ∧ H' = upd H T (.tup [.int (k + (i : Nat)), x]) ∧ ∀ xs, SqT K H a xs → xs[i]? = some x, fun i H => ∃ xs : List V, SqT K H a xs ∧ xs.length = i⟩
theorem turn_enumT {P : Program} {w : World} {K : PySem.W.Frag} {elts : List Expr} {kk : Nat} {tpos : Pos} {k : Int} (a e it : Addr) (hne : e ≠ it) (hae : e ≠ a) (hai : a ≠ it) :
    Turn P w K (.Tuple elts kk tpos) (Itst K k a) [e, it] e (fun i h => (∃ old, IsEnum h e it (k + (i : Nat)) old) ∧ h.IsTupleIter it a i) where
  mem := by simp
  obj := fun i h st b hb => by
    obtain ⟨⟨old, he⟩, ⟨o, ho, hc, hd⟩⟩ := st
    have e' : b = e ∨ b = it := by simpa using hb
    rcases e' with z | z
    · rw [z]; exact ⟨_, he, fun v q => nomatch q⟩
    · rw [z]; exact ⟨o, ho, fun v q => by rw [hd] at q; cases q⟩
  keep := fun i h h' st k => let ⟨⟨old, he⟩, hi⟩ := st; ⟨⟨old, k e (by simp) _ he⟩, hi.at fun o q => k it (by simp) o q⟩
  item := by
    intro X hP hw hK hc i pins s σ H E I hf st hg
    subst hP hw hK
    obtain ⟨⟨old, he⟩, hit⟩ := st
    obtain ⟨xs, x, hq, hx⟩ := hg
    obtain ⟨its, rv, p, hz⟩ := I.tuple hq
    obtain ⟨u, hu, ru⟩ := rv.get hx
    have hel : e < s.heap.objs.size := Heap.lt_size he
    have hil : it < s.heap.objs.size := by obtain ⟨_, q, _⟩ := hit; exact Heap.lt_size q
    have li : i < its.toArray.size := by
      have := (List.getElem?_eq_some_iff.mp hu).1
      simpa using this
    have hd : X.A.in1.handled = none := I.ok.hd hc
    refine wpAny_pyNext_enum_itemC (i := i) (Draws.tuple hd it a hai its.toArray) he ⟨hit, p⟩ li hne (by simp [hne, hae]) fun x' h' tk hP ho st2 hT hsz hk => ?_
    obtain rfl : u = x' := by
      have : its[i]? = some x' := by simpa using hP
      exact Option.some.inj (hu.symm.trans this)
    refine ⟨_, rfl, wpAny_letOwnedTupleGo_enum (s := { s with heap := h', toks := tk + 1 }) ho fun h'' he' sb => ?_⟩
    have hT2 : h''.get? s.heap.objs.size = some { cls := .type "tuple", data := .seq #[.int (k + (i : Nat)) tk, u] } := (sb.2 _ (Nat.ne_of_gt hel)).trans hT
    have new : ObjOk X.prog X.w (upd H s.heap.objs.size (.tup [.int (k + (i : Nat)), x])) h'' s.heap.objs.size (.tup [.int (k + (i : Nat)), x]) :=
      ⟨by show 2 ≤ sizeLine; decide, [.int (k + (i : Nat)) tk, u], .cons ⟨_, rfl⟩ (.cons ru .nil), ⟨_, hT2, rfl, _, rfl⟩⟩
    have I1 : Inv X pins σ (upd H s.heap.objs.size (.tup [.int (k + (i : Nat)), x])) { s with heap := h'', toks := tk + 1 } :=
      I.turnedNew (ch := [e, it]) (fun b ob hb q => (sb.2 b (fun z => hb (by simp [z]))).trans (hk b ob (fun z => hb (by simp [z])) (fun z => hb (by simp [z])) q)) hf (Nat.le_refl _) new
    refine ⟨.ref s.heap.objs.size, _, I1, rfl, ⟨_, x, rfl, I.hok.fresh (Nat.le_refl _), rfl, fun ys hy => by rw [I.tuple_inj hy hq]; exact hx⟩, ⟨⟨u, ?_⟩, st2.1.at fun o q => (sb.2 it (Ne.symm hne)).trans q⟩, fun b hb => ?_⟩
    · have e1 : k + ((i + 1 : Nat) : Int) = k + (i : Int) + 1 := by omega
      rw [e1]; exact he'
    · have hb' : b < s.heap.objs.size := by
        have e' : b = e ∨ b = it := by simpa using hb
        rcases e' with z | z
        · rw [z]; exact hel
        · rw [z]; exact hil
      rw [upd_ne (Nat.ne_of_lt hb')]
      exact (hf b hb).1
  done := by
    intro X hP hw hK hc i pins s σ H E I hf st hg
    subst hP hw hK
    obtain ⟨⟨old, he⟩, hit⟩ := st
    obtain ⟨xs, hq, hx⟩ := hg
    obtain ⟨its, rv, p, hz⟩ := I.tuple hq
    obtain ⟨f0, f1, f2, f3, f4, f5⟩ := hf it (by simp)
    have hl := rv.length
    have hd : X.A.in1.handled = none := I.ok.hd hc
    have en : its.toArray.size = i := by simp; omega
    subst en
    exact wpAny_pyNext_enum_endD (Draws.tuple hd it a hai its.toArray) he ⟨hit, p⟩ fun h' eb => ⟨rfl, I.turned (t' := s.toks) (fun b o hb q => eb b o hb q) f0 f1 f3 f4 f5⟩
  self := fun A i s Q E st h => let ⟨⟨_, he⟩, _⟩ := st; wpAny_pyIter_enum he h
def iEnumT (K : PySem.W.Frag) (ta : TA) : TI := fun σ H R => ta σ H fun vs H1 => ∃ a xs, vs = [.ref a] ∧ SqT K H1 a xs ∧ R (Itst K 0 a) H1
theorem pi_enumT {X : Cx} {e : Expr} {ta : TA} {p pos tpos : Pos} {elts : List Expr} {kk : Nat} (hg : Gl X "enumerate") (hm : X.mg "enumerate" = none) (ha : PA X [e] ta) (hs : starEach [e] X.env = [(false, eval e X.env)] := by rfl) :
    PI X (.Tuple elts kk tpos) (.Call (.Name "enumerate" p) [e] [] pos) (iEnumT X.K ta) := by
  refine ⟨fun pins s σ H R I h => ?_⟩
  refine Call_ (ld_blt I hg hm boot_enumerate (PyProof.Rows.callWith_type1 (thn (ha.run pos pins s σ H _ I h) fun us s1 ⟨vs, H1, I1, r1, q1⟩ => ?_) hs rfl))
  obtain ⟨a, xs, ex, hq, q⟩ := q1
  subst ex
  cases r1 with
  | cons r rr =>
    cases rr
    cases r
    obtain ⟨its, rv, p', hz⟩ := I1.tuple hq
    have la : a < s1.heap.objs.size := by
      obtain ⟨_, z, _⟩ := id p'
      exact Heap.lt_size z
    refine enum_begins1 (begins_tuple a its.toArray) p' fun h' he hit hsz hk => wpAny_pyIter_enum he ?_
    have I2 : Inv X pins σ H1 { s1 with heap := h' } := I1.kept (t' := s1.toks) hk
    refine ⟨s1.heap.objs.size + 1, [s1.heap.objs.size + 1, s1.heap.objs.size], _, _, H1, rfl, I2, turn_enumT (k := 0) a (s1.heap.objs.size + 1) s1.heap.objs.size (Nat.succ_ne_self _) (Nat.ne_of_gt (Nat.lt_succ_of_lt la)) (Nat.ne_of_lt la), ⟨⟨.none, he⟩, ⟨_, hit, rfl, rfl⟩⟩, fun b hb => ?_, q⟩
    have e' : b = s1.heap.objs.size + 1 ∨ b = s1.heap.objs.size := by simpa using hb
    have hle : s1.heap.objs.size ≤ b := by
      rcases e' with z | z
      · rw [z]; exact Nat.le_add_right _ _
      · rw [z]; exact Nat.le_refl _
    exact I1.fpOk hle (I1.hok.fresh hle)
def iEnumST (K : PySem.W.Frag) (ta tk : TA) : TI := fun σ H R => ta σ H fun vs H1 => tk σ H1 fun zs H2 => ∃ a xs k, vs = [.ref a] ∧ zs = [.int k] ∧ 0 ≤ k ∧ k < 1000000 ∧ SqT K H2 a xs ∧ R (Itst K k a) H2
theorem pi_enumST {X : Cx} {e : Expr} {ta tk : TA} {p pos tpos : Pos} {elts : List Expr} {kk : Nat} {kws : List Keyword} (hg : Gl X "enumerate") (hm : X.mg "enumerate" = none) (ha : PA X [e] ta) (hk : PK X kws tk)
    (he : backTo pos (starEach [e] X.env) = (false, eval e X.env) :: backTo pos (starEach [] X.env) := by rfl) (hpl : (backTo pos (starEach [e] X.env)).any (·.1) = false := by rfl)
    (hall : (backToKw pos (keywordEach kws X.env)).all (·.1.isSome) = true := by rfl) (hnone : (backToKw pos (keywordEach kws X.env)).any (·.1.isNone) = false := by rfl) (hks : (backToKw pos (keywordEach kws X.env)).filterMap (·.1) = [Str.ofString "start"] := by rfl) :
    PI X (.Tuple elts kk tpos) (.Call (.Name "enumerate" p) [e] kws pos) (iEnumST X.K ta tk) := by
  refine ⟨fun pins s σ H R I h => ?_⟩
  refine wpAny_Call_Name_kw (ld_blt I hg hm boot_enumerate ?_)
  refine callWith_kwT (thn (ha.run pos pins s σ H _ I h) fun us s1 ⟨vs, H1, I1, r1, q1⟩ => thn (hk.run pos pins s1 σ H1 _ I1 q1) fun ws s2 ⟨zs, H2, I2, r2, a, xs, k, ex, ez, k0, k1, hq, q⟩ => ?_) he hpl hall hnone
  rw [hks]
  subst ex ez
  obtain rfl := Vals.ref1 r1
  obtain ⟨w1, rfl, t, rfl⟩ : ∃ w1, ws = [w1] ∧ ∃ t, w1 = Value.int k t := by
    cases r2 with
    | cons r rr =>
      cases rr
      obtain ⟨t, e⟩ := r
      exact ⟨_, rfl, t, e⟩
  obtain ⟨its, rv, p', hz⟩ := I2.tuple hq
  have la : a < s2.heap.objs.size := by
    obtain ⟨_, z, _⟩ := id p'
    exact Heap.lt_size z
  show wpAny _ _ (call (.type "enumerate") [.ref a] [(Str.ofString "start", .int k t)]) _ _ s2
  refine enum_begins_start (begins_tuple a its.toArray) p' (by omega) (by omega) fun h' he' hit hsz hkp => wpAny_pyIter_enum he' ?_
  have I3 : Inv X pins σ H2 { s2 with heap := h' } := I2.kept (t' := s2.toks) hkp
  refine ⟨s2.heap.objs.size + 1, [s2.heap.objs.size + 1, s2.heap.objs.size], _, _, H2, rfl, I3, turn_enumT (k := k) a (s2.heap.objs.size + 1) s2.heap.objs.size (Nat.succ_ne_self _) (Nat.ne_of_gt (Nat.lt_succ_of_lt la)) (Nat.ne_of_lt la), ⟨⟨.none, by rw [Int.ofNat_zero, Int.add_zero]; exact he'⟩, ⟨_, hit, rfl, rfl⟩⟩, fun b hb => ?_, q⟩
  have e' : b = s2.heap.objs.size + 1 ∨ b = s2.heap.objs.size := by simpa using hb
  have hle : s2.heap.objs.size ≤ b := by
    rcases e' with z | z
    · rw [z]; exact Nat.le_add_right _ _
    · rw [z]; exact Nat.le_refl _
  exact I2.fpOk hle (I2.hok.fresh hle)
theorem walk_enumT {K : PySem.W.Frag} {k : Int} {a : Addr} {xs : List V} : Walk (Itst K k a) xs.length (fun H => SqT K H a xs) (YPair (fun i => some (.int (k + (i : Nat)))) (fun i => xs[i]?)) := by
  refine ⟨fun i _ hi q => ⟨xs, xs[i], q, by simp [hi]⟩, fun _ q => ⟨xs, q, rfl⟩, fun i H v H' _ q y => ?_⟩
  obtain ⟨T, x, h1, h2, h3, h4⟩ := y
  exact ⟨T, .int (k + (i : Nat)), x, h1, h2, h3, rfl, h4 xs q⟩
end NF
set_option Elab.async false
set_option linter.all false
set_option maxRecDepth 100000
set_option maxHeartbeats 4000000
namespace K25
open PySem PySem.Spec PyProof.Rows L2 He NF RZ NT
/-- what the class of outlooks is -/
structure OutC (K : PySem.W.Frag) (C : Addr) : Prop where
  cl : Cls K C
  nm : NoAttr K C "most"
  nb : NoAttr K C "begin"
  nr : NoAttr K C "rounds"
  ng : NoAttr K C "giving"
  ns : NoAttr K C "shares"
  nt : NoAttr K C "taken"
  nl : NoAttr K C "lasts"
def of (most : Bool) (xb pr pg : Addr) (sh : Int) (pt pl : Addr) : List (Str × V) := [("most", .bl most), ("begin", .ref xb), ("rounds", .ref pr), ("giving", .ref pg), ("shares", .int sh), ("taken", .ref pt), ("lasts", .ref pl)]
theorem of_eq (most : Bool) (xb pr pg : Addr) (sh : Int) (pt pl : Addr) : putF "lasts" (.ref pl) (putF "taken" (.ref pt) (putF "shares" (.int sh) (putF "giving" (.ref pg) (putF "rounds" (.ref pr) (putF "begin" (.ref xb) (putF "most" (.bl most) [])))))) = of most xb pr pg sh pt pl := by rfl
/-- what does not change -/
def OutB (K : PySem.W.Frag) (CR : Addr) (H : Hp) (xb pr pg : Addr) (i : Nat) (b : List Deed) (ws : List (List Deed)) : Prop := RouAt K CR H xb i b ∧ (∃ xs : List Addr, H pr = some (.lst (xs.map V.ref)) ∧ Chosen K CR H xs i ws) ∧ H pg = some (.lst (vNs (giv i ws)))
theorem OutB.mono {K : PySem.W.Frag} {CR : Addr} {H H' : Hp} {xb pr pg : Addr} {i : Nat} {b : List Deed} {ws : List (List Deed)} (h : OutB K CR H xb pr pg i b ws) (s : Same H H') : OutB K CR H' xb pr pg i b ws := by
  obtain ⟨h1, ⟨xs, h2, h3⟩, h4⟩ := h
  exact ⟨h1.mono s, ⟨xs, s _ _ h2, h3.mono s⟩, s _ _ h4⟩
def OutAt (K : PySem.W.Frag) (C CR : Addr) (H : Hp) (x : Addr) (most : Bool) (i : Nat) (b : List Deed) (ws : List (List Deed)) (sh : Int) (pt pl : Addr) : Prop := ∃ dx xb pr pg, H x = some (.ins C dx (of most xb pr pg sh pt pl)) ∧ OutB K CR H xb pr pg i b ws
theorem OutAt.mono {K : PySem.W.Frag} {C CR : Addr} {H H' : Hp} {x : Addr} {most : Bool} {i : Nat} {b : List Deed} {ws : List (List Deed)} {sh : Int} {pt pl : Addr} (h : OutAt K C CR H x most i b ws sh pt pl) (s : Same H H') : OutAt K C CR H' x most i b ws sh pt pl := by
  obtain ⟨dx, xb, pr, pg, h1, h2⟩ := h
  exact ⟨dx, xb, pr, pg, s _ _ h1, h2.mono s⟩
def vOn (o : Option Nat) : V := match o with
  | none => .non
  | some k => .int (k : Int)
/-- an outlook is made -/
def spOInit (K : PySem.W.Frag) (C CM CR : Addr) : Sp := fun vs H Q _ => ∃ (x dx xm : Addr) (n i : Nat) (most : Bool) (b : List Deed) (ws : List (List Deed)), vs = [.ref x, .ref xm, .int (i : Int), .bl most] ∧ H x = some (.ins C dx []) ∧ MakAt K CM (wo H x) xm n b ws ∧ GoodM n b ws ∧
  ∀ H' sh pt pl, Same (wo H x) H' → OutAt K C CR H' x most i b ws sh pt pl → Q .non H'
/-- whether a value is better than another, or than none -/
def spBet (K : PySem.W.Frag) (C : Addr) : Sp := fun vs H Q _ => ∃ (x dx : Addr) (most : Bool) (xb pr pg : Addr) (sh : Int) (pt pl : Addr) (v : Int) (o : Option Int), vs = [.ref x, .int v, vO o] ∧ H x = some (.ins C dx (of most xb pr pg sh pt pl)) ∧
  Q (.bl (less (sg most * v) (o.map (sg most * ·)))) H
def spStop (K : PySem.W.Frag) (C CR : Addr) : Sp := fun vs H Q _ => ∃ (x : Addr) (most : Bool) (i : Nat) (b : List Deed) (ws : List (List Deed)) (sh : Int) (pt pl : Addr), vs = [.ref x] ∧ OutAt K C CR H x most i b ws sh pt pl ∧ ws ≠ [] ∧
  ∀ o H', Same H H' → ((o : Option Nat) = none → stopT most i ws = false) → (∀ k, o = some k → stopT most i ws = true ∧ k < ws.length ∧ mA i ws k = 0) → Q (vOn o) H'
theorem sc_Outlook___init__ : FnScope ["self", "maker", "inlet", "most", "way", "number", "one"] ["self", "maker", "inlet", "most"] (defScope s_Outlook_init) := ⟨rfl, rfl, rfl, by decide +kernel, rfl, by decide +kernel, by decide +kernel⟩
theorem sc_Outlook_better : FnScope ["self", "value", "other"] ["self", "value", "other"] (defScope s_Outlook_better) := ⟨rfl, rfl, rfl, by decide +kernel, rfl, by decide +kernel, by decide +kernel⟩
theorem sc_Outlook_stopping : FnScope ["self", "number", "one"] ["self"] (defScope s_Outlook_stopping) := ⟨rfl, rfl, rfl, by decide +kernel, rfl, by decide +kernel, by decide +kernel⟩
section
variable {P : Program} {w : World} {K : PySem.W.Frag} {mg : Str → Option Value} {base : Heap} {gs fs : List Str} {C CM CR : Addr}
theorem ok_Outlook_better {f : Addr} {fd : FuncData} (F : FunD K "better" "Outlook.better" (defArgs s_Outlook_better) (defBody s_Outlook_better) (defScope s_Outlook_better) [] [] f fd) (T : Txt K mg gs FS) (oc : OutC K C) : FnOk P w K mg base CX0 1 f fd ["self", "value", "other"] (spBet K C) := by
  refine F.ok sc_Outlook_better (fun vs H Q E h => ?_) (fun cdv A outer s H vs Q E hr h => ?_)
  · obtain ⟨x, dx, most, xb, pr, pg, sh, pt, pl, v, o, rfl, _⟩ := h
    rfl
  · obtain ⟨x, dx, most, xb, pr, pg, sh, pt, pl, v, o, rfl, hx, q⟩ := h
    refine ⟨_, PSs.nox (pss_cons (ps_if (pt_cmpR op_isN (pv 2) pe_non (nomark _)) (pss_one (ps_ret pe_bl)) pss_nil) (pss_one (ps_ret (pe_ifExp (pt_val (pe_fld (pv 0) rfl)) (pe_cmpR op_gt (pv 1) (pv 2) (nomark _)) (pe_cmpR op_lt (pv 1) (pv 2) (nomark _)))))), ?_⟩
    cases o with
    | none =>
      refine ⟨_, rfl, rfl, _, rfl, iteT' (decide_eq_true rfl) ?_⟩
      exact q
    | some u =>
      refine ⟨_, rfl, rfl, _, rfl, iteF' rfl ?_⟩
      refine ⟨_, rfl, x, C, dx, _, _, rfl, hx, oc.cl, oc.nm, rfl, most, rfl, ?_⟩
      cases most with
      | true =>
        refine iteT ?_
        refine ⟨_, rfl, _, rfl, _, _, rfl, rfl, ?_⟩
        have e : less (sg true * v) ((some u).map (sg true * ·)) = decide (v > u) := by
          show decide (-1 * v < -1 * u) = _
          by_cases h : v > u
          · rw [decide_eq_true h, decide_eq_true (by omega)]
          · rw [decide_eq_false h, decide_eq_false (by omega)]
        rw [e] at q
        exact q
      | false =>
        refine iteF ?_
        refine ⟨_, rfl, _, rfl, _, _, rfl, rfl, ?_⟩
        have e : less (sg false * v) ((some u).map (sg false * ·)) = decide (v < u) := by
          show decide (1 * v < 1 * u) = _
          by_cases h : v < u
          · rw [decide_eq_true h, decide_eq_true (by omega)]
          · rw [decide_eq_false h, decide_eq_false (by omega)]
        rw [e] at q
        exact q
theorem vN_giv {i : Nat} {ws : List (List Deed)} {k : Nat} (h : k < ws.length) (hk : k ∉ giv i ws) : mA i ws k = 0 := by
  rcases Nat.eq_zero_or_pos (mA i ws k) with z | z
  · exact z
  · exact absurd (giv_mem.mpr ⟨h, z⟩) hk
theorem ok_Outlook_stopping {f : Addr} {fd : FuncData} (F : FunD K "stopping" "Outlook.stopping" (defArgs s_Outlook_stopping) (defBody s_Outlook_stopping) (defScope s_Outlook_stopping) [] [] f fd) (T : Txt K mg gs FS) (oc : OutC K C) (rc : RouC K CR) : FnOk P w K mg base CX0 1 f fd ["self"] (spStop K C CR) := by
  refine F.ok sc_Outlook_stopping (fun vs H Q E h => ?_) (fun cdv A outer s H vs Q E hr h => ?_)
  · obtain ⟨x, most, i, b, ws, sh, pt, pl, rfl, _⟩ := h
    rfl
  · obtain ⟨x, most, i, b, ws, sh, pt, pl, rfl, ⟨dx, xb, pr, pg, hx, hb, ⟨xs, hr1, xl, hro⟩, hg⟩, h0, q⟩ := h
    have w0 := List.length_pos_iff.mpr h0
    refine ⟨_, PSs.nox (pss_cons (ps_if (pt_not (pt_val (pe_fld (pv 0) rfl))) (pss_one (ps_ret (pe_ifExp (pt_truth (pe_fld (pv 0) rfl) (fun _ => rfl)) pe_non pe_int))) pss_nil) (pss_cons (ps_for PassesOwn.never rfl (pi_enum rfl (T.fr _ (by decide +kernel)) (pa_cons (pe_fld (pv 0) rfl) pa_nil)) (pgt (K := K) (n := 2) rfl rfl (pgs_cons (pg_name (i := 1) sc_Outlook_stopping.nd rfl (Or.inl rfl)) (pgs_cons (pg_name (i := 2) sc_Outlook_stopping.nd rfl (Or.inl rfl)) pgs_nil))) (pss_one (ps_if (pt_not (pt_truth (pe_fld (pv 2) rfl) (fun _ => rfl))) (pss_one (ps_ret (pv 1))) pss_nil))) (pss_one (ps_ret pe_non)))), ?_⟩
    refine ⟨_, rfl, x, C, dx, _, _, rfl, hx, oc.cl, oc.nm, rfl, most, rfl, ?_⟩
    cases most with
    | false =>
      refine iteT ?_
      refine ⟨_, rfl, x, C, dx, _, _, rfl, hx, oc.cl, oc.ng, rfl, ?_⟩
      refine ⟨_, .inl ⟨_, SqL.of hg, rfl⟩, ?_⟩
      have e0 : (vNs (giv i ws)).isEmpty = (giv i ws).isEmpty := by
        unfold vNs
        cases giv i ws <;> rfl
      cases hz : giv i ws with
      | nil =>
        refine iteF' rfl ?_
        refine q (some 0) H (Same.refl H) (fun z => nomatch z) fun k hk => ?_
        cases hk
        exact ⟨by unfold stopT; rw [hz]; rfl, w0, vN_giv w0 (by rw [hz]; simp)⟩
      | cons k ks =>
        refine iteT' rfl ?_
        exact q none H (Same.refl H) (fun _ => by unfold stopT; rw [hz]; rfl) fun k hk => nomatch hk
    | true =>
      refine iteF ?_
      refine ⟨_, rfl, x, C, dx, _, _, rfl, hx, oc.cl, oc.nr, rfl, pr, _, rfl, SqL.of hr1, ?_⟩
      refine for_it (walk_enum (xs := xs.map V.ref)) (fun j σ G => Same H G ∧ (∀ k, k < j → 1 ≤ mA i ws k) ∧ ∃ v1 v2 : Option V, σ = [some (.ref x), v1, v2]) ⟨Same.refl H, fun k hk => absurd hk (Nat.not_lt_zero _), none, none, rfl⟩ (fun j σ G _ z => SqL.of (z.1 _ _ hr1)) ?_ ?_
      · rintro j y σ G1 G2 hj ⟨sG1, all, v1, v2, rfl⟩ ⟨U, a1, b1, rfl, hU, rfl, ha1, hb1⟩
        obtain rfl : V.int (j : Int) = a1 := Option.some.inj ha1
        rw [List.length_map] at hj
        have hb1 : (xs.map V.ref)[j]? = some b1 := hb1
        obtain rfl : V.ref (xs[j]) = b1 := by
          rw [List.getElem?_map, List.getElem?_eq_getElem hj] at hb1
          exact Option.some.inj hb1
        have hjw : j < ws.length := by omega
        have sU := NF.Same.new (o := .tup [V.int (j : Int), V.ref xs[j]]) sG1 hU
        obtain ⟨dr, mm, hro1, hro2⟩ := (hro j xs[j] ws[j] (List.getElem?_eq_getElem hj) (List.getElem?_eq_getElem hjw)).mono sU
        refine ⟨U, _, rfl, SqT.of upd_same, rfl, _, _, rfl, ?_⟩
        refine ⟨_, _, rfl, ?_⟩
        refine ⟨rfl, ?_⟩
        refine ⟨_, rfl, _, CR, dr, _, _, rfl, hro1, rc.cl, rc.nm, rfl, _, .inr (.inl ⟨_, hro2, rfl⟩), ?_⟩
        have em : mA i ws j = (ahead i ws[j] 0).length := by
          unfold mA
          rw [List.getD_eq_getElem?_getD, List.getElem?_eq_getElem hjw]
          rfl
        have ee : (vI (ahead i ws[j] 0)).isEmpty = decide (mA i ws j = 0) := by
          rw [em]
          unfold vI
          cases ahead i ws[j] 0 <;> rfl
        rw [ee]
        refine ite2 (fun h => ?_) (fun h => ?_)
        · have h : mA i ws j = 0 := by simpa using h
          refine ⟨_, rfl, ?_⟩
          refine q (some j) _ sU (fun z => nomatch z) fun k hk => ?_
          cases hk
          refine ⟨?_, hjw, h⟩
          cases hs : stopT true i ws with
          | true => rfl
          | false =>
            have := giv_pos j (all_give hs j hjw)
            omega
        · have h : mA i ws j ≠ 0 := by simpa using h
          refine ⟨sU, fun k hk => ?_, _, _, rfl⟩
          rcases Nat.lt_or_ge k j with z | z
          · exact all k z
          · rw [show k = j by omega]
            omega
      · rintro σ G ⟨sG, all, v1, v2, rfl⟩
        rw [List.length_map, xl] at all
        refine q none G sG (fun _ => ?_) fun k hk => nomatch hk
        have e : giv i ws = List.range ws.length := by
          unfold giv
          refine List.filter_eq_self.mpr fun k hk => decide_eq_true ?_
          have := all k (List.mem_range.mp hk)
          omega
        unfold stopT
        rw [e, List.length_range]
        simp
theorem RouAt.putI {G : Hp} {y x : Addr} {i : Nat} {r : List Deed} {dx : Addr} {fl : List (Str × V)} {o : HO} (h : RouAt K CR G y i r) (ne : y ≠ x) (hx : G x = some (.ins C dx fl)) : RouAt K CR (upd G x o) y i r := by
  obtain ⟨dy, m, h1, h2⟩ := h
  exact ⟨dy, m, (upd_ne ne).trans h1, SqT.put h2 hx trivial⟩
theorem Chosen.putI {G : Hp} {xs : List Addr} {x : Addr} {i : Nat} {rs : List (List Deed)} {dx : Addr} {fl : List (Str × V)} {o : HO} (h : Chosen K CR G xs i rs) (ne : ∀ y ∈ xs, y ≠ x) (hx : G x = some (.ins C dx fl)) : Chosen K CR (upd G x o) xs i rs :=
  ⟨h.1, fun j y r e1 e2 => RouAt.putI (h.2 j y r e1 e2) (ne y (List.mem_of_getElem? e1)) hx⟩
theorem giv_snoc {i j : Nat} {ws : List (List Deed)} : (List.range (j + 1)).filter (fun k => decide (mA i ws k ≠ 0)) = (List.range j).filter (fun k => decide (mA i ws k ≠ 0)) ++ (if mA i ws j ≠ 0 then [j] else []) := by
  rw [List.range_succ, List.filter_append]
  congr 1
  by_cases h : mA i ws j = 0 <;> simp [h]
theorem marks_empty {i j : Nat} {ws : List (List Deed)} (h : j < ws.length) : (vI (ahead i ws[j] 0)).isEmpty = decide (mA i ws j = 0) := by
  have em : mA i ws j = (ahead i ws[j] 0).length := by
    unfold mA
    rw [List.getD_eq_getElem?_getD, List.getElem?_eq_getElem h]
    rfl
  rw [em]
  unfold vI
  cases ahead i ws[j] 0 <;> rfl
theorem ok_Outlook_init {f : Addr} {fd : FuncData} (F : FunD K "__init__" "Outlook.__init__" (defArgs s_Outlook_init) (defBody s_Outlook_init) (defScope s_Outlook_init) [] [] f fd) (T : Txt K mg gs FS) (oc : OutC K C) (mc : MakC K CM) (rc : RouC K CR) (m_Round2 : Mak P w K mg base 1 0 "Round" CR (spRoInit K CR) []) : FnOk P w K mg base CX0 3 f fd ["self", "maker", "inlet", "most"] (spOInit K C CM CR) := by
  refine F.ok sc_Outlook___init__ (fun vs H Q E h => ?_) (fun cdv A outer s H vs Q E hr h => ?_)
  · obtain ⟨x, dx, xm, n, i, most, b, ws, rfl, _⟩ := h
    rfl
  · obtain ⟨x, dx, xm, n, i, most, b, ws, rfl, hx, mk, g, q⟩ := h
    have m4 := g.m4
    have gb := g.bl
    refine ⟨_, PSs.nox (pss_cons (ps_fld (pv 0) (pv 3) rfl) (pss_cons (ps_fld (pv 0) (pe_mk m_Round2 hr (by decide) rfl (pa_cons (pe_fld (pv 1) rfl) (pa_cons (pv 2) pa_nil))) rfl) (pss_cons (ps_fld (pv 0) (pe_lc (own := [("way", 4)]) rfl sc_Outlook___init__.nd (pi_tup (pe_fld (pv 1) rfl)) (blkOk_by (N := ["self", "maker", "inlet", "most", "way", "number", "one"]) (sc := defScope s_Outlook_init) (by decide +kernel)) (fun _ _ _ _ _ => by exact (pg_name (i := 4) sc_Outlook___init__.nd rfl (Or.inl rfl))) (fun _ _ _ _ _ => by exact pts_nil) (fun _ _ _ _ _ => by exact (pe_mk m_Round2 hr (by decide) rfl (pa_cons (pv 4) (pa_cons (pv 2) pa_nil))))) rfl) (pss_cons (ps_fld (pv 0) (pe_lc (own := [("number", 5), ("one", 6)]) rfl sc_Outlook___init__.nd (pi_enum rfl (T.fr _ (by decide +kernel)) (pa_cons (pe_fld (pv 0) rfl) pa_nil)) (blkOk_by (N := ["self", "maker", "inlet", "most", "way", "number", "one"]) (sc := defScope s_Outlook_init) (by decide +kernel)) (fun _ _ _ _ _ => by exact (pgt (K := K) (n := 2) rfl rfl (pgs_cons (pg_name (i := 5) sc_Outlook___init__.nd rfl (Or.inl rfl)) (pgs_cons (pg_name (i := 6) sc_Outlook___init__.nd rfl (Or.inl rfl)) pgs_nil)))) (fun _ _ _ _ _ => by exact (pts_one (pt_truthK (K := K) (pe_fldK (K := K) (pv 6) rfl) (fun _ => rfl)))) (fun _ _ _ _ _ => by exact (pv 5))) rfl) (pss_cons (ps_fld (pv 0) pe_int rfl) (pss_cons (ps_fld (pv 0) (pe_lst (pa_cons pe_int pa_nil)) rfl) (pss_one (ps_fld (pv 0) (pe_lst (pa_cons pe_non pa_nil)) rfl)))))))), ?_⟩
    refine ⟨_, rfl, _, rfl, x, C, dx, _, rfl, hx, oc.cl, oc.nm, (by decide), ?_⟩
    have sw1 := NF.Same.put (o := .ins C dx (putF "most" (.bl most) [])) (wo_same' (H := H) (p := x)) wo_none
    have hx1 := upd_same (H := H) (a := x) (o := .ins C dx (putF "most" (.bl most) []))
    generalize upd H x (.ins C dx (putF "most" (.bl most) [])) = H1 at sw1 hx1
    -- the beginning
    obtain ⟨dxm, pb, pw, hm1, hb1, as, hw1, hl, hws1⟩ := mk.mono sw1
    refine ⟨_, rfl, xm, CM, dxm, _, _, rfl, hm1, mc.cl, mc.nb, rfl, _, rfl, ?_⟩
    intro y dy ny nd ne
    have yx : y ≠ x := fun z => by rw [z, hx1] at ny; cases ny
    refine ⟨y, dy, pb, i, b, rfl, upd_same, .inr (NF.Same.tup (same_woM ny nd) hb1), by omega, fun H2 s2 ro => ⟨rfl, ?_⟩⟩
    have s12 : Same H1 H2 := Same.trans (same_woM ny nd) s2
    have hx2 := s12 _ _ hx1
    refine ⟨_, rfl, x, C, dx, _, rfl, hx2, oc.cl, oc.nb, (show 1 < 1000 by decide), ?_⟩
    have sw2 := NF.Same.put (o := .ins C dx (putF "begin" (.ref y) (putF "most" (.bl most) []))) (Same.trans sw1 s12) wo_none
    have hx3 := upd_same (H := H2) (a := x) (o := .ins C dx (putF "begin" (.ref y) (putF "most" (.bl most) [])))
    have ro3 := RouAt.putI (o := .ins C dx (putF "begin" (.ref y) (putF "most" (.bl most) []))) ro yx hx2
    generalize upd H2 x (.ins C dx (putF "begin" (.ref y) (putF "most" (.bl most) []))) = H3 at sw2 hx3 ro3
    -- the rounds
    obtain ⟨dxm, pb, pw, hm3, hb3, as, hw3, hl, hws3⟩ := mk.mono sw2
    refine ⟨_, rfl, xm, CM, dxm, _, _, rfl, hm3, mc.cl, mc.nw, rfl, pw, rfl, ⟨_, hw3⟩, fun D hD => ?_⟩
    refine lc_tup (xs := as.map V.ref) (fun j G => Same H3 G ∧ ∃ xs : List Addr, G D = some (.lst (xs.map V.ref)) ∧ Chosen K CR G xs i (ws.take j) ∧ ∀ a ∈ xs, a ≠ x) ⟨NF.Same.new (Same.refl H3) hD, [], upd_same, ⟨rfl, fun j x r e => by simp at e⟩, by simp⟩ (fun j G _ z => NF.Same.tup z.1 hw3) ?_ ?_
    · rintro j v G hv ⟨sG, xs, hG, ch, xn⟩
      have hj := (List.getElem?_eq_some_iff.mp hv).1
      rw [List.length_map] at hj
      obtain rfl : V.ref (as[j]) = v := by
        rw [List.getElem?_map, List.getElem?_eq_getElem hj] at hv
        exact Option.some.inj hv
      have hjw : j < ws.length := by omega
      have hr1 := NF.Same.tup sG (hws3 j as[j] ws[j] (List.getElem?_eq_getElem hj) (List.getElem?_eq_getElem hjw))
      obtain ⟨w1, w2, w3⟩ := g.wy ws[j] (List.getElem_mem hjw)
      have xl : xs.length = j := by
        rw [ch.1, List.length_take]
        omega
      refine ⟨rfl, _, rfl, _, rfl, ?_⟩
      intro y dy ny nd ne
      have yx : y ≠ x := fun z => by rw [z, sG _ _ hx3] at ny; cases ny
      refine ⟨y, dy, as[j], i, ws[j], rfl, upd_same, .inr (NF.Same.tup (same_woM ny nd) hr1), by omega, fun G2 s2 ro => ⟨rfl, ?_⟩⟩
      have s3 : Same G G2 := Same.trans (same_woM ny nd) s2
      have hG2 := s3 _ _ hG
      refine ⟨_, hG2, by rw [List.length_map, xl]; exact Nat.lt_of_lt_of_le (show j < 10000 by omega) (by decide), NF.Same.mut (Same.trans sG s3) hD, xs ++ [y], ?_, ⟨?_, fun k z r e1 e2 => ?_⟩, fun a ha => ?_⟩
      · rw [upd_same, List.map_append]
        rfl
      · rw [List.length_append, xl, List.length_take]
        show j + 1 = _
        omega
      · refine RouAt.put ?_ hG2
        rw [List.getElem?_take] at e2
        rcases Nat.lt_trichotomy k j with h | h | h
        · rw [List.getElem?_append_left (by omega)] at e1
          rw [if_pos (by omega)] at e2
          exact (ch.2 k z r e1 (by rw [List.getElem?_take, if_pos h]; exact e2)).mono s3
        · subst h
          rw [List.getElem?_append_right (by omega), xl, Nat.sub_self] at e1
          rw [if_pos (by omega), List.getElem?_eq_getElem hjw] at e2
          cases e1
          cases e2
          exact ro
        · rw [if_neg (by omega)] at e2
          cases e2
      · rcases List.mem_append.mp ha with ha | ha
        · exact xn a ha
        · rw [List.mem_singleton.mp ha]
          exact yx
    · rintro G4 ⟨s4, xs, hG4, ch4, xn⟩
      rw [List.length_map, hl, List.take_length] at ch4
      have hx4 := s4 _ _ hx3
      have ro4 := ro3.mono s4
      have sw4 := Same.trans sw2 s4
      have Dx : D ≠ x := fun z => by rw [z, hx4] at hG4; cases hG4
      refine ⟨_, rfl, x, C, dx, _, rfl, hx4, oc.cl, oc.nr, (show 2 < 1000 by decide), ?_⟩
      have sw5 := NF.Same.put (o := .ins C dx (putF "rounds" (.ref D) (putF "begin" (.ref y) (putF "most" (.bl most) [])))) sw4 wo_none
      have hx5 := upd_same (H := G4) (a := x) (o := .ins C dx (putF "rounds" (.ref D) (putF "begin" (.ref y) (putF "most" (.bl most) []))))
      have ro5 := RouAt.putI (o := .ins C dx (putF "rounds" (.ref D) (putF "begin" (.ref y) (putF "most" (.bl most) [])))) ro4 yx hx4
      have ch5 := Chosen.putI (o := .ins C dx (putF "rounds" (.ref D) (putF "begin" (.ref y) (putF "most" (.bl most) [])))) ch4 xn hx4
      have hG5 := (upd_ne (H := G4) (o := .ins C dx (putF "rounds" (.ref D) (putF "begin" (.ref y) (putF "most" (.bl most) [])))) Dx).trans hG4
      generalize upd G4 x (.ins C dx (putF "rounds" (.ref D) (putF "begin" (.ref y) (putF "most" (.bl most) [])))) = H5 at sw5 hx5 ro5 ch5 hG5
      -- those that give
      refine ⟨_, rfl, x, C, dx, _, _, rfl, hx5, oc.cl, oc.nr, rfl, D, _, rfl, SqL.of hG5, ?_⟩
      refine fun D2 hD2 => ?_
      refine lc_it (tt := fun σ H Q => tFld K (tVar 6) "marks" σ H fun x H' => ∃ k, TruV K x H' k ∧ Q k H') (walk_enum (K := K) (a := D) (xs := xs.map V.ref)) (fun j G => Same H5 G ∧ G D2 = some (.lst (vNs ((List.range j).filter fun k => decide (mA i ws k ≠ 0))))) ⟨NF.Same.new (Same.refl H5) hD2, upd_same⟩ (fun j G _ z => SqL.of (z.1 _ _ hG5)) ?_ ?_
      · rintro j v G1 G2 hj ⟨sG1, hG1⟩ ⟨U, a1, b1, rfl, hU, rfl, ha1, hb1⟩
        obtain rfl : V.int (j : Int) = a1 := Option.some.inj ha1
        rw [List.length_map] at hj
        have hb1 : (xs.map V.ref)[j]? = some b1 := hb1
        obtain rfl : V.ref (xs[j]) = b1 := by
          rw [List.getElem?_map, List.getElem?_eq_getElem hj] at hb1
          exact Option.some.inj hb1
        have hjw : j < ws.length := by have := ch5.1; omega
        have sU := NF.Same.new (o := .tup [V.int (j : Int), V.ref xs[j]]) sG1 hU
        have hU1 := NF.Same.new (o := .tup [V.int (j : Int), V.ref xs[j]]) (Same.refl G1) hU
        obtain ⟨dr, mm, hro1, hro2⟩ := (ch5.2 j xs[j] ws[j] (List.getElem?_eq_getElem hj) (List.getElem?_eq_getElem hjw)).mono sU
        refine ⟨U, _, rfl, SqT.of upd_same, rfl, _, _, rfl, ?_⟩
        refine ⟨_, _, rfl, ?_⟩
        refine ⟨rfl, rfl, ?_⟩
        refine ⟨_, rfl, _, CR, dr, _, _, rfl, hro1, rc.cl, rc.nm, rfl, _, .inr (.inl ⟨_, hro2, rfl⟩), ?_⟩
        rw [marks_empty hjw]
        have es := giv_snoc (i := i) (j := j) (ws := ws)
        have hlen := List.length_filter_le (fun k => decide (mA i ws k ≠ 0)) (List.range j)
        rw [List.length_range] at hlen
        refine ite2 (fun h => ?_) (fun h => ?_)
        · have h : mA i ws j ≠ 0 := by simpa using h
          rw [if_pos h] at es
          refine ⟨_, rfl, _, hU1 _ _ hG1, ?_, NF.Same.mut sU hD2, ?_⟩
          · unfold vNs
            rw [List.length_map]
            have := ch5.1
            exact Nat.lt_of_le_of_lt hlen (Nat.lt_of_lt_of_le (show j < 10000 by omega) (by decide))
          · rw [upd_same, es]
            unfold vNs
            rw [List.map_append]
            rfl
        · have h : mA i ws j = 0 := by simpa using h
          rw [if_neg (by omega), List.append_nil] at es
          refine ⟨sU, ?_⟩
          rw [es]
          exact hU1 _ _ hG1
      · rintro G6 ⟨s6, hG6⟩
        have hx6 := s6 _ _ hx5
        have ro6 := ro5.mono s6
        have ch6 := ch5.mono s6
        have hD6 := s6 _ _ hG5
        have sw6 := Same.trans sw5 s6
        have D2x : D2 ≠ x := fun z => by rw [z, hx6] at hG6; cases hG6
        rw [List.length_map, ch5.1] at hG6
        have egiv : ((List.range ws.length).filter fun k => decide (mA i ws k ≠ 0)) = giv i ws := rfl
        rw [egiv] at hG6
        have B6 : OutB K CR G6 y D D2 i b ws := ⟨ro6, ⟨xs, hD6, ch6⟩, hG6⟩
        have setx : ∀ {G : Hp} {fl : List (Str × V)} (o : HO), OutB K CR G y D D2 i b ws → G D = some (.lst (xs.map V.ref)) → G x = some (.ins C dx fl) → OutB K CR (upd G x o) y D D2 i b ws ∧ upd G x o D = some (.lst (xs.map V.ref)) := fun {G fl} o hB hD' hx => by
          obtain ⟨b1, ⟨xs', b2, b3⟩, b4⟩ := hB
          have hD'' := (upd_ne (H := G) (o := o) Dx).trans hD'
          have exs : xs' = xs := by
            rw [hD'] at b2
            have := HO.lst.inj (Option.some.inj b2)
            exact (List.map_inj_right (fun a b h => V.ref.inj h)).mp this.symm
          subst exs
          exact ⟨⟨RouAt.putI b1 yx hx, ⟨xs', hD'', Chosen.putI b3 xn hx⟩, (upd_ne D2x).trans b4⟩, hD''⟩
        refine ⟨_, rfl, x, C, dx, _, rfl, hx6, oc.cl, oc.ng, (show 3 < 1000 by decide), ?_⟩
        have B7 := setx (.ins C dx (putF "giving" (.ref D2) (putF "rounds" (.ref D) (putF "begin" (.ref y) (putF "most" (.bl most) []))))) B6 hD6 hx6
        have sw7 := NF.Same.put (o := .ins C dx (putF "giving" (.ref D2) (putF "rounds" (.ref D) (putF "begin" (.ref y) (putF "most" (.bl most) []))))) sw6 wo_none
        have hx7 := upd_same (H := G6) (a := x) (o := .ins C dx (putF "giving" (.ref D2) (putF "rounds" (.ref D) (putF "begin" (.ref y) (putF "most" (.bl most) [])))))
        generalize upd G6 x (.ins C dx (putF "giving" (.ref D2) (putF "rounds" (.ref D) (putF "begin" (.ref y) (putF "most" (.bl most) []))))) = G7 at B7 sw7 hx7
        refine ⟨_, rfl, x, C, dx, _, rfl, hx7, oc.cl, oc.ns, (show 4 < 1000 by decide), ?_⟩
        have B8 := setx (.ins C dx (putF "shares" (.int 1) (putF "giving" (.ref D2) (putF "rounds" (.ref D) (putF "begin" (.ref y) (putF "most" (.bl most) [])))))) B7.1 B7.2 hx7
        have sw8 := NF.Same.put (o := .ins C dx (putF "shares" (.int 1) (putF "giving" (.ref D2) (putF "rounds" (.ref D) (putF "begin" (.ref y) (putF "most" (.bl most) [])))))) sw7 wo_none
        have hx8 := upd_same (H := G7) (a := x) (o := .ins C dx (putF "shares" (.int 1) (putF "giving" (.ref D2) (putF "rounds" (.ref D) (putF "begin" (.ref y) (putF "most" (.bl most) []))))))
        generalize upd G7 x (.ins C dx (putF "shares" (.int 1) (putF "giving" (.ref D2) (putF "rounds" (.ref D) (putF "begin" (.ref y) (putF "most" (.bl most) [])))))) = G8 at B8 sw8 hx8
        refine ⟨(by show 1 ≤ sizeLine; decide), fun p1 hp1 => ?_⟩
        have s9 := NF.Same.new (o := .lst [V.int 0]) (Same.refl G8) hp1
        have hx9 := s9 _ _ hx8
        have sw9 := Same.trans sw8 s9
        have B9 := B8.1.mono s9
        have hD9 := s9 _ _ B8.2
        generalize upd G8 p1 (.lst [V.int 0]) = G9 at s9 hx9 sw9 B9 hD9
        refine ⟨_, rfl, x, C, dx, _, rfl, hx9, oc.cl, oc.nt, (show 5 < 1000 by decide), ?_⟩
        have BA := setx (.ins C dx (putF "taken" (.ref p1) (putF "shares" (.int 1) (putF "giving" (.ref D2) (putF "rounds" (.ref D) (putF "begin" (.ref y) (putF "most" (.bl most) []))))))) B9 hD9 hx9
        have swA := NF.Same.put (o := .ins C dx (putF "taken" (.ref p1) (putF "shares" (.int 1) (putF "giving" (.ref D2) (putF "rounds" (.ref D) (putF "begin" (.ref y) (putF "most" (.bl most) []))))))) sw9 wo_none
        have hxA := upd_same (H := G9) (a := x) (o := .ins C dx (putF "taken" (.ref p1) (putF "shares" (.int 1) (putF "giving" (.ref D2) (putF "rounds" (.ref D) (putF "begin" (.ref y) (putF "most" (.bl most) [])))))))
        generalize upd G9 x (.ins C dx (putF "taken" (.ref p1) (putF "shares" (.int 1) (putF "giving" (.ref D2) (putF "rounds" (.ref D) (putF "begin" (.ref y) (putF "most" (.bl most) []))))))) = GA at BA swA hxA
        refine ⟨(by show 1 ≤ sizeLine; decide), fun p2 hp2 => ?_⟩
        have sB := NF.Same.new (o := .lst [V.non]) (Same.refl GA) hp2
        have hxB := sB _ _ hxA
        have swB := Same.trans swA sB
        have BB := BA.1.mono sB
        have hDB := sB _ _ BA.2
        generalize upd GA p2 (.lst [V.non]) = GB at sB hxB swB BB hDB
        refine ⟨_, rfl, x, C, dx, _, rfl, hxB, oc.cl, oc.nl, (show 6 < 1000 by decide), ?_⟩
        have BC := setx (.ins C dx (of most y D D2 1 p1 p2)) BB hDB hxB
        have swC := NF.Same.put (o := .ins C dx (of most y D D2 1 p1 p2)) swB wo_none
        exact q _ 1 p1 p2 swC ⟨dx, y, D, D2, upd_same, BC.1⟩
end
end K25
set_option linter.all false
set_option maxHeartbeats 4000000
/-! What the rounds cost in shares, and the last rounds. Plain Lean. -/
namespace NT
/-- the toll of a round -/
def toll (free : Option Nat) (k : Nat) : Nat := match free with
  | none => 1
  | some j => if k = j then 0 else 1
theorem toll_le (free : Option Nat) (k : Nat) : toll free k ≤ 1 := by
  cases free with
  | none => exact Nat.le_refl _
  | some j =>
    show (if k = j then 0 else 1) ≤ 1
    split <;> omega
def dSh (most : Bool) (i : Nat) (ws : List (List Deed)) (free : Option Nat) (sh : Int) (k : Nat) : Int := dA most i ws k * sh + (toll free k : Int)
/-- the last rounds tell the way back, below B -/
def Trc (most : Bool) (i : Nat) (ws : List (List Deed)) (free : Option Nat) (sh : Int) (many B : Nat) (U : Nat → Option Int) (L : Nat → Option Nat) : Prop :=
  ∀ g, 0 < g → g ≤ many → ∀ u, U g = some u → ∃ k ∈ giv i ws, L g = some k ∧ mA i ws k ≤ g ∧ g - mA i ws k ≤ B ∧ U (g - mA i ws k) = some (u - dSh most i ws free sh k)
/-- what was found for each number of pieces -/
structure Lkd (most : Bool) (i : Nat) (ws : List (List Deed)) (free : Option Nat) (sh : Int) (many : Nat) (U : Nat → Option Int) (L : Nat → Option Nat) : Prop where
  u : ∀ g, g ≤ many → MinOf (Rch (giv i ws) (mA i ws) (dSh most i ws free sh) g) (U g)
  t : Trc most i ws free sh many many U L
/-- so far: all behind fewer than B pieces, the first j behind B -/
structure Lkn (most : Bool) (i : Nat) (ws : List (List Deed)) (free : Option Nat) (sh : Int) (many B j : Nat) (U : Nat → Option Int) (L : Nat → Option Nat) : Prop where
  u : ∀ g, g ≤ many → MinOf (Psh (giv i ws) (mA i ws) (dSh most i ws free sh) B j g) (U g)
  t : Trc most i ws free sh many B U L
section
variable {most : Bool} {i : Nat} {ws : List (List Deed)} {free : Option Nat} {sh : Int} {many B j : Nat} {U : Nat → Option Int} {L : Nat → Option Nat}
theorem lkn_zero : Lkn most i ws free sh many 0 0 (fun g => if g = 0 then some 0 else none) (fun _ => none) :=
  ⟨fun g _ => psh_zero g, fun g h0 _ u e => by
    rw [if_neg (by omega)] at e
    cases e⟩
theorem Trc.up {B' : Nat} (h : Trc most i ws free sh many B U L) (le : B ≤ B') : Trc most i ws free sh many B' U L := fun g h0 hg u e => by
  obtain ⟨k, hk, h1, h2, h3, h4⟩ := h g h0 hg u e
  exact ⟨k, hk, h1, h2, by omega, h4⟩
theorem Lkn.done (h : Lkn most i ws free sh many many 0 U L) : Lkd most i ws free sh many U L := ⟨fun g hg => (h.u g hg).congr (psh_done giv_pos hg), h.t⟩
theorem Lkn.next (h : Lkn most i ws free sh many B (giv i ws).length U L) : Lkn most i ws free sh many (B + 1) 0 U L := ⟨fun g hg => (h.u g hg).congr psh_next, h.t.up (by omega)⟩
/-- what is told for B pieces is final -/
theorem Lkn.at_B (h : Lkn most i ws free sh many B j U L) (hB : B ≤ many) : MinOf (Rch (giv i ws) (mA i ws) (dSh most i ws free sh) B) (U B) := (h.u B hB).congr (psh_done giv_pos (Nat.le_refl B))
theorem Lkn.none (h : Lkn most i ws free sh many B j U L) (hB : B ≤ many) (e : U B = none) : Lkn most i ws free sh many B (j + 1) U L := by
  have hn := h.at_B hB
  rw [e] at hn
  exact ⟨fun g hg => ((h.u g hg).congr (psh_none hn)).congr fun c => (psh_none hn c).symm, h.t⟩
/-- too many pieces -/
theorem Lkn.far {k : Nat} (h : Lkn most i ws free sh many B j U L) (e : (giv i ws)[j]? = some k) (far : many < B + mA i ws k) : Lkn most i ws free sh many B (j + 1) U L :=
  ⟨fun g hg => psh_off e (by omega) (h.u g hg), h.t⟩
/-- no better than what was found -/
theorem Lkn.keep {k : Nat} {u : Int} (h : Lkn most i ws free sh many B j U L) (hB : B ≤ many) (e : (giv i ws)[j]? = some k) (hu : U B = some u) (hl : B + mA i ws k ≤ many) (no : less (u + dSh most i ws free sh k) (U (B + mA i ws k)) = false) : Lkn most i ws free sh many B (j + 1) U L := by
  have hm := h.at_B hB
  rw [hu] at hm
  refine ⟨fun g hg => ?_, h.t⟩
  by_cases c : g = B + mA i ws k
  · subst c
    have := psh_put e hm (h.u _ hg)
    rw [rlx_less, no] at this
    exact this
  · exact psh_off e c (h.u g hg)
/-- better than what was found -/
theorem Lkn.put {k : Nat} {u : Int} (h : Lkn most i ws free sh many B j U L) (hB : B ≤ many) (e : (giv i ws)[j]? = some k) (hu : U B = some u) (hl : B + mA i ws k ≤ many) (yes : less (u + dSh most i ws free sh k) (U (B + mA i ws k)) = true) :
    Lkn most i ws free sh many B (j + 1) (fun g => if g = B + mA i ws k then some (u + dSh most i ws free sh k) else U g) (fun g => if g = B + mA i ws k then some k else L g) := by
  have hm := h.at_B hB
  rw [hu] at hm
  have hk := List.mem_of_getElem? e
  have k1 := giv_pos k hk
  refine ⟨fun g hg => ?_, fun g h0 hg v ev => ?_⟩
  · by_cases c : g = B + mA i ws k
    · subst c
      rw [if_pos rfl]
      have := psh_put e hm (h.u _ hg)
      rw [rlx_less, yes] at this
      exact this
    · rw [if_neg c]
      exact psh_off e c (h.u g hg)
  · by_cases c : g = B + mA i ws k
    · subst c
      rw [if_pos rfl] at ev
      have ev := Option.some.inj ev
      refine ⟨k, hk, if_pos rfl, by omega, by omega, ?_⟩
      rw [Nat.add_sub_cancel, if_neg (by omega), hu, ← ev]
      congr 1
      omega
    · rw [if_neg c] at ev ⊢
      obtain ⟨q, hq, h1, h2, h3, h4⟩ := h.t g h0 hg v ev
      have q1 := giv_pos q hq
      refine ⟨q, hq, h1, h2, h3, ?_⟩
      rw [if_neg (by omega)]
      exact h4
theorem setmap_range {α : Type} {f : Nat → α} {n k : Nat} {v : α} (h : k < n) : ((List.range n).map f).set k v = (List.range n).map fun g => if g = k then v else f g := by
  apply List.ext_getElem?
  intro g
  rw [List.getElem?_set, List.length_map, List.length_range]
  by_cases c : g < n
  · rw [List.getElem?_map, List.getElem?_map, List.getElem?_range c]
    by_cases e : k = g
    · subst e
      rw [if_pos rfl, if_pos c]
      show some v = some (if k = k then v else f k)
      rw [if_pos rfl]
    · rw [if_neg e]
      show some (f g) = some (if g = k then v else f g)
      rw [if_neg (fun z => e z.symm)]
  · rw [List.getElem?_map, List.getElem?_map, List.getElem?_eq_none (by rw [List.length_range]; omega)]
    by_cases e : k = g
    · rw [if_pos e, if_neg (by omega)]
      rfl
    · rw [if_neg e]
      rfl
/-! ### a course, told by the last rounds -/
theorem Lkd.zero (h : Lkd most i ws free sh many U L) : U 0 = some 0 := by
  have := (h.u 0 (Nat.zero_le _)).one (b := some 0) ⟨rch_nil, fun c hc => by
    rcases rch_inv hc with ⟨_, rfl⟩ | ⟨k, hk, g', c', _, e, _⟩
    · exact Int.le_refl _
    · have := giv_pos k hk
      omega⟩
  exact this
end
/-! ### values, found step by step -/
/-- the (j+1)-th piece: rounds behind fewer than B pieces, and behind B those of the first jj ways, and the first t marks of the next way -/
def Psv (G : List Nat) (m : Nat → Nat) (d : Nat → Int) (mk : Nat → Nat → Int) (B jj t j : Nat) (c : Int) : Prop := ∃ idx k a g c', G[idx]? = some k ∧ a < m k ∧ g + a = j ∧ Rch G m d g c' ∧ c = c' + mk k a ∧ (g < B ∨ (g = B ∧ (idx < jj ∨ (idx = jj ∧ a < t))))
section
variable {G : List Nat} {m : Nat → Nat} {d : Nat → Int} {mk : Nat → Nat → Int} {B jj t j k n : Nat} {o : Option Int}
theorem psv_zero : MinOf (Psv G m d mk 0 0 0 j) none := fun c ⟨idx, k, a, g, c', _, _, _, _, _, h⟩ => by omega
theorem psv_put {u : Int} (e : G[jj]? = some k) (hu : MinOf (Rch G m d B) (some u)) (ht : t < m k) (ho : MinOf (Psv G m d mk B jj t (B + t)) o) : MinOf (Psv G m d mk B jj (t + 1) (B + t)) (rlx o (u + mk k t)) := by
  refine (ho.push (T := fun c => ∃ c', Rch G m d B c' ∧ c = c' + mk k t) ⟨⟨u, hu.1, rfl⟩, fun c ⟨c', r, e'⟩ => by have := hu.2 c' r; omega⟩).congr fun c => ⟨fun z => ?_, ?_⟩
  · rcases z with ⟨idx, k', a, g, c', e1, e2, e3, e4, e5, e6⟩ | ⟨c', r, e1⟩
    · exact ⟨idx, k', a, g, c', e1, e2, e3, e4, e5, by omega⟩
    · exact ⟨jj, k, t, B, c', e, ht, rfl, r, e1, by omega⟩
  · rintro ⟨idx, k', a, g, c', e1, e2, e3, e4, e5, e6⟩
    by_cases z : g = B ∧ idx = jj
    · obtain ⟨rfl, rfl⟩ := z
      rw [e] at e1
      cases e1
      obtain rfl : a = t := by omega
      exact .inr ⟨c', e4, e5⟩
    · exact .inl ⟨idx, k', a, g, c', e1, e2, e3, e4, e5, by omega⟩
theorem psv_off (hj : j ≠ B + t) (ho : MinOf (Psv G m d mk B jj t j) o) : MinOf (Psv G m d mk B jj (t + 1) j) o :=
  ho.congr fun c => ⟨fun ⟨idx, k', a, g, c', e1, e2, e3, e4, e5, e6⟩ => ⟨idx, k', a, g, c', e1, e2, e3, e4, e5, by omega⟩, fun ⟨idx, k', a, g, c', e1, e2, e3, e4, e5, e6⟩ => ⟨idx, k', a, g, c', e1, e2, e3, e4, e5, by omega⟩⟩
theorem psv_way (e : G[jj]? = some k) (hj : j < n) (ho : MinOf (Psv G m d mk B jj (min (n - B) (m k)) j) o) : MinOf (Psv G m d mk B (jj + 1) 0 j) o :=
  ho.congr fun c => ⟨fun ⟨idx, k', a, g, c', e1, e2, e3, e4, e5, e6⟩ => ⟨idx, k', a, g, c', e1, e2, e3, e4, e5, by omega⟩, fun ⟨idx, k', a, g, c', e1, e2, e3, e4, e5, e6⟩ => by
    refine ⟨idx, k', a, g, c', e1, e2, e3, e4, e5, ?_⟩
    by_cases z : idx = jj
    · subst z
      rw [e] at e1
      cases e1
      omega
    · omega⟩
theorem psv_next (ho : MinOf (Psv G m d mk B G.length 0 j) o) : MinOf (Psv G m d mk (B + 1) 0 0 j) o :=
  ho.congr fun c => ⟨fun ⟨idx, k', a, g, c', e1, e2, e3, e4, e5, e6⟩ => ⟨idx, k', a, g, c', e1, e2, e3, e4, e5, by omega⟩, fun ⟨idx, k', a, g, c', e1, e2, e3, e4, e5, e6⟩ => by
    have := (List.getElem?_eq_some_iff.mp e1).1
    exact ⟨idx, k', a, g, c', e1, e2, e3, e4, e5, by omega⟩⟩
theorem psv_none (hn : MinOf (Rch G m d B) none) (ho : MinOf (Psv G m d mk B 0 0 j) o) : MinOf (Psv G m d mk (B + 1) 0 0 j) o :=
  ho.congr fun c => ⟨fun ⟨idx, k', a, g, c', e1, e2, e3, e4, e5, e6⟩ => ⟨idx, k', a, g, c', e1, e2, e3, e4, e5, by omega⟩, fun ⟨idx, k', a, g, c', e1, e2, e3, e4, e5, e6⟩ => by
    refine ⟨idx, k', a, g, c', e1, e2, e3, e4, e5, ?_⟩
    by_cases z : g = B
    · rw [z] at e4
      exact absurd e4 (hn c')
    · omega⟩
theorem psv_done (hj : j < n) (ho : MinOf (Psv G m d mk n 0 0 j) o) : MinOf (Wv G m d mk (j + 1)) o :=
  ho.congr fun c => ⟨fun ⟨idx, k', a, g, c', e1, e2, e3, e4, e5, e6⟩ => ⟨k', List.mem_of_getElem? e1, a, g, c', e2, by omega, e4, e5⟩, fun ⟨k', hk, a, g, c', e2, e3, e4, e5⟩ => by
    obtain ⟨idx, hi, e⟩ := List.mem_iff_getElem.mp hk
    exact ⟨idx, k', a, g, c', by rw [List.getElem?_eq_getElem hi, e], e2, by omega, e4, e5, by omega⟩⟩
end
/-! ### the same, told from the pieces ahead -/
noncomputable def optR (S : Int → Prop) : Option Int := open Classical in if h : ∃ o, MinOf S o then h.choose else none
theorem optR_is {S : Int → Prop} (h : ∃ o, MinOf S o) : MinOf S (optR S) := by
  unfold optR
  rw [dif_pos h]
  exact h.choose_spec
/-- the least cost of rounds that give g pieces -/
noncomputable def opt (most : Bool) (i : Nat) (ws : List (List Deed)) (g : Nat) : Option Int := optR (Rch (giv i ws) (mA i ws) (dA most i ws) g)
section
variable {most : Bool} {i : Nat} {ws : List (List Deed)}
theorem opt_is (g : Nat) : MinOf (Rch (giv i ws) (mA i ws) (dA most i ws) g) (opt most i ws g) := optR_is (rch_min giv_pos g)
theorem opt_zero : opt most i ws 0 = some 0 := by
  refine (opt_is 0).one ⟨rch_nil, fun c hc => ?_⟩
  rcases rch_inv hc with ⟨_, rfl⟩ | ⟨k, hk, g', c', _, e, _⟩
  · exact Int.le_refl _
  · have := giv_pos k hk
    omega
theorem opt_pull {n : Nat} (hn : 1 ≤ n) {zs : List Int} (hz : ∀ z, z ∈ zs ↔ ∃ k ∈ giv i ws, mA i ws k ≤ n ∧ ∃ u, opt most i ws (n - mA i ws k) = some u ∧ z = u + dA most i ws k) :
    (zs = [] → opt most i ws n = none) ∧ ∀ z ∈ zs, (∀ y ∈ zs, z ≤ y) → opt most i ws n = some z := by
  have down : ∀ c, Rch (giv i ws) (mA i ws) (dA most i ws) n c → ∃ z ∈ zs, z ≤ c := fun c hc => by
    rcases rch_inv hc with ⟨h0, _⟩ | ⟨k, hk, g', c', r, e1, e2⟩
    · omega
    · have mo := opt_is (most := most) (i := i) (ws := ws) (n - mA i ws k)
      rw [show n - mA i ws k = g' by omega] at mo
      cases hu : opt most i ws g' with
      | none =>
        rw [hu] at mo
        exact absurd r (mo c')
      | some u =>
        rw [hu] at mo
        have := mo.2 c' r
        exact ⟨u + dA most i ws k, (hz _).mpr ⟨k, hk, by omega, u, by rw [show n - mA i ws k = g' by omega, hu], rfl⟩, by omega⟩
  refine ⟨fun e => (opt_is n).one fun c hc => ?_, fun z hzz hall => (opt_is n).one ⟨?_, fun c hc => ?_⟩⟩
  · obtain ⟨z, h, _⟩ := down c hc
    rw [e] at h
    cases h
  · obtain ⟨k, hk, le, u, hu, rfl⟩ := (hz z).mp hzz
    have mo := opt_is (most := most) (i := i) (ws := ws) (n - mA i ws k)
    rw [hu] at mo
    have := rch_step mo.1 hk
    rw [show n - mA i ws k + mA i ws k = n by omega] at this
    exact this
  · obtain ⟨y, hy, le⟩ := down c hc
    have := hall y hy
    omega
theorem best_pull {n : Nat} (hn : 1 ≤ n) {zs : List Int} (hz : ∀ z, z ∈ zs ↔ ∃ k ∈ giv i ws, ∃ a, a < mA i ws k ∧ a < n ∧ ∃ u, opt most i ws (n - a - 1) = some u ∧ z = u + mkA most i ws k a) :
    (giv i ws ≠ [] → zs ≠ []) ∧ ∀ z ∈ zs, (∀ y ∈ zs, z ≤ y) → best most i ws n = z := by
  have down : ∀ c, Wv (giv i ws) (mA i ws) (dA most i ws) (mkA most i ws) n c → ∃ z ∈ zs, z ≤ c := fun c hc => by
    obtain ⟨k, hk, a, g, c', ha, e1, r, rfl⟩ := hc
    have mo := opt_is (most := most) (i := i) (ws := ws) g
    cases hu : opt most i ws g with
    | none =>
      rw [hu] at mo
      exact absurd r (mo c')
    | some u =>
      rw [hu] at mo
      have := mo.2 c' r
      exact ⟨u + mkA most i ws k a, (hz _).mpr ⟨k, hk, a, ha, by omega, u, by rw [show n - a - 1 = g by omega, hu], rfl⟩, by omega⟩
  refine ⟨fun hg e => ?_, fun z hzz hall => minV_of ⟨?_, fun c hc => ?_⟩⟩
  · obtain ⟨kb, hkb⟩ := List.exists_mem_of_ne_nil _ hg
    obtain ⟨c, hc⟩ := wv_some (d := dA most i ws) (mk := mkA most i ws) hkb giv_pos hn
    obtain ⟨z, h, _⟩ := down c hc
    rw [e] at h
    cases h
  · obtain ⟨k, hk, a, ha, an, u, hu, rfl⟩ := (hz z).mp hzz
    have mo := opt_is (most := most) (i := i) (ws := ws) (n - a - 1)
    rw [hu] at mo
    exact ⟨k, hk, a, n - a - 1, u, ha, by omega, mo.1, rfl⟩
  · obtain ⟨y, hy, le⟩ := down c hc
    have := hall y hy
    omega
end
end NT
set_option Elab.async false
set_option linter.all false
set_option maxRecDepth 100000
set_option maxHeartbeats 4000000
namespace K25
open PySem PySem.Spec PyProof.Rows L2 He NF RZ NT
def tkn (most : Bool) (U : Nat → Option Int) (many : Nat) : List V := (List.range (many + 1)).map fun g => vO ((U g).map (sg most * ·))
def lst (L : Nat → Option Nat) (many : Nat) : List V := (List.range (many + 1)).map fun g => vOn (L g)
/-- find out what rounds take -/
def spLook (K : PySem.W.Frag) (C CR : Addr) : Sp := fun vs H Q _ => ∃ (x : Addr) (most : Bool) (i : Nat) (b : List Deed) (ws : List (List Deed)) (sh : Int) (pt pl : Addr) (many : Nat) (free : Option Nat), vs = [.ref x, .int (many : Int), vOn free] ∧ OutAt K C CR H x most i b ws sh pt pl ∧ many ≤ 5000 ∧ ws.length ≤ 4 ∧
  ∀ H' U L pt' pl', Same (wo H x) H' → OutAt K C CR H' x most i b ws ((many + 1 : Nat) : Int) pt' pl' → H' pt' = some (.lst (tkn most U many)) → H' pl' = some (.lst (lst L many)) → Lkd most i ws free ((many + 1 : Nat) : Int) many U L → Q .non H'
theorem ixN_n {n j : Nat} (h : j < n) : ixN n (j : Int) = some j := by
  unfold ixN
  rw [if_pos (by omega), if_pos (by omega)]
  rfl
theorem less_sg {most : Bool} {w : Int} {o : Option Int} : less (sg most * (sg most * w)) ((o.map (sg most * ·)).map (sg most * ·)) = less w o := by
  have e : ∀ z : Int, sg most * (sg most * z) = z := fun z => by rw [← Int.mul_assoc, sg_sq, Int.one_mul]
  cases o with
  | none => rfl
  | some u =>
    show decide (sg most * (sg most * w) < sg most * (sg most * u)) = decide (w < u)
    rw [e, e]
theorem sc_Outlook_look : FnScope ["self", "many", "free", "toll", "tolls", "given", "number", "behind", "taken"] ["self", "many", "free"] (defScope s_Outlook_look) := ⟨rfl, rfl, rfl, by decide +kernel, rfl, by decide +kernel, by decide +kernel⟩
theorem ifSg {most : Bool} {σ : L2.St} {H : Hp} {Q : VK} {X : Prop} (hx : tC (.int (-1)) σ H Q → X) (h : tC (.int (sg most)) σ H Q) : if most = true then X else tC (.int 1) σ H Q := by
  cases most with
  | true => exact iteT (hx h)
  | false => exact iteF h
theorem ofs (most : Bool) (xb pr pg : Addr) (sh s' : Int) (pt pl : Addr) : putF "shares" (.int s') (of most xb pr pg sh pt pl) = of most xb pr pg s' pt pl := by rfl
theorem oft (most : Bool) (xb pr pg : Addr) (sh : Int) (pt pl p : Addr) : putF "taken" (.ref p) (of most xb pr pg sh pt pl) = of most xb pr pg sh p pl := by rfl
theorem ofl (most : Bool) (xb pr pg : Addr) (sh : Int) (pt pl p : Addr) : putF "lasts" (.ref p) (of most xb pr pg sh pt pl) = of most xb pr pg sh pt p := by rfl
theorem OutB.putX {K : PySem.W.Frag} {C CR : Addr} {G : Hp} {xb pr pg x dx : Addr} {i : Nat} {b : List Deed} {ws : List (List Deed)} {fl : List (Str × V)} {o : HO} (h : OutB K CR G xb pr pg i b ws) (hx : G x = some (.ins C dx fl)) (hf : fl.length ≠ 2) : OutB K CR (upd G x o) xb pr pg i b ws := by
  have ne : ∀ {y : Addr} {r : List Deed}, RouAt K CR G y i r → y ≠ x := fun {y r} h z => by
    obtain ⟨dy, m, h1, _⟩ := h
    rw [z, hx] at h1
    have := congrArg List.length (HO.ins.inj (Option.some.inj h1)).2.2
    exact hf this
  obtain ⟨h1, ⟨xs, h2, h3⟩, h4⟩ := h
  refine ⟨RouAt.putI h1 (ne h1) hx, ⟨xs, (upd_ne fun z => by rw [z, hx] at h2; cases h2).trans h2, h3.1, fun j y r e1 e2 => ?_⟩, (upd_ne fun z => by rw [z, hx] at h4; cases h4).trans h4⟩
  have := h3.2 j y r e1 e2
  exact RouAt.putI this (ne this) hx
theorem RouAt.woL {K : PySem.W.Frag} {CR : Addr} {G : Hp} {y p : Addr} {i : Nat} {r : List Deed} {l : List V} (h : RouAt K CR G y i r) (hp : G p = some (.lst l)) : RouAt K CR (wo G p) y i r := by
  obtain ⟨dy, m, h1, h2⟩ := h
  exact ⟨dy, m, (wo_ne fun z => by rw [z, hp] at h1; cases h1).trans h1, SqT.wo h2 hp trivial⟩
theorem OutB.woL {K : PySem.W.Frag} {CR : Addr} {G : Hp} {xb pr pg p : Addr} {i : Nat} {b : List Deed} {ws : List (List Deed)} {l : List V} (h : OutB K CR G xb pr pg i b ws) (hp : G p = some (.lst l)) (n1 : pr ≠ p) (n2 : pg ≠ p) : OutB K CR (wo G p) xb pr pg i b ws := by
  obtain ⟨h1, ⟨xs, h2, h3⟩, h4⟩ := h
  exact ⟨RouAt.woL h1 hp, ⟨xs, (wo_ne n1).trans h2, h3.1, fun j y r e1 e2 => RouAt.woL (h3.2 j y r e1 e2) hp⟩, (wo_ne n2).trans h4⟩
theorem tkn_get {most : Bool} {U : Nat → Option Int} {many g : Nat} (h : g ≤ many) : (tkn most U many)[g]? = some (vO ((U g).map (sg most * ·))) := by
  unfold tkn
  rw [List.getElem?_map, List.getElem?_range (by omega)]
  rfl
theorem lst_get {L : Nat → Option Nat} {many g : Nat} (h : g ≤ many) : (lst L many)[g]? = some (vOn (L g)) := by
  unfold lst
  rw [List.getElem?_map, List.getElem?_range (by omega)]
  rfl
theorem tkn_set {most : Bool} {U : Nat → Option Int} {many g : Nat} {u : Int} (h : g ≤ many) : (tkn most U many).set g (.int (sg most * u)) = tkn most (fun k => if k = g then some u else U k) many := by
  unfold tkn
  rw [setmap_range (by omega)]
  refine List.map_congr_left fun k _ => ?_
  show (if k = g then V.int (sg most * u) else vO ((U k).map (sg most * ·))) = vO ((if k = g then some u else U k).map (sg most * ·))
  by_cases e : k = g
  · rw [if_pos e, if_pos e]; rfl
  · rw [if_neg e, if_neg e]
theorem lst_set {L : Nat → Option Nat} {many g k : Nat} (h : g ≤ many) : (lst L many).set g (.int (k : Int)) = lst (fun j => if j = g then some k else L j) many := by
  unfold lst
  rw [setmap_range (by omega)]
  refine List.map_congr_left fun j _ => ?_
  show (if j = g then V.int (k : Int) else vOn (L j)) = vOn (if j = g then some k else L j)
  by_cases e : j = g
  · rw [if_pos e, if_pos e]; rfl
  · rw [if_neg e, if_neg e]
theorem rep_one {v : V} {n : Nat} : (List.replicate n [v]).flatten = (List.range n).map fun _ => v := by
  induction n with
  | zero => rfl
  | succ n ih => rw [List.replicate_succ', List.flatten_append, ih, List.range_succ, List.map_append]; rfl
theorem tkn_zero {most : Bool} {many : Nat} : [V.int 0] ++ (List.replicate many [V.non]).flatten = tkn most (fun g => if g = 0 then some 0 else none) many := by
  unfold tkn
  rw [List.range_succ_eq_map, List.map_cons, rep_one]
  show V.int 0 :: _ = V.int (sg most * 0) :: _
  rw [Int.mul_zero, List.map_map]
  rfl
section
variable {P : Program} {w : World} {K : PySem.W.Frag} {mg : Str → Option Value} {base : Heap} {gs fs : List Str} {C CM CR : Addr}
theorem ok_Outlook_look {f : Addr} {fd : FuncData} (F : FunD K "look" "Outlook.look" (defArgs s_Outlook_look) (defBody s_Outlook_look) (defScope s_Outlook_look) [] [] f fd) (T : Txt K mg gs FS) (oc : OutC K C) (rc : RouC K CR) (o_better : MetC P w K mg base 1 C "better" (spBet K C)) : FnOk P w K mg base CX0 3 f fd ["self", "many", "free"] (spLook K C CR) := by
  refine F.ok sc_Outlook_look (fun vs H Q E h => ?_) (fun cdv A outer s H vs Q E hr h => ?_)
  · obtain ⟨x, most, i, b, ws, sh, pt, pl, many, free, rfl, _⟩ := h
    rfl
  · obtain ⟨x, most, i, b, ws, sh, pt0, pl0, many, free, rfl, ⟨dx, xb, pr, pg, hx, hB⟩, hmany, hw4, q⟩ := h
    refine ⟨_, PSs.nox (pss_cons (ps_fld (pv 0) (pe_op op_add (pv 1) pe_int) rfl) (pss_cons (ps_set (i := 3) sc_Outlook_look.nd rfl (Or.inr rfl) (pe_ifExp (pt_val (pe_fld (pv 0) rfl)) (pe_un un_neg pe_int) pe_int)) (pss_cons (ps_setLc (i := 4) (own := [("number", 6)]) rfl sc_Outlook_look.nd rfl rfl (sw_true rfl rfl rfl (by decide +kernel)) (pi_range1 rfl (T.fr _ (by decide +kernel)) (pa_cons (pe_callB call_len_seq rfl (T.fr _ (by decide +kernel)) boot_len (pa_cons (pe_fld (pv 0) rfl) pa_nil)) pa_nil)) (blkOk_by (N := ["self", "many", "free", "toll", "tolls", "given", "number", "behind", "taken"]) (sc := defScope s_Outlook_look) (by decide +kernel)) (fun _ _ _ _ _ => by exact (pg_name (i := 6) sc_Outlook_look.nd rfl (Or.inl rfl))) (fun _ _ _ _ _ => by exact pts_nil) (fun _ _ _ _ _ => by exact (pe_ifExp (pt_cmpR op_eq (pv 6) (pv 2) (nomark _)) pe_int (pv 3)))) (pss_cons (ps_fld (pv 0) (pe_op op_cat (pe_lst (pa_cons pe_int pa_nil)) (pe_op op_rep (pe_lst (pa_cons pe_non pa_nil)) (pv 1))) rfl) (pss_cons (ps_fld (pv 0) (pe_op op_rep (pe_lst (pa_cons pe_non pa_nil)) (pe_op op_add (pv 1) pe_int)) rfl) (pss_one (ps_for PassesOwn.never rfl (pi_range1 rfl (T.fr _ (by decide +kernel)) (pa_cons (pv 1) pa_nil)) (pg_name (i := 5) sc_Outlook_look.nd rfl (Or.inl rfl)) (pss_one (ps_for PassesOwn.never rfl (pi_list (pe_fld (pv 0) rfl)) (pg_name (i := 6) sc_Outlook_look.nd rfl (Or.inl rfl)) (pss_cons (ps_set (i := 7) sc_Outlook_look.nd rfl (Or.inl rfl) (pe_op op_add (pv 5) (pe_callB call_len_seq rfl (T.fr _ (by decide +kernel)) boot_len (pa_cons (pe_fld (pe_ix (ixl (K := K)) (pe_fld (pv 0) rfl) (pv 6) fun _ _ => rfl) rfl) pa_nil)))) (pss_one (ps_if (PW.pt (pw_and (pt_cmpR op_notN (pe_ix (ixl (K := K)) (pe_fld (pv 0) rfl) (pv 5) fun _ _ => rfl) pe_non (nomark _)) (pw_and1 (pt_cmpR op_le (pv 7) (pv 1) (nomark _))))) (pss_cons (ps_set (i := 8) sc_Outlook_look.nd rfl (Or.inl rfl) (pe_op op_add (pe_op op_add (pe_ix (ixl (K := K)) (pe_fld (pv 0) rfl) (pv 5) fun _ _ => rfl) (pe_op op_mul (pe_fld (pe_ix (ixl (K := K)) (pe_fld (pv 0) rfl) (pv 6) fun _ _ => rfl) rfl) (pe_fld (pv 0) rfl))) (pe_ix (ixl (K := K)) (pv 4) (pv 6) fun _ _ => rfl))) (pss_one (ps_if (pt_val (pe_mt (pv 0) o_better hr (by decide) (pa_cons (pv 8) (pa_cons (pe_ix (ixl (K := K)) (pe_fld (pv 0) rfl) (pv 7) fun _ _ => rfl) pa_nil)))) (pss_cons (ps_asg (pv 8) (pg_sub (pe_fld (pv 0) rfl) (pv 7) set_list)) (pss_one (ps_asg (pv 6) (pg_sub (pe_fld (pv 0) rfl) (pv 7) set_list)))) pss_nil))) pss_nil)))))))))))), ?_⟩
    refine ⟨_, rfl, _, _, rfl, rfl, _, rfl, x, C, dx, _, rfl, hx, oc.cl, oc.ns, (show 7 < 1000 by decide), ?_⟩
    rw [ofs]
    have e1 : (many : Int) + 1 = ((many + 1 : Nat) : Int) := by omega
    rw [e1]
    generalize hS : ((many + 1 : Nat) : Int) = S at q
    have B1 := OutB.putX (o := .ins C dx (of most xb pr pg S pt0 pl0)) hB hx (show 7 ≠ 2 by decide)
    have sw1 := NF.Same.put (o := .ins C dx (of most xb pr pg S pt0 pl0)) (wo_same' (H := H) (p := x)) wo_none
    have hx1 := upd_same (H := H) (a := x) (o := .ins C dx (of most xb pr pg S pt0 pl0))
    generalize upd H x (.ins C dx (of most xb pr pg S pt0 pl0)) = H1 at B1 sw1 hx1
    refine ⟨_, rfl, x, C, dx, _, _, rfl, hx1, oc.cl, oc.nm, rfl, most, rfl, ?_⟩
    refine ifSg (fun h => ⟨_, rfl, h⟩) ?_
    -- the tolls
    obtain ⟨_, ⟨xs, hr1, xl, hro⟩, hg1⟩ := id B1
    refine ⟨_, rfl, x, C, dx, _, _, rfl, hx1, oc.cl, oc.nr, rfl, pr, _, rfl, .inl (SqL.of hr1), ?_⟩
    rw [List.length_map, xl]
    refine ⟨_, rfl, by omega, by omega, fun td htd => ?_⟩
    refine lc_range (lo := 0) (n := ((ws.length : Nat) : Int).toNat) (fun j G => Same H1 G ∧ G td = some (.lst ((List.range j).map fun k => V.int (sg most * (toll free k : Int))))) ⟨NF.Same.new (Same.refl H1) htd, upd_same⟩ ?_ ?_
    · rintro j G hj ⟨sG, hG⟩
      have hj : j < ws.length := by omega
      have fin : ∃ acc, G td = some (HO.lst acc) ∧ acc.length < sizeLine ∧ (Same H1 (upd G td (.lst (acc ++ [V.int (sg most * (toll free j : Int))]))) ∧ upd G td (.lst (acc ++ [V.int (sg most * (toll free j : Int))])) td = some (.lst ((List.range (j + 1)).map fun k => V.int (sg most * (toll free k : Int))))) := by
        refine ⟨_, hG, by rw [List.length_map, List.length_range]; exact Nat.lt_of_lt_of_le (show j < 10000 by omega) (by decide), NF.Same.mut sG htd, ?_⟩
        rw [upd_same, List.range_succ, List.map_append]
        rfl
      refine ⟨rfl, _, rfl, _, rfl, by cases free <;> rfl, _, rfl, ?_⟩
      have ej : (0 : Int) + (j : Int) = (j : Int) := Int.zero_add _
      rw [ej]
      cases free with
      | none =>
        refine iteF' rfl ⟨_, rfl, ?_⟩
        have e : sg most = sg most * ((toll none j : Nat) : Int) := (Int.mul_one _).symm
        rw [← e] at fin
        exact fin
      | some j' =>
        by_cases c : j = j'
        · subst c
          refine iteT' (decide_eq_true rfl) ?_
          have e : (0 : Int) = sg most * ((toll (some j) j : Nat) : Int) := by
            unfold toll
            simp
          rw [← e] at fin
          exact fin
        · refine iteF' (decide_eq_false fun z => c (by injection z with z; omega)) ⟨_, rfl, ?_⟩
          have e : sg most = sg most * ((toll (some j') j : Nat) : Int) := by
            unfold toll
            simp [c]
          rw [← e] at fin
          exact fin
    · rintro G2 ⟨s2, hG2⟩
      have sw2 := Same.trans sw1 s2
      have hx2 := s2 _ _ hx1
      have B2 := B1.mono s2
      have td0 : H1 td = none := htd
      rw [Int.toNat_natCast] at hG2
      -- the list of what is taken
      refine ⟨(by show 1 ≤ sizeLine; decide), fun a1 ha1 => ?_⟩
      have t1 := NF.Same.new (o := .lst [V.int 0]) (Same.refl G2) ha1
      refine ⟨(by show 1 ≤ sizeLine; decide), fun a2 ha2 => ?_⟩
      have t2 := NF.Same.new (o := .lst [V.non]) t1 ha2
      have hA1 : upd (upd G2 a1 (.lst [V.int 0])) a2 (.lst [V.non]) a1 = some (.lst [V.int 0]) := (upd_ne (ne_of_none upd_same ha2)).trans upd_same
      have hA2 := upd_same (H := upd G2 a1 (.lst [V.int 0])) (a := a2) (o := .lst [V.non])
      generalize upd (upd G2 a1 (.lst [V.int 0])) a2 (.lst [V.non]) = G3 at t2 hA1 hA2
      refine ⟨_, rfl, a2, _, _, rfl, rfl, hA2, by omega, by omega, by rw [List.length_singleton, Int.toNat_natCast, Nat.one_mul]; exact Nat.le_trans (show many ≤ 10000 by omega) (by decide), fun a3 ha3 => ?_⟩
      have t3 := NF.Same.new (o := .lst (List.replicate ((many : Nat) : Int).toNat [V.non]).flatten) t2 ha3
      have hB1 : upd G3 a3 (.lst (List.replicate ((many : Nat) : Int).toNat [V.non]).flatten) a1 = some (.lst [V.int 0]) := (upd_ne (ne_of_none hA1 ha3)).trans hA1
      have hB3 := upd_same (H := G3) (a := a3) (o := .lst (List.replicate ((many : Nat) : Int).toNat [V.non]).flatten)
      generalize upd G3 a3 (.lst (List.replicate ((many : Nat) : Int).toNat [V.non]).flatten) = G4 at t3 hB1 hB3
      refine ⟨a1, a3, _, _, rfl, rfl, hB1, hB3, ?_, fun pt hpt => ?_⟩
      · rw [Int.toNat_natCast, rep_one, List.length_map, List.length_range, List.length_singleton]
        exact Nat.le_trans (show 1 + many ≤ 10000 by omega) (by decide)
      rw [Int.toNat_natCast, tkn_zero (most := most)]
      have t4 := NF.Same.new (o := .lst (tkn most (fun g => if g = 0 then some 0 else none) many)) t3 hpt
      have hpt4 := upd_same (H := G4) (a := pt) (o := .lst (tkn most (fun g => if g = 0 then some 0 else none) many))
      have pt2 : G2 pt = none := L2.Same.free t3 hpt
      generalize upd G4 pt (.lst (tkn most (fun g => if g = 0 then some 0 else none) many)) = G5 at t4 hpt4
      have hx5 := t4 _ _ hx2
      refine ⟨_, rfl, x, C, dx, _, rfl, hx5, oc.cl, oc.nt, (show 7 < 1000 by decide), ?_⟩
      rw [oft]
      have B6 := OutB.putX (o := .ins C dx (of most xb pr pg S pt pl0)) (B2.mono t4) hx5 (show 7 ≠ 2 by decide)
      have sw6 := NF.Same.put (o := .ins C dx (of most xb pr pg S pt pl0)) (Same.trans sw2 t4) wo_none
      have hx6 := upd_same (H := G5) (a := x) (o := .ins C dx (of most xb pr pg S pt pl0))
      have ptx : pt ≠ x := fun z => by rw [z, hx2] at pt2; cases pt2
      have tdx : td ≠ x := fun z => by rw [z, hx2] at hG2; cases hG2
      have hpt6 := (upd_ne (H := G5) (o := .ins C dx (of most xb pr pg S pt pl0)) ptx).trans hpt4
      have htd6 := (upd_ne (H := G5) (o := .ins C dx (of most xb pr pg S pt pl0)) tdx).trans (t4 _ _ hG2)
      generalize upd G5 x (.ins C dx (of most xb pr pg S pt pl0)) = G6 at B6 sw6 hx6 hpt6 htd6
      -- the last ways
      refine ⟨(by show 1 ≤ sizeLine; decide), fun b1 hb1 => ?_⟩
      have t7 := NF.Same.new (o := .lst [V.non]) (Same.refl G6) hb1
      have hb1' := upd_same (H := G6) (a := b1) (o := .lst [V.non])
      generalize upd G6 b1 (.lst [V.non]) = G7 at t7 hb1'
      refine ⟨_, rfl, _, _, rfl, rfl, b1, _, _, rfl, rfl, hb1', by omega, by omega, by rw [List.length_singleton, Nat.one_mul]; exact Nat.le_trans (show ((many : Int) + 1).toNat ≤ 10000 by omega) (by decide), fun pl hpl => ?_⟩
      have elst : (List.replicate ((many : Int) + 1).toNat [V.non]).flatten = lst (fun _ => none) many := by
        rw [show ((many : Int) + 1).toNat = many + 1 by omega, rep_one]
        rfl
      rw [elst]
      have t8 := NF.Same.new (o := .lst (lst (fun _ => none) many)) t7 hpl
      have pl6 : G6 pl = none := L2.Same.free t7 hpl
      have hpl8 := upd_same (H := G7) (a := pl) (o := .lst (lst (fun _ => none) many))
      generalize upd G7 pl (.lst (lst (fun _ => none) many)) = G8 at t8 hpl8
      have hx8 := t8 _ _ hx6
      have plx : pl ≠ x := fun z => by rw [z, hx6] at pl6; cases pl6
      have plpt : pl ≠ pt := fun z => by rw [z, hpt6] at pl6; cases pl6
      have pltd : pl ≠ td := fun z => by rw [z, htd6] at pl6; cases pl6
      refine ⟨_, rfl, x, C, dx, _, rfl, hx8, oc.cl, oc.nl, (show 7 < 1000 by decide), ?_⟩
      rw [ofl]
      have B9 := OutB.putX (o := .ins C dx (of most xb pr pg S pt pl)) (B6.mono t8) hx8 (show 7 ≠ 2 by decide)
      have sw9 := NF.Same.put (o := .ins C dx (of most xb pr pg S pt pl)) (Same.trans sw6 t8) wo_none
      have hx9 := upd_same (H := G8) (a := x) (o := .ins C dx (of most xb pr pg S pt pl))
      have hpt9 := (upd_ne (H := G8) (o := .ins C dx (of most xb pr pg S pt pl)) ptx).trans (t8 _ _ hpt6)
      have htd9 := (upd_ne (H := G8) (o := .ins C dx (of most xb pr pg S pt pl)) tdx).trans (t8 _ _ htd6)
      have hpl9 := (upd_ne (H := G8) (o := .ins C dx (of most xb pr pg S pt pl)) plx).trans hpl8
      generalize upd G8 x (.ins C dx (of most xb pr pg S pt pl)) = G9 at B9 sw9 hx9 hpt9 htd9 hpl9
      -- all but the two lists stands from here on
      have ptd : pt ≠ td := fun z => by rw [z, hG2] at pt2; cases pt2
      have pt_pr : pr ≠ pt := fun z => by
        have := s2 _ _ hr1
        rw [z, pt2] at this
        cases this
      have pt_pg : pg ≠ pt := fun z => by
        have := s2 _ _ hg1
        rw [z, pt2] at this
        cases this
      obtain ⟨_, ⟨xs6, hr6, _⟩, hg6⟩ := id B6
      have pl_pr : pr ≠ pl := fun z => by rw [z, pl6] at hr6; cases hr6
      have pl_pg : pg ≠ pl := fun z => by rw [z, pl6] at hg6; cases hg6
      obtain ⟨Gb, hGb⟩ : ∃ Gb, Gb = wo (wo G9 pt) pl := ⟨_, rfl⟩
      have sb : Same Gb G9 := by
        rw [hGb]
        exact Same.trans wo_same' wo_same'
      have hptb : Gb pt = none := by
        rw [hGb, wo_ne (Ne.symm plpt)]
        exact wo_none
      have hplb : Gb pl = none := by
        rw [hGb]
        exact wo_none
      have hxb : Gb x = some (.ins C dx (of most xb pr pg S pt pl)) := by
        rw [hGb, wo_ne (Ne.symm plx), wo_ne (Ne.symm ptx)]
        exact hx9
      have htdb : Gb td = some (.lst ((List.range ws.length).map fun k => V.int (sg most * (toll free k : Int)))) := by
        rw [hGb, wo_ne (Ne.symm pltd), wo_ne (Ne.symm ptd)]
        exact htd9
      have Bb : OutB K CR Gb xb pr pg i b ws := by
        rw [hGb]
        exact OutB.woL (OutB.woL B9 hpt9 pt_pr pt_pg) ((wo_ne plpt).trans hpl9) pl_pr pl_pg
      have swb : Same (wo H x) Gb := by
        rw [hGb]
        have f1 : (wo H x) pt = none := L2.Same.free sw2 pt2
        have f2 : (wo H x) pl = none := L2.Same.free sw6 pl6
        intro a o e
        rw [wo_ne (fun z => by rw [z, f2] at e; cases e), wo_ne (fun z => by rw [z, f1] at e; cases e)]
        exact sw9 _ _ e
      obtain ⟨hbb, ⟨xs, hrb, xl, hro⟩, hgb⟩ := id Bb
      refine ⟨_, rfl, _, rfl, by omega, by omega, ?_⟩
      have em : ∀ k, k < ws.length → ∃ y dr m, xs[k]? = some y ∧ Gb y = some (.ins CR dr (rf i (ws.getD k []) m)) ∧ SqT K Gb m (vI (ahead i (ws.getD k []) 0)) := fun k hk => by
        have hk' : k < xs.length := by omega
        obtain ⟨dr, m, h1, h2⟩ := hro k xs[k] ws[k] (List.getElem?_eq_getElem hk') (List.getElem?_eq_getElem hk)
        have e : ws.getD k [] = ws[k] := by
          rw [List.getD_eq_getElem?_getD, List.getElem?_eq_getElem hk]
          rfl
        rw [e]
        exact ⟨_, dr, m, List.getElem?_eq_getElem hk', h1, h2⟩
      refine for_range (lo := 0) (n := ((many : Nat) : Int).toNat) (fun j σ G => Same Gb G ∧ ∃ (U : Nat → Option Int) (L : Nat → Option Nat), G pt = some (.lst (tkn most U many)) ∧ G pl = some (.lst (lst L many)) ∧ Lkn most i ws free S many j 0 U L ∧ ∃ v5 v6 v7 v8 : Option V, σ = [some (.ref x), some (.int (many : Int)), some (vOn free), some (.int (sg most)), some (.ref td), v5, v6, v7, v8])
        ⟨sb, _, _, hpt9, hpl9, lkn_zero, none, none, none, none, rfl⟩ ?_ ?_
      · rintro B σ G hBm ⟨sG, U, L, hptG, hplG, lk, v5, v6, v7, v8, rfl⟩
        have hBm : B ≤ many := by omega
        refine ⟨_, rfl, x, C, dx, _, _, rfl, sG _ _ hxb, oc.cl, oc.ng, rfl, pg, rfl, ⟨_, SqL.of (sG _ _ hgb)⟩, ?_⟩
        refine for_list (xs := vNs (giv i ws)) (fun j σ G => Same Gb G ∧ ∃ (U : Nat → Option Int) (L : Nat → Option Nat), G pt = some (.lst (tkn most U many)) ∧ G pl = some (.lst (lst L many)) ∧ Lkn most i ws free S many B j U L ∧ ∃ v6 v7 v8 : Option V, σ = [some (.ref x), some (.int (many : Int)), some (vOn free), some (.int (sg most)), some (.ref td), some (.int (0 + (B : Int))), v6, v7, v8])
          ⟨sG, U, L, hptG, hplG, lk, v6, v7, v8, rfl⟩ (fun j σ G _ z => SqL.of (z.1 _ _ hgb)) ?_ ?_
        · rintro j v σ G hv ⟨sG, U, L, hptG, hplG, lk, v6, v7, v8, rfl⟩
          have hj := (List.getElem?_eq_some_iff.mp hv).1
          rw [show (vNs (giv i ws)).length = (giv i ws).length from List.length_map ..] at hj
          rw [at_nat hj] at hv
          obtain rfl := Option.some.inj hv
          obtain ⟨k, hkd⟩ : ∃ k, k = (giv i ws)[j] := ⟨_, rfl⟩
          have ek : (giv i ws)[j]? = some k := by rw [List.getElem?_eq_getElem hj, hkd]
          rw [← hkd]
          have kg := List.mem_of_getElem? ek
          obtain ⟨kw, k1⟩ := giv_mem.mp kg
          obtain ⟨y, dr, m, ey, hy1, hy2⟩ := em k kw
          have hyG := sG _ _ hy1
          have hxG := sG _ _ hxb
          have hrG := SqL.of (K := K) (sG _ _ hrb)
          have hrk : atI (xs.map V.ref) (k : Int) = some (V.ref y) := atI_nat (by rw [List.getElem?_map, ey]; rfl)
          have lenm : (vI (ahead i (ws.getD k []) 0)).length = mA i ws k := vI_len ..
          refine ⟨_, rfl, _, rfl, x, C, dx, _, _, rfl, hxG, oc.cl, oc.nr, rfl, _, rfl, pr, _, _, _, rfl, rfl, hrG, hrk, y, CR, dr, _, _, rfl, hyG, rc.cl, rc.nm, rfl, m, _, rfl, .inr (NF.Same.tup sG hy2), _, _, rfl, rfl, ?_⟩
          rw [lenm]
          have e0 : (0 : Int) + (B : Int) + (mA i ws k : Int) = ((B + mA i ws k : Nat) : Int) := by omega
          have atB : atI (tkn most U many) (0 + (B : Int)) = some (vO ((U B).map (sg most * ·))) := by
            rw [Int.zero_add]
            exact atI_nat (tkn_get hBm)
          refine ⟨_, rfl, x, C, dx, _, _, rfl, hxG, oc.cl, oc.nt, rfl, _, rfl, pt, _, _, _, rfl, rfl, SqL.of hptG, atB, rfl, _, rfl, ?_⟩
          cases hU : U B with
          | none =>
            refine iteF' rfl (iteF ?_)
            exact ⟨sG, U, L, hptG, hplG, lk.none hBm hU, _, _, _, rfl⟩
          | some u =>
            refine iteT' rfl ?_
            refine ⟨_, rfl, _, rfl, _, _, rfl, rfl, _, rfl, ?_⟩
            refine ite2 (fun hle => ?_) (fun hle => ?_)
            · have hle : B + mA i ws k ≤ many := by
                have := of_decide_eq_true hle
                omega
              -- what the rounds take then
              have hw : u + dSh most i ws free S k = u + (dA most i ws k * S + (toll free k : Int)) := rfl
              have ev : sg most * u + (tA i ws k : Int) * S + sg most * (toll free k : Int) = sg most * (u + dSh most i ws free S k) := by
                unfold dSh dA
                rw [Int.mul_add, Int.mul_add, ← Int.mul_assoc, ← Int.mul_assoc, sg_sq, Int.one_mul]
                omega
              have tdG := SqL.of (K := K) (sG _ _ htdb)
              have tdk : atI ((List.range ws.length).map fun k => V.int (sg most * (toll free k : Int))) (k : Int) = some (V.int (sg most * (toll free k : Int))) := atI_nat (by rw [List.getElem?_map, List.getElem?_range kw]; rfl)
              have S0 : -(2 ^ 64) < S ∧ S < 2 ^ 64 := by
                rw [← hS]
                constructor <;> omega
              refine ⟨_, rfl, x, C, dx, _, _, rfl, hxG, oc.cl, oc.nt, rfl, _, rfl, pt, _, _, _, rfl, rfl, SqL.of hptG, atB, ?_⟩
              rw [hU]
              refine ⟨_, rfl, x, C, dx, _, _, rfl, hxG, oc.cl, oc.nr, rfl, _, rfl, pr, _, _, _, rfl, rfl, hrG, hrk, y, CR, dr, _, _, rfl, hyG, rc.cl, rc.nt, rfl, ?_⟩
              refine ⟨_, rfl, x, C, dx, _, _, rfl, hxG, oc.cl, oc.ns, rfl, _, _, rfl, rfl, .inr S0, ?_⟩
              refine ⟨_, _, rfl, rfl, _, rfl, _, rfl, td, _, _, _, rfl, rfl, tdG, tdk, _, _, rfl, rfl, ?_⟩
              dsimp only
              rw [show sg most * u + ((took i (ws.getD k []) : Nat) : Int) * S + sg most * ((toll free k : Nat) : Int) = sg most * (u + dSh most i ws free S k) from ev, e0]
              have atH : atI (tkn most U many) ((B + mA i ws k : Nat) : Int) = some (vO ((U (B + mA i ws k)).map (sg most * ·))) := atI_nat (tkn_get hle)
              refine ⟨_, rfl, x, dx, _, rfl, hxG, rfl, ?_⟩
              refine ⟨_, rfl, _, rfl, x, C, dx, _, _, rfl, hxG, oc.cl, oc.nt, rfl, _, rfl, pt, _, _, _, rfl, rfl, SqL.of hptG, atH, ?_⟩
              refine ⟨x, dx, most, xb, pr, pg, S, pt, pl, _, _, rfl, hxG, ?_⟩
              rw [less_sg]
              refine ⟨_, rfl, ite2 (fun yes => ?_) (fun no => ?_)⟩
              · have hlen : ∀ {α : Type} (f : Nat → α), B + mA i ws k < ((List.range (many + 1)).map f).length := fun f => by rw [List.length_map, List.length_range]; omega
                refine ⟨_, rfl, _, rfl, x, C, dx, _, _, rfl, hxG, oc.cl, oc.nt, rfl, _, rfl, pt, _, _, B + mA i ws k, rfl, rfl, hptG, ixN_n (hlen _), ?_⟩
                rw [tkn_set hle]
                have sG2 := NF.Same.put (o := .lst (tkn most (fun g => if g = B + mA i ws k then some (u + dSh most i ws free S k) else U g) many)) sG hptb
                have hpl2 := (upd_ne (H := G) (o := .lst (tkn most (fun g => if g = B + mA i ws k then some (u + dSh most i ws free S k) else U g) many)) plpt).trans hplG
                have hpt2 := upd_same (H := G) (a := pt) (o := .lst (tkn most (fun g => if g = B + mA i ws k then some (u + dSh most i ws free S k) else U g) many))
                generalize upd G pt (.lst (tkn most (fun g => if g = B + mA i ws k then some (u + dSh most i ws free S k) else U g) many)) = G2 at sG2 hpl2 hpt2
                refine ⟨_, rfl, _, rfl, x, C, dx, _, _, rfl, sG2 _ _ hxb, oc.cl, oc.nl, rfl, _, rfl, pl, _, _, B + mA i ws k, rfl, rfl, hpl2, ixN_n (hlen _), ?_⟩
                rw [lst_set hle]
                exact ⟨NF.Same.put sG2 hplb, _, _, (upd_ne (Ne.symm plpt)).trans hpt2, upd_same, lk.put hBm ek hU hle yes, _, _, _, rfl⟩
              · exact ⟨sG, U, L, hptG, hplG, lk.keep hBm ek hU hle (by cases h : less (u + dSh most i ws free S k) (U (B + mA i ws k)) with | false => rfl | true => exact absurd h no), _, _, _, rfl⟩
            · have hle : many < B + mA i ws k := by
                by_cases z : B + mA i ws k ≤ many
                · exact absurd (decide_eq_true (by omega)) hle
                · omega
              exact ⟨sG, U, L, hptG, hplG, lk.far ek hle, _, _, _, rfl⟩
        · rintro σ G ⟨sG, U, L, hptG, hplG, lk, v6, v7, v8, rfl⟩
          rw [show (vNs (giv i ws)).length = (giv i ws).length from List.length_map ..] at lk
          exact ⟨sG, U, L, hptG, hplG, lk.next, _, v6, v7, v8, rfl⟩
      · rintro σ G ⟨sG, U, L, hptG, hplG, lk, v5, v6, v7, v8, rfl⟩
        rw [Int.toNat_natCast] at lk
        subst hS
        exact q G U L pt pl (Same.trans swb sG) ⟨dx, xb, pr, pg, sG _ _ hxb, Bb.mono sG⟩ hptG hplG lk.done
end
end K25
set_option Elab.async false
set_option linter.all false
set_option maxRecDepth 100000
set_option maxHeartbeats 4000000
namespace K25
open PySem PySem.Spec PyProof.Rows L2 He NF RZ NT
def spBestW (K : PySem.W.Frag) (C CR : Addr) : Sp := fun vs H Q _ => ∃ (x : Addr) (most : Bool) (i : Nat) (b : List Deed) (ws : List (List Deed)) (sh : Int) (pt pl : Addr), vs = [.ref x] ∧ OutAt K C CR H x most i b ws sh pt pl ∧ giv i ws ≠ [] ∧ (∀ v ∈ ws, v.length ≤ 10000) ∧
  ∀ kb y H', IsBest most i ws kb → Same H H' → RouAt K CR H' y i (ws.getD kb []) → Q (.ref y) H'
/-- what is found for pieces whose last round is of a way -/
def spAhd (K : PySem.W.Frag) (C CR : Addr) : Sp := fun vs H Q _ => ∃ (x : Addr) (most : Bool) (i : Nat) (b : List Deed) (ws : List (List Deed)) (sh : Int) (pt pl : Addr) (n k : Nat) (free : Option Nat) (U : Nat → Option Int) (L : Nat → Option Nat), vs = [.ref x, .int (n : Int), .int (k : Int)] ∧ OutAt K C CR H x most i b ws sh pt pl ∧ H pt = some (.lst (tkn most U n)) ∧ Lkd most i ws free sh n U L ∧
  k ∈ giv i ws ∧ 1 ≤ n ∧ n ≤ 5000 ∧ 0 ≤ sh ∧ sh ≤ 10000 ∧
  ∀ p o g H', Same H H' → MinOf (Wn (giv i ws) (mA i ws) (dSh most i ws free sh) (fun k a => mkA most i ws k a * sh) k n) o → (∀ v, o = some v → g < n ∧ ∃ a u, a < mA i ws k ∧ g + a + 1 = n ∧ U g = some u ∧ v = u + mkA most i ws k a * sh) → SqT K H' p [vO (o.map (sg most * ·)), .int (g : Int)] → Q (.ref p) H'
/-- the other ways of the rounds that were found -/
def spOth (K : PySem.W.Frag) (C CR : Addr) : Sp := fun vs H Q _ => ∃ (x : Addr) (most : Bool) (i : Nat) (b : List Deed) (ws : List (List Deed)) (sh : Int) (pt pl : Addr) (n g k : Nat) (U : Nat → Option Int) (L : Nat → Option Nat) (u : Int), vs = [.ref x, .int (g : Int), .int (k : Int)] ∧ OutAt K C CR H x most i b ws sh pt pl ∧ H pl = some (.lst (lst L n)) ∧ Lkd most i ws (some k) sh n U L ∧
  k ∈ giv i ws ∧ n ≤ 5000 ∧ g ≤ n ∧ U g = some u ∧
  ∀ p ks q H', Same H H' → SqT K H' p (vNs ks) → (∀ j ∈ ks, j ∈ giv i ws) → (ks.map (mA i ws)).sum + q * mA i ws k = g → u = (ks.map (dSh most i ws (some k) sh)).sum + (q : Int) * (dA most i ws k * sh) → Q (.ref p) H'
theorem sc_Outlook_best_way : FnScope ["self", "best", "number", "one"] ["self"] (defScope s_Outlook_best_way) := ⟨rfl, rfl, rfl, by decide +kernel, rfl, by decide +kernel, by decide +kernel⟩
theorem sc_Outlook_ahead_of : FnScope ["self", "piece", "number", "best", "ahead", "at", "mark", "given"] ["self", "piece", "number"] (defScope s_Outlook_ahead_of) := ⟨rfl, rfl, rfl, by decide +kernel, rfl, by decide +kernel, by decide +kernel⟩
theorem sc_Outlook_others_ahead : FnScope ["self", "given", "free", "found"] ["self", "given", "free"] (defScope s_Outlook_others_ahead) := ⟨rfl, rfl, rfl, by decide +kernel, rfl, by decide +kernel, by decide +kernel⟩
theorem round_at {K : PySem.W.Frag} {CR : Addr} {H : Hp} {xs : List Addr} {i : Nat} {ws : List (List Deed)} (ch : Chosen K CR H xs i ws) {k : Nat} (hk : k < ws.length) : ∃ y dr m, xs[k]? = some y ∧ atI (xs.map V.ref) (k : Int) = some (V.ref y) ∧ RouAt K CR H y i (ws.getD k []) ∧ H y = some (.ins CR dr (rf i (ws.getD k []) m)) ∧ SqT K H m (vI (ahead i (ws.getD k []) 0)) := by
  have hk' : k < xs.length := by have := ch.1; omega
  have ro := ch.2 k xs[k] ws[k] (List.getElem?_eq_getElem hk') (List.getElem?_eq_getElem hk)
  have e : ws.getD k [] = ws[k] := by
    rw [List.getD_eq_getElem?_getD, List.getElem?_eq_getElem hk]
    rfl
  rw [e]
  obtain ⟨dr, m, h1, h2⟩ := id ro
  exact ⟨_, dr, m, List.getElem?_eq_getElem hk', atI_nat (by rw [List.getElem?_map, List.getElem?_eq_getElem hk']; rfl), ro, h1, h2⟩
theorem mA_le {i : Nat} {ws : List (List Deed)} {B : Nat} (hw : ∀ v ∈ ws, v.length ≤ B) {k : Nat} : mA i ws k ≤ B := by
  unfold mA
  have := ahead_len (i := i) (a := ws.getD k []) (t := 0)
  have : (ws.getD k []).length ≤ B := by
    rw [List.getD_eq_getElem?_getD]
    cases e : ws[k]? with
    | none => exact Nat.zero_le _
    | some v => exact hw v (List.mem_of_getElem? e)
  omega
theorem vNs_at {ks : List Nat} {j k : Nat} (h : ks[j]? = some k) : (vNs ks)[j]? = some (V.int (k : Int)) := by
  unfold vNs
  rw [List.getElem?_map, h]
  rfl
section
variable {P : Program} {w : World} {K : PySem.W.Frag} {mg : Str → Option Value} {base : Heap} {gs fs : List Str} {C CM CR : Addr}
theorem ok_Outlook_best_way {f : Addr} {fd : FuncData} (F : FunD K "best_way" "Outlook.best_way" (defArgs s_Outlook_best_way) (defBody s_Outlook_best_way) (defScope s_Outlook_best_way) [] [] f fd) (T : Txt K mg gs FS) (oc : OutC K C) (rc : RouC K CR) (o_better : MetC P w K mg base 1 C "better" (spBet K C)) : FnOk P w K mg base CX0 3 f fd ["self"] (spBestW K C CR) := by
  refine F.ok sc_Outlook_best_way (fun vs H Q E h => ?_) (fun cdv A outer s H vs Q E hr h => ?_)
  · obtain ⟨x, most, i, b, ws, sh, pt, pl, rfl, _⟩ := h
    rfl
  · obtain ⟨x, most, i, b, ws, sh, pt, pl, rfl, ⟨dx, xb, pr, pg, hx, hb, ⟨xs, hr1, ch⟩, hg⟩, g0, hw, q⟩ := h
    have g1 := List.length_pos_iff.mpr g0
    refine ⟨_, PSs.nox (pss_cons (ps_set (i := 1) sc_Outlook_best_way.nd rfl (Or.inl rfl) (pe_ix (ixl (K := K)) (pe_fld (pv 0) rfl) (pe_ix (ixl (K := K)) (pe_fld (pv 0) rfl) pe_int fun _ _ => rfl) fun _ _ => rfl)) (pss_cons (ps_for PassesOwn.never rfl (pi_list (pe_slice sl_list (pe_fld (pv 0) rfl) (po_some pe_int) po_none)) (pg_name (i := 2) sc_Outlook_best_way.nd rfl (Or.inl rfl)) (pss_cons (ps_set (i := 3) sc_Outlook_best_way.nd rfl (Or.inl rfl) (pe_ix (ixl (K := K)) (pe_fld (pv 0) rfl) (pv 2) fun _ _ => rfl)) (pss_one (ps_if (pt_val (pe_mt (pv 0) o_better hr (by decide) (pa_cons (pe_op op_mul (pe_fld (pv 3) rfl) (pe_callB call_len_seq rfl (T.fr _ (by decide +kernel)) boot_len (pa_cons (pe_fld (pv 1) rfl) pa_nil))) (pa_cons (pe_op op_mul (pe_fld (pv 1) rfl) (pe_callB call_len_seq rfl (T.fr _ (by decide +kernel)) boot_len (pa_cons (pe_fld (pv 3) rfl) pa_nil))) pa_nil)))) (pss_one (ps_set (i := 1) sc_Outlook_best_way.nd rfl (Or.inl rfl) (pv 3))) pss_nil)))) (pss_one (ps_ret (pv 1))))), ?_⟩
    have ek0 : (giv i ws)[0]? = some (giv i ws)[0] := List.getElem?_eq_getElem g1
    have k0 := List.mem_of_getElem? ek0
    obtain ⟨y0, dr0, m0, _, at0', ro0, _, _⟩ := round_at ch (giv_mem.mp k0).1
    refine ⟨_, rfl, x, C, dx, _, _, rfl, hx, oc.cl, oc.nr, rfl, ?_⟩
    refine ⟨_, rfl, x, C, dx, _, _, rfl, hx, oc.cl, oc.ng, rfl, pg, _, _, _, rfl, rfl, SqL.of hg, atI_nat (j := 0) (vNs_at ek0), pr, _, _, _, rfl, rfl, SqL.of hr1, at0', ?_⟩
    refine ⟨_, rfl, x, C, dx, _, _, rfl, hx, oc.cl, oc.ng, rfl, _, rfl, pg, _, rfl, SqL.of hg, fun p hp => ?_⟩
    have ecut : cutV (vNs (giv i ws)) (some 1) none = vNs ((giv i ws).drop 1) := by
      rw [show (some (1 : Int)) = some ((1 : Nat) : Int) from rfl, cut_from]
      unfold vNs
      rw [List.map_drop]
    rw [ecut]
    have s1 := NF.Same.new (o := .lst (vNs ((giv i ws).drop 1))) (Same.refl H) hp
    have hp1 := upd_same (H := H) (a := p) (o := .lst (vNs ((giv i ws).drop 1)))
    generalize upd H p (.lst (vNs ((giv i ws).drop 1))) = H1 at s1 hp1
    refine ⟨p, rfl, ⟨_, SqL.of hp1⟩, ?_⟩
    refine for_list (xs := vNs ((giv i ws).drop 1)) (fun j σ G => Same H1 G ∧ ∃ (kb : Nat) (y : Addr) (v2 v3 : Option V), kb ∈ giv i ws ∧ RouAt K CR H1 y i (ws.getD kb []) ∧ (∀ k ∈ (giv i ws).take (j + 1), dA most i ws kb * (mA i ws k : Int) ≤ dA most i ws k * (mA i ws kb : Int)) ∧ σ = [some (.ref x), some (.ref y), v2, v3])
      ⟨Same.refl H1, _, y0, none, none, k0, ro0.mono s1, ?_, rfl⟩ (fun j σ G _ z => SqL.of (z.1 _ _ hp1)) ?_ ?_
    · intro k hk
      rw [List.take_add_one, List.take_zero, ek0] at hk
      rw [show k = (giv i ws)[0] by simpa using hk]
      exact Int.le_refl _
    · rintro j v σ G hv ⟨sG, kb, yb, v2, v3, hkb, rob, hall, rfl⟩
      have hj := (List.getElem?_eq_some_iff.mp hv).1
      rw [show (vNs ((giv i ws).drop 1)).length = ((giv i ws).drop 1).length from List.length_map ..] at hj
      rw [at_nat hj] at hv
      obtain rfl := Option.some.inj hv
      obtain ⟨k, hkd⟩ : ∃ k, k = ((giv i ws).drop 1)[j] := ⟨_, rfl⟩
      have ek : (giv i ws)[j + 1]? = some k := by
        rw [hkd, List.getElem_drop, List.length_drop] at *
        rw [List.getElem?_eq_getElem (by omega)]
        congr 2
        omega
      rw [← hkd]
      have kg := List.mem_of_getElem? ek
      obtain ⟨y, dr, m, _, ak, ro, hy1, hy2⟩ := round_at (ch.mono s1) (giv_mem.mp kg).1
      obtain ⟨db, mb, hb1, hb2⟩ := id rob
      have hxG := sG _ _ (s1 _ _ hx)
      have mle : ∀ k, mA i ws k ≤ 10000 := fun k => mA_le hw
      have lenm : ∀ k, ((vI (ahead i (ws.getD k []) 0)).length : Int) = (mA i ws k : Int) := fun k => by rw [vI_len]; rfl
      refine ⟨_, rfl, x, C, dx, _, _, rfl, hxG, oc.cl, oc.nr, rfl, _, rfl, pr, _, _, _, rfl, rfl, SqL.of (sG _ _ (s1 _ _ hr1)), ak, ?_⟩
      refine ⟨_, rfl, x, dx, _, rfl, hxG, rfl, ?_⟩
      refine ⟨_, rfl, y, CR, dr, _, _, rfl, sG _ _ hy1, rc.cl, rc.nt, rfl, _, rfl, yb, CR, db, _, _, rfl, sG _ _ hb1, rc.cl, rc.nm, rfl, mb, _, rfl, .inr (NF.Same.tup sG hb2), _, _, rfl, rfl, .inr ?_, ?_⟩
      · rw [lenm]
        have := mle kb
        constructor <;> omega
      refine ⟨_, rfl, yb, CR, db, _, _, rfl, sG _ _ hb1, rc.cl, rc.nt, rfl, _, rfl, y, CR, dr, _, _, rfl, sG _ _ hy1, rc.cl, rc.nm, rfl, m, _, rfl, .inr (NF.Same.tup sG hy2), _, _, rfl, rfl, .inr ?_, ?_⟩
      · rw [lenm]
        have := mle k
        constructor <;> omega
      refine ⟨x, dx, most, xb, pr, pg, sh, pt, pl, _, some _, rfl, hxG, ?_⟩
      have ed : ∀ j k, sg most * ((tA i ws j : Int) * (mA i ws k : Int)) = dA most i ws j * (mA i ws k : Int) := fun j k => by
        unfold dA
        rw [Int.mul_assoc]
      have el : less (sg most * ((tA i ws k : Int) * (mA i ws kb : Int))) ((some ((tA i ws kb : Int) * (mA i ws k : Int))).map (sg most * ·)) = decide (dA most i ws k * (mA i ws kb : Int) < dA most i ws kb * (mA i ws k : Int)) := by
        show decide (sg most * ((tA i ws k : Int) * (mA i ws kb : Int)) < sg most * ((tA i ws kb : Int) * (mA i ws k : Int))) = _
        rw [ed, ed]
      rw [lenm, lenm]
      have et : ((giv i ws).take (j + 2)) = (giv i ws).take (j + 1) ++ [k] := by rw [List.take_add_one, ek]; rfl
      refine ⟨_, rfl, ?_⟩
      rw [show less (sg most * (((took i (ws.getD k []) : Nat) : Int) * (mA i ws kb : Int))) ((some (((took i (ws.getD kb []) : Nat) : Int) * (mA i ws k : Int))).map (sg most * ·)) = _ from el]
      refine ite2 (fun h => ?_) (fun h => ?_)
      · have h := of_decide_eq_true h
        refine ⟨_, rfl, sG, k, y, _, _, kg, ro, fun q hq => ?_, rfl⟩
        rw [et] at hq
        rcases List.mem_append.mp hq with hq | hq
        · exact rate_trans (Int.le_of_lt h) (hall q hq) (giv_pos kb hkb)
        · rw [List.mem_singleton.mp hq]
          exact Int.le_refl _
      · have h : dA most i ws kb * (mA i ws k : Int) ≤ dA most i ws k * (mA i ws kb : Int) := by
          by_cases z : dA most i ws k * (mA i ws kb : Int) < dA most i ws kb * (mA i ws k : Int)
          · exact absurd (decide_eq_true z) h
          · omega
        refine ⟨sG, kb, yb, _, _, hkb, rob, fun q hq => ?_, rfl⟩
        rw [et] at hq
        rcases List.mem_append.mp hq with hq | hq
        · exact hall q hq
        · rw [List.mem_singleton.mp hq]
          exact h
    · rintro σ G ⟨sG, kb, yb, v2, v3, hkb, rob, hall, rfl⟩
      refine ⟨_, rfl, q kb yb G ⟨hkb, fun k hk => hall k ?_⟩ (Same.trans s1 sG) (rob.mono sG)⟩
      rw [show (vNs ((giv i ws).drop 1)).length = ((giv i ws).drop 1).length from List.length_map .., List.length_drop, List.take_of_length_le (by omega)]
      exact hk
/-- so far: the first t marks -/
def Wt (G : List Nat) (m : Nat → Nat) (d : Nat → Int) (mk : Nat → Nat → Int) (k n t : Nat) (c : Int) : Prop := ∃ a g c', a < t ∧ a < m k ∧ g + a + 1 = n ∧ Rch G m d g c' ∧ c = c' + mk k a
theorem ok_Outlook_ahead_of {f : Addr} {fd : FuncData} (F : FunD K "ahead_of" "Outlook.ahead_of" (defArgs s_Outlook_ahead_of) (defBody s_Outlook_ahead_of) (defScope s_Outlook_ahead_of) [] [] f fd) (T : Txt K mg gs FS) (oc : OutC K C) (rc : RouC K CR) (o_better : MetC P w K mg base 1 C "better" (spBet K C)) : FnOk P w K mg base CX0 3 f fd ["self", "piece", "number"] (spAhd K C CR) := by
  refine F.ok sc_Outlook_ahead_of (fun vs H Q E h => ?_) (fun cdv A outer s H vs Q E hr h => ?_)
  · obtain ⟨x, most, i, b, ws, sh, pt, pl, n, k, free, U, L, rfl, _⟩ := h
    rfl
  · obtain ⟨x, most, i, b, ws, sh, pt, pl, n, k, free, U, L, rfl, ⟨dx, xb, pr, pg, hx, hb, ⟨xs, hr1, ch⟩, hg⟩, hpt, lk, hk, n1, hn, sh0, sh1, q⟩ := h
    obtain ⟨kw, k1⟩ := giv_mem.mp hk
    obtain ⟨y, dr, m, _, ak, ro, hy1, hy2⟩ := round_at ch kw
    refine ⟨_, PSs.nox (pss_cons (ps_set (i := 3) sc_Outlook_ahead_of.nd rfl (Or.inl rfl) pe_non) (pss_cons (ps_set (i := 4) sc_Outlook_ahead_of.nd rfl (Or.inl rfl) pe_int) (pss_cons (ps_for PassesOwn.never rfl (pi_enumT rfl (T.fr _ (by decide +kernel)) (pa_cons (pe_slice sl_tupA (pe_fld (pe_ix (ixl (K := K)) (pe_fld (pv 0) rfl) (pv 2) fun _ _ => rfl) rfl) po_none (po_some (pv 1))) pa_nil)) (pgt (K := K) (n := 2) rfl rfl (pgs_cons (pg_name (i := 5) sc_Outlook_ahead_of.nd rfl (Or.inl rfl)) (pgs_cons (pg_name (i := 6) sc_Outlook_ahead_of.nd rfl (Or.inl rfl)) pgs_nil))) (pss_cons (ps_set (i := 7) sc_Outlook_ahead_of.nd rfl (Or.inl rfl) (pe_op op_sub (pe_op op_sub (pv 1) pe_int) (pv 5))) (pss_one (ps_if (PW.pt (pw_and (pt_cmpR op_notN (pe_ix (ixl (K := K)) (pe_fld (pv 0) rfl) (pv 7) fun _ _ => rfl) pe_non (nomark _)) (pw_and1 (pt_val (pe_mt (pv 0) o_better hr (by decide) (pa_cons (pe_op op_add (pe_ix (ixl (K := K)) (pe_fld (pv 0) rfl) (pv 7) fun _ _ => rfl) (pe_op op_mul (pv 6) (pe_fld (pv 0) rfl))) (pa_cons (pv 3) pa_nil))))))) (pss_cons (ps_set (i := 3) sc_Outlook_ahead_of.nd rfl (Or.inl rfl) (pe_op op_add (pe_ix (ixl (K := K)) (pe_fld (pv 0) rfl) (pv 7) fun _ _ => rfl) (pe_op op_mul (pv 6) (pe_fld (pv 0) rfl)))) (pss_one (ps_set (i := 4) sc_Outlook_ahead_of.nd rfl (Or.inl rfl) (pv 7)))) pss_nil)))) (pss_one (ps_ret (pe_tup (pa_cons (pv 3) (pa_cons (pv 4) pa_nil)))))))), ?_⟩
    refine ⟨_, rfl, x, C, dx, _, _, rfl, hx, oc.cl, oc.nr, rfl, _, rfl, pr, _, _, _, rfl, rfl, SqL.of hr1, ak, y, CR, dr, _, _, rfl, hy1, rc.cl, rc.nm, rfl, _, rfl, _, rfl, ?_⟩
    refine slA_done (K := K) hy2 fun p1 H1 s1 t1 => ?_
    rw [cut_to] at t1
    refine ⟨p1, _, rfl, t1, ?_⟩
    have elen : ((vI (ahead i (ws.getD k []) 0)).take n).length = min n (mA i ws k) := by
      rw [List.length_take, vI_len]
      rfl
    refine for_it (walk_enumT (k := 0) (xs := (vI (ahead i (ws.getD k []) 0)).take n)) (fun t σ G => Same H1 G ∧ ∃ (o : Option Int) (g : Nat) (v5 v6 v7 : Option V), MinOf (Wt (giv i ws) (mA i ws) (dSh most i ws free sh) (fun k a => mkA most i ws k a * sh) k n t) o ∧ (∀ v, o = some v → g < n ∧ ∃ a u, a < mA i ws k ∧ g + a + 1 = n ∧ U g = some u ∧ v = u + mkA most i ws k a * sh) ∧ σ = [some (.ref x), some (.int (n : Int)), some (.int (k : Int)), some (vO (o.map (sg most * ·))), some (.int (g : Int)), v5, v6, v7])
      ⟨Same.refl H1, none, 0, none, none, none, fun c ⟨a, g, c', h, _⟩ => absurd h (Nat.not_lt_zero _), fun v e => (nomatch e), rfl⟩ (fun t σ G _ z => NF.Same.tup z.1 t1) ?_ ?_
    · rintro t v σ G1 G2 ht ⟨sG, o, g, v5, v6, v7, mo, ho, rfl⟩ ⟨T1, a1, b1, rfl, hT, rfl, ha1, hb1⟩
      rw [elen] at ht
      have htm : t < mA i ws k := by omega
      have htn : t < n := by omega
      obtain rfl : V.int (0 + (t : Int)) = a1 := Option.some.inj ha1
      have hb1 : ((vI (ahead i (ws.getD k []) 0)).take n)[t]? = some b1 := hb1
      obtain rfl : V.int (aA i ws k t) = b1 := by
        rw [List.getElem?_take, if_pos htn] at hb1
        unfold vI at hb1
        rw [List.getElem?_map, List.getElem?_eq_getElem htm] at hb1
        have := Option.some.inj hb1
        rw [← this]
        unfold aA
        rw [List.getD_eq_getElem?_getD, List.getElem?_eq_getElem htm]
        rfl
      have s2 := NF.Same.new (o := .tup [V.int (0 + (t : Int)), V.int (aA i ws k t)]) sG hT
      have hxG := s2 _ _ (s1 _ _ hx)
      have hptG := SqL.of (K := K) (s2 _ _ (s1 _ _ hpt))
      refine ⟨T1, _, rfl, SqT.of upd_same, rfl, _, _, rfl, ?_⟩
      refine ⟨_, _, rfl, ?_⟩
      refine ⟨rfl, ?_⟩
      have eg : (n : Int) - 1 - (0 + (t : Int)) = ((n - 1 - t : Nat) : Int) := by omega
      have atg : atI (tkn most U n) ((n : Int) - 1 - (0 + (t : Int))) = some (vO ((U (n - 1 - t)).map (sg most * ·))) := by
        rw [eg]
        exact atI_nat (tkn_get (by omega))
      refine ⟨_, rfl, _, _, rfl, rfl, _, rfl, _, _, rfl, rfl, ?_⟩
      refine ⟨_, rfl, x, C, dx, _, _, rfl, hxG, oc.cl, oc.nt, rfl, _, rfl, pt, _, _, _, rfl, rfl, hptG, atg, rfl, _, rfl, ?_⟩
      have mu := lk.u (n - 1 - t) (by omega)
      cases hU : U (n - 1 - t) with
      | none =>
        rw [hU] at mu
        refine iteF' rfl (iteF ?_)
        refine ⟨s2, o, g, _, _, _, mo.congr fun c => ⟨fun ⟨a, g', c', h1, h2⟩ => ⟨a, g', c', by omega, h2⟩, fun ⟨a, g', c', h1, h2, h3, h4, h5⟩ => ?_⟩, ho, rfl⟩
        by_cases e : a = t
        · rw [show n - 1 - t = g' by omega] at mu
          exact absurd h4 (mu c')
        · exact ⟨a, g', c', by omega, h2, h3, h4, h5⟩
      | some u =>
        rw [hU] at mu atg
        have emk : sg most * u + aA i ws k t * sh = sg most * (u + mkA most i ws k t * sh) := by
          unfold mkA
          rw [Int.mul_add, ← Int.mul_assoc (sg most) (sg most * _), ← Int.mul_assoc (sg most) (sg most), sg_sq, Int.one_mul]
        have mo2 : MinOf (Wt (giv i ws) (mA i ws) (dSh most i ws free sh) (fun k a => mkA most i ws k a * sh) k n (t + 1)) (rlx o (u + mkA most i ws k t * sh)) := by
          refine (mo.push (T := fun c => ∃ c', Rch (giv i ws) (mA i ws) (dSh most i ws free sh) (n - 1 - t) c' ∧ c = c' + mkA most i ws k t * sh) ⟨⟨u, mu.1, rfl⟩, fun c ⟨c', r, e⟩ => by have := mu.2 c' r; omega⟩).congr fun c => ⟨fun z => ?_, fun ⟨a, g', c', h1, h2, h3, h4, h5⟩ => ?_⟩
          · rcases z with ⟨a, g', c', h1, h2⟩ | ⟨c', r, e⟩
            · exact ⟨a, g', c', by omega, h2⟩
            · exact ⟨t, n - 1 - t, c', by omega, htm, by omega, r, e⟩
          · by_cases e : a = t
            · subst e
              rw [show g' = n - 1 - a by omega] at h4
              exact .inr ⟨c', h4, h5⟩
            · exact .inl ⟨a, g', c', by omega, h2, h3, h4, h5⟩
        have S0 : -(2 ^ 64) < sh ∧ sh < 2 ^ 64 := by constructor <;> omega
        refine iteT' rfl ?_
        refine ⟨_, rfl, x, dx, _, rfl, hxG, rfl, ?_⟩
        refine ⟨_, rfl, x, C, dx, _, _, rfl, hxG, oc.cl, oc.nt, rfl, _, rfl, pt, _, _, _, rfl, rfl, hptG, atg, _, rfl, _, rfl, x, C, dx, _, _, rfl, hxG, oc.cl, oc.ns, rfl, _, _, rfl, rfl, .inr S0, _, _, rfl, rfl, _, rfl, ?_⟩
        dsimp only
        rw [emk]
        refine ⟨x, dx, most, xb, pr, pg, sh, pt, pl, _, _, rfl, hxG, ?_⟩
        rw [less_sg]
        rw [rlx_less] at mo2
        refine ⟨_, rfl, ite2 (fun yes => ?_) (fun no => ?_)⟩
        · rw [if_pos yes] at mo2
          refine ⟨_, rfl, x, C, dx, _, _, rfl, hxG, oc.cl, oc.nt, rfl, _, rfl, pt, _, _, _, rfl, rfl, hptG, atg, _, rfl, _, rfl, x, C, dx, _, _, rfl, hxG, oc.cl, oc.ns, rfl, _, _, rfl, rfl, .inr S0, _, _, rfl, rfl, ?_⟩
          dsimp only
          rw [emk, eg]
          refine ⟨_, rfl, s2, some (u + mkA most i ws k t * sh), n - 1 - t, _, _, _, mo2, fun v e => ?_, rfl⟩
          cases e
          exact ⟨by omega, t, u, htm, by omega, hU, rfl⟩
        · rw [if_neg no] at mo2
          exact ⟨s2, o, g, _, _, _, mo2, ho, rfl⟩
    · rintro σ G ⟨sG, o, g, v5, v6, v7, mo, ho, rfl⟩
      rw [elen] at mo
      refine ⟨_, rfl, _, rfl, (by show 2 ≤ sizeLine; decide), fun p hp => ?_⟩
      have s2 := NF.Same.new (o := .tup [vO (o.map (sg most * ·)), V.int (g : Int)]) (Same.trans s1 sG) hp
      refine q p o g _ s2 (mo.congr fun c => ⟨fun ⟨a, g', c', h1, h2⟩ => ⟨a, g', c', h2⟩, fun ⟨a, g', c', h2, h3, h4⟩ => ⟨a, g', c', by omega, h2, h3, h4⟩⟩) ho (SqT.of upd_same)
end
end K25
set_option Elab.async false
set_option linter.all false
set_option maxRecDepth 100000
set_option maxHeartbeats 4000000
namespace K25
open PySem PySem.Spec PyProof.Rows L2 He NF RZ NT
/-- what is taken ahead of each piece -/
def spVals (K : PySem.W.Frag) (C CR : Addr) : Sp := fun vs H Q _ => ∃ (x : Addr) (most : Bool) (i : Nat) (b : List Deed) (ws : List (List Deed)) (pt pl : Addr) (n : Nat) (U : Nat → Option Int) (L : Nat → Option Nat), vs = [.ref x, .int (n : Int)] ∧ OutAt K C CR H x most i b ws ((n + 1 : Nat) : Int) pt pl ∧ H pt = some (.lst (tkn most U n)) ∧ Lkd most i ws none ((n + 1 : Nat) : Int) n U L ∧
  giv i ws ≠ [] ∧ n ≤ 5000 ∧ ∀ p H', Same H H' → H' p = some (.lst (vI ((List.range n).map fun j => sg most * best most i ws (j + 1)))) → Q (.ref p) H'
def bst (most : Bool) (Vf : Nat → Option Int) (n : Nat) : List V := (List.range n).map fun g => vO ((Vf g).map (sg most * ·))
theorem bst_get {most : Bool} {U : Nat → Option Int} {n g : Nat} (h : g < n) : (bst most U n)[g]? = some (vO ((U g).map (sg most * ·))) := by
  unfold bst
  rw [List.getElem?_map, List.getElem?_range h]
  rfl
theorem bst_set {most : Bool} {U : Nat → Option Int} {n g : Nat} {u : Int} (h : g < n) : (bst most U n).set g (.int (sg most * u)) = bst most (fun k => if k = g then some u else U k) n := by
  unfold bst
  rw [setmap_range h]
  refine List.map_congr_left fun k _ => ?_
  show (if k = g then V.int (sg most * u) else vO ((U k).map (sg most * ·))) = vO ((if k = g then some u else U k).map (sg most * ·))
  by_cases e : k = g
  · rw [if_pos e, if_pos e]; rfl
  · rw [if_neg e, if_neg e]
theorem bst_len {most : Bool} {U : Nat → Option Int} {n : Nat} : (bst most U n).length = n := by
  unfold bst
  rw [List.length_map, List.length_range]
theorem same_wo_of {A B : Hp} {p : Addr} (s : Same A B) (n : A p = none) : Same A (wo B p) := fun a o e => by
  rw [wo_ne fun z => by rw [z, n] at e; cases e]
  exact s _ _ e
theorem sc_Outlook_values_up_to : FnScope ["self", "many", "best", "given", "number", "taken", "at", "mark"] ["self", "many"] (defScope s_Outlook_values_up_to) := ⟨rfl, rfl, rfl, by decide +kernel, rfl, by decide +kernel, by decide +kernel⟩
section
variable {P : Program} {w : World} {K : PySem.W.Frag} {mg : Str → Option Value} {base : Heap} {gs fs : List Str} {C CM CR : Addr}
theorem ok_Outlook_values_up_to {f : Addr} {fd : FuncData} (F : FunD K "values_up_to" "Outlook.values_up_to" (defArgs s_Outlook_values_up_to) (defBody s_Outlook_values_up_to) (defScope s_Outlook_values_up_to) [] [] f fd) (T : Txt K mg gs FS) (oc : OutC K C) (rc : RouC K CR) (o_better : MetC P w K mg base 1 C "better" (spBet K C)) : FnOk P w K mg base CX0 3 f fd ["self", "many"] (spVals K C CR) := by
  refine F.ok sc_Outlook_values_up_to (fun vs H Q E h => ?_) (fun cdv A outer s H vs Q E hr h => ?_)
  · obtain ⟨x, most, i, b, ws, pt, pl, n, U, L, rfl, _⟩ := h
    rfl
  · obtain ⟨x, most, i, b, ws, pt, pl, n, U, L, rfl, ⟨dx, xb, pr, pg, hx, hb, ⟨xs, hr1, ch⟩, hg⟩, hpt, lk, g0, hn, q⟩ := h
    generalize hS : ((n + 1 : Nat) : Int) = S at hx lk
    have S0 : -(2 ^ 64) < S ∧ S < 2 ^ 64 := by
      rw [← hS]
      constructor <;> omega
    refine ⟨_, PSs.nox (pss_cons (ps_set (i := 2) sc_Outlook_values_up_to.nd rfl (Or.inl rfl) (pe_op op_rep (pe_lst (pa_cons pe_non pa_nil)) (pv 1))) (pss_cons (ps_for PassesOwn.never rfl (pi_range1 rfl (T.fr _ (by decide +kernel)) (pa_cons (pv 1) pa_nil)) (pg_name (i := 3) sc_Outlook_values_up_to.nd rfl (Or.inl rfl)) (pss_one (ps_if (pt_cmpR op_notN (pe_ix (ixl (K := K)) (pe_fld (pv 0) rfl) (pv 3) fun _ _ => rfl) pe_non (nomark _)) (pss_one (ps_for PassesOwn.never rfl (pi_list (pe_fld (pv 0) rfl)) (pg_name (i := 4) sc_Outlook_values_up_to.nd rfl (Or.inl rfl)) (pss_one (ps_for PassesOwn.never rfl (pi_enumST rfl (T.fr _ (by decide +kernel)) (pa_cons (pe_slice sl_tupA (pe_fld (pe_ix (ixl (K := K)) (pe_fld (pv 0) rfl) (pv 4) fun _ _ => rfl) rfl) po_none (po_some (pe_op op_sub (pv 1) (pv 3)))) pa_nil) (pk_cons (pv 3) pk_nil)) (pgt (K := K) (n := 2) rfl rfl (pgs_cons (pg_name (i := 6) sc_Outlook_values_up_to.nd rfl (Or.inl rfl)) (pgs_cons (pg_name (i := 7) sc_Outlook_values_up_to.nd rfl (Or.inl rfl)) pgs_nil))) (pss_cons (ps_set (i := 5) sc_Outlook_values_up_to.nd rfl (Or.inl rfl) (pe_op op_add (pe_ix (ixl (K := K)) (pe_fld (pv 0) rfl) (pv 3) fun _ _ => rfl) (pe_op op_mul (pv 7) (pe_fld (pv 0) rfl)))) (pss_one (ps_if (pt_val (pe_mt (pv 0) o_better hr (by decide) (pa_cons (pv 5) (pa_cons (pe_ix (ixl (K := K)) (pv 2) (pv 6) fun _ _ => rfl) pa_nil)))) (pss_one (ps_asg (pv 5) (pg_sub (pv 2) (pv 6) set_list))) pss_nil))))))) pss_nil))) (pss_one (ps_ret (pe_lc (own := [("taken", 5)]) rfl sc_Outlook_values_up_to.nd (pi_list (pv 2)) (blkOk_by (N := ["self", "many", "best", "given", "number", "taken", "at", "mark"]) (sc := defScope s_Outlook_values_up_to) (by decide +kernel)) (fun _ _ _ _ _ => by exact (pg_name (i := 5) sc_Outlook_values_up_to.nd rfl (Or.inl rfl))) (fun _ _ _ _ _ => by exact pts_nil) (fun _ _ _ _ _ => by exact (pe_ifExp (pt_val (pe_fldK (K := K) (pv 0) rfl)) (pe_un un_neg (pe_op op_fdiv (pe_un un_neg (pv 5)) (pe_fldK (K := K) (pv 0) rfl))) (pe_op op_fdiv (pv 5) (pe_fldK (K := K) (pv 0) rfl))))))))), ?_⟩
    refine ⟨(by show 1 ≤ sizeLine; decide), fun a1 ha1 => ?_⟩
    have t1 := NF.Same.new (o := .lst [V.non]) (Same.refl H) ha1
    have hA1 := upd_same (H := H) (a := a1) (o := .lst [V.non])
    generalize upd H a1 (.lst [V.non]) = H1 at t1 hA1
    refine ⟨_, rfl, a1, _, _, rfl, rfl, hA1, by omega, by omega, by rw [List.length_singleton, Int.toNat_natCast, Nat.one_mul]; exact Nat.le_trans (show n ≤ 10000 by omega) (by decide), fun D hD => ?_⟩
    have eb : (List.replicate ((n : Nat) : Int).toNat [V.non]).flatten = bst most (fun _ => none) n := by
      rw [Int.toNat_natCast, rep_one]
      rfl
    rw [eb]
    have s1 := NF.Same.new (o := .lst (bst most (fun _ => none) n)) t1 hD
    have hD0 : H D = none := L2.Same.free t1 hD
    have hD1 := upd_same (H := H1) (a := D) (o := .lst (bst most (fun _ => none) n))
    generalize upd H1 D (.lst (bst most (fun _ => none) n)) = H2 at s1 hD1
    refine ⟨_, rfl, _, rfl, by omega, by omega, ?_⟩
    refine for_range (lo := 0) (n := ((n : Nat) : Int).toNat) (fun B σ G => Same H G ∧ ∃ (Vf : Nat → Option Int) (v3 v4 v5 v6 v7 : Option V), G D = some (.lst (bst most Vf n)) ∧ (∀ j, j < n → MinOf (Psv (giv i ws) (mA i ws) (dSh most i ws none S) (fun k a => mkA most i ws k a * S) B 0 0 j) (Vf j)) ∧ σ = [some (.ref x), some (.int (n : Int)), some (.ref D), v3, v4, v5, v6, v7])
      ⟨s1, _, none, none, none, none, none, hD1, fun j _ => psv_zero, rfl⟩ ?_ ?_
    · rintro B σ G hB ⟨sG, Vf, v3, v4, v5, v6, v7, hDG, hV, rfl⟩
      have hB : B < n := by omega
      have atB : atI (tkn most U n) (0 + (B : Int)) = some (vO ((U B).map (sg most * ·))) := by
        rw [Int.zero_add]
        exact atI_nat (tkn_get (by omega))
      have muB := lk.u B (by omega)
      refine ⟨_, rfl, x, C, dx, _, _, rfl, sG _ _ hx, oc.cl, oc.nt, rfl, _, rfl, pt, _, _, _, rfl, rfl, SqL.of (sG _ _ hpt), atB, rfl, _, rfl, ?_⟩
      cases hU : U B with
      | none =>
        rw [hU] at muB
        refine iteF' rfl ?_
        exact ⟨sG, Vf, _, _, _, _, _, hDG, fun j hj => psv_none muB (hV j hj), rfl⟩
      | some u =>
        rw [hU] at muB atB
        refine iteT' rfl ?_
        refine ⟨_, rfl, x, C, dx, _, _, rfl, sG _ _ hx, oc.cl, oc.ng, rfl, pg, rfl, ⟨_, SqL.of (sG _ _ hg)⟩, ?_⟩
        refine for_list (xs := vNs (giv i ws)) (fun jj σ G => Same H G ∧ ∃ (Vf : Nat → Option Int) (v4 v5 v6 v7 : Option V), G D = some (.lst (bst most Vf n)) ∧ (∀ j, j < n → MinOf (Psv (giv i ws) (mA i ws) (dSh most i ws none S) (fun k a => mkA most i ws k a * S) B jj 0 j) (Vf j)) ∧ σ = [some (.ref x), some (.int (n : Int)), some (.ref D), some (.int (0 + (B : Int))), v4, v5, v6, v7])
          ⟨sG, Vf, v4, v5, v6, v7, hDG, hV, rfl⟩ (fun j σ G _ z => SqL.of (z.1 _ _ hg)) ?_ ?_
        · rintro jj v σ G hv ⟨sG, Vf, v4, v5, v6, v7, hDG, hV, rfl⟩
          have hj := (List.getElem?_eq_some_iff.mp hv).1
          rw [show (vNs (giv i ws)).length = (giv i ws).length from List.length_map ..] at hj
          rw [at_nat hj] at hv
          obtain rfl := Option.some.inj hv
          obtain ⟨k, hkd⟩ : ∃ k, k = (giv i ws)[jj] := ⟨_, rfl⟩
          have ek : (giv i ws)[jj]? = some k := by rw [List.getElem?_eq_getElem hj, hkd]
          rw [← hkd]
          have kg := List.mem_of_getElem? ek
          obtain ⟨kw, k1⟩ := giv_mem.mp kg
          obtain ⟨y, dr, m, _, ak, ro, hy1, hy2⟩ := round_at (ch.mono sG) kw
          refine ⟨_, rfl, x, C, dx, _, _, rfl, sG _ _ hx, oc.cl, oc.nr, rfl, _, rfl, pr, _, _, _, rfl, rfl, SqL.of (sG _ _ hr1), ak, y, CR, dr, _, _, rfl, hy1, rc.cl, rc.nm, rfl, ?_⟩
          refine ⟨_, rfl, _, rfl, _, _, rfl, rfl, _, rfl, ?_⟩
          refine slA_done (K := K) hy2 fun p1 G1 s2 t2 => ?_
          rw [show (n : Int) - (0 + (B : Int)) = ((n - B : Nat) : Int) by omega, cut_to] at t2
          refine ⟨_, rfl, p1, _, _, rfl, rfl, by omega, by omega, t2, ?_⟩
          have elen : ((vI (ahead i (ws.getD k []) 0)).take (n - B)).length = min (n - B) (mA i ws k) := by
            rw [List.length_take, vI_len]
            rfl
          have hD1' := s2 _ _ hDG
          have tw : SqT K (wo G1 D) p1 ((vI (ahead i (ws.getD k []) 0)).take (n - B)) := SqT.wo t2 hD1' trivial
          have sw : Same H (wo G1 D) := same_wo_of (Same.trans sG s2) hD0
          have rw1 : RouAt K CR (wo G1 D) y i (ws.getD k []) := RouAt.woL (ro.mono s2) hD1'
          obtain ⟨dr, m, hy1, hy2⟩ := rw1
          refine for_it (walk_enumT (k := 0 + (B : Int)) (xs := (vI (ahead i (ws.getD k []) 0)).take (n - B))) (fun t σ G => Same (wo G1 D) G ∧ ∃ (Vf : Nat → Option Int) (v5 v6 v7 : Option V), G D = some (.lst (bst most Vf n)) ∧ (∀ j, j < n → MinOf (Psv (giv i ws) (mA i ws) (dSh most i ws none S) (fun k a => mkA most i ws k a * S) B jj t j) (Vf j)) ∧ σ = [some (.ref x), some (.int (n : Int)), some (.ref D), some (.int (0 + (B : Int))), some (.int (k : Int)), v5, v6, v7])
            ⟨wo_same', Vf, _, _, _, hD1', hV, rfl⟩ (fun t σ G _ z => NF.Same.tup z.1 tw) ?_ ?_
          · rintro t v σ G2 G3 ht ⟨sG2, Vf, v5, v6, v7, hDG, hV, rfl⟩ ⟨T1, a1, b1, rfl, hT, rfl, ha1, hb1⟩
            rw [elen] at ht
            have htm : t < mA i ws k := by omega
            have htn : t < n - B := by omega
            obtain rfl : V.int (0 + (B : Int) + (t : Int)) = a1 := Option.some.inj ha1
            have hb1 : ((vI (ahead i (ws.getD k []) 0)).take (n - B))[t]? = some b1 := hb1
            obtain rfl : V.int (aA i ws k t) = b1 := by
              rw [List.getElem?_take, if_pos htn] at hb1
              unfold vI at hb1
              rw [List.getElem?_map, List.getElem?_eq_getElem htm] at hb1
              have := Option.some.inj hb1
              rw [← this]
              unfold aA
              rw [List.getD_eq_getElem?_getD, List.getElem?_eq_getElem htm]
              rfl
            have s3 := NF.Same.new (o := .tup [V.int (0 + (B : Int) + (t : Int)), V.int (aA i ws k t)]) sG2 hT
            have s23 := NF.Same.new (o := .tup [V.int (0 + (B : Int) + (t : Int)), V.int (aA i ws k t)]) (Same.refl G2) hT
            have hT3 := SqT.of (K := K) (upd_same (H := G2) (a := T1) (o := .tup [V.int (0 + (B : Int) + (t : Int)), V.int (aA i ws k t)]))
            generalize upd G2 T1 (.tup [V.int (0 + (B : Int) + (t : Int)), V.int (aA i ws k t)]) = G3 at s3 s23 hT3
            have sH3 := Same.trans sw s3
            have hxG := sH3 _ _ hx
            have hptG := SqL.of (K := K) (sH3 _ _ hpt)
            have hD3 := s23 _ _ hDG
            have eBt : (0 : Int) + (B : Int) + (t : Int) = ((B + t : Nat) : Int) := by omega
            have emk : sg most * u + aA i ws k t * S = sg most * (u + mkA most i ws k t * S) := by
              unfold mkA
              rw [Int.mul_add, ← Int.mul_assoc (sg most) (sg most * _), ← Int.mul_assoc (sg most) (sg most), sg_sq, Int.one_mul]
            have atV : atI (bst most Vf n) ((B + t : Nat) : Int) = some (vO ((Vf (B + t)).map (sg most * ·))) := atI_nat (bst_get (by omega))
            refine ⟨T1, _, rfl, hT3, rfl, _, _, rfl, ?_⟩
            refine ⟨_, _, rfl, ?_⟩
            refine ⟨rfl, ?_⟩
            refine ⟨_, rfl, x, C, dx, _, _, rfl, hxG, oc.cl, oc.nt, rfl, _, rfl, pt, _, _, _, rfl, rfl, hptG, atB, _, rfl, _, rfl, x, C, dx, _, _, rfl, hxG, oc.cl, oc.ns, rfl, _, _, rfl, rfl, .inr S0, _, _, rfl, rfl, ?_⟩
            dsimp only
            rw [emk, eBt]
            refine ⟨_, rfl, x, dx, _, rfl, hxG, rfl, ?_⟩
            refine ⟨_, rfl, _, rfl, _, rfl, D, _, _, _, rfl, rfl, SqL.of hD3, atV, ?_⟩
            refine ⟨x, dx, most, xb, pr, pg, S, pt, pl, _, _, rfl, hxG, ?_⟩
            rw [less_sg]
            have hput := psv_put (mk := fun k a => mkA most i ws k a * S) ek muB htm (hV (B + t) (by omega))
            rw [rlx_less] at hput
            refine ⟨_, rfl, ite2 (fun yes => ?_) (fun no => ?_)⟩
            · rw [if_pos yes] at hput
              refine ⟨_, rfl, _, rfl, _, rfl, D, _, _, B + t, rfl, rfl, hD3, ixN_n (by rw [bst_len]; omega), ?_⟩
              rw [bst_set (by omega)]
              refine ⟨NF.Same.put s3 wo_none, _, _, _, _, upd_same, fun j hj => ?_, rfl⟩
              by_cases e : j = B + t
              · rw [if_pos e, e]
                exact hput
              · rw [if_neg e]
                exact psv_off e (hV j hj)
            · rw [if_neg no] at hput
              refine ⟨s3, Vf, _, _, _, hD3, fun j hj => ?_, rfl⟩
              by_cases e : j = B + t
              · rw [e]
                exact hput
              · exact psv_off e (hV j hj)
          · rintro σ G2 ⟨sG2, Vf, v5, v6, v7, hDG, hV, rfl⟩
            rw [elen] at hV
            exact ⟨Same.trans sw sG2, Vf, _, _, _, _, hDG, fun j hj => psv_way ek hj (hV j hj), rfl⟩
        · rintro σ G ⟨sG, Vf, v4, v5, v6, v7, hDG, hV, rfl⟩
          rw [show (vNs (giv i ws)).length = (giv i ws).length from List.length_map ..] at hV
          exact ⟨sG, Vf, _, _, _, _, _, hDG, fun j hj => psv_next (hV j hj), rfl⟩
    · rintro σ G ⟨sG, Vf, v3, v4, v5, v6, v7, hDG, hV, rfl⟩
      rw [Int.toNat_natCast] at hV
      -- the shares are rounded
      have hval : ∀ j, j < n → ∃ u, Vf j = some u ∧ u / S = best most i ws (j + 1) := fun j hj => by
        have mv := psv_done hj (hV j hj)
        obtain ⟨kb, hkb⟩ := List.exists_mem_of_ne_nil _ g0
        obtain ⟨c, hc⟩ := wv_some (d := dSh most i ws none S) (mk := fun k a => mkA most i ws k a * S) hkb giv_pos (show 1 ≤ j + 1 by omega)
        cases hv : Vf j with
        | none =>
          rw [hv] at mv
          exact absurd hc (mv c)
        | some u =>
          rw [hv] at mv
          refine ⟨u, rfl, ?_⟩
          have ms := wv_sc (d := dA most i ws) (mk := mkA most i ws) (sh := S) (n := j + 1) (by omega) (fun _ => 1) (fun _ => Nat.le_refl _) giv_pos mv
          exact (minV_of ms).symm
      have Sp : 0 < S ∧ S < 1073741824 := by omega
      refine ⟨_, rfl, D, rfl, ⟨_, SqL.of hDG⟩, fun D2 hD2 => ?_⟩
      refine lc_list (xs := bst most Vf n) (fun j G' => Same G G' ∧ G' D2 = some (.lst (vI ((List.range j).map fun j => sg most * best most i ws (j + 1))))) ⟨NF.Same.new (Same.refl G) hD2, upd_same⟩ (fun j G' _ z => SqL.of (z.1 _ _ hDG)) ?_ ?_
      · rintro j v G' hv ⟨sG', hG'⟩
        have hj := (List.getElem?_eq_some_iff.mp hv).1
        rw [bst_len] at hj
        rw [bst_get hj] at hv
        obtain rfl := Option.some.inj hv
        obtain ⟨u, hu, hu2⟩ := hval j hj
        rw [hu]
        have hx' := sG' _ _ (sG _ _ hx)
        refine ⟨rfl, _, rfl, x, C, dx, _, _, rfl, hx', oc.cl, oc.nm, rfl, most, rfl, ?_⟩
        have fin : ∃ acc, G' D2 = some (HO.lst acc) ∧ acc.length < sizeLine ∧ (Same G (upd G' D2 (.lst (acc ++ [V.int (sg most * (u / S))]))) ∧ upd G' D2 (.lst (acc ++ [V.int (sg most * (u / S))])) D2 = some (.lst (vI ((List.range (j + 1)).map fun j => sg most * best most i ws (j + 1))))) := by
          refine ⟨_, hG', by rw [vI_len, List.length_map, List.length_range]; exact Nat.lt_of_lt_of_le (show j < 10000 by omega) (by decide), NF.Same.mut sG' hD2, ?_⟩
          rw [upd_same, List.range_succ, List.map_append, ← vI_app, hu2]
          rfl
        cases most with
        | true =>
          refine iteT ?_
          refine ⟨_, rfl, _, rfl, _, rfl, x, C, dx, _, _, rfl, hx', oc.cl, oc.ns, rfl, _, _, rfl, rfl, Sp, ?_⟩
          refine ⟨_, rfl, ?_⟩
          have e : -(-(sg true * u) / S) = sg true * (u / S) := by
            show -(-(-1 * u) / S) = -1 * (u / S)
            rw [show -(-1 * u) = u by omega]
            omega
          rw [← e] at fin
          exact fin
        | false =>
          refine iteF ?_
          refine ⟨_, rfl, _, rfl, x, C, dx, _, _, rfl, hx', oc.cl, oc.ns, rfl, _, _, rfl, rfl, Sp, ?_⟩
          have e : sg false * u / S = sg false * (u / S) := by
            show 1 * u / S = 1 * (u / S)
            rw [Int.one_mul, Int.one_mul]
          rw [← e] at fin
          exact fin
      · rintro G' ⟨sG', hG'⟩
        rw [bst_len] at hG'
        exact q D2 G' (Same.trans sG sG') hG'
end
end K25
set_option Elab.async false
set_option linter.all false
set_option maxRecDepth 100000
set_option maxHeartbeats 4000000
namespace K25
open PySem PySem.Spec PyProof.Rows L2 He NF RZ NT
theorem both1G {X : Prop} {R : Hp → Prop} (P : Hp → Prop) (h1 : (∀ G, P G → R G) → X) (h2 : ∀ G, P G → R G) : X := h1 h2
section
variable {P : Program} {w : World} {K : PySem.W.Frag} {mg : Str → Option Value} {base : Heap} {gs fs : List Str} {C CM CR : Addr}
theorem ok_Outlook_others_ahead {f : Addr} {fd : FuncData} (F : FunD K "others_ahead" "Outlook.others_ahead" (defArgs s_Outlook_others_ahead) (defBody s_Outlook_others_ahead) (defScope s_Outlook_others_ahead) [] [] f fd) (T : Txt K mg gs FS) (oc : OutC K C) (rc : RouC K CR) : FnOk P w K mg base CX0 1 f fd ["self", "given", "free"] (spOth K C CR) := by
  refine F.ok sc_Outlook_others_ahead (fun vs H Q E h => ?_) (fun cdv A outer s H vs Q E hr h => ?_)
  · obtain ⟨x, most, i, b, ws, sh, pt, pl, n, g, k, U, L, u, rfl, _⟩ := h
    rfl
  · obtain ⟨x, most, i, b, ws, sh, pt, pl, n, g, k, U, L, u, rfl, ⟨dx, xb, pr, pg, hx, hb, ⟨xs, hr1, ch⟩, hg⟩, hpl, lk, hk, hn, gn, hu, q⟩ := h
    refine ⟨_, PSs.nox (pss_cons (ps_set (i := 3) sc_Outlook_others_ahead.nd rfl (Or.inl rfl) (pe_lst pa_nil)) (pss_cons (ps_while PassesOwn.never (pt_cmpR op_gt (pv 1) pe_int (nomark _)) (pss_cons (ps_if (pt_cmpR op_ne (pe_ix (ixl (K := K)) (pe_fld (pv 0) rfl) (pv 1) fun _ _ => rfl) (pv 2) (nomark _)) (pss_one (ps_expr (pe_bm PySem.F.plainAttrs_list PySem.F.slot_list_append PySem.F.type_list_append mt_append (pv 3) (pa_cons (pe_ix (ixl (K := K)) (pe_fld (pv 0) rfl) (pv 1) fun _ _ => rfl) pa_nil)))) pss_nil) (pss_one (ps_set (i := 1) sc_Outlook_others_ahead.nd rfl (Or.inl rfl) (pe_op op_sub (pv 1) (pe_callB call_len_seq rfl (T.fr _ (by decide +kernel)) boot_len (pa_cons (pe_fld (pe_ix (ixl (K := K)) (pe_fld (pv 0) rfl) (pe_ix (ixl (K := K)) (pe_fld (pv 0) rfl) (pv 1) fun _ _ => rfl) fun _ _ => rfl) rfl) pa_nil))))))) (pss_one (ps_ret (pe_callTy cr_tup rfl (T.fr _ (by decide +kernel)) (by decide +kernel) (pa_cons (pv 3) pa_nil)))))), ?_⟩
    refine ⟨(by show 0 ≤ sizeLine; decide), fun D hD => ?_⟩
    refine ⟨fun m σ G => Same H G ∧ ∃ (ks : List Nat) (q u' : Nat → Int) (qn gv : Nat) (uv : Int), G D = some (.lst (vNs ks)) ∧ m = gv ∧ gv ≤ n ∧ U gv = some uv ∧ (∀ j ∈ ks, j ∈ giv i ws) ∧ (ks.map (mA i ws)).sum + qn * mA i ws k + gv = g ∧ u = (ks.map (dSh most i ws (some k) sh)).sum + (qn : Int) * (dA most i ws k * sh) + uv ∧ σ = [some (.ref x), some (.int (gv : Int)), some (.int (k : Int)), some (.ref D)],
      ⟨g, NF.Same.new (Same.refl H) hD, [], (fun _ => 0), (fun _ => 0), 0, g, u, upd_same, rfl, gn, hu, by simp, by simp, by simp, rfl⟩, ?_⟩
    rintro gv σ G ⟨sG, ks, _, _, qn, _, uv, hDG, rfl, gvn, huv, hks, e1, e2, rfl⟩
    refine ⟨_, rfl, _, _, rfl, rfl, _, rfl, ?_⟩
    refine ite2 (fun h => ?_) (fun h => ?_)
    · have h0 : 0 < gv := by
        have := of_decide_eq_true h
        omega
      obtain ⟨j, hj, lj, le1, _, hprev⟩ := lk.t gv h0 gvn uv huv
      have hxG := sG _ _ hx
      have hplG := SqL.of (K := K) (sG _ _ hpl)
      have atl : atI (lst L n) (gv : Int) = some (V.int (j : Int)) := by
        refine atI_nat ?_
        rw [lst_get gvn, lj]
        rfl
      obtain ⟨jw, j1⟩ := giv_mem.mp hj
      refine ⟨fun σ' G' => ∃ m', m' < gv ∧ (Same H G' ∧ ∃ (ks : List Nat) (q u' : Nat → Int) (qn gv : Nat) (uv : Int), G' D = some (.lst (vNs ks)) ∧ m' = gv ∧ gv ≤ n ∧ U gv = some uv ∧ (∀ j ∈ ks, j ∈ giv i ws) ∧ (ks.map (mA i ws)).sum + qn * mA i ws k + gv = g ∧ u = (ks.map (dSh most i ws (some k) sh)).sum + (qn : Int) * (dA most i ws k * sh) + uv ∧ σ' = [some (.ref x), some (.int (gv : Int)), some (.int (k : Int)), some (.ref D)]), fun σ' G' z => z, ?_⟩
      refine ⟨_, rfl, x, C, dx, _, _, rfl, hxG, oc.cl, oc.nl, rfl, _, rfl, pl, _, _, _, rfl, rfl, hplG, atl, _, rfl, rfl, _, rfl, ?_⟩
      refine' @both1G _ _ (fun G9 : Hp => Same H G9 ∧ ∃ (ks' : List Nat) (qn' : Nat), G9 D = some (.lst (vNs ks')) ∧ (∀ j ∈ ks', j ∈ giv i ws) ∧ (ks'.map (mA i ws)).sum + qn' * mA i ws k + (gv - mA i ws j) = g ∧ u = (ks'.map (dSh most i ws (some k) sh)).sum + (qn' : Int) * (dA most i ws k * sh) + (uv - dSh most i ws (some k) sh j)) (fun kk => ?A) ?B
      case A =>
        by_cases c : j = k
        · refine iteF' (by simp [c]) ?_
          have h0 := kk G ⟨sG, ks, qn + 1, hDG, hks, (by have ec : mA i ws j = mA i ws k := (by rw [c]); rw [Nat.succ_mul]; omega), by
            have et : dSh most i ws (some k) sh j = dA most i ws k * sh := by
              rw [c]
              unfold dSh toll
              simp
            rw [et, e2, Int.natCast_add, Int.add_mul]
            omega⟩
          revert h0
          generalize G = Gz
          intro h0
          exact h0
        · refine iteT' (by rw [decide_eq_false (fun z => c (by injection z with z; omega))]; rfl) ?_
          refine ⟨_, rfl, Or.inl ⟨rfl, _, SqL.of hDG⟩, _, rfl, x, C, dx, _, _, rfl, hxG, oc.cl, oc.nl, rfl, _, rfl, pl, _, _, _, rfl, rfl, hplG, atl, D, _, _, rfl, rfl, hDG, ?_, ?_⟩
          · have l1 := len_le_sum (l := ks.map (mA i ws)) fun v hv => by
              obtain ⟨t, ht, rfl⟩ := List.mem_map.mp hv
              exact giv_pos t (hks t ht)
            rw [List.length_map] at l1
            unfold vNs
            rw [List.length_map]
            exact Nat.lt_of_le_of_lt (show ks.length ≤ 5000 by omega) (by decide)
          · have evn : vNs ks ++ [V.int (j : Int)] = vNs (ks ++ [j]) := by
              unfold vNs
              rw [List.map_append]
              rfl
            rw [evn]
            have h0 := kk (upd G D (.lst (vNs (ks ++ [j])))) ⟨NF.Same.mut sG hD, ks ++ [j], qn, upd_same, fun t ht => (List.mem_append.mp ht).elim (hks t) fun z => by rw [List.mem_singleton.mp z]; exact hj, by rw [List.map_append, List.sum_append]; simp; omega, by rw [List.map_append, List.sum_append]; simp; omega⟩
            revert h0
            generalize upd G D (.lst (vNs (ks ++ [j]))) = Gz
            intro h0
            exact h0
      case B =>
        rintro G9 ⟨s9, ks', qn', hD9, hks', e1', e2'⟩
        have hx9 := s9 _ _ hx
        have hpl9 := SqL.of (K := K) (s9 _ _ hpl)
        obtain ⟨y, dr, m, _, aj, ro, hy1, hy2⟩ := round_at (ch.mono s9) jw
        refine ⟨_, rfl, _, rfl, x, C, dx, _, _, rfl, hx9, oc.cl, oc.nr, rfl, ?_⟩
        refine ⟨_, rfl, x, C, dx, _, _, rfl, hx9, oc.cl, oc.nl, rfl, _, rfl, pl, _, _, _, rfl, rfl, hpl9, atl, pr, _, _, _, rfl, rfl, SqL.of (s9 _ _ hr1), aj, y, CR, dr, _, _, rfl, hy1, rc.cl, rc.nm, rfl, m, _, rfl, .inr hy2, _, _, rfl, rfl, ?_⟩
        have eg : (gv : Int) - ((vI (ahead i (ws.getD j []) 0)).length : Int) = ((gv - mA i ws j : Nat) : Int) := by
          rw [vI_len]
          show (gv : Int) - (mA i ws j : Int) = _
          omega
        dsimp only
        rw [eg]
        exact ⟨gv - mA i ws j, by omega, s9, ks', (fun _ => 0), (fun _ => 0), qn', gv - mA i ws j, _, hD9, rfl, by omega, hprev, hks', e1', e2', rfl⟩
    · have h0 : gv = 0 := by
        by_cases z : gv = 0
        · exact z
        · exact absurd (decide_eq_true (by omega)) h
      subst h0
      rw [lk.zero] at huv
      have uv0 : (0 : Int) = uv := Option.some.inj huv
      refine ⟨_, rfl, D, _, rfl, .inl (SqL.of hDG), fun p G2 s2 t2 => ?_⟩
      exact q p ks qn G2 (Same.trans sG s2) t2 hks (by omega) (by rw [e2, ← uv0, Int.add_zero])
end
end K25
set_option Elab.async false
set_option linter.all false
set_option maxRecDepth 100000
set_option maxHeartbeats 4000000
namespace K25
open PySem PySem.Spec PyProof.Rows L2 He NF RZ NT
/-- few enough deeds -/
def Fewd (ws : List (List Deed)) : Prop := ws ≠ [] ∧ ws.length ≤ 4 ∧ ((∀ v ∈ ws, v.length ≤ 24) ∨ (ws.length = 1 ∧ ∀ v ∈ ws, v.length ≤ 600))
theorem Fewd.all {ws : List (List Deed)} (h : Fewd ws) : ∀ v ∈ ws, v.length ≤ 10000 := fun v hv => by
  rcases h.2.2 with z | ⟨_, z⟩ <;> have := z v hv <;> omega
/-- head, loop and rise of the table of the least, or the greatest -/
def spForm2 (K : PySem.W.Frag) (C CR : Addr) : Sp := fun vs H Q _ => ∃ (x : Addr) (most : Bool) (i : Nat) (b : List Deed) (ws : List (List Deed)) (sh : Int) (pt pl : Addr), vs = [.ref x] ∧ OutAt K C CR H x most i b ws sh pt pl ∧ Fewd ws ∧ b.length ≤ 600 ∧
  ∀ (p ph pq : Addr) (h l : List Int) (r : Int) (H' : Hp), Same (wo H x) H' → SqT K H' p [.ref ph, .ref pq, .int r] → Row K H' ph (vI h) → Row K H' pq (vI l) → Good h l r → h.length + l.length ≤ 3000 → r ≤ 10000 → (∀ n, 1 ≤ n → at_ h l r n = ext most i b ws n) → Q (.ref p) H'
theorem sc_Outlook_form : FnScope ["self", "head", "best", "lap", "longest", "lead", "values", "value", "number"] ["self"] (defScope s_Outlook_form) := ⟨rfl, rfl, rfl, by decide +kernel, rfl, by decide +kernel, by decide +kernel⟩
theorem bothL {X : Prop} {R : Nat → Prop} (P : Nat → Prop) (h1 : (∀ n, P n → R n) → X) (h2 : ∀ n, P n → R n) : X := h1 h2
theorem rou_ne {K : PySem.W.Frag} {C CR : Addr} {G : Hp} {y x : Addr} {i : Nat} {r : List Deed} {dx : Addr} {fl : List (Str × V)} (h : RouAt K CR G y i r) (hx : G x = some (.ins C dx fl)) (hf : fl.length ≠ 2) : y ≠ x := fun z => by
  obtain ⟨dy, m, h1, _⟩ := h
  rw [z, hx] at h1
  exact hf (congrArg List.length (HO.ins.inj (Option.some.inj h1)).2.2)
theorem RouAt.woX {K : PySem.W.Frag} {C CR : Addr} {G : Hp} {y x : Addr} {i : Nat} {r : List Deed} {dx : Addr} {fl : List (Str × V)} (h : RouAt K CR G y i r) (hx : G x = some (.ins C dx fl)) (hf : fl.length ≠ 2) : RouAt K CR (wo G x) y i r := by
  have ne := rou_ne h hx hf
  obtain ⟨dy, m, h1, h2⟩ := h
  exact ⟨dy, m, (wo_ne ne).trans h1, SqT.wo h2 hx trivial⟩
theorem stop_head {most : Bool} {i : Nat} {b : List Deed} {ws : List (List Deed)} (hs : stopT most i ws = true) (h0 : ws ≠ []) : Good (ahead i b 0) [] 0 ∧ ∀ n, 1 ≤ n → at_ (ahead i b 0) [] 0 n = ext most i b ws n := by
  refine ⟨⟨ahead_climbs (Int.le_refl 0), trivial, fun _ z => absurd rfl z, Int.le_refl _, fun _ => rfl, fun z => absurd rfl z⟩, fun n hn => ?_⟩
  unfold at_ ext
  by_cases c : n ≤ (ahead i b 0).length
  · rw [if_pos c, if_pos c]
  · rw [if_neg c, if_neg c, if_pos rfl, if_pos hs]
section
variable {P : Program} {w : World} {K : PySem.W.Frag} {mg : Str → Option Value} {base : Heap} {gs fs : List Str} {C CM CR : Addr}
theorem ok_Outlook_form {f : Addr} {fd : FuncData} (F : FunD K "form" "Outlook.form" (defArgs s_Outlook_form) (defBody s_Outlook_form) (defScope s_Outlook_form) [] [] f fd) (T : Txt K mg gs FS) (oc : OutC K C) (rc : RouC K CR) (o_stopping : MetC P w K mg base 1 C "stopping" (spStop K C CR)) (o_best_way : MetC P w K mg base 3 C "best_way" (spBestW K C CR)) (o_look : MetC P w K mg base 3 C "look" (spLook K C CR)) (o_values_up_to : MetC P w K mg base 3 C "values_up_to" (spVals K C CR)) : FnOk P w K mg base CX0 5 f fd ["self"] (spForm2 K C CR) := by
  refine F.ok sc_Outlook_form (fun vs H Q E h => ?_) (fun cdv A outer s H vs Q E hr h => ?_)
  · obtain ⟨x, most, i, b, ws, sh, pt, pl, rfl, _⟩ := h
    rfl
  · obtain ⟨x, most, i, b, ws, sh, pt0, pl0, rfl, oa, fw, hb6, q⟩ := h
    obtain ⟨dx, xb, pr, pg, hx, B0⟩ := id oa
    obtain ⟨hb, ⟨xs, hr1, ch⟩, hg⟩ := id B0
    obtain ⟨db, mb, hb1, hb2⟩ := id hb
    have bl := ahead_len (i := i) (a := b) (t := 0)
    refine ⟨_, PSs.nox (pss_cons (ps_set (i := 1) sc_Outlook_form.nd rfl (Or.inl rfl) (pe_callTy call_list_of rfl (T.fr _ (by decide +kernel)) (by decide +kernel) (pa_cons (pe_fld (pe_fld (pv 0) rfl) rfl) pa_nil))) (pss_cons (ps_if (pt_cmpR op_notN (pe_mt0 (pv 0) o_stopping hr (by decide)) pe_non (nomark _)) (pss_one (ps_ret (pe_tup (pa_cons (pv 1) (pa_cons (pe_tup pa_nil) (pa_cons pe_int pa_nil)))))) pss_nil) (pss_cons (ps_set (i := 2) sc_Outlook_form.nd rfl (Or.inl rfl) (pe_mt0 (pv 0) o_best_way hr (by decide))) (pss_cons (ps_set (i := 3) sc_Outlook_form.nd rfl (Or.inl rfl) (pe_callB call_len_seq rfl (T.fr _ (by decide +kernel)) boot_len (pa_cons (pe_fld (pv 2) rfl) pa_nil))) (pss_cons (ps_set (i := 4) sc_Outlook_form.nd rfl (Or.inl rfl) (pe_callB (cr_max rfl) rfl (T.fr _ (by decide +kernel)) (by decide +kernel) (pa_cons (pe_lc (own := [("number", 8)]) rfl sc_Outlook_form.nd (pi_list (pe_fld (pv 0) rfl)) (blkOk_by (N := ["self", "head", "best", "lap", "longest", "lead", "values", "value", "number"]) (sc := defScope s_Outlook_form) (by decide +kernel)) (fun _ _ _ _ _ => by exact (pg_name (i := 8) sc_Outlook_form.nd rfl (Or.inl rfl))) (fun _ _ _ _ _ => by exact pts_nil) (fun _ _ _ _ _ => by exact (pe_callB (call_lenK (K := K)) rfl (T.fr _ (by decide +kernel)) boot_len (pa_cons (pe_fldK (K := K) (pe_ix (ixl (K := K)) (pe_fldK (K := K) (pv 0) rfl) (pv 8) fun _ _ => rfl) rfl) pa_nil)))) pa_nil))) (pss_cons (ps_set (i := 5) sc_Outlook_form.nd rfl (Or.inl rfl) (pe_ifExp (pt_cmpR op_eq (pe_callB call_len_seq rfl (T.fr _ (by decide +kernel)) boot_len (pa_cons (pe_fld (pv 0) rfl) pa_nil)) pe_int (nomark _)) (pv 4) (pe_op op_mul (pv 3) (pv 4)))) (pss_cons (ps_expr (pe_mt (pv 0) o_look hr (by decide) (pa_cons (pe_op op_add (pv 5) (pv 3)) (pa_cons pe_non pa_nil)))) (pss_cons (ps_setLc (i := 6) (own := [("value", 7)]) rfl sc_Outlook_form.nd rfl rfl (sw_true rfl rfl rfl (by decide +kernel)) (pi_list (pe_mt (pv 0) o_values_up_to hr (by decide) (pa_cons (pe_op op_add (pv 5) (pv 3)) pa_nil))) (blkOk_by (N := ["self", "head", "best", "lap", "longest", "lead", "values", "value", "number"]) (sc := defScope s_Outlook_form) (by decide +kernel)) (fun _ _ _ _ _ => by exact (pg_name (i := 7) sc_Outlook_form.nd rfl (Or.inl rfl))) (fun _ _ _ _ _ => by exact pts_nil) (fun _ _ _ _ _ => by exact (pe_op op_add (pe_fldK (K := K) (pe_fldK (K := K) (pv 0) rfl) rfl) (pv 7)))) (pss_one (ps_ret (pe_tup (pa_cons (pe_op op_cat (pv 1) (pe_slice sl_list (pv 6) po_none (po_some (pv 5)))) (pa_cons (pe_slice sl_list (pv 6) (po_some (pv 5)) po_none) (pa_cons (pe_fld (pv 2) rfl) pa_nil)))))))))))))), ?_⟩
    refine ⟨_, rfl, x, C, dx, _, _, rfl, hx, oc.cl, oc.nb, rfl, xb, CR, db, _, _, rfl, hb1, rc.cl, rc.nm, rfl, mb, _, rfl, .inr hb2, fun L1 hL1 => ?_⟩
    have s1 := NF.Same.new (o := .lst (vI (ahead i b 0))) (Same.refl H) hL1
    have hl1 := upd_same (H := H) (a := L1) (o := .lst (vI (ahead i b 0)))
    generalize upd H L1 (.lst (vI (ahead i b 0))) = H1 at s1 hl1
    refine ⟨_, rfl, x, dx, _, rfl, s1 _ _ hx, rfl, ?_⟩
    refine ⟨x, most, i, b, ws, sh, pt0, pl0, rfl, oa.mono s1, fw.1, fun o H2 s2 o1 o2 => ⟨?_, _, rfl, ?_⟩⟩
    · rfl
    have s02 := Same.trans s1 s2
    have hl2 := s2 _ _ hl1
    cases o with
    | some k =>
      obtain ⟨hs, _, _⟩ := o2 k rfl
      obtain ⟨gd, ha⟩ := stop_head (b := b) hs fw.1
      refine iteT' rfl ?_
      refine ⟨_, rfl, (by show 0 ≤ sizeLine; decide), fun e1 he1 => ?_⟩
      have t1 := NF.Same.new (o := .tup []) (Same.refl H2) he1
      have he1' := upd_same (H := H2) (a := e1) (o := .tup [])
      generalize upd H2 e1 (.tup []) = H3 at t1 he1'
      refine ⟨(by show 3 ≤ sizeLine; decide), fun p hp => ?_⟩
      have t2 := NF.Same.new (o := .tup [V.ref L1, V.ref e1, V.int 0]) (Same.refl H3) hp
      refine q p L1 e1 (ahead i b 0) [] 0 _ (Same.trans (Same.trans wo_same' s02) (Same.trans t1 t2)) (SqT.of upd_same) (.inl (SqL.of (t2 _ _ (t1 _ _ hl2)))) (.inr (NF.Same.tup t2 (SqT.of he1'))) gd (by show _ + 0 ≤ _; omega) (by decide) ha
    | none =>
      have hs := o1 rfl
      have hgne : giv i ws ≠ [] := by
        obtain ⟨k, hk⟩ := some_gives fw.1 hs
        exact fun z => by rw [z] at hk; cases hk
      refine iteF' rfl ?_
      refine ⟨_, rfl, x, dx, _, rfl, s02 _ _ hx, rfl, ?_⟩
      refine ⟨x, most, i, b, ws, sh, pt0, pl0, rfl, oa.mono s02, hgne, fw.all, fun kb y H3 hbest s3 ro => ?_⟩
      have s03 := Same.trans s02 s3
      have hl3 := s3 _ _ hl2
      obtain ⟨dr, m, hy1, hy2⟩ := id ro
      have lenb : ((vI (ahead i (ws.getD kb []) 0)).length : Int) = (mA i ws kb : Int) := by rw [vI_len]; rfl
      refine ⟨_, rfl, y, CR, dr, _, _, rfl, hy1, rc.cl, rc.nm, rfl, m, _, rfl, .inr hy2, ?_⟩
      rw [lenb]
      -- the longest
      have hx3 := s03 _ _ hx
      have hg3 := s03 _ _ hg
      refine ⟨_, rfl, x, C, dx, _, _, rfl, hx3, oc.cl, oc.ng, rfl, pg, rfl, ⟨_, SqL.of hg3⟩, fun D hD => ?_⟩
      refine lc_list (xs := vNs (giv i ws)) (fun j G => Same H3 G ∧ G D = some (.lst ((((giv i ws).take j).map fun k => (mA i ws k : Int)).map V.int))) ⟨NF.Same.new (Same.refl H3) hD, upd_same⟩ (fun j G _ z => SqL.of (z.1 _ _ hg3)) ?_ ?_
      · rintro j v G hv ⟨sG, hG⟩
        have hj := (List.getElem?_eq_some_iff.mp hv).1
        rw [show (vNs (giv i ws)).length = (giv i ws).length from List.length_map ..] at hj
        rw [at_nat hj] at hv
        obtain rfl := Option.some.inj hv
        obtain ⟨k, hkd⟩ : ∃ k, k = (giv i ws)[j] := ⟨_, rfl⟩
        have ek : (giv i ws)[j]? = some k := by rw [List.getElem?_eq_getElem hj, hkd]
        rw [← hkd]
        obtain ⟨kw, k1⟩ := giv_mem.mp (List.mem_of_getElem? ek)
        obtain ⟨y2, dr2, m2, _, ak, ro2, hz1, hz2⟩ := round_at (ch.mono (Same.trans s03 sG)) kw
        refine ⟨rfl, _, rfl, x, C, dx, _, _, rfl, sG _ _ hx3, oc.cl, oc.nr, rfl, _, rfl, pr, _, _, _, rfl, rfl, SqL.of (sG _ _ (s03 _ _ hr1)), ak, y2, CR, dr2, _, _, rfl, hz1, rc.cl, rc.nm, rfl, m2, _, rfl, .inr hz2, ?_⟩
        rw [vI_len]
        refine ⟨_, hG, ?_, NF.Same.mut sG hD, ?_⟩
        · rw [List.length_map, List.length_map, List.length_take]
          have : (giv i ws).length ≤ ws.length := by
            unfold giv
            exact Nat.le_trans (List.length_filter_le _ _) (by rw [List.length_range]; exact Nat.le_refl _)
          have := fw.2.1
          exact Nat.lt_of_le_of_lt (show min j (giv i ws).length ≤ 10 by omega) (by decide)
        · rw [upd_same, List.take_add_one, ek, List.map_append, List.map_append]
          rfl
      · rintro G4 ⟨s4, hD4⟩
        rw [show (vNs (giv i ws)).length = (giv i ws).length from List.length_map .., List.take_length] at hD4
        have s04 := Same.trans s03 s4
        have hx4 := s4 _ _ hx3
        have hg4 := s4 _ _ hg3
        have hl4 := s4 _ _ hl3
        refine ⟨D, (giv i ws).map (fun k => (mA i ws k : Int)), rfl, SqL.of hD4, by rw [List.length_map]; exact List.length_pos_iff.mpr hgne, fun mx hmx hall => ?_⟩
        obtain ⟨k0, hk0, rfl⟩ := List.mem_map.mp hmx
        have hM : ∀ k ∈ giv i ws, mA i ws k ≤ mA i ws k0 := fun k hk => by
          have := hall _ (List.mem_map.mpr ⟨k, hk, rfl⟩)
          omega
        have gl : (giv i ws).length ≤ ws.length := by
          unfold giv
          exact Nat.le_trans (List.length_filter_le _ _) (by rw [List.length_range]; exact Nat.le_refl _)
        refine ⟨_, rfl, x, C, dx, _, _, rfl, hx4, oc.cl, oc.ng, rfl, pg, _, rfl, .inl (SqL.of hg4), rfl, _, rfl, ?_⟩
        have lg : (vNs (giv i ws)).length = (giv i ws).length := List.length_map ..
        rw [lg]
        refine' @bothL _ _ (fun lead : Nat => (mA i ws kb * mA i ws k0 ≤ lead ∨ ((∀ k ∈ giv i ws, k = kb) ∧ mA i ws kb ≤ lead)) ∧ lead + mA i ws kb ≤ 1200) (fun kk => ?A) ?B
        case A =>
          by_cases c : ¬ (giv i ws).length = 1
          · refine iteF' (decide_eq_false fun z => c (by injection z with z; omega)) ?_
            have g2 := List.length_pos_iff.mpr hgne
            have h24 : ∀ k, mA i ws k ≤ 24 := fun k => mA_le (by
              rcases fw.2.2 with z | ⟨z, _⟩
              · exact z
              · omega)
            refine ⟨_, rfl, _, rfl, _, _, rfl, rfl, .inl ?_, ?_⟩
            · have := h24 kb
              constructor <;> omega
            have e : (mA i ws kb : Int) * (mA i ws k0 : Int) = ((mA i ws kb * mA i ws k0 : Nat) : Int) := (Int.natCast_mul _ _).symm
            dsimp only
            rw [e]
            have h0 := kk (mA i ws kb * mA i ws k0) ⟨.inl (Nat.le_refl _), by
              have := Nat.mul_le_mul (h24 kb) (h24 k0)
              have := h24 kb
              omega⟩
            revert h0
            generalize mA i ws kb * mA i ws k0 = z
            intro h0
            exact h0
          · have c := Decidable.of_not_not c
            refine iteT' (decide_eq_true (by rw [c]; rfl)) ?_
            refine ⟨_, rfl, ?_⟩
            have hone : ∀ k ∈ giv i ws, k = kb := fun k hk => by
              obtain ⟨z, hz⟩ := List.length_eq_one_iff.mp c
              rw [hz] at hk
              have hb' := hbest.1
              rw [hz] at hb'
              rw [List.mem_singleton.mp hk, List.mem_singleton.mp hb']
            have h600 : ∀ k, mA i ws k ≤ 600 := fun k => mA_le fun v hv => by
              rcases fw.2.2 with z | ⟨_, z⟩ <;> have := z v hv <;> omega
            have h0 := kk (mA i ws k0) ⟨.inr ⟨hone, hM kb hbest.1⟩, by have := h600 k0; have := h600 kb; omega⟩
            exact h0
        case B =>
          rintro lead hlead'
          have hlead : (mA i ws kb * mA i ws k0 ≤ lead ∨ ((∀ k ∈ giv i ws, k = kb) ∧ mA i ws kb ≤ lead)) ∧ True := ⟨hlead'.1, trivial⟩
          have hsz := hlead'.2
          have e2 : (lead : Int) + (mA i ws kb : Int) = ((lead + mA i ws kb : Nat) : Int) := by omega
          have L1x : L1 ≠ x := fun z => by rw [z, hx4] at hl4; cases hl4
          have rox : RouAt K CR (wo G4 x) y i (ws.getD kb []) := RouAt.woX (ro.mono s4) hx4 (show 7 ≠ 2 by decide)
          have hlx : (wo G4 x) L1 = some (.lst (vI (ahead i b 0))) := (wo_ne L1x).trans hl4
          have s04x : Same (wo H x) (wo G4 x) := fun a o e => by
            by_cases z : a = x
            · rw [z, wo_none] at e; cases e
            · rw [wo_ne z] at e ⊢
              exact s04 _ _ e
          refine ⟨_, rfl, x, dx, _, rfl, hx4, rfl, ?_⟩
          refine ⟨_, rfl, _, rfl, _, _, rfl, rfl, ?_⟩
          refine ⟨x, most, i, b, ws, sh, pt0, pl0, lead + mA i ws kb, none, by show [V.ref x, V.int ((lead : Int) + (mA i ws kb : Int)), V.non] = _; rw [e2]; rfl, oa.mono s04, by omega, fw.2.1, fun H5 U L pt pl s5 oa5 hpt hpl lk => ?_⟩
          have rox := rox.mono s5
          have hl5 := s5 _ _ hlx
          have s05 := Same.trans s04x s5
          obtain ⟨dx5, xb5, pr5, pg5, hx5, B5⟩ := id oa5
          refine ⟨_, rfl, x, dx5, _, rfl, hx5, rfl, ?_⟩
          refine ⟨_, rfl, _, rfl, _, _, rfl, rfl, ?_⟩
          refine ⟨x, most, i, b, ws, pt, pl, lead + mA i ws kb, U, L, by show [V.ref x, V.int ((lead : Int) + (mA i ws kb : Int))] = _; rw [e2], oa5, hpt, lk, hgne, by omega, fun p H6 s6 hp6 => ?_⟩
          refine ⟨p, rfl, ⟨_, SqL.of hp6⟩, fun D2 hD2 => ?_⟩
          have hx6 := s6 _ _ hx5
          obtain ⟨db6, mb6, hb6', _⟩ := (B5.mono s6).1
          refine lc_list (xs := vI ((List.range (lead + mA i ws kb)).map fun j => sg most * best most i ws (j + 1))) (fun j G => Same H6 G ∧ G D2 = some (.lst (vI (vls most i b ws j)))) ⟨NF.Same.new (Same.refl H6) hD2, upd_same⟩ (fun j G _ z => SqL.of (z.1 _ _ hp6)) ?_ ?_
          · rintro j v G hv ⟨sG, hG⟩
            have hj := (List.getElem?_eq_some_iff.mp hv).1
            rw [vI_len, List.length_map, List.length_range] at hj
            unfold vI at hv
            rw [List.getElem?_map, List.getElem?_map, List.getElem?_range hj] at hv
            obtain rfl : V.int (sg most * best most i ws (j + 1)) = v := Option.some.inj hv
            refine ⟨rfl, _, rfl, x, C, dx5, _, _, rfl, sG _ _ hx6, oc.cl, oc.nb, rfl, xb5, CR, db6, _, _, rfl, sG _ _ hb6', rc.cl, rc.nt, rfl, _, rfl, _, _, rfl, rfl, ?_⟩
            refine ⟨_, hG, by rw [vI_len, vls_len]; exact Nat.lt_of_lt_of_le (show j < 10000 by omega) (by decide), NF.Same.mut sG hD2, ?_⟩
            unfold vls
            rw [upd_same, List.range_succ, List.map_append, ← vI_app]
            rfl
          · rintro G7 ⟨s7, hD7⟩
            rw [vI_len, List.length_map, List.length_range] at hD7
            have s57 := Same.trans s6 s7
            have hl7 := s57 _ _ hl5
            have ro7 := rox.mono s57
            obtain ⟨dr7, m7, hy7, hy7'⟩ := id ro7
            -- cut and told
            refine ⟨_, rfl, _, rfl, _, rfl, _, rfl, D2, _, rfl, SqL.of hD7, fun c1 hc1 => ?_⟩
            rw [cut_to, vI_take]
            have t1 := NF.Same.new (o := .lst (vI ((vls most i b ws (lead + mA i ws kb)).take lead))) (Same.refl G7) hc1
            have hc1' := upd_same (H := G7) (a := c1) (o := .lst (vI ((vls most i b ws (lead + mA i ws kb)).take lead)))
            generalize upd G7 c1 (.lst (vI ((vls most i b ws (lead + mA i ws kb)).take lead))) = G8 at t1 hc1'
            refine ⟨L1, c1, _, _, rfl, rfl, t1 _ _ hl7, hc1', ?_, fun c2 hc2 => ?_⟩
            · rw [vI_len, vI_len, List.length_take, vls_len]
              exact Nat.le_trans (show (ahead i b 0).length + min lead (lead + mA i ws kb) ≤ 10000 by omega) (by decide)
            rw [vI_app]
            have t2 := NF.Same.new (o := .lst (vI (ahead i b 0 ++ (vls most i b ws (lead + mA i ws kb)).take lead))) t1 hc2
            have hc2' := upd_same (H := G8) (a := c2) (o := .lst (vI (ahead i b 0 ++ (vls most i b ws (lead + mA i ws kb)).take lead)))
            generalize upd G8 c2 (.lst (vI (ahead i b 0 ++ (vls most i b ws (lead + mA i ws kb)).take lead))) = G9 at t2 hc2'
            refine ⟨_, rfl, _, rfl, _, rfl, D2, _, rfl, SqL.of (t2 _ _ hD7), fun c3 hc3 => ?_⟩
            rw [cut_from, vI_drop]
            have t3 := NF.Same.new (o := .lst (vI ((vls most i b ws (lead + mA i ws kb)).drop lead))) (Same.refl G9) hc3
            have hc3' := upd_same (H := G9) (a := c3) (o := .lst (vI ((vls most i b ws (lead + mA i ws kb)).drop lead)))
            generalize upd G9 c3 (.lst (vI ((vls most i b ws (lead + mA i ws kb)).drop lead))) = GA at t3 hc3'
            have t23 := Same.trans t2 t3
            refine ⟨_, rfl, y, CR, dr7, _, _, rfl, t23 _ _ hy7, rc.cl, rc.nt, rfl, (by show 3 ≤ sizeLine; decide), fun p2 hp2 => ?_⟩
            have t4 := NF.Same.new (o := .tup [V.ref c2, V.ref c3, V.int (took i (ws.getD kb []) : Int)]) (Same.refl GA) hp2
            obtain ⟨gd, ha⟩ := ext_form (b := b) fw.1 hs hbest hM hlead.1
            obtain ⟨c1e, c2e⟩ := ext_cut (b := b) hs (lead := lead) (lap := mA i ws kb)
            rw [c1e, c2e] at gd ha
            refine q p2 c2 c3 _ _ _ _ (Same.trans s05 (Same.trans s57 (Same.trans t23 t4))) (SqT.of upd_same) (.inl (SqL.of (t4 _ _ (t3 _ _ hc2')))) (.inl (SqL.of (t4 _ _ hc3'))) gd ?_ ?_ ha
            · rw [List.length_append, List.length_take, List.length_drop, vls_len]
              omega
            · have z1 := took_len (i := i) (a := ws.getD kb [])
              have z2 : (ws.getD kb []).length ≤ 10000 := by
                rw [List.getD_eq_getElem?_getD]
                cases e : ws[kb]? with
                | none => exact Nat.zero_le _
                | some v => exact fw.all v (List.mem_of_getElem? e)
              omega
end
end K25
set_option Elab.async false
set_option linter.all false
set_option maxRecDepth 100000
set_option maxHeartbeats 4000000
namespace K25
open PySem PySem.Spec PyProof.Rows L2 He NF
section
variable {P : Program} {w : World} {K : PySem.W.Frag} {mg : Str → Option Value} {base : Heap}
theorem sc__law_pick : FnScope ["_law_source_here", "_law_many", "_law_value", "_law_digit"] ["_law_source_here", "_law_many"] (defScope s__law_pick) := ⟨rfl, rfl, rfl, by decide +kernel, rfl, by decide +kernel, by decide +kernel⟩
theorem ok_pick {f : Addr} {fd : FuncData} {gs fs : List Str} (F : FunD K "_law_pick" "_law_pick" (defArgs s__law_pick) (defBody s__law_pick) (defScope s__law_pick) [] [] f fd) (T : Txt K mg gs fs) (hi : ("int" : Str) ∈ fs) : FnOk P w K mg base CX0 1 f fd ["_law_source_here", "_law_many"] spPick := by
  refine F.ok sc__law_pick (fun vs H Q E h => ?_) (fun cdv A outer s H vs Q E hr h => ?_)
  · obtain ⟨H0, p, m, rfl, _⟩ := h
    rfl
  · obtain ⟨H0, p, m, rfl, hS, h0, ⟨a, sd, c, hp⟩, m0, m1, k⟩ := h
    refine ⟨_, PSs.nox (pss_cons (ps_if (pt_cmpR op_gt (pe_ix ix_list (pv 0) pe_int fun _ _ => rfl) pe_int (nomark _)) (pss_cons (ps_set (i := 3) sc__law_pick.nd rfl (Or.inl rfl) (pe_op op_mod (pe_callTy call_int1 rfl (T.fr _ hi) (by decide +kernel) (pa_cons (pe_ix ix_list (pv 0) pe_int fun _ _ => rfl) pa_nil)) (pv 1))) (pss_cons (ps_asg (pe_op op_fdiv (pe_ix ix_list (pv 0) pe_int fun _ _ => rfl) (pv 1)) (pg_sub (pv 0) pe_int set_list)) (pss_one (ps_ret (pv 3))))) pss_nil) (pss_cons (ps_asg (pe_op op_add (pe_ix ix_list (pv 0) pe_int fun _ _ => rfl) pe_int) (pg_sub (pv 0) pe_int set_list)) (pss_cons (ps_set (i := 2) sc__law_pick.nd rfl (Or.inl rfl) (pe_op op_mod (pe_callTy call_int1 rfl (T.fr _ hi) (by decide +kernel) (pa_cons (pe_op op_mul (pe_op op_add (pe_ix ix_list (pv 0) pe_int fun _ _ => rfl) (pe_op op_mul pe_int (pe_ix ix_list (pv 0) pe_int fun _ _ => rfl))) pe_int) pa_nil)) pe_int)) (pss_cons (ps_set (i := 2) sc__law_pick.nd rfl (Or.inl rfl) (pe_op op_mod (pe_callTy call_int1 rfl (T.fr _ hi) (by decide +kernel) (pa_cons (pe_op op_add (pe_op op_add (pe_op op_mul (pv 2) (pv 2)) (pe_op op_mul pe_int (pe_ix ix_list (pv 0) pe_int fun _ _ => rfl))) (pe_ix ix_list (pv 0) pe_int fun _ _ => rfl)) pa_nil)) pe_int)) (pss_cons (ps_set (i := 2) sc__law_pick.nd rfl (Or.inl rfl) (pe_op op_mod (pe_callTy call_int1 rfl (T.fr _ hi) (by decide +kernel) (pa_cons (pe_op op_add (pe_op op_mul (pv 2) pe_int) pe_int) pa_nil)) pe_int)) (pss_cons (ps_set (i := 2) sc__law_pick.nd rfl (Or.inl rfl) (pe_op op_mod (pe_callTy call_int1 rfl (T.fr _ hi) (by decide +kernel) (pa_cons (pe_op op_add (pe_op op_mul (pv 2) (pv 2)) (pv 2)) pa_nil)) pe_int)) (pss_one (ps_ret (pe_op op_mod (pe_callTy call_int1 rfl (T.fr _ hi) (by decide +kernel) (pa_cons (pe_op op_fdiv (pv 2) pe_int) pa_nil)) (pv 1)))))))))), ?_⟩
    refine ⟨_, rfl, p, _, _, _, rfl, rfl, SqL.of hp, at0, _, _, rfl, rfl, _, rfl, ?_⟩
    refine ite2 (fun _ => ?_) (fun _ => ?_)
    · refine ⟨_, rfl, p, _, _, _, rfl, rfl, SqL.of hp, at0, Or.inl ⟨_, rfl, _, rfl, _, _, rfl, rfl, m0, ?_⟩⟩
      refine ⟨_, rfl, p, _, _, _, rfl, rfl, SqL.of hp, at0, _, rfl, _, _, rfl, rfl, ⟨m0, m1⟩, ?_⟩
      refine ⟨_, rfl, p, _, _, 0, rfl, rfl, hp, rfl, ?_⟩
      refine ⟨_, rfl, k _ _ (Int.emod_nonneg _ (by omega)) (Int.emod_lt_of_pos _ m0) (NF.Same.put hS h0) ⟨_, _, _, upd_same⟩⟩
    · refine ⟨_, rfl, p, _, _, _, rfl, rfl, SqL.of hp, at2, _, _, rfl, rfl, ?_⟩
      refine ⟨_, rfl, p, _, _, 2, rfl, rfl, hp, rfl, ?_⟩
      have hp' : upd H p (.lst [.int a, .int sd, .int (c + 1)]) p = some (.lst [.int a, .int sd, .int (c + 1)]) := upd_same
      refine ⟨_, rfl, p, _, _, _, rfl, rfl, SqL.of hp', at1, ?_⟩
      refine ⟨_, rfl, p, _, _, _, rfl, rfl, SqL.of hp', at2, _, _, rfl, rfl, Or.inl (by decide), _, _, rfl, rfl, ?_⟩
      refine ⟨_, _, rfl, rfl, Or.inr (by decide), Or.inl ⟨_, rfl, _, _, rfl, rfl, (by first | exact (by decide : (0 : Int) < 2147483647) | exact (by decide : (0 : Int) < 2147483629) | exact (by decide : (0 : Int) < 2147483587)), ?_⟩⟩
      generalize hx : (sd + 104729 * (c + 1)) * 48271 % 2147483647 = x
      have x0 : 0 ≤ x ∧ x < 2147483647 := by omega
      refine ⟨_, rfl, _, rfl, _, _, rfl, rfl, Or.inl (by omega), ?_⟩
      refine ⟨_, rfl, p, _, _, _, rfl, rfl, SqL.of hp', at2, _, _, rfl, rfl, Or.inl (by decide), _, _, rfl, rfl, ?_⟩
      refine ⟨_, rfl, p, _, _, _, rfl, rfl, SqL.of hp', at1, _, _, rfl, rfl, Or.inl ⟨_, rfl, _, _, rfl, rfl, (by first | exact (by decide : (0 : Int) < 2147483647) | exact (by decide : (0 : Int) < 2147483629) | exact (by decide : (0 : Int) < 2147483587)), ?_⟩⟩
      generalize hy : (x * x + 7 * (c + 1) + sd) % 2147483629 = y
      have y0 : 0 ≤ y ∧ y < 2147483629 := by omega
      refine ⟨_, rfl, _, _, rfl, rfl, Or.inl (by omega), _, _, rfl, rfl, Or.inl ⟨_, rfl, _, _, rfl, rfl, (by first | exact (by decide : (0 : Int) < 2147483647) | exact (by decide : (0 : Int) < 2147483629) | exact (by decide : (0 : Int) < 2147483587)), ?_⟩⟩
      generalize hz : (y * 69621 + 5) % 2147483647 = z
      have z0 : 0 ≤ z ∧ z < 2147483647 := by omega
      refine ⟨_, rfl, _, rfl, _, _, rfl, rfl, Or.inl (by omega), ?_⟩
      refine ⟨_, rfl, _, _, rfl, rfl, Or.inl ⟨_, rfl, _, _, rfl, rfl, (by first | exact (by decide : (0 : Int) < 2147483647) | exact (by decide : (0 : Int) < 2147483629) | exact (by decide : (0 : Int) < 2147483587)), ?_⟩⟩
      refine ⟨_, rfl, _, _, rfl, rfl, ⟨by decide, by decide⟩, Or.inl ⟨_, rfl, _, rfl, _, _, rfl, rfl, m0, ?_⟩⟩
      exact k _ _ (Int.emod_nonneg _ (by omega)) (Int.emod_lt_of_pos _ m0) (NF.Same.put hS h0) ⟨_, _, _, hp'⟩
end
end K25
set_option Elab.async false
set_option linter.all false
set_option maxRecDepth 100000
set_option maxHeartbeats 4000000
namespace K25
open PySem PySem.Spec PyProof.Rows L2 He NF
theorem sc__law_source : FnScope ["_law_script", "_law_place", "_law_cell", "_law_seed", "_law_one", "_law_number"] ["_law_script", "_law_place"] (defScope s__law_source) := ⟨rfl, rfl, rfl, by decide +kernel, rfl, by decide +kernel, by decide +kernel⟩
theorem natAbs_bits {x : Int} {n : Nat} (h : x.natAbs < 2 ^ n) : Builtin.Int.intBits x ≤ n := by
  unfold Builtin.Int.intBits
  by_cases e : x = 0
  · rw [if_pos (by rw [e]; rfl)]
    exact Nat.zero_le _
  · rw [if_neg (by simpa using e)]
    exact (Nat.log2_lt (by omega)).mpr h
theorem bits_le {x y : Int} (h : x.natAbs ≤ y.natAbs) : Builtin.Int.intBits x ≤ Builtin.Int.intBits y := by
  refine natAbs_bits (Nat.lt_of_le_of_lt h ?_)
  unfold Builtin.Int.intBits
  by_cases e : y = 0
  · rw [if_pos (by rw [e]; rfl), e]
    decide
  · rw [if_neg (by simpa using e)]
    exact Nat.lt_log2_self
theorem bits_small {x : Int} (h0 : 0 ≤ x) (h : x < 1000000) : Builtin.Int.intBits x ≤ 1048576 := Nat.le_trans (natAbs_bits (n := 20) (by omega)) (by decide)
section
variable {P : Program} {w : World} {K : PySem.W.Frag} {mg : Str → Option Value} {base : Heap}
theorem ok_source {f : Addr} {fd : FuncData} {gs fs : List Str} (F : FunD K "_law_source" "_law_source" (defArgs s__law_source) (defBody s__law_source) (defScope s__law_source) [] [] f fd) (T : Txt K mg gs fs) (hl : ("len" : Str) ∈ fs) (hi : ("int" : Str) ∈ fs) (ha : ("abs" : Str) ∈ fs) : FnOk P w K mg base CX0 1 f fd ["_law_script", "_law_place"] (spSource K) := by
  refine F.ok sc__law_source (fun vs H Q E h => ?_) (fun cdv A outer s H vs Q E hr h => ?_)
  · obtain ⟨l, ns, i, rfl, _⟩ := h
    rfl
  · obtain ⟨l, ns, i, rfl, hS, hn, hb, hi', k⟩ := h
    refine ⟨_, PSs.nox (pss_cons (ps_set (i := 2) sc__law_source.nd rfl (Or.inl rfl) (pe_ifExp (pt_cmpR op_lt (pv 1) (pe_callB call_len_seq rfl (T.fr _ hl) boot_len (pa_cons (pv 0) pa_nil)) (nomark _)) (pe_ix ix_list (pv 0) (pv 1) fun _ _ => rfl) (pe_op op_add (pe_op op_mul pe_int (pv 1)) pe_int))) (pss_cons (ps_set (i := 3) sc__law_source.nd rfl (Or.inl rfl) (pe_op op_mod (pe_callTy call_int1 rfl (T.fr _ hi) (by decide +kernel) (pa_cons (pe_op op_add (pe_op op_mod (pe_callTy call_int1 rfl (T.fr _ hi) (by decide +kernel) (pa_cons (pv 2) pa_nil)) pe_int) (pe_op op_mul pe_int (pv 1))) pa_nil)) pe_int)) (pss_cons (ps_for PassesOwn.never rfl (pi_list (pe_slice sl_list (pv 0) po_none (po_some pe_int))) (pg_name (i := 4) sc__law_source.nd rfl (Or.inl rfl)) (pss_one (ps_set (i := 3) sc__law_source.nd rfl (Or.inl rfl) (pe_op op_mod (pe_callTy call_int1 rfl (T.fr _ hi) (by decide +kernel) (pa_cons (pe_op op_add (pe_op op_mul (pv 3) pe_int) (pe_op op_mod (pe_callTy call_int1 rfl (T.fr _ hi) (by decide +kernel) (pa_cons (pv 4) pa_nil)) pe_int)) pa_nil)) pe_int)))) (pss_cons (ps_set (i := 5) sc__law_source.nd rfl (Or.inl rfl) (pe_callB call_abs rfl (T.fr _ ha) (by decide +kernel) (pa_cons (pv 2) pa_nil))) (pss_cons (ps_if (pt_cmpR op_lt (pv 5) (pe_op op_pow pe_int pe_int) (nomark _)) (pss_one (ps_ret (pe_lst (pa_cons pe_int (pa_cons (pv 3) (pa_cons pe_int pa_nil)))))) pss_nil) (pss_cons (ps_if (pt_cmpR op_gt (pe_op op_shr (pv 5) pe_int) pe_int (nomark _)) (pss_one (ps_set (i := 5) sc__law_source.nd rfl (Or.inl rfl) (pe_op op_sub (pv 5) (pe_op op_shlW (pe_op op_shr (pv 5) pe_int) pe_int)))) pss_nil) (pss_one (ps_ret (pe_lst (pa_cons (pv 5) (pa_cons (pv 3) (pa_cons pe_int pa_nil)))))))))))), ?_⟩
    -- the cell: what stands at the place, or a number by the place
    have hcell : ∀ (Q1 : VK), (∀ c : Int, Builtin.Int.intBits c ≤ 1048576 → Q1 (.int c) H) →
        (if decide ((i : Int) < ((ns.map V.int).length : Int)) = true then tOp (rIxL K) (tVar 0) (tVar 1) (start ["_law_script", "_law_place", "_law_cell", "_law_seed", "_law_one", "_law_number"] [.ref l, .int (i : Int)]) H Q1
          else tOp (rI0 fun i j => .int (i + j)) (tOp (rI CMul fun i j => .int (i * j)) (tC (.int 3)) (tVar 1)) (tC (.int 1)) (start ["_law_script", "_law_place", "_law_cell", "_law_seed", "_law_one", "_law_number"] [.ref l, .int (i : Int)]) H Q1) := by
      intro Q1 q
      rw [List.length_map]
      by_cases hlt : i < ns.length
      · rw [decide_eq_true (show (i : Int) < (ns.length : Int) by omega), if_pos rfl]
        have e : (ns.map V.int)[i]? = some (V.int ns[i]) := by rw [List.getElem?_map, List.getElem?_eq_getElem hlt] <;> rfl
        exact ⟨_, rfl, _, rfl, l, _, _, _, rfl, rfl, hS, atI_nat e, q _ (hb _ (List.getElem_mem hlt))⟩
      · rw [decide_eq_false (show ¬ (i : Int) < (ns.length : Int) by omega), if_neg Bool.false_ne_true]
        refine ⟨_, rfl, _, _, rfl, rfl, Or.inl (by decide), _, _, rfl, rfl, q _ ?_⟩
        exact bits_small (by omega) (by omega)
    refine ⟨_, rfl, _, rfl, l, _, rfl, Or.inl hS, _, _, rfl, rfl, _, rfl, hcell _ fun c hc => ?_⟩
    refine ⟨_, rfl, Or.inl ⟨_, rfl, _, _, rfl, rfl, (by exact (by decide : (0 : Int) < 2147483629)), ?_⟩⟩
    refine ⟨_, rfl, _, _, rfl, rfl, Or.inl (by decide), _, _, rfl, rfl, Or.inl ⟨_, rfl, _, _, rfl, rfl, (by exact (by decide : (0 : Int) < 2147483629)), ?_⟩⟩
    refine ⟨_, rfl, _, rfl, l, _, rfl, hS, fun p hp => ⟨p, rfl, ⟨_, SqL.of upd_same⟩, ?_⟩⟩
    have hpl : H p = none := hp
    obtain ⟨cs, hcs⟩ : ∃ cs : List Int, cutV (ns.map V.int) none (some 2) = cs.map V.int := ⟨(ns.drop (HT.sIx (ns.map V.int).length 0 none)).take (HT.sIx (ns.map V.int).length (ns.map V.int).length (some 2) - HT.sIx (ns.map V.int).length 0 none), by unfold cutV; rw [List.map_take, List.map_drop]⟩
    refine for_list (K := K) (a := p) (xs := cs.map V.int) (fun j σ H' => H' = upd H p (.lst (cs.map V.int)) ∧ ∃ (sd : Int) (v : Option V), σ = [some (.ref l), some (.int (i : Int)), some (.int c), some (.int sd), v, none])
      ⟨by rw [hcs], _, _, rfl⟩ (fun j σ H' _ z => by rw [z.1]; exact SqL.of upd_same) ?_ ?_
    · rintro j y σ H' hj ⟨rfl, sd, v, rfl⟩
      obtain ⟨z, rfl⟩ : ∃ z, y = V.int z := by
        rw [List.getElem?_map] at hj
        cases e : cs[j]? with
        | none =>
          rw [e] at hj
          cases hj
        | some z =>
          rw [e] at hj
          exact ⟨z, (Option.some.inj hj).symm⟩
      refine ⟨_, rfl, _, _, rfl, rfl, Or.inr (by decide), _, rfl, Or.inl ⟨_, rfl, _, _, rfl, rfl, (by exact (by decide : (0 : Int) < 1000003)), ?_⟩⟩
      refine ⟨_, _, rfl, rfl, Or.inl ⟨_, rfl, _, _, rfl, rfl, (by exact (by decide : (0 : Int) < 2147483629)), ?_⟩⟩
      exact ⟨rfl, _, _, rfl⟩
    · rintro σ H' ⟨rfl, sd, v, rfl⟩
      have hS1 : Same H (upd H p (.lst (cs.map V.int))) := NF.Same.new (Same.refl H) hp
      have hend : ∀ (a sd : Int) (q : Addr), upd H p (.lst (cs.map V.int)) q = none → Q (.ref q) (upd (upd H p (.lst (cs.map V.int))) q (.lst [.int a, .int sd, .int 0])) := fun a sd q hq =>
        k q _ (NF.Same.new hS1 hq) (L2.Same.free hS1 hq) ⟨_, _, _, upd_same⟩
      refine ⟨_, rfl, _, rfl, ?_⟩
      have hab : Builtin.Int.intBits (if c < 0 then -c else c) ≤ 1048576 := Nat.le_trans (bits_le (by split <;> omega)) hc
      generalize hm : (if c < 0 then -c else c) = m at hab ⊢
      have m0 : 0 ≤ m := by rw [← hm]; split <;> omega
      refine ⟨_, rfl, _, _, rfl, rfl, ⟨by decide, by decide, by decide⟩, _, _, rfl, rfl, _, rfl, ?_⟩
      refine ite2 (fun _ => ?_) (fun _ => ?_)
      · exact ⟨_, rfl, (by show 3 ≤ sizeLine; decide), fun q hq => hend _ _ q hq⟩
      · refine ⟨_, rfl, _, _, rfl, rfl, (by exact (by decide : (0 : Int) ≤ 4000)), _, _, rfl, rfl, _, rfl, ?_⟩
        refine ite2 (fun _ => ?_) (fun _ => ?_)
        · refine ⟨_, rfl, _, rfl, _, _, rfl, rfl, (by exact (by decide : (0 : Int) ≤ 4000)), _, _, rfl, rfl, ⟨(by exact (by decide : (0 : Int) ≤ 4000)), ?_⟩, _, _, rfl, rfl, ?_⟩
          · have hd : Builtin.Int.intBits (m / 2 ^ (4000 : Int).toNat) ≤ Builtin.Int.intBits m := bits_le (by
              have h1 : 0 ≤ m / 2 ^ (4000 : Int).toNat := Int.ediv_nonneg m0 (Int.le_of_lt (Int.pow_pos (by decide)))
              have h2 : m / 2 ^ (4000 : Int).toNat ≤ m := Int.ediv_le_self _ m0
              omega)
            have h27 : (1048576 : Int) + 4000 ≤ 2 ^ 27 := by decide
            omega
          · exact ⟨_, rfl, _, rfl, (by show 3 ≤ sizeLine; decide), fun q hq => hend _ _ q hq⟩
        · exact ⟨_, rfl, _, rfl, (by show 3 ≤ sizeLine; decide), fun q hq => hend _ _ q hq⟩
end
end K25
set_option Elab.async false
set_option linter.all false
set_option maxRecDepth 100000
set_option maxHeartbeats 4000000
namespace K25
open PySem PySem.Spec PyProof.Rows L2 He NF RZ NT
theorem src_ne {H : Hp} {p q : Addr} {o : HO} (hs : Src H p) (hq : H q = none) : q ≠ p := fun z => by
  obtain ⟨_, _, _, h⟩ := hs
  rw [z, h] at hq
  cases hq
theorem src_put {H : Hp} {p q : Addr} {o : HO} (hs : Src H p) (n : q ≠ p) : Src (upd H q o) p := by
  obtain ⟨a, b, c, h⟩ := hs
  exact ⟨a, b, c, by rw [upd_ne (Ne.symm n)]; exact h⟩
theorem same_none {H0 H : Hp} {q : Addr} (s : Same H0 H) (h : H q = none) : H0 q = none := L2.Same.free s h
theorem idx_k {l : List Int} {d lo hi : Int} {n : Nat} (h0 : 0 ≤ d) (h1 : d < (n : Int)) (hl : l.length = n) (hb : ∀ k, k < n → lo ≤ l.getD k 0 ∧ l.getD k 0 ≤ hi) : ∃ v : Int, atI (vI l) d = some (.int v) ∧ lo ≤ v ∧ v ≤ hi :=
  ⟨l.getD d.toNat 0, at_int (by omega) (by omega), hb _ (by omega)⟩
theorem both1H {X : Prop} {R : Hp → Prop} (P : Hp → Prop) (h1 : (∀ G, P G → R G) → X) (h2 : ∀ G, P G → R G) : X := h1 h2
def spLDeeds : Sp := fun vs H Q _ => ∃ (H0 : Hp) (p : Addr) (n m : Nat) (g : Int), vs = [.ref p, .int (n : Int), .int (m : Int), .int g] ∧ Same H0 H ∧ H0 p = none ∧ Src H p ∧ 1 ≤ n ∧ n ≤ 3 ∧ m ≤ 10 ∧
  ∀ (q : Addr) (ds : List Deed) (H' : Hp), Same H0 H' → Src H' p → H' q = some (.lst (ds.map dV)) → H0 q = none → q ≠ p → ds.length = m → (∀ i, some i ∈ ds → i < n) → Q (.ref q) H'
def MkrT (K : PySem.W.Frag) (H : Hp) (q : Addr) (n : Nat) (b : List Deed) (ws : List (List Deed)) : Prop := ∃ pb pw, SqT K H q [.int (n : Int), .ref pb, .ref pw] ∧ SqT K H pb (b.map dV) ∧ WaysT K H pw ws
theorem MkrT.mono {K : PySem.W.Frag} {H H' : Hp} {q : Addr} {n : Nat} {b : List Deed} {ws : List (List Deed)} (h : MkrT K H q n b ws) (s : Same H H') : MkrT K H' q n b ws := by
  obtain ⟨pb, pw, h1, h2, h3⟩ := h
  exact ⟨pb, pw, NF.Same.tup s h1, NF.Same.tup s h2, h3.mono s⟩
theorem WaysT.wo {K : PySem.W.Frag} {H : Hp} {pw p : Addr} {ws : List (List Deed)} {u : HO} (h : WaysT K H pw ws) (hp : H p = some u) (n : match u with | .lst _ => True | .ins _ _ _ => True | _ => False) : WaysT K (NF.wo H p) pw ws := by
  obtain ⟨as, h1, h2, h3⟩ := h
  exact ⟨as, SqT.wo h1 hp n, h2, fun j a w e1 e2 => SqT.wo (h3 j a w e1 e2) hp n⟩
theorem MkrT.wo {K : PySem.W.Frag} {H : Hp} {q p : Addr} {n : Nat} {b : List Deed} {ws : List (List Deed)} (h : MkrT K H q n b ws) (hs : Src H p) : MkrT K (NF.wo H p) q n b ws := by
  obtain ⟨pb, pw, h1, h2, h3⟩ := h
  obtain ⟨_, _, _, e⟩ := hs
  exact ⟨pb, pw, SqT.wo h1 e trivial, SqT.wo h2 e trivial, WaysT.wo h3 e trivial⟩
/-- a maker as it is drawn -/
structure Drawn (n : Nat) (b : List Deed) (ws : List (List Deed)) : Prop where
  n1 : 1 ≤ n
  n3 : n ≤ 3
  bd : ∀ i, some i ∈ b → i < n
  wy : ∀ v ∈ ws, v ≠ [] ∧ v.length ≤ 4 ∧ ∀ i, some i ∈ v → i < n
  m1 : 1 ≤ ws.length
  m4 : ws.length ≤ 4
  bl : b.length ≤ 4
theorem Drawn.good {n : Nat} {b : List Deed} {ws : List (List Deed)} (d : Drawn n b ws) : GoodM n b ws :=
  ⟨d.n1, d.n3, d.bd, fun v hv => ⟨(d.wy v hv).1, .inl (by have := (d.wy v hv).2.1; omega), (d.wy v hv).2.2⟩, d.m1, d.m4, by have := d.bl; omega⟩
def spLMaker (K : PySem.W.Frag) : Sp := fun vs H Q _ => ∃ (H0 : Hp) (p : Addr) (n m : Nat) (st : Bool), vs = [.ref p, .int (n : Int), .int (m : Int), .bl st] ∧ Same H0 H ∧ H0 p = none ∧ Src H p ∧ 1 ≤ n ∧ n ≤ 3 ∧ 1 ≤ m ∧ m ≤ 4 ∧
  ∀ q b ws H', Same H0 H' → Src H' p → Drawn n b ws → MkrT K H' q n b ws → Q (.ref q) H'
def spLMade (K : PySem.W.Frag) (C : Addr) : Sp := fun vs H Q _ => ∃ (q : Addr) (n : Nat) (b : List Deed) (ws : List (List Deed)), vs = [.ref q] ∧ MkrT K H q n b ws ∧ GoodM n b ws ∧ ∀ x H', Same H H' → MakAt K C H' x n b ws → Q (.ref x) H'
theorem sc__law_deeds : FnScope ["_law_source_here", "_law_inlets", "_law_many", "_law_gives", "_law_told", "_law_k"] ["_law_source_here", "_law_inlets", "_law_many", "_law_gives"] (defScope s__law_deeds) := ⟨rfl, rfl, rfl, by decide +kernel, rfl, by decide +kernel, by decide +kernel⟩
theorem sc__law_maker : FnScope ["_law_source_here", "_law_inlets", "_law_most", "_law_stops", "_law_begin", "_law_found", "_law_k", "_law_way"] ["_law_source_here", "_law_inlets", "_law_most", "_law_stops"] (defScope s__law_maker) := ⟨rfl, rfl, rfl, by decide +kernel, rfl, by decide +kernel, by decide +kernel⟩
theorem sc__law_made : FnScope ["_law_maker_here"] ["_law_maker_here"] (defScope s__law_made) := ⟨rfl, rfl, rfl, by decide +kernel, rfl, by decide +kernel, by decide +kernel⟩
section
variable {P : Program} {w : World} {K : PySem.W.Frag} {mg : Str → Option Value} {base : Heap} {gs fs : List Str} {C : Addr}
theorem ok__law_deeds {f : Addr} {fd : FuncData} (F : FunD K "_law_deeds" "_law_deeds" (defArgs s__law_deeds) (defBody s__law_deeds) (defScope s__law_deeds) [] [] f fd) (T : Txt K mg gs FS) (c__law_pick : Cal P w K mg base 1 "_law_pick" spPick) : FnOk P w K mg base CX0 2 f fd ["_law_source_here", "_law_inlets", "_law_many", "_law_gives"] spLDeeds := by
  refine F.ok sc__law_deeds (fun vs H Q E h => ?_) (fun cdv A outer s H vs Q E hr h => ?_)
  · obtain ⟨H0, p, n, m, g, rfl, _⟩ := h
    rfl
  · obtain ⟨H0, p, n, m, g, rfl, s0, n0, hs, n1, n3, hm, q⟩ := h
    refine ⟨_, PSs.nox (pss_cons (ps_set (i := 4) sc__law_deeds.nd rfl (Or.inl rfl) (pe_lst pa_nil)) (pss_cons (ps_for PassesOwn.never rfl (pi_range1 rfl (T.fr _ (by decide +kernel)) (pa_cons (pv 2) pa_nil)) (pg_name (i := 5) sc__law_deeds.nd rfl (Or.inl rfl)) (pss_one (ps_if (pt_cmpR op_lt (pe_c c__law_pick hr (by decide) rfl (pa_cons (pv 0) (pa_cons pe_int pa_nil))) (pv 3) (nomark _)) (pss_one (ps_expr (pe_bm PySem.F.plainAttrs_list PySem.F.slot_list_append PySem.F.type_list_append mt_append (pv 4) (pa_cons pe_str pa_nil)))) (pss_one (ps_expr (pe_bm PySem.F.plainAttrs_list PySem.F.slot_list_append PySem.F.type_list_append mt_append (pv 4) (pa_cons (pe_c c__law_pick hr (by decide) rfl (pa_cons (pv 0) (pa_cons (pv 1) pa_nil))) pa_nil))))))) (pss_one (ps_ret (pv 4))))), ?_⟩
    refine ⟨(by show 0 ≤ sizeLine; decide), fun t ht => ?_⟩
    have htp : t ≠ p := src_ne (o := .lst []) hs ht
    have h0t := same_none s0 ht
    refine ⟨_, rfl, (m : Int), rfl, by omega, by omega, ?_⟩
    refine for_range (lo := 0) (n := m) (fun j σ G => Same H0 G ∧ Src G p ∧ ∃ ds : List Deed, G t = some (.lst (ds.map dV)) ∧ ds.length = j ∧ (∀ i, some i ∈ ds → i < n) ∧ ∃ k : Option V, σ = [some (.ref p), some (.int (n : Int)), some (.int (m : Int)), some (.int g), some (.ref t), k])
      ⟨NF.Same.put s0 h0t, src_put hs htp, [], upd_same, rfl, (fun i h => absurd h (by simp)), none, rfl⟩ ?_ ?_
    · rintro j σ G hj ⟨s1, hs1, ds, hl, hlen, hd, k, rfl⟩
      refine ⟨_, rfl, wo G p, p, 4, rfl, wo_same', wo_none, hs1, by decide, by decide, fun d G' d0 d1 s2 hs2 => ?_⟩
      have hl2 : G' t = some (.lst (ds.map dV)) := s2 _ _ ((wo_ne htp).trans hl)
      refine ⟨_, rfl, _, _, rfl, rfl, _, rfl, ite2 (fun _ => ?_) (fun _ => ?_)⟩
      · refine ⟨_, rfl, Or.inl ⟨rfl, _, SqL.of hl2⟩, t, _, _, rfl, rfl, hl2, ?_, ?_⟩
        · rw [List.length_map, hlen]
          exact Nat.lt_of_le_of_lt (show j ≤ 200 by omega) (by decide)
        refine ⟨NF.Same.put (wo_same s1 n0 s2) h0t, src_put hs2 htp, ds ++ [none], ?_, by simp [hlen], fun i h => ?_, some (.int ((0 : Int) + (j : Int))), rfl⟩
        · rw [upd_same, List.map_append]
          rfl
        · rcases List.mem_append.mp h with h | h
          · exact hd i h
          · simp at h
      · refine ⟨_, rfl, Or.inl ⟨rfl, _, SqL.of hl2⟩, ?_⟩
        refine ⟨_, rfl, _, rfl, wo G' p, p, (n : Int), rfl, wo_same', wo_none, hs2, by omega, by omega, fun e G3 e0 e1 s3 hs3 => ?_⟩
        have hl3 : G3 t = some (.lst (ds.map dV)) := s3 _ _ ((wo_ne htp).trans hl2)
        refine ⟨t, _, _, rfl, rfl, hl3, ?_, ?_⟩
        · rw [List.length_map, hlen]
          exact Nat.lt_of_le_of_lt (show j ≤ 200 by omega) (by decide)
        refine ⟨NF.Same.put (wo_same (wo_same s1 n0 s2) n0 s3) h0t, src_put hs3 htp, ds ++ [some e.toNat], ?_, by simp [hlen], fun i h => ?_, some (.int ((0 : Int) + (j : Int))), rfl⟩
        · rw [upd_same, List.map_append]
          show some (HO.lst (_ ++ [V.int e])) = some (HO.lst (_ ++ [V.int ((e.toNat : Nat) : Int)]))
          rw [Int.toNat_of_nonneg e0]
        · rcases List.mem_append.mp h with h | h
          · exact hd i h
          · have : i = e.toNat := by simpa using h
            omega
    · rintro σ G ⟨s1, hs1, ds, hl, hlen, hd, k, rfl⟩
      exact ⟨_, rfl, q t ds G s1 hs1 hl h0t htp hlen hd⟩
theorem in_give {ds : List Deed} : (inV (.str "give") (ds.map dV) = true) ↔ none ∈ ds := by
  unfold inV
  rw [List.any_map, List.any_eq_true]
  constructor
  · rintro ⟨d, hd, e⟩
    cases d with
    | none => exact hd
    | some i => cases e
  · exact fun h => ⟨none, h, by decide +kernel⟩
theorem flat_deeds (ds : List Deed) : (ds.map dV).all flatV = true := by
  rw [List.all_map, List.all_eq_true]
  intro d _
  cases d <;> rfl
theorem begins_le : ∀ k, k < 8 → 0 ≤ ([0, 1, 2, 0, 3, 1, 4, 2] : List Int).getD k 0 ∧ ([0, 1, 2, 0, 3, 1, 4, 2] : List Int).getD k 0 ≤ 4 := by decide
theorem gives_le : ∀ k, k < 4 → 1 ≤ ([2, 2, 1, 3] : List Int).getD k 0 ∧ ([2, 2, 1, 3] : List Int).getD k 0 ≤ 3 := by decide
theorem ok__law_maker {f : Addr} {fd : FuncData} (F : FunD K "_law_maker" "_law_maker" (defArgs s__law_maker) (defBody s__law_maker) (defScope s__law_maker) [] [] f fd) (T : Txt K mg gs FS) (c__law_pick : Cal P w K mg base 1 "_law_pick" spPick) (c__law_deeds : Cal P w K mg base 2 "_law_deeds" spLDeeds) : FnOk P w K mg base CX0 3 f fd ["_law_source_here", "_law_inlets", "_law_most", "_law_stops"] (spLMaker K) := by
  refine F.ok sc__law_maker (fun vs H Q E h => ?_) (fun cdv A outer s H vs Q E hr h => ?_)
  · obtain ⟨H0, p, n, m, st, rfl, _⟩ := h
    rfl
  · obtain ⟨H0, p, n, m, st, rfl, s0, n0, hs, n1, n3, m1, m4, q⟩ := h
    refine ⟨_, PSs.nox (pss_cons (ps_set (i := 4) sc__law_maker.nd rfl (Or.inl rfl) (pe_c c__law_deeds hr (by decide) rfl (pa_cons (pv 0) (pa_cons (pv 1) (pa_cons (pe_ix (ixl (K := K)) (pe_lst (pa_cons pe_int (pa_cons pe_int (pa_cons pe_int (pa_cons pe_int (pa_cons pe_int (pa_cons pe_int (pa_cons pe_int (pa_cons pe_int pa_nil))))))))) (pe_c c__law_pick hr (by decide) rfl (pa_cons (pv 0) (pa_cons pe_int pa_nil))) fun _ _ => rfl) (pa_cons pe_int pa_nil)))))) (pss_cons (ps_set (i := 5) sc__law_maker.nd rfl (Or.inl rfl) (pe_lst pa_nil)) (pss_cons (ps_for PassesOwn.never rfl (pi_range1 rfl (T.fr _ (by decide +kernel)) (pa_cons (pe_op op_add pe_int (pe_c c__law_pick hr (by decide) rfl (pa_cons (pv 0) (pa_cons (pv 2) pa_nil)))) pa_nil)) (pg_name (i := 6) sc__law_maker.nd rfl (Or.inl rfl)) (pss_cons (ps_set (i := 7) sc__law_maker.nd rfl (Or.inl rfl) (pe_c c__law_deeds hr (by decide) rfl (pa_cons (pv 0) (pa_cons (pv 1) (pa_cons (pe_op op_add pe_int (pe_c c__law_pick hr (by decide) rfl (pa_cons (pv 0) (pa_cons pe_int pa_nil)))) (pa_cons (pe_ix (ixl (K := K)) (pe_lst (pa_cons pe_int (pa_cons pe_int (pa_cons pe_int (pa_cons pe_int pa_nil))))) (pe_c c__law_pick hr (by decide) rfl (pa_cons (pv 0) (pa_cons pe_int pa_nil))) fun _ _ => rfl) pa_nil)))))) (pss_cons (ps_if (PW.pt (pw_and (pt_cmpR op_notIn_seq pe_str (pv 7) rfl) (pw_and1 (pt_not (PW.pt (pw_and (pt_val (pv 3)) (pw_and1 (pt_cmpR op_eq (pe_c c__law_pick hr (by decide) rfl (pa_cons (pv 0) (pa_cons pe_int pa_nil))) pe_int (nomark _))))))))) (pss_one (ps_expr (pe_bm PySem.F.plainAttrs_list PySem.F.slot_list_insert PySem.F.type_list_insert mt_insert (pv 7) (pa_cons (pe_c c__law_pick hr (by decide) rfl (pa_cons (pv 0) (pa_cons (pe_op op_add (pe_callB call_len_seq rfl (T.fr _ (by decide +kernel)) boot_len (pa_cons (pv 7) pa_nil)) pe_int) pa_nil))) (pa_cons pe_str pa_nil))))) pss_nil) (pss_one (ps_expr (pe_bm PySem.F.plainAttrs_list PySem.F.slot_list_append PySem.F.type_list_append mt_append (pv 5) (pa_cons (pe_callTy cr_tup rfl (T.fr _ (by decide +kernel)) (by decide +kernel) (pa_cons (pv 7) pa_nil)) pa_nil))))))) (pss_one (ps_ret (pe_tup (pa_cons (pv 1) (pa_cons (pe_callTy cr_tup rfl (T.fr _ (by decide +kernel)) (by decide +kernel) (pa_cons (pv 4) pa_nil)) (pa_cons (pe_callTy cr_tup rfl (T.fr _ (by decide +kernel)) (by decide +kernel) (pa_cons (pv 5) pa_nil)) pa_nil))))))))), ?_⟩
    -- the beginning
    refine ⟨_, rfl, _, rfl, (by show 8 ≤ sizeLine; decide), fun t ht => ?_⟩
    have htp : t ≠ p := src_ne (o := .lst []) hs ht
    have hs1 : Src (upd H t (.lst (vI [0, 1, 2, 0, 3, 1, 4, 2]))) p := src_put hs htp
    have s1 : Same H0 (upd H t (.lst (vI [0, 1, 2, 0, 3, 1, 4, 2]))) := NF.Same.put s0 (same_none s0 ht)
    have ht1 : upd H t (.lst (vI [0, 1, 2, 0, 3, 1, 4, 2])) t = some (.lst (vI [0, 1, 2, 0, 3, 1, 4, 2])) := upd_same
    refine ⟨_, rfl, wo _ p, p, 8, rfl, wo_same', wo_none, hs1, by decide, by decide, fun d G2 d0 d1 s2 hs2 => ?_⟩
    obtain ⟨v, hv, v0, v1⟩ := idx_k (l := [0, 1, 2, 0, 3, 1, 4, 2]) (n := 8) (lo := 0) (hi := 4) d0 d1 rfl begins_le
    have s02 := wo_same s1 n0 s2
    refine ⟨t, _, _, _, rfl, rfl, SqL.of (s2 _ _ ((wo_ne htp).trans ht1)), hv, ?_⟩
    refine ⟨wo G2 p, p, n, v.toNat, 2, by rw [Int.toNat_of_nonneg v0]; rfl, wo_same', wo_none, hs2, n1, n3, by omega, fun tb b G3 s3 hs3 hb hb0 hbp hbl hbd => ?_⟩
    have s03 := wo_same s02 n0 s3
    have hb03 : H0 tb = none := same_none s02 (by have z := hb0; rw [wo_ne hbp] at z; exact z)
    -- the ways
    refine ⟨(by show 0 ≤ sizeLine; decide), fun D hD => ?_⟩
    have hDp : D ≠ p := src_ne (o := .lst []) hs3 hD
    have hDb : tb ≠ D := ne_of_none hb hD
    have h0D := same_none s03 hD
    have hs4 : Src (upd G3 D (.lst [])) p := src_put hs3 hDp
    have s04 : Same H0 (upd G3 D (.lst [])) := NF.Same.put s03 h0D
    have hb4 := (upd_ne (o := .lst []) hDb).trans hb
    have hD4 := upd_same (H := G3) (a := D) (o := .lst [])
    generalize upd G3 D (.lst []) = G4 at hs4 s04 hb4 hD4
    refine ⟨_, rfl, _, rfl, wo G4 p, p, (m : Int), rfl, wo_same', wo_none, hs4, by omega, by omega, fun k G5 k0 k1 s5 hs5 => ?_⟩
    have s05 := wo_same s04 n0 s5
    have hb5 := s5 _ _ ((wo_ne hbp).trans hb4)
    have hD5 := s5 _ _ ((wo_ne hDp).trans hD4)
    refine ⟨_, _, rfl, rfl, 1 + k, rfl, by omega, by omega, ?_⟩
    rw [show (1 + k).toNat = k.toNat + 1 by omega]
    refine for_range (lo := 0) (n := k.toNat + 1) (fun j σ G => Same H0 G ∧ Src G p ∧ G tb = some (.lst (b.map dV)) ∧ (∃ (as : List Addr) (ws : List (List Deed)), G D = some (.lst (as.map V.ref)) ∧ as.length = j ∧ ws.length = j ∧ (∀ (j : Nat) (a : Addr) (w : List Deed), as[j]? = some a → ws[j]? = some w → SqT K G a (w.map dV)) ∧ ∀ v ∈ ws, v ≠ [] ∧ v.length ≤ 4 ∧ ∀ i, some i ∈ v → i < n) ∧ ∃ v6 v7 : Option V, σ = [some (.ref p), some (.int (n : Int)), some (.int (m : Int)), some (.bl st), some (.ref tb), some (.ref D), v6, v7])
      ⟨s05, hs5, hb5, ⟨[], [], hD5, rfl, rfl, fun j a w e => by simp at e, fun v h => absurd h (by simp)⟩, none, none, rfl⟩ ?_ ?_
    · rintro j σ G hj ⟨sG, hsG, hbG, ⟨as, ws, hDG, al, wl, hts, hok⟩, v6, v7, rfl⟩
      have h0D' : H0 D = none := h0D
      refine ⟨_, rfl, _, rfl, _, rfl, wo G p, p, 3, rfl, wo_same', wo_none, hsG, by decide, by decide, fun e Ga e0 e1 sa hsa => ?_⟩
      refine ⟨_, _, rfl, rfl, (by show 4 ≤ sizeLine; decide), fun u hu => ?_⟩
      have hup : u ≠ p := src_ne (o := .lst []) hsa hu
      have hsb : Src (upd Ga u (.lst (vI [2, 2, 1, 3]))) p := src_put hsa hup
      have sab : Same Ga (upd Ga u (.lst (vI [2, 2, 1, 3]))) := NF.Same.new (Same.refl _) hu
      have htb : upd Ga u (.lst (vI [2, 2, 1, 3])) u = some (.lst (vI [2, 2, 1, 3])) := upd_same
      have ek : upd Ga u (.lst [V.int 2, V.int 2, V.int 1, V.int 3]) = upd Ga u (.lst (vI [2, 2, 1, 3])) := rfl
      rw [ek]
      generalize upd Ga u (.lst (vI [2, 2, 1, 3])) = Gb at hsb sab htb
      refine ⟨_, rfl, wo Gb p, p, 4, rfl, wo_same', wo_none, hsb, by decide, by decide, fun x Gc x0 x1 sc hsc => ?_⟩
      obtain ⟨gv, hgv, gv0, gv1⟩ := idx_k (l := [2, 2, 1, 3]) (n := 4) (lo := 1) (hi := 3) x0 x1 rfl gives_le
      refine ⟨u, _, _, _, rfl, rfl, SqL.of (sc _ _ ((wo_ne hup).trans htb)), hgv, ?_⟩
      refine ⟨wo Gc p, p, n, (1 + e).toNat, gv, by rw [Int.toNat_of_nonneg (by omega)]; rfl, wo_same', wo_none, hsc, n1, n3, by omega, fun tw ds Gd sd hsd htw htw0 htwp hdl hdd => ?_⟩
      -- what stands
      have s0a := wo_same sG n0 sa
      have s0c := wo_same (Same.trans s0a sab) n0 sc
      have s0d := wo_same s0c n0 sd
      have keep : ∀ (a : Addr) (o : HO), a ≠ p → G a = some o → Gd a = some o := fun a o ne e => sd _ _ ((wo_ne ne).trans (sc _ _ ((wo_ne ne).trans (sab _ _ (sa _ _ ((wo_ne ne).trans e))))))
      have keepT : ∀ (a : Addr) (xs : List V), SqT K G a xs → SqT K Gd a xs := fun a xs h => by
        obtain ⟨_, _, _, e1⟩ := id hsG
        obtain ⟨_, _, _, e2⟩ := id hsb
        obtain ⟨_, _, _, e3⟩ := id hsc
        exact NF.Same.tup sd (SqT.wo (NF.Same.tup sc (SqT.wo (NF.Same.tup sab (NF.Same.tup sa (SqT.wo h e1 trivial))) e2 trivial)) e3 trivial)
      have hbd' := keep tb _ hbp hbG
      have hDd := keep D _ hDp hDG
      have htsd := fun j a w e1 e2 => keepT a _ (hts j a w e1 e2)
      have h0tw : H0 tw = none := same_none s0c (by have z := htw0; rw [wo_ne htwp] at z; exact z)
      have twD : tw ≠ D := fun z => by
        rw [z, wo_ne hDp] at htw0
        have := sc _ _ ((wo_ne hDp).trans (sab _ _ (sa _ _ ((wo_ne hDp).trans hDG))))
        rw [htw0] at this
        cases this
      have twb : tw ≠ tb := fun z => by
        rw [z, wo_ne hbp] at htw0
        have := sc _ _ ((wo_ne hbp).trans (sab _ _ (sa _ _ ((wo_ne hbp).trans hbG))))
        rw [htw0] at this
        cases this
      have dl1 : ds.length = 1 + e.toNat := by omega
      refine' both1H (fun G9 => Same H0 G9 ∧ Src G9 p ∧ G9 tb = some (.lst (b.map dV)) ∧ G9 D = some (.lst (as.map V.ref)) ∧ (∀ (j : Nat) (a : Addr) (w : List Deed), as[j]? = some a → ws[j]? = some w → SqT K G9 a (w.map dV)) ∧ ∃ w : List Deed, G9 tw = some (.lst (w.map dV)) ∧ w ≠ [] ∧ w.length ≤ 4 ∧ ∀ i, some i ∈ w → i < n) (fun kk => ?A) ?B
      case A =>
        have here := kk Gd ⟨s0d, hsd, hbd', hDd, htsd, ds, htw, fun z => by rw [z] at dl1; simp at dl1; omega, by omega, hdd⟩
        refine ⟨_, rfl, tw, _, rfl, .inl (SqL.of htw), rfl, flat_deeds ds, _, rfl, ?_⟩
        by_cases hin : inV (.str "give") (ds.map dV) = true
        · exact iteF' (by simp [hin]) (iteF here)
        · refine iteT' (by simp [hin]) ?_
          refine ⟨_, rfl, st, rfl, ?_⟩
          have nogive : none ∉ ds := fun z => by
            exact hin (in_give.mpr z)
          refine' @both1H _ _ (fun G9 : Hp => Same H0 G9 ∧ Src G9 p ∧ G9 tb = some (.lst (b.map dV)) ∧ G9 D = some (.lst (as.map V.ref)) ∧ (∀ (j : Nat) (a : Addr) (w : List Deed), as[j]? = some a → ws[j]? = some w → SqT K G9 a (w.map dV)) ∧ G9 tw = some (.lst (ds.map dV))) (fun k2 => ?A2) ?B2
          case A2 =>
            by_cases hst : st = true
            · refine iteT' hst ⟨_, rfl, wo Gd p, p, 3, rfl, wo_same', wo_none, hsd, by decide, by decide, fun y Ge y0 y1 se hse => ⟨rfl, _, rfl, ?_⟩⟩
              have hbe := se _ _ ((wo_ne hbp).trans hbd')
              have hDe := se _ _ ((wo_ne hDp).trans hDd)
              have hte := se _ _ ((wo_ne htwp).trans htw)
              have htse : ∀ (j : Nat) (a : Addr) (w : List Deed), as[j]? = some a → ws[j]? = some w → SqT K Ge a (w.map dV) := fun j a w e1 e2 => by
                obtain ⟨_, _, _, e3⟩ := id hsd
                exact NF.Same.tup se (SqT.wo (htsd j a w e1 e2) e3 trivial)
              have s0e := wo_same s0d n0 se
              by_cases c : (V.int y : V) = V.int 1
              · rw [decide_eq_true c]
                exact iteF (kk Ge ⟨s0e, hse, hbe, hDe, htse, ds, hte, fun z => by rw [z] at dl1; simp at dl1; omega, by omega, hdd⟩)
              · rw [decide_eq_false c]
                have h0 := k2 Ge ⟨s0e, hse, hbe, hDe, htse, hte⟩
                refine iteT ?_
                have hq : ∀ (R : Hp → Prop), R Ge → True := fun _ _ => trivial
                revert h0
                generalize Ge = Gz
                intro h0
                exact h0
            · have h0 := k2 Gd ⟨s0d, hsd, hbd', hDd, htsd, htw⟩
              exact iteF' (by simpa using hst) (iteT h0)
          case B2 =>
            rintro Ge ⟨s0e, hse, hbe, hDe, htse, hte⟩
            refine ⟨_, rfl, .inl ⟨rfl, _, SqL.of hte⟩, ?_⟩
            refine ⟨_, rfl, _, rfl, tw, _, rfl, .inl (SqL.of hte), _, _, rfl, rfl, ?_⟩
            rw [List.length_map]
            refine ⟨wo Ge p, p, (ds.length : Int) + 1, rfl, wo_same', wo_none, hse, by omega, by omega, fun z Gf z0 z1 sf hsf => ?_⟩
            have hbf := sf _ _ ((wo_ne hbp).trans hbe)
            have hDf := sf _ _ ((wo_ne hDp).trans hDe)
            have htf := sf _ _ ((wo_ne htwp).trans hte)
            have htsf : ∀ (j : Nat) (a : Addr) (w : List Deed), as[j]? = some a → ws[j]? = some w → SqT K Gf a (w.map dV) := fun j a w e1 e2 => by
              obtain ⟨_, _, _, e3⟩ := id hse
              exact NF.Same.tup sf (SqT.wo (htse j a w e1 e2) e3 trivial)
            have s0f := wo_same s0e n0 sf
            refine ⟨tw, _, z, _, rfl, rfl, htf, by rw [List.length_map]; exact Nat.lt_of_lt_of_le (show ds.length < 10000 by omega) (by decide), z0, by omega, ?_⟩
            have ei : (ds.map dV).take z.toNat ++ [V.str "give"] ++ (ds.map dV).drop z.toNat = (ds.take z.toNat ++ [none] ++ ds.drop z.toNat).map dV := by
              rw [List.map_append, List.map_append, List.map_take, List.map_drop]
              rfl
            rw [ei]
            generalize hG9 : upd Gf tw (.lst ((ds.take z.toNat ++ [none] ++ ds.drop z.toNat).map dV)) = G9
            refine kk G9 ⟨?_, ?_, ?_, ?_, ?_, ds.take z.toNat ++ [none] ++ ds.drop z.toNat, ?_, by simp, ?_, fun i h => ?_⟩
            · rw [← hG9]; exact NF.Same.put s0f h0tw
            · rw [← hG9]; exact src_put hsf htwp
            · rw [← hG9, upd_ne twb.symm]; exact hbf
            · rw [← hG9, upd_ne twD.symm]; exact hDf
            · intro j a w e1 e2
              rw [← hG9]
              exact SqT.put (htsf j a w e1 e2) htf trivial
            · rw [← hG9, upd_same]
            · rw [List.length_append, List.length_append, List.length_take, List.length_drop, List.length_singleton]
              omega
            · refine hdd i ?_
              rcases List.mem_append.mp h with h | h
              · rcases List.mem_append.mp h with h | h
                · exact List.mem_of_mem_take h
                · simp at h
              · exact List.mem_of_mem_drop h
      case B =>
        rintro Ge ⟨s0e, hse, hbe, hDe, htse, w, hte, wn, wl4, wd⟩
        refine ⟨_, rfl, .inl ⟨rfl, _, SqL.of hDe⟩, _, rfl, tw, _, rfl, .inl (SqL.of hte), fun pt Gf sf tf => ?_⟩
        have hDf := sf _ _ hDe
        refine ⟨D, _, _, rfl, rfl, hDf, by rw [List.length_map]; exact Nat.lt_of_lt_of_le (show as.length < 10000 by omega) (by decide), ?_⟩
        refine ⟨NF.Same.put (Same.trans s0e sf) h0D, src_put (Src.mono hse sf) hDp, ?_, ⟨as ++ [pt], ws ++ [w], ?_, by simp [al], by simp [wl], fun k a v e1 e2 => ?_, fun v hv => ?_⟩, _, _, rfl⟩
        · rw [upd_ne hDb]; exact sf _ _ hbe
        · rw [upd_same, List.map_append]; rfl
        · refine SqT.put ?_ hDf trivial
          rcases Nat.lt_trichotomy k j with h | h | h
          · rw [List.getElem?_append_left (by omega)] at e1 e2
            exact NF.Same.tup sf (htse k a v e1 e2)
          · subst h
            rw [List.getElem?_append_right (by omega), al, Nat.sub_self] at e1
            rw [List.getElem?_append_right (by omega), wl, Nat.sub_self] at e2
            cases e1
            cases e2
            exact tf
          · rw [List.getElem?_eq_none (by simp [al]; omega)] at e1
            cases e1
        · rcases List.mem_append.mp hv with hv | hv
          · exact hok v hv
          · rw [List.mem_singleton.mp hv]
            exact ⟨wn, wl4, wd⟩
    · rintro σ G ⟨sG, hsG, hbG, ⟨as, ws, hDG, al, wl, hts, hok⟩, v6, v7, rfl⟩
      refine ⟨_, rfl, _, rfl, tb, _, rfl, .inl (SqL.of hbG), fun p1 G1 s1 t1 => ?_⟩
      refine ⟨_, rfl, D, _, rfl, .inl (SqL.of (s1 _ _ hDG)), fun p2 G2' s2' t2 => ?_⟩
      refine ⟨(by show 3 ≤ sizeLine; decide), fun p3 hp3 => ?_⟩
      have s3' := NF.Same.new (o := .tup [V.int (n : Int), V.ref p1, V.ref p2]) (Same.refl G2') hp3
      have s13 := Same.trans s1 (Same.trans s2' s3')
      refine q p3 b ws _ (Same.trans sG s13) (Src.mono hsG s13) ⟨n1, n3, hbd, hok, by omega, by omega, by omega⟩ ⟨p1, p2, SqT.of upd_same, NF.Same.tup (Same.trans s2' s3') t1, as, NF.Same.tup s3' t2, by omega, fun j a w e1 e2 => NF.Same.tup s13 (hts j a w e1 e2)⟩
theorem ok__law_made {f : Addr} {fd : FuncData} (F : FunD K "_law_made" "_law_made" (defArgs s__law_made) (defBody s__law_made) (defScope s__law_made) [] [] f fd) (T : Txt K mg gs FS) (m_Maker : Mak P w K mg base 7 0 "Maker" C (spMkInit K C) []) : FnOk P w K mg base CX0 9 f fd ["_law_maker_here"] (spLMade K C) := by
  refine F.ok sc__law_made (fun vs H Q E h => ?_) (fun cdv A outer s H vs Q E hr h => ?_)
  · obtain ⟨q, n, b, ws, rfl, _⟩ := h
    rfl
  · obtain ⟨q, n, b, ws, rfl, ⟨pb, pw, hq, hb, hw⟩, g, k⟩ := h
    refine ⟨_, PSs.nox (pss_one (ps_ret (pe_mk m_Maker hr (by decide) rfl (pa_cons (pe_ix (ixt (K := K)) (pv 0) pe_int fun _ _ => rfl) (pa_cons (pe_ix (ixt (K := K)) (pv 0) pe_int fun _ _ => rfl) (pa_cons (pe_ix (ixt (K := K)) (pv 0) pe_int fun _ _ => rfl) pa_nil)))))), ?_⟩
    refine ⟨_, rfl, q, _, _, _, rfl, rfl, hq, at0, _, rfl, q, _, _, _, rfl, rfl, hq, at1, _, rfl, q, _, _, _, rfl, rfl, hq, at2, ?_⟩
    intro x dx nx nd ne
    exact ⟨x, dx, pb, pw, n, b, ws, rfl, upd_same, .inr (NF.Same.tup (same_woM nx nd) hb), (hw.mono (same_woM nx nd)).r, g, fun H' s mk => ⟨rfl, k x H' (Same.trans (same_woM nx nd) s) mk⟩⟩
end
end K25
set_option Elab.async false
set_option linter.all false
set_option maxRecDepth 100000
set_option maxHeartbeats 4000000
namespace NT
theorem deedsOf_app {ws : List (List Deed)} {a b : List Nat} : K25.deedsOf ws (a ++ b) = K25.deedsOf ws a ++ K25.deedsOf ws b := by
  unfold K25.deedsOf
  rw [List.map_append, List.flatten_append]
theorem deedsOf_rep {ws : List (List Deed)} {ts : List Nat} : ∀ {k : Nat}, K25.deedsOf ws (List.replicate k ts).flatten = rep (K25.deedsOf ws ts) k
  | 0 => rfl
  | k + 1 => by
    rw [List.replicate_succ, List.flatten_cons, deedsOf_app, deedsOf_rep]
    rfl
end NT
namespace K25
open PySem PySem.Spec PyProof.Rows L2 He NF RZ NT
def CrsT (K : PySem.W.Frag) (H : Hp) (a : Addr) (fs ts : List Nat) : Prop := ∃ p1 p2, SqT K H a [.ref p1, .ref p2] ∧ SqT K H p1 (vNs fs) ∧ SqT K H p2 (vNs ts)
theorem CrsT.mono {K : PySem.W.Frag} {H H' : Hp} {a : Addr} {fs ts : List Nat} (h : CrsT K H a fs ts) (s : Same H H') : CrsT K H' a fs ts := by
  obtain ⟨p1, p2, h1, h2, h3⟩ := h
  exact ⟨p1, p2, NF.Same.tup s h1, NF.Same.tup s h2, NF.Same.tup s h3⟩
theorem CrsT.r {K : PySem.W.Frag} {H : Hp} {a : Addr} {fs ts : List Nat} (h : CrsT K H a fs ts) : CrsR K H a fs ts := by
  obtain ⟨p1, p2, h1, h2, h3⟩ := h
  exact ⟨p1, p2, .inr h1, .inr h2, .inr h3⟩
theorem CrsT.wo {K : PySem.W.Frag} {H : Hp} {a p : Addr} {fs ts : List Nat} (h : CrsT K H a fs ts) (hs : Src H p) : CrsT K (NF.wo H p) a fs ts := by
  obtain ⟨p1, p2, h1, h2, h3⟩ := h
  obtain ⟨_, _, _, e⟩ := hs
  exact ⟨p1, p2, SqT.wo h1 e trivial, SqT.wo h2 e trivial, SqT.wo h3 e trivial⟩
def spLAhead (K : PySem.W.Frag) : Sp := fun vs H Q _ => ∃ (a : Addr) (i : Nat) (ds : List Deed), vs = [.ref a, .int (i : Int)] ∧ Row K H a (ds.map dV) ∧ ds.length ≤ 20000 ∧
  ∀ (p q : Addr) (H' : Hp), Same H H' → H q = none → SqT K H' p [.ref q, .int (took i ds : Int)] → H' q = some (.lst (vI (ahead i ds 0))) → Q (.ref p) H'
def spLOn (K : PySem.W.Frag) : Sp := fun vs H Q _ => ∃ (q a : Addr) (n i : Nat) (b : List Deed) (ws : List (List Deed)) (fs ts : List Nat), vs = [.ref q, .int (i : Int), .ref a] ∧ MkrT K H q n b ws ∧ Drawn n b ws ∧ CrsT K H a fs ts ∧ CrsOk ws.length fs ts ∧
  ∀ p z H', IsPlain (needT i (b ++ deedsOf ws fs) (deedsOf ws ts)).1 (needT i (b ++ deedsOf ws fs) (deedsOf ws ts)).2.1 (needT i (b ++ deedsOf ws fs) (deedsOf ws ts)).2.2 z → Same H H' → FormAt K H' p z → Q (.ref p) H'
section
variable {P : Program} {w : World} {K : PySem.W.Frag} {mg : Str → Option Value} {base : Heap} {gs fs : List Str} {C : Addr}
end
end K25
set_option Elab.async false
set_option linter.all false
set_option maxRecDepth 100000
set_option maxHeartbeats 4000000
namespace K25
open PySem PySem.Spec PyProof.Rows L2 He NF RZ NT
/-- the value at a piece on a course -/
def needAt (i : Nat) (b : List Deed) (ws : List (List Deed)) (fs ts : List Nat) (n : Nat) : Option Int := at_ (needT i (b ++ dso ws fs) (dso ws ts)).1 (needT i (b ++ dso ws fs) (dso ws ts)).2.1 (needT i (b ++ dso ws fs) (dso ws ts)).2.2 n
/-- a course on which the need at a piece is the least, or the greatest -/
structure CrsGood (most : Bool) (i : Nat) (b : List Deed) (ws : List (List Deed)) (piece : Nat) (fs ts : List Nat) : Prop where
  f : ∀ k ∈ fs, k < ws.length
  t : ∀ k ∈ ts, k < ws.length
  t1 : ts.length = 1
  fl : fs.length ≤ piece
  at_ : needAt i b ws fs ts piece = ext most i b ws piece
def spCourse (K : PySem.W.Frag) (C CR : Addr) : Sp := fun vs H Q _ => ∃ (x : Addr) (most : Bool) (i : Nat) (b : List Deed) (ws : List (List Deed)) (sh : Int) (pt pl : Addr) (piece : Nat), vs = [.ref x, .int (piece : Int)] ∧ OutAt K C CR H x most i b ws sh pt pl ∧ Fewd ws ∧ b.length ≤ 600 ∧ 1 ≤ piece ∧ piece ≤ 5000 ∧
  ∀ p fs ts H', Same (wo H x) H' → CrsT K H' p fs ts → CrsGood most i b ws piece fs ts → Q (.ref p) H'
theorem sc_Outlook_course : FnScope ["self", "piece", "begun", "stopping", "best", "found", "number", "taken", "ahead"] ["self", "piece"] (defScope s_Outlook_course) := ⟨rfl, rfl, rfl, by decide +kernel, rfl, by decide +kernel, by decide +kernel⟩
theorem CrsT.woI {K : PySem.W.Frag} {C : Addr} {H : Hp} {a x dx : Addr} {fs ts : List Nat} {fl : List (Str × V)} (h : CrsT K H a fs ts) (hx : H x = some (.ins C dx fl)) : CrsT K (NF.wo H x) a fs ts := by
  obtain ⟨p1, p2, h1, h2, h3⟩ := h
  exact ⟨p1, p2, SqT.wo h1 hx trivial, SqT.wo h2 hx trivial, SqT.wo h3 hx trivial⟩
theorem sameX {A G : Hp} {x : Addr} (s : Same (wo A x) G) : Same (wo A x) (wo G x) := fun a o e => by
  by_cases z : a = x
  · rw [z, wo_none] at e; cases e
  · rw [wo_ne z]
    exact s _ _ e
theorem wn_some {G : List Nat} {m : Nat → Nat} {d : Nat → Int} {mk : Nat → Nat → Int} {b : Nat} (hb : b ∈ G) (hm : ∀ k ∈ G, 1 ≤ m k) {n : Nat} (hn : 1 ≤ n) : ∃ c, Wn G m d mk b n c := by
  have p := hm b hb
  have h1 := Nat.div_add_mod (n - 1) (m b)
  have h2 := Nat.mod_lt (n - 1) p
  refine ⟨_, (n - 1) % m b, m b * ((n - 1) / m b), _, h2, by omega, ⟨List.replicate ((n - 1) / m b) b, fun k hk => by rw [(List.mem_replicate.mp hk).2]; exact hb, by rw [sum_rep, Nat.mul_comm], rfl⟩, rfl⟩
/-- the best that was found over the first ways -/
structure Bsf (most : Bool) (i : Nat) (ws : List (List Deed)) (n : Nat) (ks : List Nat) (o : Option Int) (fs : List Nat) (kb : Nat) : Prop where
  all : ∀ k ∈ ks, ∀ u, MinOf (Wn (giv i ws) (mA i ws) (dSh most i ws (some k) ((n + 1 : Nat) : Int)) (fun j a => mkA most i ws j a * ((n + 1 : Nat) : Int)) k n) (some u) → ∃ v, o = some v ∧ v ≤ u
  this : ∀ v, o = some v → kb ∈ giv i ws ∧ MinOf (Wn (giv i ws) (mA i ws) (dSh most i ws (some kb) ((n + 1 : Nat) : Int)) (fun j a => mkA most i ws j a * ((n + 1 : Nat) : Int)) kb n) (some v) ∧ (∀ k ∈ fs, k ∈ giv i ws) ∧ ∃ q a, a < mA i ws kb ∧ (fs.map (mA i ws)).sum + q * mA i ws kb + a + 1 = n ∧ v = (fs.map (dSh most i ws (some kb) ((n + 1 : Nat) : Int))).sum + (q : Int) * (dA most i ws kb * ((n + 1 : Nat) : Int)) + mkA most i ws kb a * ((n + 1 : Nat) : Int)
theorem Bsf.good {most : Bool} {i : Nat} {b : List Deed} {ws : List (List Deed)} {n : Nat} {o : Option Int} {fs : List Nat} {kb : Nat} (h : Bsf most i ws n (giv i ws) o fs kb) (hn : 1 ≤ n) (hs : stopT most i ws = false) (h0 : ws ≠ []) : o ≠ none ∧ CrsGood most i b ws ((ahead i b 0).length + n) fs [kb] := by
  obtain ⟨k, hk⟩ := some_gives h0 hs
  have ho : ∃ v, o = some v := by
    obtain ⟨c, hc⟩ := wn_some (d := dSh most i ws (some k) ((n + 1 : Nat) : Int)) (mk := fun j a => mkA most i ws j a * ((n + 1 : Nat) : Int)) hk giv_pos hn
    obtain ⟨o', ho'⟩ := wn_min (G := giv i ws) (m := mA i ws) (d := dSh most i ws (some k) ((n + 1 : Nat) : Int)) (mk := fun j a => mkA most i ws j a * ((n + 1 : Nat) : Int)) giv_pos k n
    cases o' with
    | none => exact absurd hc (ho' c)
    | some u =>
      obtain ⟨v, e, _⟩ := h.all k hk u ho'
      exact ⟨v, e⟩
  obtain ⟨v, rfl⟩ := ho
  refine ⟨by simp, ?_⟩
  obtain ⟨hkb, hm, hfs, q, a, ha, e1, e2⟩ := h.this v rfl
  have hb := wn_best (d := dA most i ws) (mk := mkA most i ws) (sh := ((n + 1 : Nat) : Int)) (n := n) (by omega) (fun k j => toll (some k) j) (fun k j => toll_le _ _) giv_pos hkb hm fun k hk u hu => by
    obtain ⟨v', e, le⟩ := h.all k hk u hu
    cases e
    exact le
  have hB : v / ((n + 1 : Nat) : Int) = best most i ws n := (minV_of hb).symm
  have lf := len_le_sum (l := fs.map (mA i ws)) fun x hx => by
    obtain ⟨k, hk, rfl⟩ := List.mem_map.mp hx
    exact giv_pos k (hfs k hk)
  rw [List.length_map] at lf
  refine ⟨fun k hk => (giv_mem.mp (hfs k hk)).1, fun k hk => by rw [List.mem_singleton.mp hk]; exact (giv_mem.mp hkb).1, rfl, by omega, ?_⟩
  have := found_at (b := b) hfs hkb ha e1 (sh := ((n + 1 : Nat) : Int)) (by omega) e2 hB
  unfold needAt
  rw [this]
  unfold ext
  rw [if_neg (by omega), hs, if_neg (by simp), Nat.add_sub_cancel_left]
section
variable {P : Program} {w : World} {K : PySem.W.Frag} {mg : Str → Option Value} {base : Heap} {gs fs : List Str} {C CM CR : Addr}
theorem ok_Outlook_course {f : Addr} {fd : FuncData} (F : FunD K "course" "Outlook.course" (defArgs s_Outlook_course) (defBody s_Outlook_course) (defScope s_Outlook_course) [] [] f fd) (T : Txt K mg gs FS) (oc : OutC K C) (rc : RouC K CR) (o_stopping : MetC P w K mg base 1 C "stopping" (spStop K C CR)) (o_better : MetC P w K mg base 1 C "better" (spBet K C)) (o_look : MetC P w K mg base 3 C "look" (spLook K C CR)) (o_ahead_of : MetC P w K mg base 3 C "ahead_of" (spAhd K C CR)) (o_others_ahead : MetC P w K mg base 1 C "others_ahead" (spOth K C CR)) : FnOk P w K mg base CX0 5 f fd ["self", "piece"] (spCourse K C CR) := by
  refine F.ok sc_Outlook_course (fun vs H Q E h => ?_) (fun cdv A outer s H vs Q E hr h => ?_)
  · obtain ⟨x, most, i, b, ws, sh, pt, pl, piece, rfl, _⟩ := h
    rfl
  · obtain ⟨x, most, i, b, ws, sh, pt0, pl0, piece, rfl, oa, fw, hb6, p1, p5, q⟩ := h
    obtain ⟨dx, xb, pr, pg, hx, B0⟩ := id oa
    obtain ⟨hb, ⟨xs, hr1, ch⟩, hg⟩ := id B0
    obtain ⟨db, mb, hb1, hb2⟩ := id hb
    have bl := ahead_len (i := i) (a := b) (t := 0)
    have w0 := List.length_pos_iff.mpr fw.1
    refine ⟨_, PSs.nox (pss_cons (ps_set (i := 2) sc_Outlook_course.nd rfl (Or.inl rfl) (pe_callB call_len_seq rfl (T.fr _ (by decide +kernel)) boot_len (pa_cons (pe_fld (pe_fld (pv 0) rfl) rfl) pa_nil))) (pss_cons (ps_if (pt_cmpR op_le (pv 1) (pv 2) (nomark _)) (pss_one (ps_ret (pe_tup (pa_cons (pe_tup pa_nil) (pa_cons (pe_tup (pa_cons pe_int pa_nil)) pa_nil))))) pss_nil) (pss_cons (ps_set (i := 3) sc_Outlook_course.nd rfl (Or.inl rfl) (pe_mt0 (pv 0) o_stopping hr (by decide))) (pss_cons (ps_if (pt_cmpR op_notN (pv 3) pe_non (nomark _)) (pss_one (ps_ret (pe_tup (pa_cons (pe_tup pa_nil) (pa_cons (pe_tup (pa_cons (pv 3) pa_nil)) pa_nil))))) pss_nil) (pss_cons (ps_set (i := 4) sc_Outlook_course.nd rfl (Or.inl rfl) pe_non) (pss_cons (ps_set (i := 5) sc_Outlook_course.nd rfl (Or.inl rfl) pe_non) (pss_cons (ps_for PassesOwn.never rfl (pi_list (pe_fld (pv 0) rfl)) (pg_name (i := 6) sc_Outlook_course.nd rfl (Or.inl rfl)) (pss_cons (ps_expr (pe_mt (pv 0) o_look hr (by decide) (pa_cons (pe_op op_sub (pv 1) (pv 2)) (pa_cons (pv 6) pa_nil)))) (pss_cons (ps_asg (pe_mt (pv 0) o_ahead_of hr (by decide) (pa_cons (pe_op op_sub (pv 1) (pv 2)) (pa_cons (pv 6) pa_nil))) (pgt (K := K) (n := 2) rfl rfl (pgs_cons (pg_name (i := 7) sc_Outlook_course.nd rfl (Or.inl rfl)) (pgs_cons (pg_name (i := 8) sc_Outlook_course.nd rfl (Or.inl rfl)) pgs_nil)))) (pss_one (ps_if (PW.pt (pw_and (pt_cmpR op_notN (pv 7) pe_non (nomark _)) (pw_and1 (pt_val (pe_mt (pv 0) o_better hr (by decide) (pa_cons (pv 7) (pa_cons (pv 4) pa_nil))))))) (pss_cons (ps_set (i := 4) sc_Outlook_course.nd rfl (Or.inl rfl) (pv 7)) (pss_one (ps_set (i := 5) sc_Outlook_course.nd rfl (Or.inl rfl) (pe_tup (pa_cons (pe_mt (pv 0) o_others_ahead hr (by decide) (pa_cons (pv 8) (pa_cons (pv 6) pa_nil))) (pa_cons (pe_tup (pa_cons (pv 6) pa_nil)) pa_nil)))))) pss_nil))))) (pss_one (ps_ret (pv 5)))))))))), ?_⟩
    refine ⟨_, rfl, x, C, dx, _, _, rfl, hx, oc.cl, oc.nb, rfl, xb, CR, db, _, _, rfl, hb1, rc.cl, rc.nm, rfl, mb, _, rfl, .inr hb2, ?_⟩
    rw [vI_len]
    refine ⟨_, rfl, _, rfl, _, _, rfl, rfl, _, rfl, ?_⟩
    -- a way told alone
    have tell : ∀ (G : Hp) (k : Nat), Same (wo H x) G → k < ws.length → needAt i b ws [] [k] piece = ext most i b ws piece → ∀ (e1 : Addr), G e1 = none → ∀ (e2 : Addr), (upd G e1 (.tup [])) e2 = none → ∀ (e3 : Addr), (upd (upd G e1 (.tup [])) e2 (.tup [V.int (k : Int)])) e3 = none → Q (.ref e3) (upd (upd (upd G e1 (.tup [])) e2 (.tup [V.int (k : Int)])) e3 (.tup [V.ref e1, V.ref e2])) := fun G k sG hk hat e1 he1 e2 he2 e3 he3 => by
      have t1 := NF.Same.new (o := .tup []) (Same.refl G) he1
      have t2 := NF.Same.new (o := .tup [V.int (k : Int)]) (Same.refl (upd G e1 (.tup []))) he2
      have t3 := NF.Same.new (o := .tup [V.ref e1, V.ref e2]) (Same.refl (upd (upd G e1 (.tup [])) e2 (.tup [V.int (k : Int)]))) he3
      exact q e3 [] [k] _ (Same.trans sG (Same.trans t1 (Same.trans t2 t3))) ⟨e1, e2, SqT.of upd_same, NF.Same.tup (Same.trans t2 t3) (SqT.of upd_same), NF.Same.tup t3 (SqT.of upd_same)⟩ ⟨fun j hj => by simp at hj, fun j hj => by rw [List.mem_singleton.mp hj]; exact hk, rfl, Nat.zero_le _, hat⟩
    refine ite2 (fun hle => ?_) (fun hle => ?_)
    · have hle : piece ≤ (ahead i b 0).length := by
        have := of_decide_eq_true hle
        omega
      refine ⟨(by show 0 ≤ sizeLine; decide), fun e1 he1 => ?_⟩
      refine ⟨(by show 1 ≤ sizeLine; decide), fun e2 he2 => ?_⟩
      refine ⟨(by show 2 ≤ sizeLine; decide), fun e3 he3 => ?_⟩
      exact tell H 0 wo_same' w0 (begun_at p1 hle) e1 he1 e2 he2 e3 he3
    · have hle : (ahead i b 0).length < piece := by
        by_cases z : piece ≤ (ahead i b 0).length
        · exact absurd (decide_eq_true (by omega)) hle
        · omega
      refine ⟨_, rfl, x, dx, _, rfl, hx, rfl, ?_⟩
      refine ⟨x, most, i, b, ws, sh, pt0, pl0, rfl, oa, fw.1, fun o H1 s1 o1 o2 => ?_⟩
      cases o with
      | some k =>
        obtain ⟨hs, hk, hm0⟩ := o2 k rfl
        refine ⟨_, rfl, rfl, _, rfl, iteT' rfl ?_⟩
        refine ⟨(by show 0 ≤ sizeLine; decide), fun e1 he1 => ?_⟩
        refine ⟨_, rfl, (by show 1 ≤ sizeLine; decide), fun e2 he2 => ?_⟩
        refine ⟨(by show 2 ≤ sizeLine; decide), fun e3 he3 => ?_⟩
        refine tell H1 k (Same.trans wo_same' s1) hk ?_ e1 he1 e2 he2 e3 he3
        unfold needAt
        rw [still_at hm0 hle]
        unfold ext
        rw [if_neg (by omega), if_pos hs]
      | none =>
        have hs := o1 rfl
        refine ⟨_, rfl, rfl, _, rfl, iteF' rfl ?_⟩
        obtain ⟨n, hn⟩ : ∃ n, piece = (ahead i b 0).length + n := ⟨piece - (ahead i b 0).length, by omega⟩
        have hn1 : 1 ≤ n := by omega
        have en : (piece : Int) - ((ahead i b 0).length : Int) = (n : Int) := by omega
        have hgx : pg ≠ x := fun z => by rw [z, hx] at hg; cases hg
        have hgw : (wo H x) pg = some (.lst (vNs (giv i ws))) := (wo_ne hgx).trans hg
        refine ⟨_, rfl, x, C, dx, _, _, rfl, s1 _ _ hx, oc.cl, oc.ng, rfl, pg, rfl, ⟨_, SqL.of (s1 _ _ hg)⟩, ?_⟩
        refine for_list (xs := vNs (giv i ws)) (fun j σ G => Same (wo H x) G ∧ (∃ sh pt pl, OutAt K C CR G x most i b ws sh pt pl) ∧ ∃ (o : Option Int) (fs : List Nat) (kb : Nat) (v5 v6 v7 v8 : Option V), Bsf most i ws n ((giv i ws).take j) o fs kb ∧ (o ≠ none → ∃ p, v5 = some (.ref p) ∧ CrsT K G p fs [kb]) ∧ σ = [some (.ref x), some (.int (piece : Int)), some (.int ((ahead i b 0).length : Int)), some .non, some (vO (o.map (sg most * ·))), v5, v6, v7, v8])
          ⟨Same.trans wo_same' s1, ⟨sh, pt0, pl0, oa.mono s1⟩, none, [], 0, _, none, none, none, ⟨fun k hk => by simp at hk, fun v e => by cases e⟩, fun z => absurd rfl z, rfl⟩ (fun j σ G _ z => SqL.of (z.1 _ _ hgw)) ?_ ?_
        · rintro j v σ G hv ⟨sG, ⟨sh', pt', pl', oaG⟩, o, fs', kb, v5, v6, v7, v8, bs, hf, rfl⟩
          have hj := (List.getElem?_eq_some_iff.mp hv).1
          rw [show (vNs (giv i ws)).length = (giv i ws).length from List.length_map ..] at hj
          rw [at_nat hj] at hv
          obtain rfl := Option.some.inj hv
          obtain ⟨k, hkd⟩ : ∃ k, k = (giv i ws)[j] := ⟨_, rfl⟩
          have ek : (giv i ws)[j]? = some k := by rw [List.getElem?_eq_getElem hj, hkd]
          rw [← hkd]
          have kg := List.mem_of_getElem? ek
          obtain ⟨dxG, xbG, prG, pgG, hxG, BG⟩ := id oaG
          refine ⟨_, rfl, x, dxG, _, rfl, hxG, rfl, ?_⟩
          refine ⟨_, rfl, _, rfl, _, _, rfl, rfl, _, rfl, ?_⟩
          refine ⟨x, most, i, b, ws, sh', pt', pl', n, some k, by show [V.ref x, V.int ((piece : Int) - ((ahead i b 0).length : Int)), V.int (k : Int)] = _; rw [en]; rfl, oaG, by omega, fw.2.1, fun H2 U L pt pl s2 oa2 hpt hpl lk => ?_⟩
          have sG2 : Same (wo H x) H2 := Same.trans (sameX sG) s2
          obtain ⟨dx2, xb2, pr2, pg2, hx2, B2⟩ := id oa2
          have hf2 : o ≠ none → ∃ p, v5 = some (.ref p) ∧ CrsT K H2 p fs' [kb] := fun z => by
            obtain ⟨p, e, hp⟩ := hf z
            exact ⟨p, e, (CrsT.woI hp hxG).mono s2⟩
          refine ⟨_, rfl, x, dx2, _, rfl, hx2, rfl, ?_⟩
          refine ⟨_, rfl, _, rfl, _, _, rfl, rfl, _, rfl, ?_⟩
          refine ⟨x, most, i, b, ws, ((n + 1 : Nat) : Int), pt, pl, n, k, some k, U, L, by show [V.ref x, V.int ((piece : Int) - ((ahead i b 0).length : Int)), V.int (k : Int)] = _; rw [en], oa2, hpt, lk, kg, hn1, by omega, by omega, by omega, fun p o' g H3 s3 mo ho t3 => ?_⟩
          have sG3 := Same.trans sG2 s3
          have hx3 := s3 _ _ hx2
          have oa3 := oa2.mono s3
          have hf3 : o ≠ none → ∃ p, v5 = some (.ref p) ∧ CrsT K H3 p fs' [kb] := fun z => by
            obtain ⟨p, e, hp⟩ := hf2 z
            exact ⟨p, e, hp.mono s3⟩
          have et : (giv i ws).take (j + 1) = (giv i ws).take j ++ [k] := by rw [List.take_add_one, ek]; rfl
          refine ⟨p, _, rfl, t3, rfl, _, _, rfl, ?_⟩
          refine ⟨_, _, rfl, ?_⟩
          refine ⟨rfl, ?_⟩
          refine ⟨_, rfl, rfl, _, rfl, ?_⟩
          cases o' with
          | none =>
            refine iteF' rfl (iteF ?_)
            refine ⟨sG3, ⟨_, _, _, oa3⟩, o, fs', kb, _, _, _, _, ⟨fun k' hk' u hu => ?_, bs.this⟩, hf3, rfl⟩
            rw [et] at hk'
            rcases List.mem_append.mp hk' with hk' | hk'
            · exact bs.all k' hk' u hu
            · rw [List.mem_singleton.mp hk'] at hu
              have := mo.one hu
              cases this
          | some v =>
            refine iteT' rfl ?_
            obtain ⟨gn, a, u, ha, eg, hU, ev⟩ := ho v rfl
            refine ⟨_, rfl, x, dx2, _, rfl, hx3, rfl, ?_⟩
            refine ⟨_, rfl, _, rfl, x, dx2, most, xb2, pr2, pg2, ((n + 1 : Nat) : Int), pt, pl, sg most * v, _, rfl, hx3, ?_⟩
            rw [less_sg]
            refine ⟨_, rfl, ite2 (fun yes => ?_) (fun no => ?_)⟩
            · refine ⟨_, rfl, ?_⟩
              refine ⟨_, rfl, x, dx2, _, rfl, hx3, rfl, ?_⟩
              refine ⟨_, rfl, _, rfl, x, most, i, b, ws, ((n + 1 : Nat) : Int), pt, pl, n, g, k, U, L, u, rfl, oa3, s3 _ _ hpl, lk, kg, by omega, by omega, hU, fun p1 ks q1 H4 s4 t4 hks e1 e2 => ?_⟩
              refine ⟨_, rfl, (by show 1 ≤ sizeLine; decide), fun a2 ha2 => ?_⟩
              refine ⟨(by show 2 ≤ sizeLine; decide), fun a3 ha3 => ?_⟩
              have t5 := NF.Same.new (o := .tup [V.int (k : Int)]) (Same.refl H4) ha2
              have t6 := NF.Same.new (o := .tup [V.ref p1, V.ref a2]) (Same.refl (upd H4 a2 (.tup [V.int (k : Int)]))) ha3
              have s46 := Same.trans s4 (Same.trans t5 t6)
              refine ⟨Same.trans sG3 s46, ⟨_, _, _, oa3.mono s46⟩, some v, ks, k, _, _, _, _, ⟨fun k' hk' u' hu' => ?_, fun v' hv' => ?_⟩, fun _ => ⟨a3, rfl, p1, a2, SqT.of upd_same, NF.Same.tup (Same.trans t5 t6) t4, NF.Same.tup t6 (SqT.of upd_same)⟩, rfl⟩
              · rw [et] at hk'
                rcases List.mem_append.mp hk' with hk' | hk'
                · obtain ⟨w', ew, le⟩ := bs.all k' hk' u' hu'
                  rw [ew] at yes
                  have := of_decide_eq_true (show decide (v < w') = true from yes)
                  exact ⟨v, rfl, by omega⟩
                · rw [List.mem_singleton.mp hk'] at hu'
                  have := mo.one hu'
                  injection this with this
                  exact ⟨v, rfl, by omega⟩
              · injection hv' with hv'
                rw [← hv']
                exact ⟨kg, mo, hks, q1, a, ha, by omega, by rw [ev, e2]⟩
            · have hno : ∃ w', o = some w' ∧ w' ≤ v := by
                cases o with
                | none => exact absurd rfl no
                | some w' => exact ⟨w', rfl, by
                    by_cases z : v < w'
                    · exact absurd (decide_eq_true z) no
                    · omega⟩
              obtain ⟨w', ew, le⟩ := hno
              refine ⟨sG3, ⟨_, _, _, oa3⟩, o, fs', kb, _, _, _, _, ⟨fun k' hk' u' hu' => ?_, bs.this⟩, hf3, rfl⟩
              rw [et] at hk'
              rcases List.mem_append.mp hk' with hk' | hk'
              · exact bs.all k' hk' u' hu'
              · rw [List.mem_singleton.mp hk'] at hu'
                have := mo.one hu'
                injection this with this
                exact ⟨w', ew, by omega⟩
        · rintro σ G ⟨sG, _, o, fs', kb, v5, v6, v7, v8, bs, hf, rfl⟩
          rw [show (vNs (giv i ws)).length = (giv i ws).length from List.length_map .., List.take_length] at bs
          obtain ⟨ho, cg⟩ := bs.good (b := b) hn1 hs fw.1
          obtain ⟨p, rfl, hp⟩ := hf ho
          rw [← hn] at cg
          exact ⟨_, rfl, q p fs' [kb] G sG hp cg⟩
end
end K25
set_option Elab.async false
set_option linter.all false
/-! The best way, and the sizes of an extreme; plain forms that pass over. -/
namespace NT
theorem plain_tr {h l h' l' : List Int} {r r' : Int} {x : List Int × List Int × Int} (p : IsPlain h l r x) (e : ∀ n, 1 ≤ n → at_ h l r n = at_ h' l' r' n) : IsPlain h' l' r' x := by
  rcases p with ⟨rfl, rfl⟩ | ⟨n1, n1', m1, k1, e1⟩
  · by_cases c : l' = []
    · subst c
      refine .inl ⟨rfl, ?_⟩
      rw [one_never e]
    · have q := e (h.length + h'.length + 1) (by omega)
      rw [at_loop c (by omega)] at q
      unfold at_ at q
      rw [if_neg (by omega), if_pos rfl] at q
      cases q
  · by_cases c : l' = []
    · subst c
      have q := e (h.length + h'.length + 1) (by omega)
      rw [at_loop n1 (by omega)] at q
      unfold at_ at q
      rw [if_neg (by omega), if_pos rfl] at q
      cases q
    · exact .inr ⟨c, n1', m1, k1, fun n hn => (e1 n hn).trans (e n hn)⟩
theorem best_ex {m : Nat → Nat} {d : Nat → Int} : ∀ {G : List Nat}, (∀ k ∈ G, 1 ≤ m k) → G ≠ [] → ∃ kb, kb ∈ G ∧ ∀ k ∈ G, d kb * (m k : Int) ≤ d k * (m kb : Int)
  | [], _, h => absurd rfl h
  | [a], _, _ => ⟨a, by simp, fun k hk => by rw [List.mem_singleton.mp hk]; exact Int.le_refl _⟩
  | a :: b :: G, hm, _ => by
    obtain ⟨kb, hk, hb⟩ := best_ex (G := b :: G) (fun k hk => hm k (List.mem_cons_of_mem _ hk)) (by simp)
    have pa := hm a (by simp)
    have pk := hm kb (List.mem_cons_of_mem _ hk)
    by_cases c : d a * (m kb : Int) ≤ d kb * (m a : Int)
    · refine ⟨a, by simp, fun k hk' => ?_⟩
      rcases List.mem_cons.mp hk' with rfl | hk'
      · exact Int.le_refl _
      · exact rate_trans c (hb k hk') pk
    · refine ⟨kb, List.mem_cons_of_mem _ hk, fun k hk' => ?_⟩
      rcases List.mem_cons.mp hk' with rfl | hk'
      · omega
      · exact hb k hk'
end NT
set_option Elab.async false
set_option linter.all false
set_option maxRecDepth 100000
set_option maxHeartbeats 4000000
namespace K25
open PySem PySem.Spec PyProof.Rows L2 He NF RZ NT
/-- the plain form of the least, or the greatest -/
def IsExt (most : Bool) (i : Nat) (b : List Deed) (ws : List (List Deed)) (z : List Int × List Int × Int) : Prop := ∃ h l r, Good h l r ∧ h.length + l.length ≤ 3000 ∧ r ≤ 10000 ∧ (∀ n, 1 ≤ n → at_ h l r n = ext most i b ws n) ∧ IsPlain h l r z
def spExt (K : PySem.W.Frag) (CM CT : Addr) (most : Bool) : Sp := fun vs H Q _ => ∃ (xm : Addr) (n i : Nat) (b : List Deed) (ws : List (List Deed)), vs = [.ref xm, .int (i : Int)] ∧ MakAt K CM H xm n b ws ∧ GoodM n b ws ∧ i < n ∧
  ∀ y z H', IsExt most i b ws z → Same H H' → TabAt K CT H' y z → Q (.ref y) H'
def spCrsOf (K : PySem.W.Frag) (CM : Addr) : Sp := fun vs H Q _ => ∃ (xm : Addr) (n i piece : Nat) (most : Bool) (b : List Deed) (ws : List (List Deed)), vs = [.ref xm, .int (i : Int), .int (piece : Int), .bl most] ∧ MakAt K CM H xm n b ws ∧ GoodM n b ws ∧ i < n ∧ 1 ≤ piece ∧ piece ≤ 2000 ∧
  ∀ p fs ts H', Same H H' → CrsT K H' p fs ts → CrsGood most i b ws piece fs ts → Q (.ref p) H'
theorem sc_course_of : FnScope ["maker", "inlet", "piece", "most"] ["maker", "inlet", "piece", "most"] (defScope s_course_of) := ⟨rfl, rfl, rfl, by decide +kernel, rfl, by decide +kernel, by decide +kernel⟩
theorem sc_greatest : FnScope ["maker", "inlet", "head", "loop", "rise"] ["maker", "inlet"] (defScope s_greatest) := ⟨rfl, rfl, rfl, by decide +kernel, rfl, by decide +kernel, by decide +kernel⟩
theorem sc_least : FnScope ["maker", "inlet", "head", "loop", "rise"] ["maker", "inlet"] (defScope s_least) := ⟨rfl, rfl, rfl, by decide +kernel, rfl, by decide +kernel, by decide +kernel⟩
theorem GoodM.few {n : Nat} {b : List Deed} {ws : List (List Deed)} (g : GoodM n b ws) : Fewd ws := ⟨fun z => by have := g.m1; rw [z] at this; simp at this, g.m4, by
  by_cases c : ws.length = 1
  · exact .inr ⟨c, fun v hv => by have := (g.wy v hv).2.1; omega⟩
  · exact .inl fun v hv => by have := (g.wy v hv).2.1; omega⟩
section
variable {P : Program} {w : World} {K : PySem.W.Frag} {mg : Str → Option Value} {base : Heap} {gs fs : List Str} {C CM CR CT : Addr} {tok : Tok}
theorem ok_least {f : Addr} {fd : FuncData} (F : FunD K "least" "least" (defArgs s_least) (defBody s_least) (defScope s_least) [] [] f fd) (T : Txt K mg gs FS) (c_check_inlet : Cal P w K mg base 3 "check_inlet" (spChkI K CM)) (m_Outlook : Mak P w K mg base 3 0 "Outlook" C (spOInit K C CM CR) []) (o_form : MetC P w K mg base 5 C "form" (spForm2 K C CR)) (m_Table : Mak P w K mg base 4 0 "Table" CT (spInit K CT) []) : FnOk P w K mg base CX0 7 f fd ["maker", "inlet"] (spExt K CM CT false) := by
  refine F.ok sc_least (fun vs H Q E h => ?_) (fun cdv A outer s H vs Q E hr h => ?_)
  · obtain ⟨xm, n, i, b, ws, rfl, _⟩ := h
    rfl
  · obtain ⟨xm, n, i, b, ws, rfl, mk, g, hi, q⟩ := h
    refine ⟨_, PSs.nox (pss_cons (ps_expr (pe_c c_check_inlet hr (by decide) rfl (pa_cons (pv 0) (pa_cons (pv 1) pa_nil)))) (pss_cons (ps_asg (pe_mt0 (pe_mk m_Outlook hr (by decide) rfl (pa_cons (pv 0) (pa_cons (pv 1) (pa_cons pe_bl pa_nil)))) o_form hr (by decide)) (pgt (K := K) (n := 3) rfl rfl (pgs_cons (pg_name (i := 2) sc_least.nd rfl (Or.inl rfl)) (pgs_cons (pg_name (i := 3) sc_least.nd rfl (Or.inl rfl)) (pgs_cons (pg_name (i := 4) sc_least.nd rfl (Or.inl rfl)) pgs_nil))))) (pss_one (ps_ret (pe_mk m_Table hr (by decide) rfl (pa_cons (pv 2) (pa_cons (pv 3) (pa_cons (pv 4) pa_nil)))))))), ?_⟩
    refine ⟨_, rfl, _, rfl, xm, n, i, b, ws, rfl, mk, hi, ?_⟩
    refine ⟨_, rfl, _, rfl, ?_⟩
    intro x dx nx nd ne
    refine ⟨x, dx, xm, n, i, false, b, ws, rfl, upd_same, mk.mono (same_woM nx nd), g, fun H1 sh pt pl s1 oa => ⟨rfl, ?_⟩⟩
    have s01 : Same H H1 := Same.trans (same_woM nx nd) s1
    obtain ⟨dxo, _, _, _, hxo, _⟩ := id oa
    refine ⟨x, dxo, _, rfl, hxo, rfl, ?_⟩
    refine ⟨x, false, i, b, ws, sh, pt, pl, rfl, oa, g.few, g.bl, fun p ph pq h l r H2 s2 tp rh rl gd hl hr1 ha => ?_⟩
    have hxn : (wo H1 x) x = none := wo_none
    have s02 : Same H H2 := Same.trans (fun a o e => by
      rw [wo_ne fun z => by rw [z, nx] at e; cases e]
      exact s01 _ _ e) s2
    refine ⟨p, _, rfl, tp, rfl, _, _, rfl, ?_⟩
    refine ⟨_, _, rfl, ?_⟩
    refine ⟨_, _, rfl, ?_⟩
    refine ⟨rfl, ?_⟩
    refine ⟨_, rfl, _, rfl, _, rfl, ?_⟩
    intro y dy ny nd' ne'
    refine ⟨y, dy, ph, pq, h, l, r, rfl, upd_same, row_made ny nd' rh, row_made ny nd' rl, gd, by omega, fun z H' hz s tb => ⟨rfl, ?_⟩⟩
    exact q y z H' ⟨h, l, r, gd, hl, hr1, ha, hz⟩ (Same.trans s02 (same_made ny nd' s)) tb
theorem ok_greatest {f : Addr} {fd : FuncData} (F : FunD K "greatest" "greatest" (defArgs s_greatest) (defBody s_greatest) (defScope s_greatest) [] [] f fd) (T : Txt K mg gs FS) (c_check_inlet : Cal P w K mg base 3 "check_inlet" (spChkI K CM)) (m_Outlook : Mak P w K mg base 3 0 "Outlook" C (spOInit K C CM CR) []) (o_form : MetC P w K mg base 5 C "form" (spForm2 K C CR)) (m_Table : Mak P w K mg base 4 0 "Table" CT (spInit K CT) []) : FnOk P w K mg base CX0 7 f fd ["maker", "inlet"] (spExt K CM CT true) := by
  refine F.ok sc_greatest (fun vs H Q E h => ?_) (fun cdv A outer s H vs Q E hr h => ?_)
  · obtain ⟨xm, n, i, b, ws, rfl, _⟩ := h
    rfl
  · obtain ⟨xm, n, i, b, ws, rfl, mk, g, hi, q⟩ := h
    refine ⟨_, PSs.nox (pss_cons (ps_expr (pe_c c_check_inlet hr (by decide) rfl (pa_cons (pv 0) (pa_cons (pv 1) pa_nil)))) (pss_cons (ps_asg (pe_mt0 (pe_mk m_Outlook hr (by decide) rfl (pa_cons (pv 0) (pa_cons (pv 1) (pa_cons pe_bl pa_nil)))) o_form hr (by decide)) (pgt (K := K) (n := 3) rfl rfl (pgs_cons (pg_name (i := 2) sc_greatest.nd rfl (Or.inl rfl)) (pgs_cons (pg_name (i := 3) sc_greatest.nd rfl (Or.inl rfl)) (pgs_cons (pg_name (i := 4) sc_greatest.nd rfl (Or.inl rfl)) pgs_nil))))) (pss_one (ps_ret (pe_mk m_Table hr (by decide) rfl (pa_cons (pv 2) (pa_cons (pv 3) (pa_cons (pv 4) pa_nil)))))))), ?_⟩
    refine ⟨_, rfl, _, rfl, xm, n, i, b, ws, rfl, mk, hi, ?_⟩
    refine ⟨_, rfl, _, rfl, ?_⟩
    intro x dx nx nd ne
    refine ⟨x, dx, xm, n, i, true, b, ws, rfl, upd_same, mk.mono (same_woM nx nd), g, fun H1 sh pt pl s1 oa => ⟨rfl, ?_⟩⟩
    have s01 : Same H H1 := Same.trans (same_woM nx nd) s1
    obtain ⟨dxo, _, _, _, hxo, _⟩ := id oa
    refine ⟨x, dxo, _, rfl, hxo, rfl, ?_⟩
    refine ⟨x, true, i, b, ws, sh, pt, pl, rfl, oa, g.few, g.bl, fun p ph pq h l r H2 s2 tp rh rl gd hl hr1 ha => ?_⟩
    have hxn : (wo H1 x) x = none := wo_none
    have s02 : Same H H2 := Same.trans (fun a o e => by
      rw [wo_ne fun z => by rw [z, nx] at e; cases e]
      exact s01 _ _ e) s2
    refine ⟨p, _, rfl, tp, rfl, _, _, rfl, ?_⟩
    refine ⟨_, _, rfl, ?_⟩
    refine ⟨_, _, rfl, ?_⟩
    refine ⟨rfl, ?_⟩
    refine ⟨_, rfl, _, rfl, _, rfl, ?_⟩
    intro y dy ny nd' ne'
    refine ⟨y, dy, ph, pq, h, l, r, rfl, upd_same, row_made ny nd' rh, row_made ny nd' rl, gd, by omega, fun z H' hz s tb => ⟨rfl, ?_⟩⟩
    exact q y z H' ⟨h, l, r, gd, hl, hr1, ha, hz⟩ (Same.trans s02 (same_made ny nd' s)) tb
theorem ok_course_of {f : Addr} {fd : FuncData} (F : FunD K "course_of" "course_of" (defArgs s_course_of) (defBody s_course_of) (defScope s_course_of) [] [("most", .bl true)] f fd) (T : Txt K mg gs FS) (h_LAST_PIECE : mg "LAST_PIECE" = some (.int 2000 tok)) (c_check_inlet : Cal P w K mg base 3 "check_inlet" (spChkI K CM)) (c_is_count : Cal P w K mg base 2 "is_count" spIsCount) (m_Outlook : Mak P w K mg base 3 0 "Outlook" C (spOInit K C CM CR) []) (o_course : MetC P w K mg base 5 C "course" (spCourse K C CR)) : FnOk P w K mg base CX0 7 f fd ["maker", "inlet", "piece", "most"] (spCrsOf K CM) := by
  refine F.ok sc_course_of (fun vs H Q E h => ?_) (fun cdv A outer s H vs Q E hr h => ?_)
  · obtain ⟨xm, n, i, piece, most, b, ws, rfl, _⟩ := h
    rfl
  · obtain ⟨xm, n, i, piece, most, b, ws, rfl, mk, g, hi, p1, p2, q⟩ := h
    refine ⟨_, PSs.nox (pss_cons (ps_expr (pe_c c_check_inlet hr (by decide) rfl (pa_cons (pv 0) (pa_cons (pv 1) pa_nil)))) (pss_cons (ps_if (PW.pt (pw_or (pt_not (pt_val (pe_c c_is_count hr (by decide) rfl (pa_cons (pv 2) pa_nil)))) (pw_or1 (pt_not (pt_chain op_le op_le pe_int (pv 2) (pe_glob (v := .int 2000) rfl h_LAST_PIECE ⟨_, rfl⟩)))))) (pss_one ps_never) pss_nil) (pss_one (ps_ret (pe_mt (pe_mk m_Outlook hr (by decide) rfl (pa_cons (pv 0) (pa_cons (pv 1) (pa_cons (pv 3) pa_nil)))) o_course hr (by decide) (pa_cons (pv 2) pa_nil)))))), ?_⟩
    refine ⟨_, rfl, _, rfl, xm, n, i, b, ws, rfl, mk, hi, ?_⟩
    refine ⟨_, rfl, (piece : Int), rfl, ?_⟩
    refine ⟨_, rfl, iteF' (by rw [decide_eq_true (by omega)]; rfl) ?_⟩
    refine ⟨_, rfl, _, _, rfl, rfl, _, rfl, iteT' (decide_eq_true (by omega)) ?_⟩
    refine ⟨_, _, rfl, rfl, _, rfl, iteF' (by rw [decide_eq_true (by omega)]; rfl) ?_⟩
    refine ⟨_, rfl, _, rfl, _, rfl, ?_⟩
    intro x dx nx nd ne
    refine ⟨x, dx, xm, n, i, most, b, ws, rfl, upd_same, mk.mono (same_woM nx nd), g, fun H1 sh pt pl s1 oa => ⟨rfl, ?_⟩⟩
    have s01 : Same H H1 := Same.trans (same_woM nx nd) s1
    obtain ⟨dxo, _, _, _, hxo, _⟩ := id oa
    refine ⟨x, dxo, _, rfl, hxo, rfl, ?_⟩
    refine ⟨_, rfl, x, most, i, b, ws, sh, pt, pl, piece, rfl, oa, g.few, g.bl, p1, by omega, fun p fs ts H2 s2 cr cg => ?_⟩
    have s02 : Same H H2 := Same.trans (fun a o e => by
      rw [wo_ne fun z => by rw [z, nx] at e; cases e]
      exact s01 _ _ e) s2
    exact q p fs ts H2 s02 cr cg
end
end K25
set_option Elab.async false
set_option linter.all false
set_option maxRecDepth 100000
set_option maxHeartbeats 4000000
/-! Things of any kind as data: what a maker, a course, a number of an inlet may be. -/
namespace NF
open PySem PySem.Spec PyProof.Rows L2 He RZ NT
section
variable {K : PySem.W.Frag} {H H' : Hp}
mutual
theorem dp_mono (s : Same H H') : ∀ (d : PyData) {v : V}, Dp K H v d → Dp K H' v d
  | .none, _, .non => .non
  | .bool _, _, .bl _ => .bl _
  | .int _, _, .int _ => .int _
  | .str _, _, .str _ => .str _
  | .list ds, _, .lst h a => .lst (L2.Same.seq s h) (dpall_mono s ds a)
  | .tuple ds, _, .tup h a => .tup (NF.Same.tup s h) (dpall_mono s ds a)
theorem dpall_mono (s : Same H H') : ∀ (ds : List PyData) {xs : List V}, DpAll K H xs ds → DpAll K H' xs ds
  | [], _, .nil => .nil
  | d :: ds, _, .cons h a => .cons (dp_mono s d h) (dpall_mono s ds a)
end
theorem dpall_len : ∀ {xs : List V} {ds : List PyData}, DpAll K H xs ds → xs.length = ds.length
  | _, _, .nil => rfl
  | _, _, .cons _ a => congrArg (· + 1) (dpall_len a)
theorem dpall_get : ∀ {xs : List V} {ds : List PyData}, DpAll K H xs ds → ∀ {j : Nat} {v : V} {d : PyData}, xs[j]? = some v → ds[j]? = some d → Dp K H v d
  | _, _, .cons h _, 0, _, _, e1, e2 => by
    cases e1
    cases e2
    exact h
  | _, _, .cons _ a, j + 1, _, _, e1, e2 => dpall_get a (j := j) (by simpa using e1) (by simpa using e2)
theorem dpall_app : ∀ {xs ys : List V} {ds es : List PyData}, DpAll K H xs ds → DpAll K H ys es → DpAll K H (xs ++ ys) (ds ++ es)
  | _, _, _, _, .nil, b => b
  | _, _, _, _, .cons h a, b => .cons h (dpall_app a b)
def isIntP : PyData → Bool
  | .int _ => true
  | _ => false
def isCntP : PyData → Bool
  | .int i => decide (0 ≤ i)
  | _ => false
def rowP : PyData → Option (List PyData)
  | .list l => some l
  | .tuple l => some l
  | _ => none
def itemsP (d : PyData) : List PyData := (rowP d).getD []
/-- a deed of a maker with n inlets -/
def okDP (n : Int) : PyData → Bool
  | .str s => decide (V.str s = V.str "give")
  | .int i => decide (0 ≤ i) && decide (i < n)
  | _ => false
def okDsP (n : Int) (d : PyData) : Bool := (rowP d).isSome && (itemsP d).all (okDP n)
def okWP (n : Int) (w : PyData) : Bool := okDsP n w && decide (0 < (itemsP w).length)
def okWsP (n : Int) (d : PyData) : Bool := (rowP d).isSome && (decide (1 ≤ (itemsP d).length) && decide ((itemsP d).length ≤ 4)) && (itemsP d).all (okWP n)
def mostP (dw : PyData) : Nat := if (itemsP dw).length = 1 then 600 else 24
def tooP (db dw : PyData) : Bool := decide (600 < (itemsP db).length) || (itemsP dw).any fun w => decide (mostP dw < (itemsP w).length)
def okNP : PyData → Bool
  | .int n => decide (1 ≤ n) && decide (n ≤ 3)
  | _ => false
def numP : PyData → Int
  | .int n => n
  | _ => 0
/-- the word that is due for a maker -/
def dueM (di db dw : PyData) : Option Str :=
  if okNP di = false then some "inlets" else if okDsP (numP di) db = false then some "begin" else if okWsP (numP di) dw = false then some "ways" else if tooP db dw = true then some "deed" else none
def wordO : Option Str → V
  | none => .non
  | some x => .str x
theorem dp_row {v : V} {d : PyData} {l : List PyData} (h : Dp K H v d) (e : rowP d = some l) : ∃ a xs, v = .ref a ∧ Row K H a xs ∧ DpAll K H xs l ∧ itemsP d = l := by
  cases h with
  | lst h a =>
    cases e
    exact ⟨_, _, rfl, .inl h, a, rfl⟩
  | tup h a =>
    cases e
    exact ⟨_, _, rfl, .inr h, a, rfl⟩
  | _ => cases e
/-- how big rows within rows are -/
def Few2 (d : PyData) : Prop := (itemsP d).length ≤ 10000 ∧ ∀ w ∈ itemsP d, (itemsP w).length ≤ 10000
def spIntP (K : PySem.W.Frag) : Sp := fun vs H Q _ => ∃ v d, vs = [v] ∧ Dp K H v d ∧ Q (.bl (isIntP d)) H
def spCntP (K : PySem.W.Frag) : Sp := fun vs H Q _ => ∃ v d, vs = [v] ∧ Dp K H v d ∧ Q (.bl (isCntP d)) H
def spRowP (K : PySem.W.Frag) : Sp := fun vs H Q _ => ∃ v d, vs = [v] ∧ Dp K H v d ∧ ∀ H', Same H H' → Q (.bl (rowP d).isSome) H'
def spDeedP (K : PySem.W.Frag) : Sp := fun vs H Q _ => ∃ v d n, vs = [v, .int n] ∧ Dp K H v d ∧ Q (.bl (okDP n d)) H
def spDeedsP (K : PySem.W.Frag) : Sp := fun vs H Q _ => ∃ v d n, vs = [v, .int n] ∧ Dp K H v d ∧ (itemsP d).length ≤ 10000 ∧ ∀ H', Same H H' → Q (.bl (okDsP n d)) H'
def spWaysP (K : PySem.W.Frag) : Sp := fun vs H Q _ => ∃ v d n, vs = [v, .int n] ∧ Dp K H v d ∧ Few2 d ∧ ∀ H', Same H H' → Q (.bl (okWsP n d)) H'
theorem kit_tu_s (K : PySem.W.Frag) : PySem.W.kitOne K (.type "tuple") (.type "str") = some false := by kernel_rfl
theorem kit_li_s (K : PySem.W.Frag) : PySem.W.kitOne K (.type "list") (.type "str") = some false := by kernel_rfl
/-- the type of a thing -/
def tyP : PyData → String
  | .none => "NoneType"
  | .bool _ => "bool"
  | .int _ => "int"
  | .str _ => "str"
  | .list _ => "list"
  | .tuple _ => "tuple"
  | .dict _ => "dict"
theorem dp_ty {v : V} {d : PyData} (h : Dp K H v d) : TyX K H v (.type (tyP d)) := by
  cases h with
  | non => exact .base .non
  | bl b => exact .base (.bl b)
  | int i => exact .base (.int i)
  | str x => exact .base (.str x)
  | lst h _ => exact tyx_lst h
  | tup h _ => exact tyx_tup h
theorem kit_p_int (K : PySem.W.Frag) (d : PyData) : PySem.W.kitOne K (.type (tyP d)) (.type "int") = some (match d with | .int _ => true | .bool _ => true | _ => false) := by
  cases d <;> first | exact if_pos (by decide +kernel) | kernel_rfl
theorem kit_p_bool (K : PySem.W.Frag) (d : PyData) : PySem.W.kitOne K (.type (tyP d)) (.type "bool") = some (match d with | .bool _ => true | _ => false) := by
  cases d <;> first | exact if_pos (by decide +kernel) | kernel_rfl
theorem kit_p_str (K : PySem.W.Frag) (d : PyData) : PySem.W.kitOne K (.type (tyP d)) (.type "str") = some (match d with | .str _ => true | _ => false) := by
  cases d <;> first | exact if_pos (by decide +kernel) | kernel_rfl
theorem kit_p_row (K : PySem.W.Frag) (d : PyData) : PySem.W.kitAny K (.type (tyP d)) [.type "tuple", .type "list"] = some (rowP d).isSome := by
  cases d <;> kernel_rfl
end
/-- two promises of one def: what the one lets, or what the other refuses -/
def spOr (a b : Sp) : Sp := fun vs H Q E => a vs H Q E ∨ b vs H Q E
theorem FnOk.or {P : Program} {w : World} {K : PySem.W.Frag} {mg : Str → Option Value} {base : Heap} {k1 k2 k : Nat} {f : Addr} {fd : FuncData} {ps : List Str} {sp1 sp2 : Sp} (F1 : FnOk P w K mg base CX0 k1 f fd ps sp1) (F2 : FnOk P w K mg base (L2.CX P w) k2 f fd ps sp2) (h1 : k1 ≤ k) (h2 : k2 ≤ k) : FnOk P w K mg base (L2.CX P w) k f fd ps (spOr sp1 sp2) := by
  refine ⟨fun vs H Q E h => h.elim (F1.len vs H Q E) (F2.len vs H Q E), fun A outer s H args us vs Q E hr e b v h => ?_⟩
  rcases h with h | h
  · refine codeAny_mono (F1.run A outer s H args us vs Q E (hr.mono h1) e b v h) fun r s' hq => ?_
    cases r with
    | error e => exact hq.elim
    | ok fl => cases fl <;> exact hq
  · exact F2.run A outer s H args us vs Q E (hr.mono h2) e b v h
end NF
set_option Elab.async false
set_option linter.all false
set_option maxRecDepth 100000
set_option maxHeartbeats 4000000
namespace K25
open PySem PySem.Spec PyProof.Rows L2 He NF RZ NT
section
variable {P : Program} {w : World} {K : PySem.W.Frag} {mg : Str → Option Value} {base : Heap} {gs fs : List Str} {C : Addr}
theorem ok_is_integerP {f : Addr} {fd : FuncData} (F : FunD K "is_integer" "is_integer" (defArgs s_is_integer) (defBody s_is_integer) (defScope s_is_integer) [] [] f fd) (T : Txt K mg gs FS) : FnOk P w K mg base CX0 1 f fd ["thing"] (spIntP K) := by
  refine F.ok sc_is_integer (fun vs H Q E h => ?_) (fun cdv A outer s H vs Q E hr h => ?_)
  · obtain ⟨v, d, rfl, _⟩ := h
    rfl
  · obtain ⟨v, d, rfl, hv, q⟩ := h
    refine ⟨_, PSs.nox (pss_one (ps_ret (pe_and (pe_callB call_isi rfl (T.fr _ (by decide +kernel)) (by decide +kernel) (pa_cons (pv 0) (pa_cons (pe_bltn (v := .ty "int") rfl (T.fr _ (by decide +kernel)) (by decide +kernel) rfl) pa_nil))) (pe_one (pe_not (pe_callB call_isi rfl (T.fr _ (by decide +kernel)) (by decide +kernel) (pa_cons (pv 0) (pa_cons (pe_bltn (v := .ty "bool") rfl (T.fr _ (by decide +kernel)) (by decide +kernel) rfl) pa_nil)))))))), ?_⟩
    refine ⟨_, rfl, _, _, _, _, _, rfl, .ty "int", dp_ty hv, kit_p_int K d, ?_⟩
    cases d with
    | int i => exact ⟨true, rfl, _, rfl, _, _, _, _, false, rfl, .ty "bool", dp_ty hv, kit_p_bool K (.int i), false, rfl, q⟩
    | bool b => exact ⟨true, rfl, _, rfl, _, _, _, _, true, rfl, .ty "bool", dp_ty hv, kit_p_bool K (.bool b), true, rfl, q⟩
    | _ => exact ⟨false, rfl, q⟩
theorem ok_is_countP {f : Addr} {fd : FuncData} (F : FunD K "is_count" "is_count" (defArgs s_is_count) (defBody s_is_count) (defScope s_is_count) [] [] f fd) (T : Txt K mg gs FS) (c_is_integer : Cal P w K mg base 1 "is_integer" (spIntP K)) : FnOk P w K mg base CX0 2 f fd ["thing"] (spCntP K) := by
  refine F.ok sc_is_count (fun vs H Q E h => ?_) (fun cdv A outer s H vs Q E hr h => ?_)
  · obtain ⟨v, d, rfl, _⟩ := h
    rfl
  · obtain ⟨v, d, rfl, hv, q⟩ := h
    refine ⟨_, PSs.nox (pss_one (ps_ret (pe_and (pe_c c_is_integer hr (by decide) rfl (pa_cons (pv 0) pa_nil)) (pe_one (pe_cmpR op_ge (pv 0) pe_int (nomark _)))))), ?_⟩
    refine ⟨_, rfl, v, d, rfl, hv, ?_⟩
    cases hv with
    | int i => exact ⟨true, rfl, _, rfl, _, _, rfl, rfl, q⟩
    | _ => exact ⟨false, rfl, q⟩
theorem ok_is_rowP {f : Addr} {fd : FuncData} (F : FunD K "is_row" "is_row" (defArgs s_is_row) (defBody s_is_row) (defScope s_is_row) [] [] f fd) (T : Txt K mg gs FS) : FnOk P w K mg base CX0 1 f fd ["thing"] (spRowP K) := by
  refine F.ok sc_is_row (fun vs H Q E h => ?_) (fun cdv A outer s H vs Q E hr h => ?_)
  · obtain ⟨v, d, rfl, _⟩ := h
    rfl
  · obtain ⟨v, d, rfl, hv, q⟩ := h
    refine ⟨_, PSs.nox (pss_one (ps_ret (pe_callB call_isiT rfl (T.fr _ (by decide +kernel)) (by decide +kernel) (pa_cons (pv 0) (pa_cons (pe_tup (pa_cons (pe_bltn (v := .ty "tuple") rfl (T.fr _ (by decide +kernel)) (by decide +kernel) rfl) (pa_cons (pe_bltn (v := .ty "list") rfl (T.fr _ (by decide +kernel)) (by decide +kernel) rfl) pa_nil))) pa_nil))))), ?_⟩
    refine ⟨_, rfl, (by show 2 ≤ sizeLine; decide), fun p hp => ?_⟩
    have s1 := NF.Same.new (o := .tup [V.ty "tuple", V.ty "list"]) (Same.refl H) hp
    exact ⟨_, p, _, _, _, _, rfl, upd_same, .cons (.ty _) (.cons (.ty _) .nil), dp_ty (dp_mono s1 d hv), kit_p_row K d, q _ s1⟩
theorem ok_is_deedP {f : Addr} {fd : FuncData} (F : FunD K "is_deed" "is_deed" (defArgs s_is_deed) (defBody s_is_deed) (defScope s_is_deed) [] [] f fd) (T : Txt K mg gs FS) (c_is_count : Cal P w K mg base 2 "is_count" (spCntP K)) : FnOk P w K mg base CX0 3 f fd ["thing", "inlets"] (spDeedP K) := by
  refine F.ok sc_is_deed (fun vs H Q E h => ?_) (fun cdv A outer s H vs Q E hr h => ?_)
  · obtain ⟨v, d, n, rfl, _⟩ := h
    rfl
  · obtain ⟨v, d, n, rfl, hv, q⟩ := h
    refine ⟨_, PSs.nox (pss_cons (ps_if (pt_val (pe_callB call_isi rfl (T.fr _ (by decide +kernel)) (by decide +kernel) (pa_cons (pv 0) (pa_cons (pe_bltn (v := .ty "str") rfl (T.fr _ (by decide +kernel)) (by decide +kernel) rfl) pa_nil)))) (pss_one (ps_ret (pe_cmpR op_eq (pv 0) pe_str (nomark _)))) pss_nil) (pss_one (ps_ret (pe_and (pe_c c_is_count hr (by decide) rfl (pa_cons (pv 0) pa_nil)) (pe_one (pe_cmpR op_lt (pv 0) (pv 1) (nomark _))))))), ?_⟩
    refine ⟨_, rfl, _, _, _, _, _, rfl, .ty "str", dp_ty hv, kit_p_str K d, ?_⟩
    cases hv with
    | str x => exact ⟨true, rfl, iteT ⟨_, rfl, rfl, q⟩⟩
    | int i =>
      refine ⟨false, rfl, iteF ⟨_, rfl, _, .int i, rfl, .int i, ?_⟩⟩
      refine ⟨_, rfl, ?_⟩
      by_cases c : 0 ≤ i
      · rw [show isCntP (.int i) = true from decide_eq_true c]
        refine iteT ⟨_, rfl, _, rfl, _, _, rfl, rfl, ?_⟩
        have e : okDP n (.int i) = decide (i < n) := by
          show (decide (0 ≤ i) && _) = _
          rw [decide_eq_true c]
          rfl
        rw [e] at q
        exact q
      · rw [show isCntP (.int i) = false from decide_eq_false c]
        refine iteF ?_
        have e : okDP n (.int i) = false := by
          show (decide (0 ≤ i) && _) = _
          rw [decide_eq_false c]
          rfl
        rw [e] at q
        exact q
    | non => exact ⟨false, rfl, iteF ⟨_, rfl, _, .none, rfl, .non, false, rfl, iteF q⟩⟩
    | bl b => exact ⟨false, rfl, iteF ⟨_, rfl, _, .bool b, rfl, .bl b, false, rfl, iteF q⟩⟩
    | lst h a => exact ⟨false, rfl, iteF ⟨_, rfl, _, _, rfl, .lst h a, false, rfl, iteF q⟩⟩
    | tup h a => exact ⟨false, rfl, iteF ⟨_, rfl, _, _, rfl, .tup h a, false, rfl, iteF q⟩⟩
theorem take_snoc {α : Type} {l : List α} {j : Nat} {x : α} (e : l[j]? = some x) : l.take (j + 1) = l.take j ++ [x] := by
  rw [List.take_add_one, e]
  rfl
theorem ok_are_deedsP {f : Addr} {fd : FuncData} (F : FunD K "are_deeds" "are_deeds" (defArgs s_are_deeds) (defBody s_are_deeds) (defScope s_are_deeds) [] [] f fd) (T : Txt K mg gs FS) (c_is_row : Cal P w K mg base 1 "is_row" (spRowP K)) (c_is_deed : Cal P w K mg base 3 "is_deed" (spDeedP K)) : FnOk P w K mg base CX0 4 f fd ["thing", "inlets"] (spDeedsP K) := by
  refine F.ok sc_are_deeds (fun vs H Q E h => ?_) (fun cdv A outer s H vs Q E hr h => ?_)
  · obtain ⟨v, d, n, rfl, _⟩ := h
    rfl
  · obtain ⟨v, d, n, rfl, hv, hl, q⟩ := h
    refine ⟨_, PSs.nox (pss_one (ps_ret (pe_and (pe_c c_is_row hr (by decide) rfl (pa_cons (pv 0) pa_nil)) (pe_one (pe_callB (cr_all rfl) rfl (T.fr _ (by decide +kernel)) (by decide +kernel) (pa_cons (pe_lc (own := [("deed", 2)]) rfl sc_are_deeds.nd (pi_row (pv 0)) (blkOk_by (N := ["thing", "inlets", "deed"]) (sc := defScope s_are_deeds) (by decide +kernel)) (fun _ _ _ _ _ => by exact (pg_name (i := 2) sc_are_deeds.nd rfl (Or.inl rfl))) (fun _ _ _ _ _ => by exact pts_nil) (fun _ _ _ _ _ => by exact (pe_c c_is_deed hr (by decide) rfl (pa_cons (pv 2) (pa_cons (pv 1) pa_nil))))) pa_nil)))))), ?_⟩
    refine ⟨_, rfl, v, d, rfl, hv, fun H1 s1 => ⟨_, rfl, ?_⟩⟩
    cases er : rowP d with
    | none =>
      have := q H1 s1
      unfold okDsP at this
      rw [er] at this
      exact iteF this
    | some l =>
      obtain ⟨a, xs, rfl, ha, hd, ei⟩ := dp_row (dp_mono s1 d hv) er
      have xl := dpall_len hd
      rw [ei] at hl
      refine iteT ?_
      refine ⟨_, rfl, a, rfl, ?_⟩
      refine lc_row ha (fun D j G => Same H1 G ∧ G D = some (.lst (((l.take j).map (okDP n)).map V.bl))) (fun D hD => ⟨NF.Same.new (Same.refl H1) hD, upd_same⟩) (fun D i G _ z => z.1) ?_ ?_
      · rintro D hD j v G hv ⟨hG, hD2⟩
        have hj := (List.getElem?_eq_some_iff.mp hv).1
        have hjl : j < l.length := by omega
        have el := List.getElem?_eq_getElem hjl
        refine ⟨rfl, _, rfl, _, rfl, v, l[j], n, rfl, dp_mono hG _ (dpall_get hd hv el), ?_⟩
        refine ⟨_, hD2, by rw [List.length_map, List.length_map, List.length_take]; exact Nat.lt_of_lt_of_le (show min j l.length < 10000 by omega) (by decide), NF.Same.mut hG hD, ?_⟩
        rw [upd_same, take_snoc el, List.map_append, List.map_append]
        rfl
      · rintro D hD G ⟨hG, hD2⟩
        rw [xl, List.take_length] at hD2
        refine ⟨D, _, rfl, SqL.of hD2, ?_⟩
        have := q G (Same.trans s1 hG)
        unfold okDsP at this
        rw [er, ei] at this
        rw [List.all_map]
        exact this
theorem ok_are_waysP {f : Addr} {fd : FuncData} {tok_w : Tok} (F : FunD K "are_ways" "are_ways" (defArgs s_are_ways) (defBody s_are_ways) (defScope s_are_ways) [] [] f fd) (T : Txt K mg gs FS) (h_MOST_WAYS : mg "MOST_WAYS" = some (.int 4 tok_w)) (c_is_row : Cal P w K mg base 1 "is_row" (spRowP K)) (c_are_deeds : Cal P w K mg base 4 "are_deeds" (spDeedsP K)) : FnOk P w K mg base CX0 5 f fd ["thing", "inlets"] (spWaysP K) := by
  refine F.ok sc_are_ways (fun vs H Q E h => ?_) (fun cdv A outer s H vs Q E hr h => ?_)
  · obtain ⟨v, d, n, rfl, _⟩ := h
    rfl
  · obtain ⟨v, d, n, rfl, hv, hf, q⟩ := h
    refine ⟨_, PSs.nox (pss_cons (ps_if (PW.pt (pw_or (pt_not (pt_val (pe_c c_is_row hr (by decide) rfl (pa_cons (pv 0) pa_nil)))) (pw_or1 (pt_not (pt_chain op_le op_le pe_int (pe_callB call_len_seq rfl (T.fr _ (by decide +kernel)) boot_len (pa_cons (pv 0) pa_nil)) (pe_glob (v := .int 4) rfl h_MOST_WAYS ⟨_, rfl⟩)))))) (pss_one (ps_ret pe_bl)) pss_nil) (pss_one (ps_ret (pe_callB (cr_all rfl) rfl (T.fr _ (by decide +kernel)) (by decide +kernel) (pa_cons (pe_lc (own := [("way", 2)]) rfl sc_are_ways.nd (pi_row (pv 0)) (blkOk_by (N := ["thing", "inlets", "way"]) (sc := defScope s_are_ways) (by decide +kernel)) (fun _ _ _ _ _ => by exact (pg_name (i := 2) sc_are_ways.nd rfl (Or.inl rfl))) (fun _ _ _ _ _ => by exact pts_nil) (fun _ _ _ _ _ => by exact (pe_and (pe_c c_are_deeds hr (by decide) rfl (pa_cons (pv 2) (pa_cons (pv 1) pa_nil))) (pe_one (pe_cmpR op_gt (pe_callB (call_lenK (K := K)) rfl (T.fr _ (by decide +kernel)) boot_len (pa_cons (pv 2) pa_nil)) pe_int (nomark _)))))) pa_nil))))), ?_⟩
    refine ⟨_, rfl, v, d, rfl, hv, fun H1 s1 => ⟨_, rfl, ?_⟩⟩
    cases er : rowP d with
    | none =>
      have := q H1 s1
      unfold okWsP at this
      rw [er] at this
      exact iteT (iteT this)
    | some l =>
      obtain ⟨a, xs, rfl, ha, hd, ei⟩ := dp_row (dp_mono s1 d hv) er
      have xl := dpall_len hd
      obtain ⟨_, hf⟩ := hf
      rw [ei] at hf
      refine iteF ⟨_, rfl, a, _, rfl, ha, ?_⟩
      rw [xl]
      have fin : ∀ G, Same H1 G → Q (.bl ((decide (1 ≤ l.length) && decide (l.length ≤ 4)) && l.all (okWP n))) G := fun G sG => by
        have := q G (Same.trans s1 sG)
        unfold okWsP at this
        rw [er, ei] at this
        exact this
      refine ⟨_, _, rfl, rfl, _, rfl, ite2 (fun c1 => ?_) (fun c1 => ?_)⟩
      rotate_left
      · refine ⟨_, rfl, iteT ?_⟩
        have := fin H1 (Same.refl _)
        rw [show decide (1 ≤ l.length) = false from decide_eq_false fun z => c1 (decide_eq_true (by omega))] at this
        exact this
      have c1 := of_decide_eq_true c1
      refine ⟨_, _, rfl, rfl, _, rfl, ?_⟩
      by_cases c2 : l.length ≤ 4
      rotate_left
      · rw [show decide ((l.length : Int) ≤ 4) = false from decide_eq_false (by omega)]
        refine iteT ?_
        have := fin H1 (Same.refl _)
        rw [show decide (l.length ≤ 4) = false from decide_eq_false c2, Bool.and_false] at this
        exact this
      rw [show decide ((l.length : Int) ≤ 4) = true from decide_eq_true (by omega)]
      refine iteF ?_
      refine ⟨_, rfl, a, rfl, ?_⟩
      refine lc_row ha (fun D j G => Same H1 G ∧ G D = some (.lst (((l.take j).map (okWP n)).map V.bl))) (fun D hD => ⟨NF.Same.new (Same.refl H1) hD, upd_same⟩) (fun D i G _ z => z.1) ?_ ?_
      · rintro D hD j v G hv ⟨hG, hD2⟩
        have hj := (List.getElem?_eq_some_iff.mp hv).1
        have hjl : j < l.length := by omega
        have el := List.getElem?_eq_getElem hjl
        have hw := dp_mono hG _ (dpall_get hd hv el)
        have put : ∀ (b : Bool) (G2 : Hp), Same G G2 → okWP n l[j] = b → ∃ acc, G2 D = some (.lst acc) ∧ acc.length < sizeLine ∧ (Same H1 (upd G2 D (.lst (acc ++ [V.bl b]))) ∧ (upd G2 D (.lst (acc ++ [V.bl b]))) D = some (.lst (((l.take (j + 1)).map (okWP n)).map V.bl))) := fun b G2 s2 eb => by
          refine ⟨_, s2 _ _ hD2, by rw [List.length_map, List.length_map, List.length_take]; exact Nat.lt_of_lt_of_le (show min j l.length < 10000 by omega) (by decide), NF.Same.mut (Same.trans hG s2) hD, ?_⟩
          rw [upd_same, take_snoc el, List.map_append, List.map_append, ← eb]
          rfl
        refine ⟨rfl, _, rfl, _, rfl, v, l[j], n, rfl, hw, hf _ (List.getElem_mem hjl), fun G2 s2 => ⟨_, rfl, ?_⟩⟩
        cases ed : okDsP n l[j] with
        | false =>
          refine iteF ?_
          exact put false G2 s2 (by unfold okWP; rw [ed]; rfl)
        | true =>
          have er2 : ∃ l2, rowP l[j] = some l2 := by
            unfold okDsP at ed
            cases e3 : rowP l[j] with
            | none =>
              rw [e3] at ed
              cases ed
            | some l2 => exact ⟨l2, rfl⟩
          obtain ⟨l2, er2⟩ := er2
          obtain ⟨a2, xs2, rfl, ha2, hd2, ei2⟩ := dp_row hw er2
          refine iteT ⟨_, rfl, a2, _, rfl, ha2.mono s2, _, _, rfl, rfl, ?_⟩
          refine put _ G2 s2 ?_
          unfold okWP
          rw [ed, ei2, dpall_len hd2]
          show decide (0 < l2.length) = decide ((0 : Int) < (l2.length : Int))
          by_cases c : 0 < l2.length
          · rw [decide_eq_true c, decide_eq_true (by omega)]
          · rw [decide_eq_false c, decide_eq_false (by omega)]
      · rintro D hD G ⟨hG, hD2⟩
        rw [xl, List.take_length] at hD2
        refine ⟨D, _, rfl, SqL.of hD2, ?_⟩
        have := fin G hG
        rw [decide_eq_true (show 1 ≤ l.length by omega), decide_eq_true c2] at this
        rw [List.all_map]
        exact this
end
end K25
set_option Elab.async false
set_option linter.all false
set_option maxRecDepth 100000
set_option maxHeartbeats 4000000
/-! f(e, .., k = v) that may let an exception out; a local name that holds one of two defs that may let one out. -/
namespace NF
open PySem PySem.Spec PyProof.Rows L2 He RZ
structure CalKX (P : Program) (w : World) (K : PySem.W.Frag) (mg : Str → Option Value) (base : Heap) (k : Nat) (x : Str) (n : Nat) (ks : List Str) (sp : Sp) : Prop where
  ex : ∃ (f : Addr) (fd : FuncData) (ps : List Str), FnOk P w K mg base (L2.CX P w) k f fd ps sp ∧ mg x = some (.ref f) ∧ PySem.W.keepIn K (.ref f) = true ∧ KBn K fd ps n ks (fun us ws => us ++ ws) (fun vs zs => vs ++ zs)
def tCallKX (n m : Nat) (sp : Sp) (E : L2.St → XK) (t tk : TA) : TE := fun σ H Q => t σ H fun vs H1 => tk σ H1 fun zs H2 => vs.length = n ∧ zs.length = m ∧ sp (vs ++ zs) H2 Q (E σ)
theorem pe_ckX {X : Cx} {k j n : Nat} {x : Str} {ks : List Str} {sp : Sp} {W : WX} {e : Expr} {es : List Expr} {kws : List Keyword} {t tk : TA} {p pos : Pos} (tq : Takes X W) (c : CalKX X.prog X.w X.K X.mg X.base k x n ks sp) (hr : Room j X.A) (hk : k ≤ j) (hg : Gl X x) (ha : PA X (e :: es) t) (hkw : PK X kws tk)
    (hall : (backToKw pos (keywordEach kws X.env)).all (·.1.isSome) = true := by rfl) (hks : (backToKw pos (keywordEach kws X.env)).filterMap (·.1) = ks := by rfl)
    (hdb : (x == ("__debug__" : Str)) = false := by decide) (he : starEach (e :: es) X.env = (false, eval e X.env) :: starEach es X.env := by rfl)
    (hpl : ((backTo pos (starEach (e :: es) X.env)).any (·.1) || (backToKw pos (keywordEach kws X.env)).any (·.1.isNone)) = false := by rfl) :
    PE X (.Call (.Name x p) (e :: es) kws pos) (tCallKX n ks.length sp (WE W) t tk) := by
  obtain ⟨f, fd, ps, F, hm, kp, hb⟩ := c.ex
  refine ⟨fun pins s σ H Q I h => ?_⟩
  refine wpAny_Call_Name_kw (ld_glob I hg hm ?_ hdb)
  refine PySem.W.callWith_KW (h₀ := X.base) I.ok.mod.kin kp hall (thn (ha.run pos pins s σ H _ I h) fun us s1 ⟨vs, H1, I1, r, q⟩ => ?_) hpl he
  refine thn (hkw.run pos pins s1 σ H1 _ I1 q) fun ws s2 ⟨zs, H2, I2, rz, l1, l2, q2⟩ => ⟨I2.kIn, ?_⟩
  rw [hks]
  have r2 := hb.rel r rz
  refine wpAny_call (codeAny_mono (F.run X.A X.stack s2 H2 ⟨us, ks.zip ws⟩ (us ++ ws) (vs ++ zs) Q (WE W σ) (hr.mono hk) I2.env0 (hb.to s2 us ws I2.kIn (r.length.symm.trans l1) (rz.length.symm.trans l2)) r2 q2) fun r s' hq => ?_)
  rcases handS (E := WE W) (passAt tq σ) I2 hq with ⟨u, rfl, hz⟩ | ⟨e, rfl, hz⟩
  · exact hz
  · exact hz
/-- a local name that holds one of two defs, called -/
def tCallVX (K : PySem.W.Frag) (i : Nat) (x1 x2 : Str) (sp1 sp2 : Sp) (E : L2.St → XK) (t : TA) : TE := fun σ H Q => (σ[i]? = some (some (.ref (ga K x1))) ∧ t σ H fun vs H1 => sp1 vs H1 Q (E σ)) ∨ (σ[i]? = some (some (.ref (ga K x2))) ∧ t σ H fun vs H1 => sp2 vs H1 Q (E σ))
theorem pe_cvX {X : Cx} (K : PySem.W.Frag) {i j k1 k2 : Nat} {x x1 x2 : Str} {sp1 sp2 : Sp} {W : WX} {e : Expr} {es : List Expr} {t : TA} {p pos : Pos} (tk : Takes X W) (c1 : CalX X.prog X.w X.K X.mg X.base k1 x1 sp1) (g1 : X.mg x1 = some (.ref (ga K x1))) (c2 : CalX X.prog X.w X.K X.mg X.base k2 x2 sp2) (g2 : X.mg x2 = some (.ref (ga K x2))) (hr : Room j X.A) (hk1 : k1 ≤ j) (hk2 : k2 ≤ j) (hN : X.N[i]? = some x) (hv : Vis X.env.scope x) (ha : PA X (e :: es) t)
    (hK : X.K = K := by rfl) (hd : (x == ("__debug__" : Str)) = false := by decide) (hcd : (x == ("__classdict__" : Str)) = false := by decide)
    (he : starEach (e :: es) X.env = (false, eval e X.env) :: starEach es X.env := by rfl) (hpl : (backTo pos (starEach es X.env)).any (·.1) = false := by rfl) :
    PE X (.Call (.Name x p) (e :: es) [] pos) (tCallVX K i x1 x2 sp1 sp2 (WE W) t) := by
  subst hK
  refine ⟨fun pins s σ H Q I h => ?_⟩
  have go : ∀ {k : Nat} {y : Str} {sp : Sp}, CalX X.prog X.w X.K X.mg X.base k y sp → X.mg y = some (.ref (ga X.K y)) → k ≤ j → σ[i]? = some (some (.ref (ga X.K y))) → (t σ H fun vs H1 => sp vs H1 Q (WE W σ)) → wpAny (model X.prog X.w) X.A (eval (.Call (.Name x p) (e :: es) [] pos) X.env) (EP X pins σ Q) X.xe s := fun {k y sp} c g hk hs ht => by
    obtain ⟨f, fd, ps, F, hm, kp, b⟩ := c.ex
    obtain rfl : f = ga X.K y := by
      rw [g] at hm
      injection hm with hm
      injection hm with hm
      exact hm.symm
    refine wpAny_Call_Name_kw (thn ((pe_var (pos := p) hN hv hd hcd).run pins s σ H (fun v H1 => v = .ref (ga X.K y) ∧ H1 = H) I ⟨.ref (ga X.K y), hs, rfl, rfl⟩) fun u s1 ⟨v, H1, I1, r1, q1⟩ => ?_)
    obtain ⟨rfl, rfl⟩ := q1
    cases r1
    refine PySem.W.callWith_K (h₀ := X.base) I.ok.mod.kin kp (thn (ha.run pos pins s1 σ _ _ I1 ht) fun us s2 ⟨vs, H2, I2, r, q⟩ => ⟨I2.kIn, ?_⟩) he hpl
    exact run_fnS (E := WE W) F (hr.mono hk) b (passAt tk σ) I2 r q
  rcases h with ⟨h1, h2⟩ | ⟨h1, h2⟩
  · exact go c1 g1 hk1 h1 h2
  · exact go c2 g2 hk2 h1 h2
end NF
set_option Elab.async false
set_option linter.all false
set_option maxRecDepth 100000
set_option maxHeartbeats 4000000
/-! o.m(..): a method that may let an exception out. -/
namespace NF
open PySem PySem.Spec PyProof.Rows L2 He RZ
structure MetX (P : Program) (w : World) (K : PySem.W.Frag) (mg : Str → Option Value) (base : Heap) (k : Nat) (C : Addr) (m : Str) (sp : Sp) : Prop where
  cl : Cls K C
  ex : ∃ (f : Addr) (fd : FuncData) (ps : List Str), Meth K C m f ∧ FnOk P w K mg base (L2.CX P w) k f fd ps sp ∧ Binds K fd ps []
def tMethX (C : Addr) (m : Str) (sp : Sp) (E : L2.St → XK) (ta : TE) (t : TA) : TE := fun σ H Q => ta σ H fun x H1 => ∃ a dx fs, x = .ref a ∧ H1 a = some (.ins C dx fs) ∧ fs.lookup m = none ∧ t σ H1 fun vs H2 => sp (.ref a :: vs) H2 Q (E σ)
theorem pe_mtX {X : Cx} {k j : Nat} {C : Addr} {m : Str} {sp : Sp} {W : WX} {o e : Expr} {es : List Expr} {ta : TE} {t : TA} {pl : Sem Bool} {pos apos : Pos} (tk : Takes X W) (he : PE X o ta) (c : MetX X.prog X.w X.K X.mg X.base k C m sp) (hr : Room j X.A) (hk : k ≤ j) (ha : PA X (e :: es) t)
    (hst : starEach (e :: es) X.env = (false, eval e X.env) :: starEach es X.env := by rfl) (hpl : (backTo pos (starEach es X.env)).any (·.1) = false := by rfl)
    (ht : eval (.Call (.Attribute o m apos) (e :: es) [] pos) X.env = (do
      let ov ← eval o X.env
      standAt apos.atName
      let (f, first) ← holding [ov] (getMethod ov m pl)
      callWith pos f first (backTo pos (starEach (e :: es) X.env)) (backToKw pos (keywordEach [] X.env))) := by rfl) :
    PE X (.Call (.Attribute o m apos) (e :: es) [] pos) (tMethX C m sp (WE W) ta t) := by
  obtain ⟨f, fd, ps, hm, F, b⟩ := c.ex
  refine ⟨fun pins s σ H Q I h => ?_⟩
  refine PySem.W.methodCall_KW (pl := pl) (thn (he.run pins s σ H _ I h) fun u s1 ⟨x, H1, I1, rx, a, dx, fs, ex, ea, l, q⟩ => ?_) ht
  subst ex
  obtain rfl : u = Value.ref a := rx
  refine getmeth_ok I1 ea c.cl hm l ?_
  refine PySem.W.callWith_K (first := [.ref a]) (h₀ := X.base) I.ok.mod.kin hm.kp (thn (ha.run pos pins s1 σ H1 _ I1 q) fun us s2 ⟨vs, H2, I2, r, q2⟩ => ⟨I2.kIn, ?_⟩) hst hpl
  exact run_fnS (E := WE W) (us := .ref a :: us) (vs := .ref a :: vs) F (hr.mono hk) b (passAt tk σ) I2 (.cons rfl r) q2
end NF
set_option Elab.async false
set_option linter.all false
set_option maxRecDepth 100000
set_option maxHeartbeats 4000000
namespace K25
open PySem PySem.Spec PyProof.Rows L2 He NF RZ NT
theorem due_i {d1 d2 d3 : PyData} (h : okNP d1 = false) : dueM d1 d2 d3 = some ("inlets" : Str) := if_pos h
theorem due_b {d1 d2 d3 : PyData} (h : okNP d1 = true) (h2 : okDsP (numP d1) d2 = false) : dueM d1 d2 d3 = some ("begin" : Str) := by
  unfold dueM
  rw [if_neg (by rw [h]; decide), if_pos h2]
theorem due_w {d1 d2 d3 : PyData} (h : okNP d1 = true) (h2 : okDsP (numP d1) d2 = true) (h3 : okWsP (numP d1) d3 = false) : dueM d1 d2 d3 = some ("ways" : Str) := by
  unfold dueM
  rw [if_neg (by rw [h]; decide), if_neg (by rw [h2]; decide), if_pos h3]
theorem due_t {d1 d2 d3 : PyData} (h : okNP d1 = true) (h2 : okDsP (numP d1) d2 = true) (h3 : okWsP (numP d1) d3 = true) : dueM d1 d2 d3 = if tooP d2 d3 = true then some ("deed" : Str) else none := by
  unfold dueM
  rw [if_neg (by rw [h]; decide), if_neg (by rw [h2]; decide), if_neg (by rw [h3]; decide)]
/-- the error of a maker that is refused with a word -/
def BadM (K : PySem.W.Frag) (H : Hp) (E : XK) (x : Str) : Prop := ∀ d H', Same H H' → H d = none → H' d = some (.xd [("word", .str x)]) → E (.ref (ga K (if x = "deed" then "TooMany" else "BadMaker"))) (some d) H'
theorem BadM.mono {K : PySem.W.Frag} {H H1 : Hp} {E : XK} {x : Str} (h : BadM K H E x) (s : Same H H1) : BadM K H1 E x := fun d H' s' hd hx => h d H' (Same.trans s s') (L2.Same.free s hd) hx
def spCheckB (K : PySem.W.Frag) : Sp := fun vs H Q E => ∃ v1 v2 v3 d1 d2 d3 x, vs = [v1, v2, v3] ∧ Dp K H v1 d1 ∧ Dp K H v2 d2 ∧ Dp K H v3 d3 ∧ (itemsP d2).length ≤ 10000 ∧ Few2 d3 ∧ dueM d1 d2 d3 = some x ∧ BadM K H E x
def spMkInitB (K : PySem.W.Frag) (C : Addr) : Sp := fun vs H Q E => ∃ y v1 v2 v3 d1 d2 d3 x, vs = [y, v1, v2, v3] ∧ Dp K H v1 d1 ∧ Dp K H v2 d2 ∧ Dp K H v3 d3 ∧ (itemsP d2).length ≤ 10000 ∧ Few2 d3 ∧ dueM d1 d2 d3 = some x ∧ BadM K H E x
/-- the error that bears a thing -/
def BadT (K : PySem.W.Frag) (H : Hp) (E : XK) (nm : Str) (v : V) : Prop := ∀ d H', Same H H' → H d = none → H' d = some (.xd [("thing", v)]) → E (.ref (ga K nm)) (some d) H'
theorem BadT.mono {K : PySem.W.Frag} {H H1 : Hp} {E : XK} {nm : Str} {v : V} (h : BadT K H E nm v) (s : Same H H1) : BadT K H1 E nm v := fun d H' s' hd hx => h d H' (Same.trans s s') (L2.Same.free s hd) hx
def okIP (n : Nat) (d : PyData) : Bool := isCntP d && decide (numP d < (n : Int))
def okPP (d : PyData) : Bool := isCntP d && (decide (1 ≤ numP d) && decide (numP d ≤ 2000))
def okNuP (m : Nat) (d : PyData) : Bool := isCntP d && decide (numP d < (m : Int))
def okNsP (lo hi m : Nat) (d : PyData) : Bool := (rowP d).isSome && (decide (lo ≤ (itemsP d).length) && decide ((itemsP d).length ≤ hi)) && (itemsP d).all (okNuP m)
def pairP (d : PyData) : Bool := (rowP d).isSome && decide ((itemsP d).length = 2)
def okCP (m : Nat) (d : PyData) : Bool := pairP d && (okNsP 0 200 m ((itemsP d).getD 0 .none) && okNsP 1 40 m ((itemsP d).getD 1 .none))
def spChkIB (K : PySem.W.Frag) (C : Addr) : Sp := fun vs H Q E => ∃ x n b ws v d, vs = [.ref x, v] ∧ MakAt K C H x n b ws ∧ Dp K H v d ∧ okIP n d = false ∧ BadT K H E "BadInlet" v
def spPairP (K : PySem.W.Frag) : Sp := fun vs H Q _ => ∃ v d, vs = [v] ∧ Dp K H v d ∧ ∀ H', Same H H' → Q (.bl (pairP d)) H'
def spNumsP (K : PySem.W.Frag) : Sp := fun vs H Q _ => ∃ v d, ∃ lo hi m : Nat, vs = [v, .int (lo : Int), .int (hi : Int), .int (m : Int)] ∧ Dp K H v d ∧ (itemsP d).length ≤ 10000 ∧ ∀ H', Same H H' → Q (.bl (okNsP lo hi m d)) H'
def spCrsP (K : PySem.W.Frag) (C : Addr) : Sp := fun vs H Q _ => ∃ v x n b ws d, vs = [v, .ref x] ∧ MakAt K C H x n b ws ∧ Dp K H v d ∧ Few2 d ∧ ∀ H', Same H H' → Q (.bl (okCP ws.length d)) H'
def spNeedB (K : PySem.W.Frag) (C : Addr) : Sp := fun vs H Q E => ∃ x n b ws vi vc di dc, vs = [.ref x, vi, vc] ∧ MakAt K C H x n b ws ∧ Dp K H vi di ∧ Dp K H vc dc ∧ Few2 dc ∧
  ((okIP n di = false ∧ BadT K H E "BadInlet" vi) ∨ (∃ i : Nat, vi = .int (i : Int) ∧ i < n ∧ okCP ws.length dc = false ∧ BadT K H E "BadCourse" vc))
def spCrsOfB (K : PySem.W.Frag) (C : Addr) : Sp := fun vs H Q E => ∃ x n b ws vi vp most di dp, vs = [.ref x, vi, vp, .bl most] ∧ MakAt K C H x n b ws ∧ Dp K H vi di ∧ Dp K H vp dp ∧
  ((okIP n di = false ∧ BadT K H E "BadInlet" vi) ∨ (∃ i : Nat, vi = .int (i : Int) ∧ i < n ∧ okPP dp = false ∧ BadT K H E "BadCount" vp))
section
variable {P : Program} {w : World} {K : PySem.W.Frag} {mg : Str → Option Value} {base : Heap} {gs fs : List Str} {C CM CR CT : Addr} {tok tok_i tok_d tok_s tok1 tok2 : Tok}
theorem ok_check_makerB {f : Addr} {fd : FuncData} (F : FunD K "check_maker" "check_maker" (defArgs s_check_maker) (defBody s_check_maker) (defScope s_check_maker) [] [] f fd) (T : Txt K mg gs FS) (h_MOST_INLETS : mg "MOST_INLETS" = some (.int 3 tok_i)) (h_MOST_DEEDS : mg "MOST_DEEDS" = some (.int 600 tok_d)) (h_MOST_DEEDS_OF_SEVERAL : mg "MOST_DEEDS_OF_SEVERAL" = some (.int 24 tok_s)) (m_BadMaker : ExcI P w K mg base "BadMaker" "word") (m_TooMany : ExcI P w K mg base "TooMany" "word") (c_is_integer : Cal P w K mg base 1 "is_integer" (spIntP K)) (c_are_deeds : Cal P w K mg base 4 "are_deeds" (spDeedsP K)) (c_are_ways : Cal P w K mg base 5 "are_ways" (spWaysP K)) : FnOk P w K mg base (L2.CX P w) 6 f fd ["inlets", "begin", "ways"] (spCheckB K) := by
  refine F.ok sc_check_maker (fun vs H Q E h => ?_) (fun cdv A outer s H vs Q E hr h => ?_)
  · obtain ⟨v1, v2, v3, d1, d2, d3, x, rfl, _⟩ := h
    rfl
  · obtain ⟨v1, v2, v3, d1, d2, d3, x, rfl, h1, h2, h3, f2, f3, due, bad⟩ := h
    refine ⟨_, (pss_cons (ps_if (PW.pt (pw_or (pt_not (pt_val (pe_c c_is_integer hr (by decide) rfl (pa_cons (pv 0) pa_nil)))) (pw_or1 (pt_not (pt_chain op_le op_le pe_int (pv 0) (pe_glob (v := .int 3) rfl h_MOST_INLETS ⟨_, rfl⟩)))))) (pss_one (ps_rz rfl (takes_of rfl rfl rfl rfl) m_BadMaker hr (by decide) rfl pe_str)) pss_nil) (pss_cons (ps_if (pt_not (pt_val (pe_c c_are_deeds hr (by decide) rfl (pa_cons (pv 1) (pa_cons (pv 0) pa_nil))))) (pss_one (ps_rz rfl (takes_of rfl rfl rfl rfl) m_BadMaker hr (by decide) rfl pe_str)) pss_nil) (pss_cons (ps_if (pt_not (pt_val (pe_c c_are_ways hr (by decide) rfl (pa_cons (pv 2) (pa_cons (pv 0) pa_nil))))) (pss_one (ps_rz rfl (takes_of rfl rfl rfl rfl) m_BadMaker hr (by decide) rfl pe_str)) pss_nil) (pss_cons (ps_set (i := 3) sc_check_maker.nd rfl (Or.inl rfl) (pe_ifExp (pt_cmpR op_eq (pe_callB call_len_seq rfl (T.fr _ (by decide +kernel)) boot_len (pa_cons (pv 2) pa_nil)) pe_int (nomark _)) (pe_glob (v := .int 600) rfl h_MOST_DEEDS ⟨_, rfl⟩) (pe_glob (v := .int 24) rfl h_MOST_DEEDS_OF_SEVERAL ⟨_, rfl⟩))) (pss_one (ps_if (PW.pt (pw_or (pt_cmpR op_gt (pe_callB call_len_seq rfl (T.fr _ (by decide +kernel)) boot_len (pa_cons (pv 1) pa_nil)) (pe_glob (v := .int 600) rfl h_MOST_DEEDS ⟨_, rfl⟩) (nomark _)) (pw_or1 (pt_cmpR op_gt (pe_callB (cr_max rfl) rfl (T.fr _ (by decide +kernel)) (by decide +kernel) (pa_cons (pe_lc (own := [("way", 4)]) rfl sc_check_maker.nd (pi_row (pv 2)) (blkOk_by (N := ["inlets", "begin", "ways", "most", "way"]) (sc := defScope s_check_maker) (by decide +kernel)) (fun _ _ _ _ _ => by exact (pg_name (i := 4) sc_check_maker.nd rfl (Or.inl rfl))) (fun _ _ _ _ _ => by exact pts_nil) (fun _ _ _ _ _ => by exact (pe_callB (call_lenK (K := K)) rfl (T.fr _ (by decide +kernel)) boot_len (pa_cons (pv 4) pa_nil)))) pa_nil)) (pv 3) (nomark _))))) (pss_one (ps_rz rfl (takes_of rfl rfl rfl rfl) m_TooMany hr (by decide) rfl pe_str)) pss_nil)))))), ?_⟩
    have bI : dueM d1 d2 d3 = some ("inlets" : Str) → ∀ d H', Same H H' → H d = none → H' d = some (.xd [("word", .str "inlets")]) → E (.ref (ga K "BadMaker")) (some d) H' := fun z => by
      rw [z] at due
      cases due
      have b := bad
      unfold BadM at b
      rw [if_neg (by decide)] at b
      exact b
    have bB : dueM d1 d2 d3 = some ("begin" : Str) → ∀ d H', Same H H' → H d = none → H' d = some (.xd [("word", .str "begin")]) → E (.ref (ga K "BadMaker")) (some d) H' := fun z => by
      rw [z] at due
      cases due
      have b := bad
      unfold BadM at b
      rw [if_neg (by decide)] at b
      exact b
    have bW : dueM d1 d2 d3 = some ("ways" : Str) → ∀ d H', Same H H' → H d = none → H' d = some (.xd [("word", .str "ways")]) → E (.ref (ga K "BadMaker")) (some d) H' := fun z => by
      rw [z] at due
      cases due
      have b := bad
      unfold BadM at b
      rw [if_neg (by decide)] at b
      exact b
    have bD : dueM d1 d2 d3 = some ("deed" : Str) → ∀ d H', Same H H' → H d = none → H' d = some (.xd [("word", .str "deed")]) → E (.ref (ga K "TooMany")) (some d) H' := fun z => by
      rw [z] at due
      cases due
      have b := bad
      unfold BadM at b
      rw [if_pos rfl] at b
      exact b
    refine ⟨_, rfl, v1, d1, rfl, h1, ?_⟩
    cases hi : isIntP d1 with
    | false =>
      have e : okNP d1 = false := by
        cases d1 <;> first | rfl | cases hi
      exact ⟨_, rfl, iteT (iteT (raise_done fun d H2 hd s2 hx => bI (due_i e) d H2 s2 hd hx))⟩
    | true =>
      obtain ⟨n, rfl⟩ : ∃ n, d1 = .int n := by
        cases d1 with
        | int n => exact ⟨n, rfl⟩
        | _ => cases hi
      cases h1
      refine ⟨_, rfl, iteF ?_⟩
      refine ⟨_, rfl, _, _, rfl, rfl, _, rfl, ?_⟩
      by_cases c1 : 1 ≤ n
      rotate_left
      · rw [decide_eq_false c1]
        refine iteF ⟨_, rfl, iteT (raise_done fun d H2 hd s2 hx => bI (due_i ?_) d H2 s2 hd hx)⟩
        show (decide (1 ≤ n) && _) = false
        rw [decide_eq_false c1]
        rfl
      rw [decide_eq_true c1]
      refine iteT ⟨_, _, rfl, rfl, _, rfl, ?_⟩
      by_cases c2 : n ≤ 3
      rotate_left
      · rw [decide_eq_false c2]
        refine iteT (raise_done fun d H2 hd s2 hx => bI (due_i ?_) d H2 s2 hd hx)
        show (_ && decide (n ≤ 3)) = false
        rw [decide_eq_false c2, Bool.and_false]
      rw [decide_eq_true c2]
      refine iteF ?_
      have on : okNP (.int n) = true := by
        show (decide (1 ≤ n) && decide (n ≤ 3)) = true
        rw [decide_eq_true c1, decide_eq_true c2]
        rfl
      refine ⟨_, rfl, _, rfl, v2, d2, n, rfl, h2, f2, fun H1 s1 => ⟨_, rfl, ?_⟩⟩
      cases e2 : okDsP n d2 with
      | false => exact iteT (raise_done fun d H2 hd s2 hx => bB (due_b on e2) d H2 (Same.trans s1 s2) (L2.Same.free s1 hd) hx)
      | true =>
        refine iteF ⟨_, rfl, _, rfl, v3, d3, n, rfl, dp_mono s1 d3 h3, f3, fun H2 s2 => ⟨_, rfl, ?_⟩⟩
        have s02 := Same.trans s1 s2
        cases e3 : okWsP n d3 with
        | false => exact iteT (raise_done fun d H3 hd s3 hx => bW (due_w on e2 e3) d H3 (Same.trans s02 s3) (L2.Same.free s02 hd) hx)
        | true =>
          refine iteF ?_
          have dt := due_t on e2 e3
          have tt : tooP d2 d3 = true := by
            cases z : tooP d2 d3 with
            | true => rfl
            | false =>
              rw [z, if_neg (by decide)] at dt
              rw [dt] at due
              cases due
          rw [tt, if_pos rfl] at dt
          have bD := bD dt
          obtain ⟨l2, r2⟩ : ∃ l, rowP d2 = some l := by
            unfold okDsP at e2
            cases z : rowP d2 with
            | none =>
              rw [z] at e2
              cases e2
            | some l => exact ⟨l, rfl⟩
          obtain ⟨l3, r3⟩ : ∃ l, rowP d3 = some l := by
            unfold okWsP at e3
            cases z : rowP d3 with
            | none =>
              rw [z] at e3
              cases e3
            | some l => exact ⟨l, rfl⟩
          obtain ⟨pb, xb, rfl, hb, db, ib⟩ := dp_row (dp_mono s02 d2 h2) r2
          obtain ⟨pw, xw, rfl, hw, dw, iw⟩ := dp_row (dp_mono s02 d3 h3) r3
          have lw := dpall_len dw
          have lb := dpall_len db
          unfold tooP at tt
          rw [ib, iw] at tt
          unfold okWsP at e3
          rw [r3, iw] at e3
          have e3a := (ba (ba e3).1).2
          have w1 := of_decide_eq_true (ba e3a).1
          have w4 := of_decide_eq_true (ba e3a).2
          have e3 := List.all_eq_true.mp (ba e3).2
          have mp : mostP d3 = if l3.length = 1 then 600 else 24 := by
            unfold mostP
            rw [iw]
          refine ⟨_, rfl, pw, _, rfl, hw, rfl, _, rfl, ?_⟩
          have em : decide (V.int ((xw.length : Nat) : Int) = V.int 1) = decide (l3.length = 1) := by
            rw [lw]
            by_cases c : l3.length = 1
            · rw [decide_eq_true c, c]
              rfl
            · rw [decide_eq_false c]
              exact decide_eq_false fun z => c (by injection z with z; omega)
          rw [em]
          have go : ∀ m : Nat, m = mostP d3 → ∀ (R : V → Hp → Prop), R (.int (m : Int)) H2 → R (.int ((mostP d3 : Nat) : Int)) H2 := fun m e R r => by rw [← e]; exact r
          refine ite2 (fun c1 => ?_) (fun c1 => ?_)
          all_goals
            have mz := mp
            first
              | rw [if_pos (of_decide_eq_true c1)] at mz
              | rw [if_neg (fun z => c1 (decide_eq_true z))] at mz
            refine ⟨_, rfl, pb, _, rfl, hb, _, _, rfl, rfl, _, rfl, ite2 (fun c2 => ?_) (fun c2 => ?_)⟩
            · exact raise_done fun d H3 hd s3 hx => bD d H3 (Same.trans s02 s3) (L2.Same.free s02 hd) hx
            have b6 : ¬ 600 < l2.length := fun z => c2 (decide_eq_true (by rw [lb]; omega))
            rw [decide_eq_false b6, Bool.false_or] at tt
            obtain ⟨wx, hwx, big⟩ := List.any_eq_true.mp tt
            have big := of_decide_eq_true big
            refine ⟨_, rfl, pw, rfl, ?_⟩
            refine lc_row hw (fun D j G => Same H2 G ∧ G D = some (.lst (vI ((l3.take j).map fun v => ((itemsP v).length : Int))))) (fun D hD => ⟨NF.Same.new (Same.refl H2) hD, upd_same⟩) (fun D i G _ z => z.1) ?_ ?_
            · rintro D hD j v G hv ⟨hG, hD2⟩
              have hj := (List.getElem?_eq_some_iff.mp hv).1
              have hjl : j < l3.length := by omega
              have el := List.getElem?_eq_getElem hjl
              have hw1 := dp_mono hG _ (dpall_get dw hv el)
              have ok1 := e3 l3[j] (List.getElem_mem hjl)
              obtain ⟨l4, r4⟩ : ∃ l, rowP l3[j] = some l := by
                unfold okWP okDsP at ok1
                cases z : rowP l3[j] with
                | none =>
                  rw [z] at ok1
                  cases ok1
                | some l => exact ⟨l, rfl⟩
              obtain ⟨a4, x4, rfl, h4, d4, i4⟩ := dp_row hw1 r4
              refine ⟨rfl, _, rfl, a4, _, rfl, h4, ?_⟩
              refine ⟨_, hD2, by rw [vI_len, List.length_map, List.length_take]; exact Nat.lt_of_le_of_lt (show min j l3.length ≤ 4 by omega) (by decide), NF.Same.mut hG hD, ?_⟩
              rw [upd_same, take_snoc el, List.map_append, ← vI_app, dpall_len d4]
              show _ = some (HO.lst (_ ++ vI [((itemsP l3[j]).length : Int)]))
              rw [i4]
              rfl
            · rintro D hD G ⟨hG, hD2⟩
              rw [lw, List.take_length] at hD2
              refine ⟨D, _, rfl, SqL.of hD2, by rw [List.length_map]; omega, fun m hm hall => ?_⟩
              have := hall ((itemsP wx).length : Int) (List.mem_map.mpr ⟨wx, hwx, rfl⟩)
              refine ⟨_, rfl, _, _, rfl, rfl, _, rfl, iteT' (decide_eq_true (by omega)) ?_⟩
              exact raise_done fun d H3 hd s3 hx => bD d H3 (Same.trans (Same.trans s02 hG) s3) (L2.Same.free (Same.trans s02 hG) hd) hx
theorem ok_Maker_initB {f : Addr} {fd : FuncData} (F : FunD K "__init__" "Maker.__init__" (defArgs s_Maker_init) (defBody s_Maker_init) (defScope s_Maker_init) [] [] f fd) (T : Txt K mg gs FS) (c_check_maker : CalX P w K mg base 6 "check_maker" (spCheckB K)) : FnOk P w K mg base (L2.CX P w) 7 f fd ["self", "inlets", "begin", "ways"] (spMkInitB K C) := by
  refine F.ok sc_Maker___init__ (fun vs H Q E h => ?_) (fun cdv A outer s H vs Q E hr h => ?_)
  · obtain ⟨y, v1, v2, v3, d1, d2, d3, x, rfl, _⟩ := h
    rfl
  · obtain ⟨y, v1, v2, v3, d1, d2, d3, x, rfl, h1, h2, h3, f2, f3, due, bad⟩ := h
    refine ⟨_, (pss_cons (ps_expr (pe_cX (takes_of rfl rfl rfl rfl) c_check_maker hr (by decide) rfl (pa_cons (pv 1) (pa_cons (pv 2) (pa_cons (pv 3) pa_nil))))) (pss_cons (ps_fld (pv 0) (pv 1) rfl) (pss_cons (ps_fld (pv 0) (pe_callTy cr_tup rfl (T.fr _ (by decide +kernel)) (by decide +kernel) (pa_cons (pv 2) pa_nil)) rfl) (pss_one (ps_fld (pv 0) (pe_callTy cr_tup rfl (T.fr _ (by decide +kernel)) (by decide +kernel) (pa_cons (pe_lc (own := [("way", 4)]) rfl sc_Maker___init__.nd (pi_row (pv 3)) (blkOk_by (N := ["self", "inlets", "begin", "ways", "way"]) (sc := defScope s_Maker_init) (by decide +kernel)) (fun _ _ _ _ _ => by exact (pg_name (i := 4) sc_Maker___init__.nd rfl (Or.inl rfl))) (fun _ _ _ _ _ => by exact pts_nil) (fun _ _ _ _ _ => by exact (pe_callTy (cr_tupK (K := K)) rfl (T.fr _ (by decide +kernel)) (by decide +kernel) (pa_cons (pv 4) pa_nil)))) pa_nil)) rfl))))), ?_⟩
    exact ⟨_, rfl, _, rfl, _, rfl, v1, v2, v3, d1, d2, d3, x, rfl, h1, h2, h3, f2, f3, due, bad⟩
theorem ok_check_inletB {f : Addr} {fd : FuncData} (F : FunD K "check_inlet" "check_inlet" (defArgs s_check_inlet) (defBody s_check_inlet) (defScope s_check_inlet) [] [] f fd) (T : Txt K mg gs FS) (mc : MakC K C) (m_BadInlet : ExcI P w K mg base "BadInlet" "thing") (c_is_count : Cal P w K mg base 2 "is_count" (spCntP K)) : FnOk P w K mg base (L2.CX P w) 3 f fd ["maker", "inlet"] (spChkIB K C) := by
  refine F.ok sc_check_inlet (fun vs H Q E h => ?_) (fun cdv A outer s H vs Q E hr h => ?_)
  · obtain ⟨x, n, b, ws, v, d, rfl, _⟩ := h
    rfl
  · obtain ⟨x, n, b, ws, v, d, rfl, ⟨dx, pb, pw, hx, hb, hw⟩, hv, hn, bad⟩ := h
    refine ⟨_, (pss_one (ps_if (PW.pt (pw_or (pt_not (pt_val (pe_c c_is_count hr (by decide) rfl (pa_cons (pv 1) pa_nil)))) (pw_or1 (pt_cmpR op_ge (pv 1) (pe_fld (pv 0) rfl) (nomark _))))) (pss_one (ps_rz rfl (takes_of rfl rfl rfl rfl) m_BadInlet hr (by decide) rfl (pv 1))) pss_nil)), ?_⟩
    refine ⟨_, rfl, v, d, rfl, hv, ?_⟩
    cases hc : isCntP d with
    | false => exact ⟨_, rfl, iteT (iteT ⟨_, rfl, raise_done fun d H2 hd s2 hx => bad d H2 s2 hd hx⟩)⟩
    | true =>
      obtain ⟨i, rfl⟩ : ∃ i, d = .int i := by
        cases d with
        | int i => exact ⟨i, rfl⟩
        | _ => cases hc
      cases hv
      unfold okIP at hn
      rw [hc] at hn
      have hn := of_decide_eq_false hn
      refine ⟨_, rfl, iteF ⟨_, rfl, _, rfl, x, C, dx, _, _, rfl, hx, mc.cl, mc.ni, rfl, _, _, rfl, rfl, _, rfl, iteT' (decide_eq_true ?_) ?_⟩⟩
      · have hn : ¬ i < (n : Int) := hn
        omega
      · exact ⟨_, rfl, raise_done fun d H2 hd s2 hx => bad d H2 s2 hd hx⟩
end
end K25
set_option Elab.async false
set_option linter.all false
set_option maxRecDepth 100000
set_option maxHeartbeats 4000000
namespace K25
open PySem PySem.Spec PyProof.Rows L2 He NF RZ NT
theorem rowP_some {d : PyData} (h : (rowP d).isSome = true) : ∃ l, rowP d = some l := by
  cases z : rowP d with
  | none =>
    rw [z] at h
    cases h
  | some l => exact ⟨l, rfl⟩
section
variable {P : Program} {w : World} {K : PySem.W.Frag} {mg : Str → Option Value} {base : Heap} {gs fs : List Str} {C CM CR CT : Addr} {tok tok1 tok2 : Tok}
theorem ok_is_pairP {f : Addr} {fd : FuncData} (F : FunD K "is_pair" "is_pair" (defArgs s_is_pair) (defBody s_is_pair) (defScope s_is_pair) [] [] f fd) (T : Txt K mg gs FS) (c_is_row : Cal P w K mg base 1 "is_row" (spRowP K)) : FnOk P w K mg base CX0 2 f fd ["thing"] (spPairP K) := by
  refine F.ok sc_is_pair (fun vs H Q E h => ?_) (fun cdv A outer s H vs Q E hr h => ?_)
  · obtain ⟨v, d, rfl, _⟩ := h
    rfl
  · obtain ⟨v, d, rfl, hv, q⟩ := h
    refine ⟨_, PSs.nox (pss_one (ps_ret (pe_and (pe_c c_is_row hr (by decide) rfl (pa_cons (pv 0) pa_nil)) (pe_one (pe_cmpR op_eq (pe_callB call_len_seq rfl (T.fr _ (by decide +kernel)) boot_len (pa_cons (pv 0) pa_nil)) pe_int (nomark _)))))), ?_⟩
    refine ⟨_, rfl, v, d, rfl, hv, fun H1 s1 => ⟨_, rfl, ?_⟩⟩
    have q := q H1 s1
    unfold pairP at q
    cases er : (rowP d).isSome with
    | false =>
      rw [er] at q
      exact iteF q
    | true =>
      rw [er] at q
      obtain ⟨l, er⟩ := rowP_some er
      obtain ⟨a, xs, rfl, ha, hd, ei⟩ := dp_row (dp_mono s1 d hv) er
      refine iteT ⟨_, rfl, a, _, rfl, ha, rfl, ?_⟩
      rw [ei] at q
      have e : decide (V.int ((xs.length : Nat) : Int) = V.int 2) = decide (l.length = 2) := by
        rw [dpall_len hd]
        by_cases c : l.length = 2
        · rw [decide_eq_true c, c]
          rfl
        · rw [decide_eq_false c]
          exact decide_eq_false fun z => c (by injection z with z; omega)
      rw [e]
      exact q
theorem ok_are_numbersP {f : Addr} {fd : FuncData} (F : FunD K "are_numbers" "are_numbers" (defArgs s_are_numbers) (defBody s_are_numbers) (defScope s_are_numbers) [] [] f fd) (T : Txt K mg gs FS) (c_is_row : Cal P w K mg base 1 "is_row" (spRowP K)) (c_is_count : Cal P w K mg base 2 "is_count" (spCntP K)) : FnOk P w K mg base CX0 3 f fd ["thing", "least", "most", "many"] (spNumsP K) := by
  refine F.ok sc_are_numbers (fun vs H Q E h => ?_) (fun cdv A outer s H vs Q E hr h => ?_)
  · obtain ⟨v, d, lo, hi, m, rfl, _⟩ := h
    rfl
  · obtain ⟨v, d, lo, hi, m, rfl, hv, hl, q⟩ := h
    refine ⟨_, PSs.nox (pss_cons (ps_if (PW.pt (pw_or (pt_not (pt_val (pe_c c_is_row hr (by decide) rfl (pa_cons (pv 0) pa_nil)))) (pw_or1 (pt_not (pt_chain op_le op_le (pv 1) (pe_callB call_len_seq rfl (T.fr _ (by decide +kernel)) boot_len (pa_cons (pv 0) pa_nil)) (pv 2)))))) (pss_one (ps_ret pe_bl)) pss_nil) (pss_one (ps_ret (pe_callB (cr_all rfl) rfl (T.fr _ (by decide +kernel)) (by decide +kernel) (pa_cons (pe_lc (own := [("number", 4)]) rfl sc_are_numbers.nd (pi_row (pv 0)) (blkOk_by (N := ["thing", "least", "most", "many", "number"]) (sc := defScope s_are_numbers) (by decide +kernel)) (fun _ _ _ _ _ => by exact (pg_name (i := 4) sc_are_numbers.nd rfl (Or.inl rfl))) (fun _ _ _ _ _ => by exact pts_nil) (fun _ _ _ _ _ => by exact (pe_and (pe_c c_is_count hr (by decide) rfl (pa_cons (pv 4) pa_nil)) (pe_one (pe_cmpR op_lt (pv 4) (pv 3) (nomark _)))))) pa_nil))))), ?_⟩
    refine ⟨_, rfl, v, d, rfl, hv, fun H1 s1 => ⟨_, rfl, ?_⟩⟩
    cases er : (rowP d).isSome with
    | false =>
      have := q H1 s1
      unfold okNsP at this
      rw [er] at this
      exact iteT (iteT this)
    | true =>
      have er2 := er
      obtain ⟨l, er⟩ := rowP_some er
      obtain ⟨a, xs, rfl, ha, hd, ei⟩ := dp_row (dp_mono s1 d hv) er
      have xl := dpall_len hd
      have fin : ∀ G, Same H1 G → Q (.bl ((decide (lo ≤ l.length) && decide (l.length ≤ hi)) && l.all (okNuP m))) G := fun G sG => by
        have := q G (Same.trans s1 sG)
        unfold okNsP at this
        rw [er2, ei] at this
        exact this
      rw [ei] at hl
      refine iteF ⟨_, rfl, _, rfl, a, _, rfl, ha, ?_⟩
      rw [xl]
      refine ⟨_, _, rfl, rfl, _, rfl, ?_⟩
      by_cases c1 : lo ≤ l.length
      rotate_left
      · rw [show decide ((lo : Int) ≤ (l.length : Int)) = false from decide_eq_false (by omega)]
        refine iteF ⟨_, rfl, iteT ?_⟩
        have := fin H1 (Same.refl _)
        rw [decide_eq_false c1] at this
        exact this
      rw [show decide ((lo : Int) ≤ (l.length : Int)) = true from decide_eq_true (by omega)]
      refine iteT ⟨_, rfl, _, _, rfl, rfl, _, rfl, ?_⟩
      by_cases c2 : l.length ≤ hi
      rotate_left
      · rw [show decide ((l.length : Int) ≤ (hi : Int)) = false from decide_eq_false (by omega)]
        refine iteT ?_
        have := fin H1 (Same.refl _)
        rw [decide_eq_false c2, Bool.and_false] at this
        exact this
      rw [show decide ((l.length : Int) ≤ (hi : Int)) = true from decide_eq_true (by omega)]
      refine iteF ?_
      refine ⟨_, rfl, a, rfl, ?_⟩
      refine lc_row ha (fun D j G => Same H1 G ∧ G D = some (.lst (((l.take j).map (okNuP m)).map V.bl))) (fun D hD => ⟨NF.Same.new (Same.refl H1) hD, upd_same⟩) (fun D i G _ z => z.1) ?_ ?_
      · rintro D hD j v G hv ⟨hG, hD2⟩
        have hj := (List.getElem?_eq_some_iff.mp hv).1
        have hjl : j < l.length := by omega
        have el := List.getElem?_eq_getElem hjl
        have hw := dp_mono hG _ (dpall_get hd hv el)
        have put : ∀ b : Bool, okNuP m l[j] = b → ∃ acc, G D = some (.lst acc) ∧ acc.length < sizeLine ∧ (Same H1 (upd G D (.lst (acc ++ [V.bl b]))) ∧ (upd G D (.lst (acc ++ [V.bl b]))) D = some (.lst (((l.take (j + 1)).map (okNuP m)).map V.bl))) := fun b eb => by
          refine ⟨_, hD2, by rw [List.length_map, List.length_map, List.length_take]; exact Nat.lt_of_lt_of_le (show min j l.length < 10000 by omega) (by decide), NF.Same.mut hG hD, ?_⟩
          rw [upd_same, take_snoc el, List.map_append, List.map_append, ← eb]
          rfl
        refine ⟨rfl, _, rfl, v, l[j], rfl, hw, ?_⟩
        refine ⟨_, rfl, ?_⟩
        cases ec : isCntP l[j] with
        | false => exact iteF (put false (by unfold okNuP; rw [ec]; rfl))
        | true =>
          obtain ⟨i, ei⟩ : ∃ i, l[j] = .int i := by
            cases z : l[j] with
            | int i => exact ⟨i, rfl⟩
            | _ =>
              rw [z] at ec
              cases ec
          have hw2 := hw
          rw [ei] at hw2
          cases hw2
          refine iteT ⟨_, rfl, _, rfl, _, _, rfl, rfl, ?_⟩
          refine put _ ?_
          unfold okNuP
          rw [ec, ei]
          rfl
      · rintro D hD G ⟨hG, hD2⟩
        rw [xl, List.take_length] at hD2
        refine ⟨D, _, rfl, SqL.of hD2, ?_⟩
        have := fin G hG
        rw [decide_eq_true c1, decide_eq_true c2] at this
        rw [List.all_map]
        exact this
theorem ok_is_courseP {f : Addr} {fd : FuncData} (F : FunD K "is_course" "is_course" (defArgs s_is_course) (defBody s_is_course) (defScope s_is_course) [] [] f fd) (T : Txt K mg gs FS) (mc : MakC K C) (h_MOST_FIRST : mg "MOST_FIRST" = some (.int 200 tok1)) (h_MOST_THEN : mg "MOST_THEN" = some (.int 40 tok2)) (c_is_pair : Cal P w K mg base 2 "is_pair" (spPairP K)) (c_are_numbers : Cal P w K mg base 3 "are_numbers" (spNumsP K)) : FnOk P w K mg base CX0 4 f fd ["thing", "maker"] (spCrsP K C) := by
  refine F.ok sc_is_course (fun vs H Q E h => ?_) (fun cdv A outer s H vs Q E hr h => ?_)
  · obtain ⟨v, x, n, b, ws, d, rfl, _⟩ := h
    rfl
  · obtain ⟨v, x, n, b, ws, d, rfl, ⟨dx, pb, pw, hx, hb, as, hw, hl, _⟩, hv, hf, q⟩ := h
    refine ⟨_, PSs.nox (pss_cons (ps_set (i := 2) sc_is_course.nd rfl (Or.inl rfl) (pe_callB call_len_seq rfl (T.fr _ (by decide +kernel)) boot_len (pa_cons (pe_fld (pv 1) rfl) pa_nil))) (pss_one (ps_ret (pe_and (pe_c c_is_pair hr (by decide) rfl (pa_cons (pv 0) pa_nil)) (pe_and (pe_c c_are_numbers hr (by decide) rfl (pa_cons (pe_ix (ixs (K := K)) (pv 0) pe_int fun _ _ => rfl) (pa_cons pe_int (pa_cons (pe_glob (v := .int 200) rfl h_MOST_FIRST ⟨_, rfl⟩) (pa_cons (pv 2) pa_nil))))) (pe_one (pe_c c_are_numbers hr (by decide) rfl (pa_cons (pe_ix (ixs (K := K)) (pv 0) pe_int fun _ _ => rfl) (pa_cons pe_int (pa_cons (pe_glob (v := .int 40) rfl h_MOST_THEN ⟨_, rfl⟩) (pa_cons (pv 2) pa_nil))))))))))), ?_⟩
    refine ⟨_, rfl, x, C, dx, _, _, rfl, hx, mc.cl, mc.nw, rfl, pw, _, rfl, .inr hw, ?_⟩
    rw [List.length_map, hl]
    refine ⟨_, rfl, v, d, rfl, hv, fun H1 s1 => ⟨_, rfl, ?_⟩⟩
    cases ep : pairP d with
    | false =>
      have := q H1 s1
      unfold okCP at this
      rw [ep] at this
      exact iteF this
    | true =>
      obtain ⟨r1, r2⟩ := ba ep
      obtain ⟨l, er⟩ := rowP_some r1
      obtain ⟨a, xs, rfl, ha, hd, ei⟩ := dp_row (dp_mono s1 d hv) er
      have r2 := of_decide_eq_true r2
      rw [ei] at r2
      match l, xs, dpall_len hd, r2, hd with
      | [d1, d2], [v1, v2], _, _, hd =>
        have g1 := dpall_get hd (j := 0) rfl rfl
        have g2 := dpall_get hd (j := 1) rfl rfl
        have f1 := hf.2 d1 (by rw [ei]; exact List.mem_cons_self)
        have f2 := hf.2 d2 (by rw [ei]; exact List.mem_cons_of_mem _ List.mem_cons_self)
        have fin : ∀ G, Same H1 G → Q (.bl (okNsP 0 200 ws.length d1 && okNsP 1 40 ws.length d2)) G := fun G sG => by
          have := q G (Same.trans s1 sG)
          unfold okCP at this
          rw [ep, ei] at this
          exact this
        refine iteT ⟨_, rfl, ?_⟩
        refine ix_done (K := K) ha (show atI [v1, v2] 0 = some v1 from rfl) ?_
        refine ⟨_, rfl, v1, d1, 0, 200, ws.length, rfl, g1, f1, fun H2 s2 => ⟨_, rfl, ?_⟩⟩
        cases e1 : okNsP 0 200 ws.length d1 with
        | false =>
          have := fin H2 s2
          rw [e1] at this
          exact iteF this
        | true =>
          refine iteT ⟨_, rfl, ?_⟩
          refine ix_done (K := K) (ha.mono s2) (show atI [v1, v2] 1 = some v2 from rfl) ?_
          refine ⟨_, rfl, v2, d2, 1, 40, ws.length, rfl, dp_mono s2 d2 g2, f2, fun H3 s3 => ?_⟩
          have := fin H3 (Same.trans s2 s3)
          rw [e1] at this
          exact this
/-- an inlet's number that is let, or refused -/
theorem ok_check_inlet2 {f : Addr} {fd : FuncData} (F : FunD K "check_inlet" "check_inlet" (defArgs s_check_inlet) (defBody s_check_inlet) (defScope s_check_inlet) [] [] f fd) (T : Txt K mg gs FS) (mc : MakC K C) (m_BadInlet : ExcI P w K mg base "BadInlet" "thing") (c_is_count : Cal P w K mg base 2 "is_count" spIsCount) (c_is_countP : Cal P w K mg base 2 "is_count" (spCntP K)) : FnOk P w K mg base (L2.CX P w) 3 f fd ["maker", "inlet"] (spOr (spChkI K C) (spChkIB K C)) := by
  exact FnOk.or (ok_check_inlet F T mc c_is_count) (ok_check_inletB F T mc m_BadInlet c_is_countP) (by decide) (by decide)
theorem ok_Maker_needB {f : Addr} {fd : FuncData} (F : FunD K "need" "Maker.need" (defArgs s_Maker_need) (defBody s_Maker_need) (defScope s_Maker_need) [] [] f fd) (T : Txt K mg gs FS) (mc : MakC K C) (m_BadCourse : ExcI P w K mg base "BadCourse" "thing") (c_check_inlet : CalX P w K mg base 3 "check_inlet" (spOr (spChkI K C) (spChkIB K C))) (c_is_course : Cal P w K mg base 4 "is_course" (spCrsP K C)) (m_Round2 : Mak P w K mg base 1 0 "Round" CR (spRoInit K CR) []) (c_marks_along : Cal P w K mg base 1 "marks_along" (spMarks K CR)) (m_Table : Mak P w K mg base 4 0 "Table" CT (spInit K CT) []) : FnOk P w K mg base (L2.CX P w) 6 f fd ["self", "inlet", "course"] (spNeedB K C) := by
  refine F.ok sc_Maker_need (fun vs H Q E h => ?_) (fun cdv A outer s H vs Q E hr h => ?_)
  · obtain ⟨x, n, b, ws, vi, vc, di, dc, rfl, _⟩ := h
    rfl
  · obtain ⟨x, n, b, ws, vi, vc, di, dc, rfl, mk, hi, hc, fc, h⟩ := h
    refine ⟨_, (pss_cons (ps_expr (pe_cX (takes_of rfl rfl rfl rfl) c_check_inlet hr (by decide) rfl (pa_cons (pv 0) (pa_cons (pv 1) pa_nil)))) (pss_cons (ps_if (pt_not (pt_val (pe_c c_is_course hr (by decide) rfl (pa_cons (pv 2) (pa_cons (pv 0) pa_nil))))) (pss_one (ps_rz rfl (takes_of rfl rfl rfl rfl) m_BadCourse hr (by decide) rfl (pv 2))) pss_nil) (pss_cons (ps_set (i := 3) sc_Maker_need.nd rfl (Or.inr rfl) (pe_lc (own := [("way", 9)]) rfl sc_Maker_need.nd (pi_tup (pe_fld (pv 0) rfl)) (blkOk_by (N := ["self", "inlet", "course", "rounds", "start", "head", "taken", "loop", "behind", "way", "number"]) (sc := defScope s_Maker_need) (by decide +kernel)) (fun _ _ _ _ _ => by exact (pg_name (i := 9) sc_Maker_need.nd rfl (Or.inl rfl))) (fun _ _ _ _ _ => by exact pts_nil) (fun _ _ _ _ _ => by exact (pe_mk m_Round2 hr (by decide) rfl (pa_cons (pv 9) (pa_cons (pv 1) pa_nil)))))) (pss_cons (ps_set (i := 4) sc_Maker_need.nd rfl (Or.inl rfl) (pe_op op_cat (pe_lst (pa_cons (pe_mk m_Round2 hr (by decide) rfl (pa_cons (pe_fld (pv 0) rfl) (pa_cons (pv 1) pa_nil))) pa_nil)) (pe_lc (own := [("number", 10)]) rfl sc_Maker_need.nd (pi_row (pe_ix (ixs (K := K)) (pv 2) pe_int fun _ _ => rfl)) (blkOk_by (N := ["self", "inlet", "course", "rounds", "start", "head", "taken", "loop", "behind", "way", "number"]) (sc := defScope s_Maker_need) (by decide +kernel)) (fun _ _ _ _ _ => by exact (pg_name (i := 10) sc_Maker_need.nd rfl (Or.inl rfl))) (fun _ _ _ _ _ => by exact pts_nil) (fun _ _ _ _ _ => by exact (pe_ix (ixl (K := K)) (pv 3) (pv 10) fun _ _ => rfl))))) (pss_cons (ps_asg (pe_c c_marks_along hr (by decide) rfl (pa_cons (pv 4) (pa_cons pe_int pa_nil))) (pgt (K := K) (n := 2) rfl rfl (pgs_cons (pg_name (i := 5) sc_Maker_need.nd rfl (Or.inl rfl)) (pgs_cons (pg_name (i := 6) sc_Maker_need.nd rfl (Or.inl rfl)) pgs_nil)))) (pss_cons (ps_asg (pe_c c_marks_along hr (by decide) rfl (pa_cons (pe_lc (own := [("number", 10)]) rfl sc_Maker_need.nd (pi_row (pe_ix (ixs (K := K)) (pv 2) pe_int fun _ _ => rfl)) (blkOk_by (N := ["self", "inlet", "course", "rounds", "start", "head", "taken", "loop", "behind", "way", "number"]) (sc := defScope s_Maker_need) (by decide +kernel)) (fun _ _ _ _ _ => by exact (pg_name (i := 10) sc_Maker_need.nd rfl (Or.inl rfl))) (fun _ _ _ _ _ => by exact pts_nil) (fun _ _ _ _ _ => by exact (pe_ix (ixl (K := K)) (pv 3) (pv 10) fun _ _ => rfl))) (pa_cons (pv 6) pa_nil))) (pgt (K := K) (n := 2) rfl rfl (pgs_cons (pg_name (i := 7) sc_Maker_need.nd rfl (Or.inl rfl)) (pgs_cons (pg_name (i := 8) sc_Maker_need.nd rfl (Or.inl rfl)) pgs_nil)))) (pss_one (ps_ret (pe_mk m_Table hr (by decide) rfl (pa_cons (pv 5) (pa_cons (pv 7) (pa_cons (pe_ifExp (pt_truth (pv 7) (fun _ => rfl)) (pe_op op_sub (pv 8) (pv 6)) pe_int) pa_nil)))))))))))), ?_⟩
    rcases h with ⟨oi, bad⟩ | ⟨i, rfl, lt, oc, bad⟩
    · exact ⟨_, rfl, _, rfl, .inr ⟨x, n, b, ws, vi, di, rfl, mk, hi, oi, bad⟩⟩
    · refine ⟨_, rfl, _, rfl, .inl ⟨x, n, i, b, ws, rfl, mk, lt, ?_⟩⟩
      refine ⟨_, rfl, _, rfl, vc, x, n, b, ws, dc, rfl, mk, hc, fc, fun H1 s1 => ⟨_, rfl, ?_⟩⟩
      rw [oc]
      exact iteT ⟨_, rfl, raise_done fun d H2 hd s2 hx => bad d H2 (Same.trans s1 s2) (L2.Same.free s1 hd) hx⟩
theorem ok_leastB {f : Addr} {fd : FuncData} (F : FunD K "least" "least" (defArgs s_least) (defBody s_least) (defScope s_least) [] [] f fd) (T : Txt K mg gs FS) (c_check_inlet : CalX P w K mg base 3 "check_inlet" (spOr (spChkI K CM) (spChkIB K CM))) (m_Outlook : Mak P w K mg base 3 0 "Outlook" C (spOInit K C CM CR) []) (o_form : MetC P w K mg base 5 C "form" (spForm2 K C CR)) (m_Table : Mak P w K mg base 4 0 "Table" CT (spInit K CT) []) : FnOk P w K mg base (L2.CX P w) 7 f fd ["maker", "inlet"] (spChkIB K CM) := by
  refine F.ok sc_least (fun vs H Q E h => ?_) (fun cdv A outer s H vs Q E hr h => ?_)
  · obtain ⟨x, n, b, ws, v, d, rfl, _⟩ := h
    rfl
  · obtain ⟨x, n, b, ws, v, d, rfl, h⟩ := h
    refine ⟨_, (pss_cons (ps_expr (pe_cX (takes_of rfl rfl rfl rfl) c_check_inlet hr (by decide) rfl (pa_cons (pv 0) (pa_cons (pv 1) pa_nil)))) (pss_cons (ps_asg (pe_mt0 (pe_mk m_Outlook hr (by decide) rfl (pa_cons (pv 0) (pa_cons (pv 1) (pa_cons pe_bl pa_nil)))) o_form hr (by decide)) (pgt (K := K) (n := 3) rfl rfl (pgs_cons (pg_name (i := 2) sc_least.nd rfl (Or.inl rfl)) (pgs_cons (pg_name (i := 3) sc_least.nd rfl (Or.inl rfl)) (pgs_cons (pg_name (i := 4) sc_least.nd rfl (Or.inl rfl)) pgs_nil))))) (pss_one (ps_ret (pe_mk m_Table hr (by decide) rfl (pa_cons (pv 2) (pa_cons (pv 3) (pa_cons (pv 4) pa_nil)))))))), ?_⟩
    exact ⟨_, rfl, _, rfl, .inr ⟨x, n, b, ws, v, d, rfl, h⟩⟩
theorem ok_greatestB {f : Addr} {fd : FuncData} (F : FunD K "greatest" "greatest" (defArgs s_greatest) (defBody s_greatest) (defScope s_greatest) [] [] f fd) (T : Txt K mg gs FS) (c_check_inlet : CalX P w K mg base 3 "check_inlet" (spOr (spChkI K CM) (spChkIB K CM))) (m_Outlook : Mak P w K mg base 3 0 "Outlook" C (spOInit K C CM CR) []) (o_form : MetC P w K mg base 5 C "form" (spForm2 K C CR)) (m_Table : Mak P w K mg base 4 0 "Table" CT (spInit K CT) []) : FnOk P w K mg base (L2.CX P w) 7 f fd ["maker", "inlet"] (spChkIB K CM) := by
  refine F.ok sc_greatest (fun vs H Q E h => ?_) (fun cdv A outer s H vs Q E hr h => ?_)
  · obtain ⟨x, n, b, ws, v, d, rfl, _⟩ := h
    rfl
  · obtain ⟨x, n, b, ws, v, d, rfl, h⟩ := h
    refine ⟨_, (pss_cons (ps_expr (pe_cX (takes_of rfl rfl rfl rfl) c_check_inlet hr (by decide) rfl (pa_cons (pv 0) (pa_cons (pv 1) pa_nil)))) (pss_cons (ps_asg (pe_mt0 (pe_mk m_Outlook hr (by decide) rfl (pa_cons (pv 0) (pa_cons (pv 1) (pa_cons pe_bl pa_nil)))) o_form hr (by decide)) (pgt (K := K) (n := 3) rfl rfl (pgs_cons (pg_name (i := 2) sc_greatest.nd rfl (Or.inl rfl)) (pgs_cons (pg_name (i := 3) sc_greatest.nd rfl (Or.inl rfl)) (pgs_cons (pg_name (i := 4) sc_greatest.nd rfl (Or.inl rfl)) pgs_nil))))) (pss_one (ps_ret (pe_mk m_Table hr (by decide) rfl (pa_cons (pv 2) (pa_cons (pv 3) (pa_cons (pv 4) pa_nil)))))))), ?_⟩
    exact ⟨_, rfl, _, rfl, .inr ⟨x, n, b, ws, v, d, rfl, h⟩⟩
theorem ok_course_ofB {f : Addr} {fd : FuncData} (F : FunD K "course_of" "course_of" (defArgs s_course_of) (defBody s_course_of) (defScope s_course_of) [] [("most", .bl true)] f fd) (T : Txt K mg gs FS) (h_LAST_PIECE : mg "LAST_PIECE" = some (.int 2000 tok)) (m_BadCount : ExcI P w K mg base "BadCount" "thing") (c_check_inlet : CalX P w K mg base 3 "check_inlet" (spOr (spChkI K CM) (spChkIB K CM))) (c_is_count : Cal P w K mg base 2 "is_count" (spCntP K)) (m_Outlook : Mak P w K mg base 3 0 "Outlook" C (spOInit K C CM CR) []) (o_course : MetC P w K mg base 5 C "course" (spCourse K C CR)) : FnOk P w K mg base (L2.CX P w) 7 f fd ["maker", "inlet", "piece", "most"] (spCrsOfB K CM) := by
  refine F.ok sc_course_of (fun vs H Q E h => ?_) (fun cdv A outer s H vs Q E hr h => ?_)
  · obtain ⟨x, n, b, ws, vi, vp, most, di, dp, rfl, _⟩ := h
    rfl
  · obtain ⟨x, n, b, ws, vi, vp, most, di, dp, rfl, mk, hi, hp, h⟩ := h
    refine ⟨_, (pss_cons (ps_expr (pe_cX (takes_of rfl rfl rfl rfl) c_check_inlet hr (by decide) rfl (pa_cons (pv 0) (pa_cons (pv 1) pa_nil)))) (pss_cons (ps_if (PW.pt (pw_or (pt_not (pt_val (pe_c c_is_count hr (by decide) rfl (pa_cons (pv 2) pa_nil)))) (pw_or1 (pt_not (pt_chain op_le op_le pe_int (pv 2) (pe_glob (v := .int 2000) rfl h_LAST_PIECE ⟨_, rfl⟩)))))) (pss_one (ps_rz rfl (takes_of rfl rfl rfl rfl) m_BadCount hr (by decide) rfl (pv 2))) pss_nil) (pss_one (ps_ret (pe_mt (pe_mk m_Outlook hr (by decide) rfl (pa_cons (pv 0) (pa_cons (pv 1) (pa_cons (pv 3) pa_nil)))) o_course hr (by decide) (pa_cons (pv 2) pa_nil)))))), ?_⟩
    rcases h with ⟨oi, bad⟩ | ⟨i, rfl, lt, op, bad⟩
    · exact ⟨_, rfl, _, rfl, .inr ⟨x, n, b, ws, vi, di, rfl, mk, hi, oi, bad⟩⟩
    · refine ⟨_, rfl, _, rfl, .inl ⟨x, n, i, b, ws, rfl, mk, lt, ?_⟩⟩
      refine ⟨_, rfl, vp, dp, rfl, hp, ?_⟩
      have rz := raise_done (C := ga K "BadCount") (f := "thing") (v := vp) (H1 := H) (Q := E) fun d H2 hd s2 hx => bad d H2 s2 hd hx
      cases hc : isCntP dp with
      | false => exact ⟨_, rfl, iteT (iteT ⟨_, rfl, rz⟩)⟩
      | true =>
        obtain ⟨i, rfl⟩ : ∃ i, dp = .int i := by
          cases dp with
          | int i => exact ⟨i, rfl⟩
          | _ => cases hc
        cases hp
        unfold okPP at op
        rw [hc] at op
        have op : (decide (1 ≤ i) && decide (i ≤ 2000)) = false := op
        refine ⟨_, rfl, iteF ⟨_, rfl, _, _, rfl, rfl, _, rfl, ?_⟩⟩
        by_cases c1 : 1 ≤ i
        · rw [decide_eq_true c1]
          refine iteT ⟨_, _, rfl, rfl, _, rfl, ?_⟩
          rw [decide_eq_true c1, Bool.true_and] at op
          rw [op]
          exact iteT ⟨_, rfl, rz⟩
        · rw [decide_eq_false c1]
          exact iteF ⟨_, rfl, iteT ⟨_, rfl, rz⟩⟩
end
end K25
set_option Elab.async false
set_option linter.all false
set_option maxRecDepth 100000
set_option maxHeartbeats 4000000
namespace K25
open PySem PySem.Spec PyProof.Rows L2 He NF RZ NT
section
variable {P : Program} {w : World} {K : PySem.W.Frag} {mg : Str → Option Value} {base : Heap} {gs fs : List Str} {C CM CR CT : Addr} {tok tok1 tok2 : Tok}
theorem ok_Maker_init2 {f : Addr} {fd : FuncData} (F : FunD K "__init__" "Maker.__init__" (defArgs s_Maker_init) (defBody s_Maker_init) (defScope s_Maker_init) [] [] f fd) (T : Txt K mg gs FS) (mc : MakC K C) (c_check_maker : Cal P w K mg base 6 "check_maker" (spCheckM K)) (c_check_makerB : CalX P w K mg base 6 "check_maker" (spCheckB K)) : FnOk P w K mg base (L2.CX P w) 7 f fd ["self", "inlets", "begin", "ways"] (spOr (spMkInit K C) (spMkInitB K C)) := by
  exact FnOk.or (ok_Maker_init F T mc c_check_maker) (ok_Maker_initB F T c_check_makerB) (by decide) (by decide)
theorem ok_Maker_need2 {f : Addr} {fd : FuncData} (F : FunD K "need" "Maker.need" (defArgs s_Maker_need) (defBody s_Maker_need) (defScope s_Maker_need) [] [] f fd) (T : Txt K mg gs FS) (mc : MakC K C) (rc : RouC K CR) (c_check_inlet : Cal P w K mg base 3 "check_inlet" (spChkI K C)) (c_is_course : Cal P w K mg base 4 "is_course" (spCrs K C)) (c_marks_along : Cal P w K mg base 1 "marks_along" (spMarks K CR)) (m_Round2 : Mak P w K mg base 1 0 "Round" CR (spRoInit K CR) []) (m_Table : Mak P w K mg base 4 0 "Table" CT (spInit K CT) []) (m_BadCourse : ExcI P w K mg base "BadCourse" "thing") (c_check_inlet2 : CalX P w K mg base 3 "check_inlet" (spOr (spChkI K C) (spChkIB K C))) (c_is_courseP : Cal P w K mg base 4 "is_course" (spCrsP K C)) : FnOk P w K mg base (L2.CX P w) 6 f fd ["self", "inlet", "course"] (spOr (spNeed K CT C) (spNeedB K C)) := by
  exact FnOk.or (ok_Maker_need F T mc rc c_check_inlet c_is_course c_marks_along m_Round2 m_Table) (ok_Maker_needB F T mc m_BadCourse c_check_inlet2 c_is_courseP m_Round2 c_marks_along m_Table) (by decide) (by decide)
theorem ok_least2 {f : Addr} {fd : FuncData} (F : FunD K "least" "least" (defArgs s_least) (defBody s_least) (defScope s_least) [] [] f fd) (T : Txt K mg gs FS) (c_check_inlet : Cal P w K mg base 3 "check_inlet" (spChkI K CM)) (m_Outlook : Mak P w K mg base 3 0 "Outlook" C (spOInit K C CM CR) []) (o_form : MetC P w K mg base 5 C "form" (spForm2 K C CR)) (m_Table : Mak P w K mg base 4 0 "Table" CT (spInit K CT) []) (c_check_inlet2 : CalX P w K mg base 3 "check_inlet" (spOr (spChkI K CM) (spChkIB K CM))) : FnOk P w K mg base (L2.CX P w) 7 f fd ["maker", "inlet"] (spOr (spExt K CM CT false) (spChkIB K CM)) := by
  exact FnOk.or (ok_least F T c_check_inlet m_Outlook o_form m_Table) (ok_leastB F T c_check_inlet2 m_Outlook o_form m_Table) (by decide) (by decide)
theorem ok_greatest2 {f : Addr} {fd : FuncData} (F : FunD K "greatest" "greatest" (defArgs s_greatest) (defBody s_greatest) (defScope s_greatest) [] [] f fd) (T : Txt K mg gs FS) (c_check_inlet : Cal P w K mg base 3 "check_inlet" (spChkI K CM)) (m_Outlook : Mak P w K mg base 3 0 "Outlook" C (spOInit K C CM CR) []) (o_form : MetC P w K mg base 5 C "form" (spForm2 K C CR)) (m_Table : Mak P w K mg base 4 0 "Table" CT (spInit K CT) []) (c_check_inlet2 : CalX P w K mg base 3 "check_inlet" (spOr (spChkI K CM) (spChkIB K CM))) : FnOk P w K mg base (L2.CX P w) 7 f fd ["maker", "inlet"] (spOr (spExt K CM CT true) (spChkIB K CM)) := by
  exact FnOk.or (ok_greatest F T c_check_inlet m_Outlook o_form m_Table) (ok_greatestB F T c_check_inlet2 m_Outlook o_form m_Table) (by decide) (by decide)
theorem ok_course_of2 {f : Addr} {fd : FuncData} (F : FunD K "course_of" "course_of" (defArgs s_course_of) (defBody s_course_of) (defScope s_course_of) [] [("most", .bl true)] f fd) (T : Txt K mg gs FS) (h_LAST_PIECE : mg "LAST_PIECE" = some (.int 2000 tok)) (c_check_inlet : Cal P w K mg base 3 "check_inlet" (spChkI K CM)) (c_is_count : Cal P w K mg base 2 "is_count" spIsCount) (m_Outlook : Mak P w K mg base 3 0 "Outlook" C (spOInit K C CM CR) []) (o_course : MetC P w K mg base 5 C "course" (spCourse K C CR)) (m_BadCount : ExcI P w K mg base "BadCount" "thing") (c_check_inlet2 : CalX P w K mg base 3 "check_inlet" (spOr (spChkI K CM) (spChkIB K CM))) (c_is_countP : Cal P w K mg base 2 "is_count" (spCntP K)) : FnOk P w K mg base (L2.CX P w) 7 f fd ["maker", "inlet", "piece", "most"] (spOr (spCrsOf K CM) (spCrsOfB K CM)) := by
  exact FnOk.or (ok_course_of F T h_LAST_PIECE c_check_inlet c_is_count m_Outlook o_course) (ok_course_ofB F T h_LAST_PIECE m_BadCount c_check_inlet2 c_is_countP m_Outlook o_course) (by decide) (by decide)
end
end K25
set_option Elab.async false
set_option linter.all false
set_option maxRecDepth 100000
set_option maxHeartbeats 4000000
namespace K25
open PySem PySem.Spec PyProof.Rows L2 He NF RZ NT
def spLIsD (K : PySem.W.Frag) : Sp := fun vs H Q _ => ∃ v d n, vs = [.int n, v] ∧ Dp K H v d ∧ (∀ t ∈ itemsP d, SeqAt.shaped t = true) ∧ ∀ H', Same H H' → Q (.bl (okDsP n d)) H'
/-- the sizes and depths of what may be a maker -/
structure MkOk (d2 d3 : PyData) : Prop where
  b : (itemsP d2).length ≤ 10000
  w : Few2 d3
  bs : ∀ t ∈ itemsP d2, SeqAt.shaped t = true
  ws : ∀ v ∈ itemsP d3, ∀ t ∈ itemsP v, SeqAt.shaped t = true
def spLDue (K : PySem.W.Frag) : Sp := fun vs H Q _ => ∃ v1 v2 v3 d1 d2 d3, vs = [v1, v2, v3] ∧ Dp K H v1 d1 ∧ Dp K H v2 d2 ∧ Dp K H v3 d3 ∧ MkOk d2 d3 ∧ ∀ H', Same H H' → Q (wordO (dueM d1 d2 d3)) H'
theorem sc__law_is_integer : FnScope ["_law_thing"] ["_law_thing"] (defScope s__law_is_integer) := ⟨rfl, rfl, rfl, by decide +kernel, rfl, by decide +kernel, by decide +kernel⟩
theorem sc__law_is_count : FnScope ["_law_thing"] ["_law_thing"] (defScope s__law_is_count) := ⟨rfl, rfl, rfl, by decide +kernel, rfl, by decide +kernel, by decide +kernel⟩
theorem sc__law_is_deeds : FnScope ["_law_inlets", "_law_deeds_here", "_law_deed"] ["_law_inlets", "_law_deeds_here"] (defScope s__law_is_deeds) := ⟨rfl, rfl, rfl, by decide +kernel, rfl, by decide +kernel, by decide +kernel⟩
theorem sc__law_due : FnScope ["_law_inlets", "_law_begin", "_law_ways", "_law_most", "_law_way"] ["_law_inlets", "_law_begin", "_law_ways"] (defScope s__law_due) := ⟨rfl, rfl, rfl, by decide +kernel, rfl, by decide +kernel, by decide +kernel⟩
theorem str_dec {x y : Str} : (x == y) = decide (V.str x = V.str y) := by
  by_cases c : x = y
  · subst c
    rw [decide_eq_true rfl]
    exact beq_self_eq_true _
  · rw [decide_eq_false fun z => c (by injection z)]
    exact beq_eq_false_iff_ne.mpr c
theorem eqv_give {d : PyData} : PyData.eqv d (.str "give") = (match d with | .str x => decide (V.str x = V.str "give") | _ => false) := by
  cases d with
  | str x => exact str_dec
  | _ => rfl
section
variable {P : Program} {w : World} {K : PySem.W.Frag} {mg : Str → Option Value} {base : Heap} {gs fs : List Str} {C : Addr}
theorem ok__law_is_integer {f : Addr} {fd : FuncData} (F : FunD K "_law_is_integer" "_law_is_integer" (defArgs s__law_is_integer) (defBody s__law_is_integer) (defScope s__law_is_integer) [] [] f fd) (T : Txt K mg gs FS) : FnOk P w K mg base CX0 1 f fd ["_law_thing"] (spIntP K) := by
  refine F.ok sc__law_is_integer (fun vs H Q E h => ?_) (fun cdv A outer s H vs Q E hr h => ?_)
  · obtain ⟨v, d, rfl, _⟩ := h
    rfl
  · obtain ⟨v, d, rfl, hv, q⟩ := h
    refine ⟨_, PSs.nox (pss_one (ps_ret (pe_and (pe_callB call_isi rfl (T.fr _ (by decide +kernel)) (by decide +kernel) (pa_cons (pv 0) (pa_cons (pe_bltn (v := .ty "int") rfl (T.fr _ (by decide +kernel)) (by decide +kernel) rfl) pa_nil))) (pe_one (pe_not (pe_callB call_isi rfl (T.fr _ (by decide +kernel)) (by decide +kernel) (pa_cons (pv 0) (pa_cons (pe_bltn (v := .ty "bool") rfl (T.fr _ (by decide +kernel)) (by decide +kernel) rfl) pa_nil)))))))), ?_⟩
    refine ⟨_, rfl, _, _, _, _, _, rfl, .ty "int", dp_ty hv, kit_p_int K d, ?_⟩
    cases d with
    | int i => exact ⟨true, rfl, _, rfl, _, _, _, _, false, rfl, .ty "bool", dp_ty hv, kit_p_bool K (.int i), false, rfl, q⟩
    | bool b => exact ⟨true, rfl, _, rfl, _, _, _, _, true, rfl, .ty "bool", dp_ty hv, kit_p_bool K (.bool b), true, rfl, q⟩
    | _ => exact ⟨false, rfl, q⟩
theorem ok__law_is_count {f : Addr} {fd : FuncData} (F : FunD K "_law_is_count" "_law_is_count" (defArgs s__law_is_count) (defBody s__law_is_count) (defScope s__law_is_count) [] [] f fd) (T : Txt K mg gs FS) (c__law_is_integer : Cal P w K mg base 1 "_law_is_integer" (spIntP K)) : FnOk P w K mg base CX0 2 f fd ["_law_thing"] (spCntP K) := by
  refine F.ok sc__law_is_count (fun vs H Q E h => ?_) (fun cdv A outer s H vs Q E hr h => ?_)
  · obtain ⟨v, d, rfl, _⟩ := h
    rfl
  · obtain ⟨v, d, rfl, hv, q⟩ := h
    refine ⟨_, PSs.nox (pss_one (ps_ret (pe_and (pe_c c__law_is_integer hr (by decide) rfl (pa_cons (pv 0) pa_nil)) (pe_one (pe_cmpR op_ge (pv 0) pe_int (nomark _)))))), ?_⟩
    refine ⟨_, rfl, v, d, rfl, hv, ?_⟩
    cases hv with
    | int i => exact ⟨true, rfl, _, rfl, _, _, rfl, rfl, q⟩
    | _ => exact ⟨false, rfl, q⟩
theorem ok__law_is_deeds {f : Addr} {fd : FuncData} (F : FunD K "_law_is_deeds" "_law_is_deeds" (defArgs s__law_is_deeds) (defBody s__law_is_deeds) (defScope s__law_is_deeds) [] [] f fd) (T : Txt K mg gs FS) (c__law_is_count : Cal P w K mg base 2 "_law_is_count" (spCntP K)) : FnOk P w K mg base CX0 3 f fd ["_law_inlets", "_law_deeds_here"] (spLIsD K) := by
  refine F.ok sc__law_is_deeds (fun vs H Q E h => ?_) (fun cdv A outer s H vs Q E hr h => ?_)
  · obtain ⟨v, d, n, rfl, _⟩ := h
    rfl
  · obtain ⟨v, d, n, rfl, hv, sh, q⟩ := h
    have hu : (A.deeper (envOfC "_law_is_deeds" (defScope s__law_is_deeds) s.heap.objs.size f cdv)).units + 64 < cLine := by
      have := hr.units
      omega
    refine ⟨_, PSs.nox (pss_cons (ps_if (pt_not (pt_val (pe_callB call_isiT rfl (T.fr _ (by decide +kernel)) (by decide +kernel) (pa_cons (pv 1) (pa_cons (pe_tup (pa_cons (pe_bltn (v := .ty "tuple") rfl (T.fr _ (by decide +kernel)) (by decide +kernel) rfl) (pa_cons (pe_bltn (v := .ty "list") rfl (T.fr _ (by decide +kernel)) (by decide +kernel) rfl) pa_nil))) pa_nil))))) (pss_one (ps_ret pe_bl)) pss_nil) (pss_cons (ps_for PassesOwn.never rfl (pi_row (pv 1)) (pg_name (i := 2) sc__law_is_deeds.nd rfl (Or.inl rfl)) (pss_one (ps_if (PW.pt (pw_and (pt_cmpR (op_neD hu) (pv 2) pe_str (nomark _)) (pw_and1 (pt_not (PW.pt (pw_and (pt_val (pe_c c__law_is_count hr (by decide) rfl (pa_cons (pv 2) pa_nil))) (pw_and1 (pt_cmpR op_lt (pv 2) (pv 0) (nomark _))))))))) (pss_one (ps_ret pe_bl)) pss_nil))) (pss_one (ps_ret pe_bl)))), ?_⟩
    refine ⟨_, rfl, (by show 2 ≤ sizeLine; decide), fun p hp => ?_⟩
    have s1 := NF.Same.new (o := .tup [V.ty "tuple", V.ty "list"]) (Same.refl H) hp
    have hp1 := upd_same (H := H) (a := p) (o := .tup [V.ty "tuple", V.ty "list"])
    generalize upd H p (.tup [V.ty "tuple", V.ty "list"]) = H1 at s1 hp1
    refine ⟨_, p, _, _, _, _, rfl, hp1, .cons (.ty _) (.cons (.ty _) .nil), dp_ty (dp_mono s1 d hv), kit_p_row K d, _, rfl, ?_⟩
    cases er : (rowP d).isSome with
    | false =>
      have := q H1 s1
      unfold okDsP at this
      rw [er] at this
      exact iteT this
    | true =>
      have er2 := er
      obtain ⟨l, er⟩ := rowP_some er
      obtain ⟨a, xs, rfl, ha, hd, ei⟩ := dp_row (dp_mono s1 d hv) er
      have xl := dpall_len hd
      have fin : ∀ G b, Same H1 G → l.all (okDP n) = b → Q (.bl b) G := fun G b sG e => by
        have := q G (Same.trans s1 sG)
        unfold okDsP at this
        rw [er2, ei, e] at this
        exact this
      rw [ei] at sh
      refine iteF ⟨_, rfl, a, rfl, ?_⟩
      refine for_row ha (fun i σ G => Same H1 G ∧ ∃ u : Option V, σ = [some (.int n), some (.ref a), u] ∧ (l.take i).all (okDP n) = true) ⟨Same.refl _, none, rfl, rfl⟩ (fun i σ G z => z.1) ?_ ?_
      · rintro i x σ G hx ⟨s2, u, rfl, hc⟩
        have hi := (List.getElem?_eq_some_iff.mp hx).1
        have hil : i < l.length := by omega
        have el := List.getElem?_eq_getElem hil
        have hw := dp_mono s2 _ (dpall_get hd hx el)
        have bad : okDP n l[i] = false → Q (.bl false) G := fun e => fin G false s2 (by
          cases z : l.all (okDP n) with
          | false => rfl
          | true =>
            have := List.all_eq_true.mp z l[i] (List.getElem_mem hil)
            rw [e] at this
            cases this)
        have good : okDP n l[i] = true → (l.take (i + 1)).all (okDP n) = true := fun e => by
          rw [take_snoc el, List.all_append, hc, List.all_cons, e]
          rfl
        refine ⟨_, rfl, l[i], .str "give", hw, .str _, sh _ (List.getElem_mem hil), by decide +kernel, _, rfl, ?_⟩
        rw [eqv_give]
        cases ed : l[i] with
        | str y =>
          rw [ed] at good bad
          show if (!decide (V.str y = V.str "give")) = true then _ else _
          by_cases c : V.str y = V.str "give"
          · rw [decide_eq_true c]
            refine iteF (iteF ⟨s2, _, rfl, good (decide_eq_true c)⟩)
          · rw [decide_eq_false c]
            rw [ed] at hw
            refine iteT ⟨_, rfl, x, _, rfl, hw, false, rfl, iteF ?_⟩
            exact iteT (bad (decide_eq_false c))
        | int y =>
          rw [ed] at good bad hw
          refine iteT ⟨_, rfl, x, _, rfl, hw, ?_⟩
          cases hw
          have eo : okDP n (.int y) = (decide (0 ≤ y) && decide (y < n)) := rfl
          refine ⟨_, rfl, ?_⟩
          by_cases c : 0 ≤ y
          · rw [show isCntP (.int y) = true from decide_eq_true c]
            refine iteT ⟨_, rfl, _, rfl, _, _, rfl, rfl, _, rfl, ?_⟩
            rw [decide_eq_true c, Bool.true_and] at eo
            cases e5 : decide (y < n) with
            | true => exact iteF ⟨s2, _, rfl, good (eo.trans e5)⟩
            | false => exact iteT (bad (eo.trans e5))
          · rw [show isCntP (.int y) = false from decide_eq_false c]
            rw [decide_eq_false c] at eo
            exact iteF (iteT (bad eo))
        | none =>
          rw [ed] at bad hw
          exact iteT ⟨_, rfl, x, _, rfl, hw, false, rfl, iteF (iteT (bad rfl))⟩
        | bool y =>
          rw [ed] at bad hw
          exact iteT ⟨_, rfl, x, _, rfl, hw, false, rfl, iteF (iteT (bad rfl))⟩
        | list y =>
          rw [ed] at bad hw
          exact iteT ⟨_, rfl, x, _, rfl, hw, false, rfl, iteF (iteT (bad rfl))⟩
        | tuple y =>
          rw [ed] at bad hw
          exact iteT ⟨_, rfl, x, _, rfl, hw, false, rfl, iteF (iteT (bad rfl))⟩
        | dict y =>
          rw [ed] at bad hw
          exact iteT ⟨_, rfl, x, _, rfl, hw, false, rfl, iteF (iteT (bad rfl))⟩
      · rintro σ G ⟨s2, u, rfl, hc⟩
        rw [xl, List.take_length] at hc
        exact fin G true s2 hc
end
end K25
set_option Elab.async false
set_option linter.all false
set_option maxRecDepth 100000
set_option maxHeartbeats 4000000
namespace K25
open PySem PySem.Spec PyProof.Rows L2 He NF RZ NT
theorem nn_dec (m k : Nat) : decide ((m : Int) < (k : Int)) = decide (m < k) := by
  by_cases c : m < k
  · rw [decide_eq_true c, decide_eq_true (by omega)]
  · rw [decide_eq_false c, decide_eq_false (by omega)]
section
variable {P : Program} {w : World} {K : PySem.W.Frag} {mg : Str → Option Value} {base : Heap} {gs fs : List Str} {C : Addr}
theorem ok__law_due {f : Addr} {fd : FuncData} (F : FunD K "_law_due" "_law_due" (defArgs s__law_due) (defBody s__law_due) (defScope s__law_due) [] [] f fd) (T : Txt K mg gs FS) (c__law_is_count : Cal P w K mg base 2 "_law_is_count" (spCntP K)) (c__law_is_deeds : Cal P w K mg base 3 "_law_is_deeds" (spLIsD K)) : FnOk P w K mg base CX0 4 f fd ["_law_inlets", "_law_begin", "_law_ways"] (spLDue K) := by
  refine F.ok sc__law_due (fun vs H Q E h => ?_) (fun cdv A outer s H vs Q E hr h => ?_)
  · obtain ⟨v1, v2, v3, d1, d2, d3, rfl, _⟩ := h
    rfl
  · obtain ⟨v1, v2, v3, d1, d2, d3, rfl, h1, h2, h3, ok, q⟩ := h
    refine ⟨_, PSs.nox (pss_cons (ps_if (PW.pt (pw_or (pt_not (pt_val (pe_c c__law_is_count hr (by decide) rfl (pa_cons (pv 0) pa_nil)))) (pw_or1 (pt_not (pt_chain op_le op_le pe_int (pv 0) pe_int))))) (pss_one (ps_ret pe_str)) pss_nil) (pss_cons (ps_if (pt_not (pt_val (pe_c c__law_is_deeds hr (by decide) rfl (pa_cons (pv 0) (pa_cons (pv 1) pa_nil))))) (pss_one (ps_ret pe_str)) pss_nil) (pss_cons (ps_if (PW.pt (pw_or (pt_not (pt_val (pe_callB call_isiT rfl (T.fr _ (by decide +kernel)) (by decide +kernel) (pa_cons (pv 2) (pa_cons (pe_tup (pa_cons (pe_bltn (v := .ty "tuple") rfl (T.fr _ (by decide +kernel)) (by decide +kernel) rfl) (pa_cons (pe_bltn (v := .ty "list") rfl (T.fr _ (by decide +kernel)) (by decide +kernel) rfl) pa_nil))) pa_nil))))) (pw_or1 (pt_not (pt_chain op_le op_le pe_int (pe_callB call_len_seq rfl (T.fr _ (by decide +kernel)) boot_len (pa_cons (pv 2) pa_nil)) pe_int))))) (pss_one (ps_ret pe_str)) pss_nil) (pss_cons (ps_if (pt_not (pt_val (pe_callB (cr_all rfl) rfl (T.fr _ (by decide +kernel)) (by decide +kernel) (pa_cons (pe_lc (own := [("_law_way", 4)]) rfl sc__law_due.nd (pi_row (pv 2)) (blkOk_by (N := ["_law_inlets", "_law_begin", "_law_ways", "_law_most", "_law_way"]) (sc := defScope s__law_due) (by decide +kernel)) (fun _ _ _ _ _ => by exact (pg_name (i := 4) sc__law_due.nd rfl (Or.inl rfl))) (fun _ _ _ _ _ => by exact pts_nil) (fun _ _ _ _ _ => by exact (pe_and (pe_c c__law_is_deeds hr (by decide) rfl (pa_cons (pv 0) (pa_cons (pv 4) pa_nil))) (pe_one (pe_cmpR op_gt (pe_callB (call_lenK (K := K)) rfl (T.fr _ (by decide +kernel)) boot_len (pa_cons (pv 4) pa_nil)) pe_int (nomark _)))))) pa_nil)))) (pss_one (ps_ret pe_str)) pss_nil) (pss_cons (ps_set (i := 3) sc__law_due.nd rfl (Or.inr rfl) (pe_ifExp (pt_cmpR op_eq (pe_callB call_len_seq rfl (T.fr _ (by decide +kernel)) boot_len (pa_cons (pv 2) pa_nil)) pe_int (nomark _)) pe_int pe_int)) (pss_one (ps_ret (pe_ifExp (PW.pt (pw_or (pt_cmpR op_gt (pe_callB call_len_seq rfl (T.fr _ (by decide +kernel)) boot_len (pa_cons (pv 1) pa_nil)) pe_int (nomark _)) (pw_or1 (pt_val (pe_callB (cr_any rfl) rfl (T.fr _ (by decide +kernel)) (by decide +kernel) (pa_cons (pe_lc (own := [("_law_way", 4)]) rfl sc__law_due.nd (pi_row (pv 2)) (blkOk_by (N := ["_law_inlets", "_law_begin", "_law_ways", "_law_most", "_law_way"]) (sc := defScope s__law_due) (by decide +kernel)) (fun _ _ _ _ _ => by exact (pg_name (i := 4) sc__law_due.nd rfl (Or.inl rfl))) (fun _ _ _ _ _ => by exact pts_nil) (fun _ _ _ _ _ => by exact (pe_cmpR op_gt (pe_callB (call_lenK (K := K)) rfl (T.fr _ (by decide +kernel)) boot_len (pa_cons (pv 4) pa_nil)) (pv 3) (nomark _)))) pa_nil)))))) pe_str pe_non)))))))), ?_⟩
    have fin : ∀ G o, Same H G → dueM d1 d2 d3 = o → Q (wordO o) G := fun G o sG e => by
      rw [← e]
      exact q G sG
    refine ⟨_, rfl, v1, d1, rfl, h1, ?_⟩
    cases hi : isCntP d1 with
    | false =>
      have e : okNP d1 = false := by
        cases d1 with
        | int n =>
          have : ¬ 0 ≤ n := of_decide_eq_false hi
          show (decide (1 ≤ n) && _) = false
          rw [decide_eq_false (by omega)]
          rfl
        | _ => rfl
      exact ⟨_, rfl, iteT (iteT (fin H (some "inlets") (Same.refl _) (due_i e)))⟩
    | true =>
      obtain ⟨n, rfl⟩ : ∃ n, d1 = .int n := by
        cases d1 with
        | int n => exact ⟨n, rfl⟩
        | _ => cases hi
      cases h1
      refine ⟨_, rfl, iteF ?_⟩
      refine ⟨_, rfl, _, _, rfl, rfl, _, rfl, ?_⟩
      by_cases c1 : 1 ≤ n
      rotate_left
      · rw [decide_eq_false c1]
        refine iteF ⟨_, rfl, iteT (fin H (some "inlets") (Same.refl _) (due_i ?_))⟩
        show (decide (1 ≤ n) && _) = false
        rw [decide_eq_false c1]
        rfl
      rw [decide_eq_true c1]
      refine iteT ⟨_, _, rfl, rfl, _, rfl, ?_⟩
      by_cases c2 : n ≤ 3
      rotate_left
      · rw [decide_eq_false c2]
        refine iteT (fin H (some "inlets") (Same.refl _) (due_i ?_))
        show (_ && decide (n ≤ 3)) = false
        rw [decide_eq_false c2, Bool.and_false]
      rw [decide_eq_true c2]
      refine iteF ?_
      have on : okNP (.int n) = true := by
        show (decide (1 ≤ n) && decide (n ≤ 3)) = true
        rw [decide_eq_true c1, decide_eq_true c2]
        rfl
      refine ⟨_, rfl, _, rfl, v2, d2, n, rfl, h2, ok.bs, fun H1 s1 => ⟨_, rfl, ?_⟩⟩
      cases e2 : okDsP n d2 with
      | false => exact iteT (fin H1 (some "begin") s1 (due_b on e2))
      | true =>
        refine iteF ?_
        refine ⟨_, rfl, (by show 2 ≤ sizeLine; decide), fun p hp => ?_⟩
        have s2 := NF.Same.new (o := .tup [V.ty "tuple", V.ty "list"]) (Same.refl H1) hp
        have hp1 := upd_same (H := H1) (a := p) (o := .tup [V.ty "tuple", V.ty "list"])
        generalize upd H1 p (.tup [V.ty "tuple", V.ty "list"]) = H2 at s2 hp1
        have s02 := Same.trans s1 s2
        refine ⟨_, p, _, _, _, _, rfl, hp1, .cons (.ty _) (.cons (.ty _) .nil), dp_ty (dp_mono s02 d3 h3), kit_p_row K d3, _, rfl, ?_⟩
        have badW : ∀ G, Same H G → okWsP n d3 = false → Q (.str "ways") G := fun G sG e => fin G (some "ways") sG (due_w on e2 e)
        cases er2 : (rowP d3).isSome with
        | false =>
          refine iteT (iteT (badW H2 s02 ?_))
          unfold okWsP
          rw [er2]
          rfl
        | true =>
          obtain ⟨l, er⟩ := rowP_some er2
          obtain ⟨a, xs, rfl, ha, hd, ei⟩ := dp_row (dp_mono s02 d3 h3) er
          have xl := dpall_len hd
          have eW : okWsP n d3 = ((decide (1 ≤ l.length) && decide (l.length ≤ 4)) && l.all (okWP n)) := by
            unfold okWsP
            rw [er2, ei]
            rfl
          refine iteF ⟨_, rfl, a, _, rfl, ha, ?_⟩
          rw [xl]
          refine ⟨_, _, rfl, rfl, _, rfl, ?_⟩
          by_cases c3 : 1 ≤ l.length
          rotate_left
          · rw [show decide ((1 : Int) ≤ (l.length : Int)) = false from decide_eq_false (by omega)]
            refine iteF ⟨_, rfl, iteT (badW H2 s02 ?_)⟩
            rw [eW, decide_eq_false c3]
            rfl
          rw [show decide ((1 : Int) ≤ (l.length : Int)) = true from decide_eq_true (by omega)]
          refine iteT ⟨_, _, rfl, rfl, _, rfl, ?_⟩
          by_cases c4 : l.length ≤ 4
          rotate_left
          · rw [show decide ((l.length : Int) ≤ 4) = false from decide_eq_false (by omega)]
            refine iteT (badW H2 s02 ?_)
            rw [eW, decide_eq_false c4, Bool.and_false]
            rfl
          rw [show decide ((l.length : Int) ≤ 4) = true from decide_eq_true (by omega)]
          refine iteF ?_
          rw [decide_eq_true c3, decide_eq_true c4, Bool.and_self, Bool.true_and] at eW
          have okws := ok.ws
          rw [ei] at okws
          refine ⟨_, rfl, a, rfl, ?_⟩
          refine lc_row ha (fun D j G => Same H2 G ∧ G D = some (.lst (((l.take j).map (okWP n)).map V.bl))) (fun D hD => ⟨NF.Same.new (Same.refl H2) hD, upd_same⟩) (fun D i G _ z => z.1) ?_ ?_
          · rintro D hD j v G hv ⟨hG, hD2⟩
            have hj := (List.getElem?_eq_some_iff.mp hv).1
            have hjl : j < l.length := by omega
            have el := List.getElem?_eq_getElem hjl
            have hw := dp_mono hG _ (dpall_get hd hv el)
            have put : ∀ (b : Bool) (G2 : Hp), Same G G2 → okWP n l[j] = b → ∃ acc, G2 D = some (.lst acc) ∧ acc.length < sizeLine ∧ (Same H2 (upd G2 D (.lst (acc ++ [V.bl b]))) ∧ (upd G2 D (.lst (acc ++ [V.bl b]))) D = some (.lst (((l.take (j + 1)).map (okWP n)).map V.bl))) := fun b G2 s2 eb => by
              refine ⟨_, s2 _ _ hD2, by rw [List.length_map, List.length_map, List.length_take]; exact Nat.lt_of_lt_of_le (show min j l.length < 10000 by omega) (by decide), NF.Same.mut (Same.trans hG s2) hD, ?_⟩
              rw [upd_same, take_snoc el, List.map_append, List.map_append, ← eb]
              rfl
            refine ⟨rfl, _, rfl, _, rfl, v, l[j], n, rfl, hw, okws _ (List.getElem_mem hjl), fun G2 s2 => ⟨_, rfl, ?_⟩⟩
            cases ed : okDsP n l[j] with
            | false =>
              refine iteF ?_
              exact put false G2 s2 (by unfold okWP; rw [ed]; rfl)
            | true =>
              have er3 : (rowP l[j]).isSome = true := by
                unfold okDsP at ed
                exact (ba ed).1
              obtain ⟨l2, er3⟩ := rowP_some er3
              obtain ⟨a2, xs2, rfl, ha2, hd2, ei2⟩ := dp_row hw er3
              refine iteT ⟨_, rfl, a2, _, rfl, ha2.mono s2, _, _, rfl, rfl, ?_⟩
              refine put _ G2 s2 ?_
              unfold okWP
              rw [ed, ei2, dpall_len hd2]
              show decide (0 < l2.length) = decide ((0 : Int) < (l2.length : Int))
              by_cases c : 0 < l2.length
              · rw [decide_eq_true c, decide_eq_true (by omega)]
              · rw [decide_eq_false c, decide_eq_false (by omega)]
          · rintro D hD G ⟨hG, hD2⟩
            rw [xl, List.take_length] at hD2
            have s03 := Same.trans s02 hG
            refine ⟨D, _, rfl, SqL.of hD2, _, rfl, ?_⟩
            rw [List.all_map]
            show if (!(l.all (okWP n))) = true then _ else _
            cases e3 : l.all (okWP n) with
            | false => exact iteT (badW G s03 (eW.trans e3))
            | true =>
              refine iteF ?_
              have e3w := eW.trans e3
              have dt := due_t on e2 e3w
              have r2 : (rowP d2).isSome = true := by
                unfold okDsP at e2
                exact (ba e2).1
              obtain ⟨l2, r2⟩ := rowP_some r2
              obtain ⟨pb, xb, rfl, hb, db, ib⟩ := dp_row (dp_mono s03 d2 h2) r2
              have haG := ha.mono hG
              have hdG := dpall_mono hG l hd
              have lb := dpall_len db
              have et : tooP d2 d3 = (decide (600 < l2.length) || l.any fun w => decide (mostP d3 < (itemsP w).length)) := by
                unfold tooP
                rw [ib, ei]
              rw [et] at dt
              have finB : ∀ G' b, Same H G' → (decide (600 < l2.length) || l.any fun w => decide (mostP d3 < (itemsP w).length)) = b → Q (wordO (if b = true then some ("deed" : Str) else none)) G' := fun G' b sG e => by
                rw [e] at dt
                exact fin G' _ sG dt
              have mp : mostP d3 = if l.length = 1 then 600 else 24 := by
                unfold mostP
                rw [ei]
              have em : decide (V.int ((xs.length : Nat) : Int) = V.int 1) = decide (l.length = 1) := by
                rw [xl]
                by_cases c : l.length = 1
                · rw [decide_eq_true c, c]
                  rfl
                · rw [decide_eq_false c]
                  exact decide_eq_false fun z => c (by injection z with z; omega)
              have e3 := List.all_eq_true.mp e3
              refine ⟨_, rfl, a, _, rfl, haG, rfl, _, rfl, ?_⟩
              rw [em]
              refine ite2 (fun c1 => ?_) (fun c1 => ?_)
              all_goals
                have mz := mp
                first
                  | rw [if_pos (of_decide_eq_true c1)] at mz
                  | rw [if_neg (fun z => c1 (decide_eq_true z))] at mz
                refine ⟨_, rfl, pb, _, rfl, hb, _, _, rfl, rfl, _, rfl, ite2 (fun c2 => ?_) (fun c2 => ?_)⟩
                · have := finB G true s03 (by rw [decide_eq_true (show 600 < l2.length by have := of_decide_eq_true c2; omega)]; rfl)
                  exact iteT this
                have b6 : ¬ 600 < l2.length := fun z => c2 (decide_eq_true (by rw [lb]; omega))
                have finC : ∀ G' b, Same H G' → (l.any fun w => decide (mostP d3 < (itemsP w).length)) = b → Q (wordO (if b = true then some ("deed" : Str) else none)) G' := fun G' b sG e => finB G' b sG (by rw [decide_eq_false b6, Bool.false_or]; exact e)
                refine ⟨_, rfl, a, rfl, ?_⟩
                refine lc_row haG (fun D j G2 => Same G G2 ∧ G2 D = some (.lst (((l.take j).map fun w => decide (mostP d3 < (itemsP w).length)).map V.bl))) (fun D hD => ⟨NF.Same.new (Same.refl G) hD, upd_same⟩) (fun D i G _ z => z.1) ?_ ?_
                · rintro D hD j v G2 hv ⟨hG2, hD2⟩
                  have hj := (List.getElem?_eq_some_iff.mp hv).1
                  have hjl : j < l.length := by omega
                  have el := List.getElem?_eq_getElem hjl
                  have hw1 := dp_mono hG2 _ (dpall_get hdG hv el)
                  have ok1 := e3 l[j] (List.getElem_mem hjl)
                  have r4 : (rowP l[j]).isSome = true := by
                    unfold okWP okDsP at ok1
                    exact (ba (ba ok1).1).1
                  obtain ⟨l4, r4⟩ := rowP_some r4
                  obtain ⟨a4, x4, rfl, h4, d4, i4⟩ := dp_row hw1 r4
                  refine ⟨rfl, _, rfl, a4, _, rfl, h4, ?_⟩
                  refine ⟨_, rfl, _, _, rfl, rfl, ?_⟩
                  refine ⟨_, hD2, by rw [List.length_map, List.length_map, List.length_take]; exact Nat.lt_of_le_of_lt (show min j l.length ≤ 4 by omega) (by decide), NF.Same.mut hG2 hD, ?_⟩
                  rw [upd_same, take_snoc el, List.map_append, List.map_append]
                  refine congrArg (fun b => some (HO.lst (_ ++ [V.bl b]))) ?_
                  show decide (_ < ((x4.length : Nat) : Int)) = decide (mostP d3 < (itemsP l[j]).length)
                  rw [i4, mz, dpall_len d4]
                  first
                    | exact nn_dec 600 l4.length
                    | exact nn_dec 24 l4.length
                · rintro D hD G2 ⟨hG2, hD2⟩
                  rw [xl, List.take_length] at hD2
                  refine ⟨D, _, rfl, SqL.of hD2, ?_⟩
                  rw [List.any_map]
                  obtain ⟨bb, e9⟩ : ∃ bb, (l.any (id ∘ fun w => decide (mostP d3 < (itemsP w).length))) = bb := ⟨_, rfl⟩
                  have := finC G2 bb (Same.trans s03 hG2) e9
                  rw [e9]
                  refine ⟨_, rfl, ?_⟩
                  cases bb with
                  | true => exact iteT this
                  | false => exact iteF this
end
end K25
set_option Elab.async false
set_option linter.all false
set_option maxRecDepth 100000
set_option maxHeartbeats 4000000
namespace K25
open PySem PySem.Spec PyProof.Rows L2 He NF RZ NT
theorem deeds_of {K : PySem.W.Frag} {H : Hp} {n : Nat} : ∀ {xs : List V} {l : List PyData}, DpAll K H xs l → l.all (NF.okDP (n : Int)) = true → ∃ b : List Deed, xs = b.map dV ∧ (∀ i, some i ∈ b → i < n) ∧ b.length = l.length
  | _, _, .nil, _ => ⟨[], rfl, (fun i h => by cases h), rfl⟩
  | _, _, @DpAll.cons _ _ v vs d ds h a, e => by
    rw [List.all_cons] at e
    obtain ⟨e1, e2⟩ := ba e
    obtain ⟨b, hb, hn, hl⟩ := deeds_of a e2
    have : ∃ x : Deed, v = dV x ∧ ∀ i, x = some i → i < n := by
      cases h with
      | str s => exact ⟨none, of_decide_eq_true e1, fun i z => by cases z⟩
      | int i =>
        obtain ⟨e3, e4⟩ := ba e1
        have e3 := of_decide_eq_true e3
        have e4 := of_decide_eq_true e4
        refine ⟨some i.toNat, ?_, fun j z => by cases z; omega⟩
        show V.int i = V.int (i.toNat : Int)
        congr 1
        omega
      | non => cases e1
      | bl b => cases e1
      | lst _ _ => cases e1
      | tup _ _ => cases e1
    obtain ⟨x, rfl, hx⟩ := this
    refine ⟨x :: b, by rw [hb]; rfl, fun i hi => ?_, by rw [List.length_cons, List.length_cons, hl]⟩
    rcases List.mem_cons.mp hi with z | z
    · exact hx i z.symm
    · exact hn i z
theorem ways_of {K : PySem.W.Frag} {H : Hp} {n : Nat} : ∀ {xs : List V} {l : List PyData}, DpAll K H xs l → l.all (NF.okWP (n : Int)) = true → ∃ (as : List Addr) (ws : List (List Deed)), xs = as.map V.ref ∧ as.length = ws.length ∧ ws.length = l.length ∧ (∀ (j : Nat) (a : Addr) (w : List Deed), as[j]? = some a → ws[j]? = some w → Row K H a (w.map dV)) ∧
    (∀ v ∈ ws, v ≠ [] ∧ ∀ i, some i ∈ v → i < n) ∧ (∀ v ∈ ws, ∃ w ∈ l, (itemsP w).length = v.length)
  | _, _, .nil, _ => ⟨[], [], rfl, rfl, rfl, (fun j a w z => by cases z), (fun v h => by cases h), (fun v h => by cases h)⟩
  | _, _, @DpAll.cons _ _ v vs d ds h a, e => by
    rw [List.all_cons] at e
    obtain ⟨e1, e2⟩ := ba e
    obtain ⟨as, ws, hx, hl, hl2, hr, hg, hz⟩ := ways_of a e2
    unfold NF.okWP NF.okDsP at e1
    obtain ⟨e3, e4⟩ := ba e1
    obtain ⟨e5, e6⟩ := ba e3
    obtain ⟨l2, er⟩ := rowP_some e5
    obtain ⟨y, ys, rfl, hy, hd, hi⟩ := dp_row h er
    rw [hi] at e6 e4
    obtain ⟨b, rfl, hn, hb⟩ := deeds_of hd e6
    have e4 := of_decide_eq_true e4
    refine ⟨y :: as, b :: ws, by rw [hx]; rfl, by rw [List.length_cons, List.length_cons, hl], by rw [List.length_cons, List.length_cons, hl2], fun j a' w' z1 z2 => ?_, fun v hv => ?_, fun v hv => ?_⟩
    · cases j with
      | zero =>
        cases z1
        cases z2
        exact hy
      | succ j => exact hr j a' w' (by simpa using z1) (by simpa using z2)
    · rcases List.mem_cons.mp hv with z | z
      · rw [z]
        exact ⟨fun q => by rw [q] at hb; rw [← hb] at e4; exact absurd e4 (by decide), hn⟩
      · exact hg v z
    · rcases List.mem_cons.mp hv with z | z
      · exact ⟨d, List.mem_cons_self, by rw [hi, z, hb]⟩
      · obtain ⟨w, hw, e⟩ := hz v z
        exact ⟨w, List.mem_cons_of_mem _ hw, e⟩
theorem good_of {K : PySem.W.Frag} {H : Hp} {v1 v2 v3 : V} {d1 d2 d3 : PyData} (h1 : Dp K H v1 d1) (h2 : Dp K H v2 d2) (h3 : Dp K H v3 d3) (due : dueM d1 d2 d3 = none) :
    ∃ (n : Nat) (b : List Deed) (ws : List (List Deed)) (pb pw : Addr), v1 = .int (n : Int) ∧ v2 = .ref pb ∧ v3 = .ref pw ∧ Row K H pb (b.map dV) ∧ WaysR K H pw ws ∧ GoodM n b ws := by
  cases on : okNP d1 with
  | false =>
    rw [due_i on] at due
    cases due
  | true =>
    cases e2 : NF.okDsP (numP d1) d2 with
    | false =>
      rw [due_b on e2] at due
      cases due
    | true =>
      cases e3 : NF.okWsP (numP d1) d3 with
      | false =>
        rw [due_w on e2 e3] at due
        cases due
      | true =>
        have dt := due_t on e2 e3
        rw [due] at dt
        have tt : tooP d2 d3 = false := by
          cases z : tooP d2 d3 with
          | false => rfl
          | true =>
            rw [z, if_pos rfl] at dt
            cases dt
        obtain ⟨i, rfl⟩ : ∃ i, d1 = .int i := by
          cases d1 with
          | int i => exact ⟨i, rfl⟩
          | _ => cases on
        obtain ⟨c1, c2⟩ := ba on
        have c1 := of_decide_eq_true c1
        have c2 := of_decide_eq_true c2
        obtain ⟨n, rfl⟩ : ∃ n : Nat, i = (n : Int) := ⟨i.toNat, by omega⟩
        cases h1
        have e2 : NF.okDsP (n : Int) d2 = true := e2
        have e3 : NF.okWsP (n : Int) d3 = true := e3
        unfold NF.okDsP at e2
        obtain ⟨r2, e2⟩ := ba e2
        obtain ⟨l2, r2⟩ := rowP_some r2
        unfold NF.okWsP at e3
        obtain ⟨r3, e3⟩ := ba e3
        obtain ⟨r3, e4⟩ := ba r3
        obtain ⟨l3, r3⟩ := rowP_some r3
        obtain ⟨pb, xb, rfl, hb, db, ib⟩ := dp_row h2 r2
        obtain ⟨pw, xw, rfl, hw, dw, iw⟩ := dp_row h3 r3
        rw [ib] at e2
        rw [iw] at e3 e4
        unfold tooP at tt
        rw [ib, iw] at tt
        obtain ⟨b, rfl, hn, hl⟩ := deeds_of db e2
        obtain ⟨as, ws, rfl, al, wl, hr, hg, hz⟩ := ways_of dw e3
        obtain ⟨c3, c4⟩ := ba e4
        have c3 := of_decide_eq_true c3
        have c4 := of_decide_eq_true c4
        obtain ⟨t1, t2⟩ := Bool.or_eq_false_iff.mp tt
        have t1 := of_decide_eq_false t1
        have mp : mostP d3 = if l3.length = 1 then 600 else 24 := by
          unfold mostP
          rw [iw]
        refine ⟨n, b, ws, pb, pw, rfl, rfl, rfl, hb, ⟨as, hw, al, hr⟩, by omega, by omega, hn, fun v hv => ⟨(hg v hv).1, ?_, (hg v hv).2⟩, by omega, by omega, by omega⟩
        obtain ⟨w, hw, ew⟩ := hz v hv
        have := of_decide_eq_false (Bool.eq_false_iff.mpr (List.any_eq_false.mp t2 w hw))
        by_cases c : l3.length = 1
        · rw [if_pos c] at mp
          exact .inr ⟨by omega, by omega⟩
        · rw [if_neg c] at mp
          exact .inl (by omega)
end K25
set_option Elab.async false
set_option linter.all false
set_option maxRecDepth 100000
set_option maxHeartbeats 4000000
/-! try with several clauses 'except C as n', asked one behind the other. -/
namespace NF
open PySem PySem.Spec PyProof.Rows L2 He RZ
/-- a clause: its class, the slot of its name, its suite -/
abbrev Cls3 := Value × Nat × (Addr → Value → Option Addr → TS)
/-- what the clauses wish of an exception, one behind the other -/
def wAsM (K : PySem.W.Frag) (Wo : WX) (Z : Ends) : List Cls3 → WX
  | [] => Wo
  | (c, i, ts) :: r => wAs K c i ts (wAsM K Wo Z r) Z
inductive ClsOk (Y : Cx) : List ExceptHandler → List Cls3 → Prop
  | nil : ClsOk Y [] []
  | cons {x n : Str} {i : Nat} {c : Value} {ts : Addr → Value → Option Addr → TS} {b : Stmt} {su : List Stmt} {p q : Pos} {hs : List ExceptHandler} {l : List Cls3} (hi : Y.N[i]? = some n) (hl : Y.env.kindOf n = some .local) (hc : Names Y x c)
      (su_ok : ∀ (a : Addr) (oe : Obj) (cls : Value) (d : Option Addr) (pn : List (Addr × Obj)), Zc cls d oe → (∃ vs, oe.data = .fields vs) → PSs (Y.suite a ((a, oe) :: pn)) (b :: su) (ts a cls d)) (r : ClsOk Y hs l) :
      ClsOk Y (.ExceptHandler (some (.Name x p)) (some n) (b :: su) q :: hs) ((c, i, ts) :: l)
section
variable {Y : Cx} {bd : List Stmt} {h0 : ExceptHandler} {hs : List ExceptHandler} {l : List Cls3} {ps : Pos} {tb : WX → TS} {Wo : WX}
theorem ps_try_asM (e1 : Y.stack = Y.env :: Y.outer) (e2 : Y.env.frame = some Y.env.locals) (nd : Y.N.Nodup) (tk : Takes Y Wo)
    (hb : ∀ (W : WX) (pn : List (Addr × Obj)) (xe : Value → Shared → Prop), Takes (Y.tr pn xe) W → PassesOwn (model Y.prog Y.w) Y.A Y.env xe → PSs (Y.tr pn xe) bd (tb W))
    (hh : ClsOk Y (h0 :: hs) l) : PS Y (.Try bd (h0 :: hs) [] [] ps) (fun Z τ G => tb (wAsM Y.K Wo Z l) Z τ G) := by
  refine ⟨fun pins s τ G Z I want => ?_⟩
  have okY := I.ok
  have frY : Y.A.frames = some (Y.env :: Y.outer) := by rw [okY.frames, e1]
  refine wpAny_Try_except ?_
  refine wpAny_mono ((hb (wAsM Y.K Wo Z l) (Y.pn ++ pins) (fun e z₁ => wpAny (model Y.prog Y.w) Y.A (noteFrame e Y.env) (fun _ z₂ => wpAny (model Y.prog Y.w) Y.A (setFlight e none) (fun _ z₃ =>
    wpAny (model Y.prog Y.w) Y.A (handleBy e Y.env (h0 :: hs)) (SP Y pins Z) Y.xe z₃) Y.xe z₂) Y.xe z₁) (fun u s' xx => ?_) PassesOwn.looking).run [] s τ G Z (I.toTry _) want) (fun fl z1 got => ?_) (fun e z1 he => he)
  · -- an exception came out of the body
    obtain ⟨a, B, sI, pi2, τ2, G2, cls, d, rfl, J0, nb, up, sky, nG, os, ag, w⟩ := xx
    have J : Inv Y pins τ2 G2 sI := J0.ofTry okY
    have sky2 : Sky B (Y.env :: Y.outer) a (Zc cls d) Y.env.locals s'.heap := by rw [← e1]; exact sky
    show wpAny (model Y.prog Y.w) Y.A (noteFrame (.ref a) Y.env) _ _ _
    refine Sky.land Zc.steady frY e2 sky2 fun hp3 fl3 up3 => ?_
    have J3 : Inv Y pins τ2 G2 { s' with heap := hp3 } := J.landed nb fl3.1 (up.trans up3) os ag
    obtain ⟨oe3, vs3, at3, zc3, dat3⟩ := fl3.there
    have noFr : ∀ {hp : Heap} {o : Obj} {vs : Array Value}, hp.FunFrames B (Y.env :: Y.outer) → hp.get? a = some o → o.data = .fields vs → a ∉ frs (Y.env :: Y.outer) := fun {hp o vs} ff e dd hm => by
      obtain ⟨_, o2, e', hnf⟩ := ff.mem hm
      rw [e] at e'
      cases e'
      exact hnf _ dd
    have nfr := noFr fl3.2.2.1 at3 dat3
    have nL : a ≠ Y.env.locals := fun z => nfr (List.mem_filterMap.mpr ⟨Y.env, List.mem_cons_self, by rw [e2, z]⟩)
    have nF : a ∉ Y.fs := fun hm => by
      obtain ⟨e, he, q⟩ := List.mem_filterMap.mp hm
      exact nfr (List.mem_filterMap.mpr ⟨e, List.mem_cons_of_mem _ he, q⟩)
    have S3 := J3.suite at3 dat3 nG nL nF
    have go : ∀ {hs2 : List ExceptHandler} {l2 : List Cls3}, ClsOk Y hs2 l2 → wAsM Y.K Wo Z l2 cls d τ2 G2 → wpAny (model Y.prog Y.w) Y.A (handleBy (.ref a) Y.env hs2) (SP Y pins Z) Y.xe { s' with heap := hp3 } := by
      intro hs2 l2 hk
      induction hk with
      | nil =>
        intro w
        refine wpAny_handleBy_nil ?_
        obtain ⟨k1, k2, k3, oe, vs, T, oT, ts2, he, hz, hd, h1, hr⟩ := id fl3
        unfold PySem.passOn
        refine wpAny_bind (wpAny_field he hd h1 ?_)
        rw [if_neg (show ¬ ((Value.ref T == Value.none) = true) by simp)]
        have fin : wpAny (model Y.prog Y.w) Y.A (setFlight (.ref a) Y.env.frame) (fun _ z4 => wpAny (model Y.prog Y.w) Y.A (throw (.ref a) : Sem Flow) (SP Y pins Z) Y.xe z4) Y.xe { s' with heap := hp3 } := by
          rw [e2]
          refine HandSPX.setFlight_upZ fl3 fun hp4 at4 up4 => wpAny_throw (tk _ _ ?_)
          exact ⟨a, B, sI, pins, τ2, G2, cls, d, rfl, J, nb, (up.trans up3).trans up4, .inr (.inr (by rw [e1]; exact at4)), nG, os, ag, w⟩
        first
          | exact wpAny_bind (wpAny_pure (wpAny_bind fin))
          | exact wpAny_bind fin
      | @cons x n i c ts b su p q hs3 l3 hi hl hc su_ok r ih =>
        intro w
        obtain ⟨v, hv, yes, no⟩ := w
        refine wpAny_handleBy_cons (codeAny_handlers_test ?_) (by intro q; cases q)
        have LT : PySem.W.Looks (model Y.prog Y.w) hp3 (typeOf (.ref a)) cls := fun A Q E s k q => wpAny_typeOf_ref (k _ _ at3) (by rw [zc3.1]; exact q)
        have LM := PySem.W.exm_one (M := model Y.prog Y.w) (J3.kIn) LT hv
        have asks : ∀ {Q : Value → Shared → Prop} {E : Value → Shared → Prop}, Q c { s' with heap := hp3 } → wpAny (model Y.prog Y.w) (Y.A.mark (some (.ref a))) (eval (.Name x p) Y.env) Q E { s' with heap := hp3 } := fun {Q E} q => by
          obtain ⟨hg, hdb, hm | ⟨hm, hb, hnn⟩⟩ := hc
          · exact ld_glob (X := Y.suite a ((a, oe3) :: (Y.pn ++ pins))) S3 hg hm q hdb
          · exact ld_blt (X := Y.suite a ((a, oe3) :: (Y.pn ++ pins))) S3 hg hm hb q hnn hdb
        refine asks (LM.here ?_)
        cases v with
        | true =>
          refine codeAny_handlers_suite_as ?_
          refine HandSPX.lands_againZ fl3 fun hp4 fl4 up4 => ?_
          have J4 : Inv Y pins τ2 G2 { s' with heap := hp4 } := J.landed nb fl4.1 ((up.trans up3).trans up4) os ag
          obtain ⟨oe4, vs4, at4, zc4, dat4⟩ := fl4.there
          have S4 := J4.suite at4 dat4 nG nL nF
          refine store_ok (X := Y.suite a ((a, oe4) :: (Y.pn ++ pins))) (v := .ref a) S4 nd hi (.inl hl) rfl (fun z5 S5 => ?_) (.inr hl)
          refine wpAny_mono ((su_ok a oe4 cls d (Y.pn ++ pins) zc4 ⟨_, dat4⟩).run [] z5 _ G2 _ S5 (yes rfl a nG)) (fun fl z6 got => ?_) (fun _ _ z => False.elim z)
          have ends : ∀ {τ6 : L2.St} {G6 : Hp} {Q : Shared → Prop}, Inv (Y.suite a ((a, oe4) :: (Y.pn ++ pins))) [] τ6 G6 z6 → (∀ z7, Inv Y pins (τ6.set i none) G6 z7 → Q z7) →
              wpAny (model Y.prog Y.w) Y.A (do bindName Y.env n .none; unbindBehindTheSuite Y.env n q) (fun _ z7 => Q z7) Y.xe z6 := fun {τ6 G6 Q} S6 hq => gone_ok (S6.unsuite okY) nd hi hl hq
          cases fl with
          | next =>
            obtain ⟨τ6, G6, S6, q6⟩ := got
            exact ends S6 fun z7 J7 => ⟨_, _, J7, q6⟩
          | brk =>
            obtain ⟨τ6, G6, S6, q6⟩ := got
            exact ends S6 fun z7 J7 => ⟨_, _, J7, q6⟩
          | cont =>
            obtain ⟨τ6, G6, S6, q6⟩ := got
            exact ends S6 fun z7 J7 => ⟨_, _, J7, q6⟩
          | ret u =>
            obtain ⟨v6, τ6, G6, S6, r6, q6⟩ := got
            exact ends S6 fun z7 J7 => ⟨_, _, _, J7, r6, q6⟩
        | false =>
          show wpAny _ Y.A (handleBy (.ref a) Y.env hs3) _ _ _
          exact ih (no rfl)
    exact go hh w
  · cases fl with
    | next =>
      obtain ⟨τ2, G2, J2, q⟩ := got
      exact wpAny_execs_nil ⟨τ2, G2, J2.ofTry okY, q⟩
    | brk =>
      obtain ⟨τ2, G2, J2, q⟩ := got
      exact ⟨τ2, G2, J2.ofTry okY, q⟩
    | cont =>
      obtain ⟨τ2, G2, J2, q⟩ := got
      exact ⟨τ2, G2, J2.ofTry okY, q⟩
    | ret u =>
      obtain ⟨v, τ2, G2, J2, r, q⟩ := got
      exact ⟨v, τ2, G2, J2.ofTry okY, r, q⟩
end
end NF
set_option Elab.async false
set_option linter.all false
set_option maxRecDepth 100000
set_option maxHeartbeats 4000000
namespace NF
open PySem PySem.Spec PyProof.Rows L2 He RZ
/-- isinstance of the caught exception, which has a dict -/
def rIsX (K : PySem.W.Frag) (a : Addr) (cls : Value) (d : Option Addr) : List V → Hp → VK → Prop := fun xs H Q => ∃ (C dd : Addr) (fs : List (Str × V)) (c : V) (u : Value) (b : Bool), cls = .ref C ∧ d = some dd ∧ H dd = some (.xd fs) ∧ xs = [.ref a, c] ∧ ClsV c u ∧ ExcC K C ∧ PySem.W.kitOne K (.ref C) u = some b ∧ Q (.bl b) H
theorem call_isX {X : Cx} {a : Addr} {oe : Obj} {cls : Value} {d : Option Addr} {pn : List (Addr × Obj)} (hz : Zc cls d oe) (hf : ∃ vs, oe.data = .fields vs) : CallR (X.suite a ((a, oe) :: pn)) (.builtin "isinstance") (rIsX X.K a cls d) := by
  intro pins s σ H xs us Q I r h
  obtain ⟨C, dd, fs, c, u, b, rfl, rfl, ea, rfl, k, T, hk, q⟩ := h
  obtain ⟨u1, u2, rfl, r1, r2⟩ := vals2 r
  have e2 := k.eq r2
  subst e2
  cases (show u1 = Value.ref a from r1)
  have there := (I.pin (a, oe) (List.mem_append_left _ List.mem_cons_self)).1
  obtain ⟨fv, hfv⟩ := hf
  obtain ⟨mA, hns, _⟩ := (show ObjOk X.prog X.w H s.heap dd (.xd fs) from I.hok dd _ ea)
  obtain ⟨od, ho, _⟩ := lookIn_ns hns
  have J : PySem.W.InstAt s.heap a oe C (some od) := ⟨there, hz.1, by unfold PySem.W.notCls; rw [hfv] <;> rfl, by rw [hz.2]; exact ho⟩
  have hcl : (PySem.W.clsIn X.K C).isSome = true := by
    obtain ⟨cd, hc, _⟩ := PySem.W.any_some T.hd
    rw [hc] <;> rfl
  exact PySem.W.kia_one (PySem.W.kitx_exc (ox := oe) (od := some od) hcl T.hg T.hk T.hs T.ha T.hn T.ht T.hm) I.kIn J hk (fun z => nomatch z) fun tk => ⟨.bl b, H, I.tok tk, rfl, q⟩
end NF
set_option Elab.async false
set_option linter.all false
set_option maxRecDepth 100000
set_option maxHeartbeats 4000000
namespace K25
open PySem PySem.Spec PyProof.Rows L2 He NF RZ NT
def spSeenM (K : PySem.W.Frag) : Sp := fun vs H Q _ => ∃ v1 v2 v3 d1 d2 d3, vs = [v1, v2, v3] ∧ Dp K H v1 d1 ∧ Dp K H v2 d2 ∧ Dp K H v3 d3 ∧ MkOk d2 d3 ∧ ∀ H', Same H H' → Q (wordO (dueM d1 d2 d3)) H'
theorem sc__law_seen : FnScope ["_law_inlets", "_law_begin", "_law_ways", "error"] ["_law_inlets", "_law_begin", "_law_ways"] (defScope s__law_seen) := ⟨rfl, rfl, rfl, by decide +kernel, rfl, by decide +kernel, by decide +kernel⟩
theorem due_in {d1 d2 d3 : PyData} {x : Str} (h : dueM d1 d2 d3 = some x) : x = "inlets" ∨ x = "begin" ∨ x = "ways" ∨ x = "deed" := by
  unfold dueM at h
  split at h
  · cases h
    exact .inl rfl
  · split at h
    · cases h
      exact .inr (.inl rfl)
    · split at h
      · cases h
        exact .inr (.inr (.inl rfl))
      · split at h
        · cases h
          exact .inr (.inr (.inr rfl))
        · cases h
section
variable {P : Program} {w : World} {K : PySem.W.Frag} {mg : Str → Option Value} {base : Heap} {gs fs : List Str} {C CM CR CT : Addr}
theorem ok__law_seen {f : Addr} {fd : FuncData} (F : FunD K "_law_seen" "_law_seen" (defArgs s__law_seen) (defBody s__law_seen) (defScope s__law_seen) [] [] f fd) (T : Txt K mg gs FS) (hgs : ("NeedforthError" : Str) ∈ gs ∧ ("BadMaker" : Str) ∈ gs)
    (m_BadMaker : ExcI P w K mg base "BadMaker" "word") (xf_BadMaker : XfC K (ga K "BadMaker")) (no_BadMaker : PySem.W.findIn K (.ref (ga K "BadMaker")) "word" = some none) (xc1 : ExcC K (ga K "BadMaker"))
    (m_TooMany : ExcI P w K mg base "TooMany" "word") (xf_TooMany : XfC K (ga K "TooMany")) (no_TooMany : PySem.W.findIn K (.ref (ga K "TooMany")) "word" = some none) (xc2 : ExcC K (ga K "TooMany"))
    (k1 : PySem.W.kitOne K (.ref (ga K "BadMaker")) (.ref (ga K "NeedforthError")) = some true) (k2 : PySem.W.kitOne K (.ref (ga K "TooMany")) (.ref (ga K "BadMaker")) = some false)
    (ex1 : PySem.W.exmOne K (.ref (ga K "BadMaker")) (.ref (ga K "BadMaker")) = some true) (ex2 : PySem.W.exmOne K (.ref (ga K "TooMany")) (.ref (ga K "BadMaker")) = some false) (ex3 : PySem.W.exmOne K (.ref (ga K "TooMany")) (.ref (ga K "TooMany")) = some true)
    (m_MakerX : MakX P w K mg base 7 0 "Maker" C (spOr (spMkInit K C) (spMkInitB K C)) []) : FnOk P w K mg base CX0 9 f fd ["_law_inlets", "_law_begin", "_law_ways"] (spSeenM K) := by
  refine F.ok sc__law_seen (fun vs H Q E h => ?_) (fun cdv A outer s H vs Q E hr h => ?_)
  · obtain ⟨v1, v2, v3, d1, d2, d3, rfl, _⟩ := h
    rfl
  · obtain ⟨v1, v2, v3, d1, d2, d3, rfl, h1, h2, h3, ok, q⟩ := h
    refine ⟨_, PSs.nox (pss_one (ps_try_asM rfl rfl sc__law_seen.nd takes0 (fun W pn xe tk _ => (pss_cons (ps_expr (pe_mkX tk m_MakerX hr (by decide) rfl (pa_cons (pv 0) (pa_cons (pv 1) (pa_cons (pv 2) pa_nil))))) (pss_one (ps_ret pe_non)))) (ClsOk.cons (i := 3) rfl rfl ⟨rfl, by decide, .inl m_BadMaker.gm⟩ (fun a oe cls d pn hz hf => (pss_one (ps_ret (pe_ifExp (PW.pt (pw_and (pt_val (pe_callB (call_isX hz hf) rfl (T.fr _ (by decide +kernel)) (by decide +kernel) (pa_cons (pv 3) (pa_cons (pe_gl (T.gl _ hgs.1)) pa_nil)))) (pw_and1 (pt_cmpR op_ne (pe_xf xf_BadMaker no_BadMaker hz hf (pv 3)) pe_str (nomark _))))) (pe_xf xf_BadMaker no_BadMaker hz hf (pv 3)) pe_str)))) (ClsOk.cons (i := 3) rfl rfl ⟨rfl, by decide, .inl m_TooMany.gm⟩ (fun a oe cls d pn hz hf => (pss_one (ps_ret (pe_ifExp (pt_not (pt_val (pe_callB (call_isX hz hf) rfl (T.fr _ (by decide +kernel)) (by decide +kernel) (pa_cons (pv 3) (pa_cons (pe_gl (T.gl _ hgs.2)) pa_nil))))) (pe_xf xf_TooMany no_TooMany hz hf (pv 3)) pe_str)))) .nil)))), ?_⟩
    refine ⟨_, rfl, _, rfl, _, rfl, ?_⟩
    intro x dx nx nd ne
    have si : Same H (upd (upd H dx (.own x)) x (.ins C dx [])) := Same.trans (NF.Same.new (Same.refl H) nd) (NF.Same.new (Same.refl _) (by rw [upd_ne (Ne.symm ne)]; exact nx))
    cases due : dueM d1 d2 d3 with
    | none =>
      obtain ⟨n, b, ws, pb, pw, rfl, rfl, rfl, hb, hw, g⟩ := good_of h1 h2 h3 due
      refine .inl ⟨x, dx, pb, pw, n, b, ws, rfl, upd_same, hb.mono (same_woM nx nd), hw.mono (same_woM nx nd), g, fun H1 s1 ma => ⟨rfl, ?_⟩⟩
      have := q H1 (same_made nx nd s1)
      rw [due] at this
      exact this
    | some wd =>
      refine .inr ⟨.ref x, v1, v2, v3, d1, d2, d3, wd, rfl, dp_mono si _ h1, dp_mono si _ h2, dp_mono si _ h3, ok.b, ok.w, due, fun d G s hd hx => ?_⟩
      have q := q G (Same.trans si s)
      rw [due] at q
      have q : Q (.str wd) G := q
      by_cases c : wd = "deed"
      · subst c
        rw [if_pos rfl]
        refine ⟨false, ex2, (fun z => Bool.noConfusion z), fun _ => ⟨true, ex3, fun _ a ha => ?_, fun z => Bool.noConfusion z⟩⟩
        refine ⟨_, rfl, _, d, _, _, _, false, rfl, rfl, hx, rfl, .own _, xc2, k2, false, rfl, iteT ?_⟩
        exact ⟨_, rfl, rfl, rfl, d, _, _, rfl, hx, rfl, q⟩
      · rw [if_neg c]
        refine ⟨true, ex1, fun _ a ha => ?_, fun z => Bool.noConfusion z⟩
        refine ⟨_, rfl, _, d, _, _, _, true, rfl, rfl, hx, rfl, .own _, xc1, k1, true, rfl, iteT ?_⟩
        refine ⟨_, rfl, rfl, rfl, d, _, _, rfl, hx, rfl, rfl, _, rfl, iteT' ?_ ?_⟩
        · rw [decide_eq_false fun z => c (by injection z)]
          rfl
        · exact ⟨_, rfl, rfl, rfl, d, _, _, rfl, hx, rfl, q⟩
end
end K25
set_option Elab.async false
set_option linter.all false
set_option maxRecDepth 100000
set_option maxHeartbeats 4000000
namespace K25
open PySem PySem.Spec PyProof.Rows L2 He NF RZ NT
/-- what a refusal tells: a word and the thing -/
def Tells (K : PySem.W.Frag) (H : Hp) (Q : VK) (wd : Str) (v : V) : Prop := ∀ p H', Same H H' → SqT K H' p [.str wd, v] → Q (.ref p) H'
def spNeedSeen (K : PySem.W.Frag) (C : Addr) : Sp := fun vs H Q _ => ∃ x n b ws vi vc di dc, vs = [.ref x, vi, vc] ∧ MakAt K C H x n b ws ∧ GoodM n b ws ∧ Dp K H vi di ∧ Dp K H vc dc ∧ Few2 dc ∧
  ((okIP n di = false ∧ Tells K H Q "inlet" vi) ∨ (∃ i : Nat, vi = .int (i : Int) ∧ i < n ∧ okCP ws.length dc = false ∧ Tells K H Q "course" vc) ∨
   (∃ (i : Nat) (a : Addr) (fs ts : List Nat), vi = .int (i : Int) ∧ i < n ∧ vc = .ref a ∧ CrsR K H a fs ts ∧ CrsOk ws.length fs ts ∧ (deedsOf ws fs).length ≤ 4800 ∧ (deedsOf ws ts).length ≤ 1200 ∧ ∀ H', Same H H' → Q .non H'))
def spPieceSeen (K : PySem.W.Frag) (C : Addr) : Sp := fun vs H Q _ => ∃ x n b ws vi vp most di dp, vs = [.ref x, vi, vp, .bl most] ∧ MakAt K C H x n b ws ∧ GoodM n b ws ∧ Dp K H vi di ∧ Dp K H vp dp ∧
  ((okIP n di = false ∧ Tells K H Q "inlet" vi) ∨ (∃ i : Nat, vi = .int (i : Int) ∧ i < n ∧ okPP dp = false ∧ Tells K H Q "count" vp) ∨
   (∃ i piece : Nat, vi = .int (i : Int) ∧ i < n ∧ vp = .int (piece : Int) ∧ 1 ≤ piece ∧ piece ≤ 2000 ∧ ∀ H', Same H H' → Q .non H'))
def spRefused (K : PySem.W.Frag) (C : Addr) : Sp := fun vs H Q _ => ∃ nm x n b ws v d w, vs = [.ref (ga K nm), .ref x, v, w] ∧ (nm = "least" ∨ nm = "greatest") ∧ MakAt K C H x n b ws ∧ GoodM n b ws ∧ Dp K H v d ∧ scal v v = true ∧
  ((∃ i : Nat, v = .int (i : Int) ∧ i < n ∧ w = .non) ∨ (okIP n d = false ∧ w = .str "inlet")) ∧ ∀ H', Same H H' → Q (.bl true) H'
theorem sc__law_need_seen : FnScope ["_law_made_here", "_law_inlet", "_law_course", "error"] ["_law_made_here", "_law_inlet", "_law_course"] (defScope s__law_need_seen) := ⟨rfl, rfl, rfl, by decide +kernel, rfl, by decide +kernel, by decide +kernel⟩
theorem sc__law_piece_seen : FnScope ["_law_made_here", "_law_inlet", "_law_piece", "_law_most", "error"] ["_law_made_here", "_law_inlet", "_law_piece", "_law_most"] (defScope s__law_piece_seen) := ⟨rfl, rfl, rfl, by decide +kernel, rfl, by decide +kernel, by decide +kernel⟩
theorem sc__law_refused : FnScope ["_law_call", "_law_made_here", "_law_inlet", "_law_due_here", "error"] ["_law_call", "_law_made_here", "_law_inlet", "_law_due_here"] (defScope s__law_refused) := ⟨rfl, rfl, rfl, by decide +kernel, rfl, by decide +kernel, by decide +kernel⟩
section
variable {P : Program} {w : World} {K : PySem.W.Frag} {mg : Str → Option Value} {base : Heap} {gs fs : List Str} {C CM CR CT : Addr}
theorem ok__law_need_seen {f : Addr} {fd : FuncData} (F : FunD K "_law_need_seen" "_law_need_seen" (defArgs s__law_need_seen) (defBody s__law_need_seen) (defScope s__law_need_seen) [] [] f fd) (T : Txt K mg gs FS)
    (m_BadInlet : ExcI P w K mg base "BadInlet" "thing") (xf_BadInlet : XfC K (ga K "BadInlet")) (no_BadInlet : PySem.W.findIn K (.ref (ga K "BadInlet")) "thing" = some none)
    (m_BadCourse : ExcI P w K mg base "BadCourse" "thing") (xf_BadCourse : XfC K (ga K "BadCourse")) (no_BadCourse : PySem.W.findIn K (.ref (ga K "BadCourse")) "thing" = some none)
    (ex1 : PySem.W.exmOne K (.ref (ga K "BadInlet")) (.ref (ga K "BadInlet")) = some true) (ex2 : PySem.W.exmOne K (.ref (ga K "BadCourse")) (.ref (ga K "BadInlet")) = some false) (ex3 : PySem.W.exmOne K (.ref (ga K "BadCourse")) (.ref (ga K "BadCourse")) = some true)
    (o_need : MetX P w K mg base 6 CM "need" (spOr (spNeed K CT CM) (spNeedB K CM))) : FnOk P w K mg base CX0 7 f fd ["_law_made_here", "_law_inlet", "_law_course"] (spNeedSeen K CM) := by
  refine F.ok sc__law_need_seen (fun vs H Q E h => ?_) (fun cdv A outer s H vs Q E hr h => ?_)
  · obtain ⟨x, n, b, ws, vi, vc, di, dc, rfl, _⟩ := h
    rfl
  · obtain ⟨x, n, b, ws, vi, vc, di, dc, rfl, mk, g, hi, hc, fc, h⟩ := h
    refine ⟨_, PSs.nox (pss_one (ps_try_asM rfl rfl sc__law_need_seen.nd takes0 (fun W pn xe tk _ => (pss_cons (ps_expr (pe_mtX tk (pv 0) o_need hr (by decide) (pa_cons (pv 1) (pa_cons (pv 2) pa_nil)))) (pss_one (ps_ret pe_non)))) (ClsOk.cons (i := 3) rfl rfl ⟨rfl, by decide, .inl m_BadInlet.gm⟩ (fun a oe cls d pn hz hf => (pss_one (ps_ret (pe_tup (pa_cons pe_str (pa_cons (pe_xf xf_BadInlet no_BadInlet hz hf (pv 3)) pa_nil)))))) (ClsOk.cons (i := 3) rfl rfl ⟨rfl, by decide, .inl m_BadCourse.gm⟩ (fun a oe cls d pn hz hf => (pss_one (ps_ret (pe_tup (pa_cons pe_str (pa_cons (pe_xf xf_BadCourse no_BadCourse hz hf (pv 3)) pa_nil)))))) .nil)))), ?_⟩
    obtain ⟨dx, _, _, hx, _⟩ := id mk
    refine ⟨_, rfl, x, dx, _, rfl, hx, rfl, ?_⟩
    rcases h with ⟨oi, q⟩ | ⟨i, rfl, lt, oc, q⟩ | ⟨i, a, fs, ts, rfl, lt, rfl, cr, ok, l1, l2, q⟩
    · refine ⟨_, rfl, _, rfl, .inr ⟨x, n, b, ws, vi, vc, di, dc, rfl, mk, hi, hc, fc, .inl ⟨oi, fun d G s1 hd hx => ?_⟩⟩⟩
      refine ⟨true, ex1, fun _ a ha => ?_, fun z => Bool.noConfusion z⟩
      exact ⟨_, rfl, rfl, rfl, d, _, _, rfl, hx, rfl, (by show 2 ≤ sizeLine; decide), fun p hp => q p _ (Same.trans s1 (NF.Same.new (Same.refl _) hp)) (SqT.of upd_same)⟩
    · refine ⟨_, rfl, _, rfl, .inr ⟨x, n, b, ws, _, vc, di, dc, rfl, mk, hi, hc, fc, .inr ⟨i, rfl, lt, oc, fun d G s1 hd hx => ?_⟩⟩⟩
      refine ⟨false, ex2, (fun z => Bool.noConfusion z), fun _ => ⟨true, ex3, fun _ a ha => ?_, fun z => Bool.noConfusion z⟩⟩
      exact ⟨_, rfl, rfl, rfl, d, _, _, rfl, hx, rfl, (by show 2 ≤ sizeLine; decide), fun p hp => q p _ (Same.trans s1 (NF.Same.new (Same.refl _) hp)) (SqT.of upd_same)⟩
    · refine ⟨_, rfl, _, rfl, .inl ⟨x, a, n, i, b, ws, fs, ts, rfl, mk, g, lt, cr, ok, l1, l2, fun y z G _ s1 _ => ?_⟩⟩
      exact q G s1
theorem ok__law_piece_seen {f : Addr} {fd : FuncData} (F : FunD K "_law_piece_seen" "_law_piece_seen" (defArgs s__law_piece_seen) (defBody s__law_piece_seen) (defScope s__law_piece_seen) [] [] f fd) (T : Txt K mg gs FS)
    (m_BadInlet : ExcI P w K mg base "BadInlet" "thing") (xf_BadInlet : XfC K (ga K "BadInlet")) (no_BadInlet : PySem.W.findIn K (.ref (ga K "BadInlet")) "thing" = some none)
    (m_BadCount : ExcI P w K mg base "BadCount" "thing") (xf_BadCount : XfC K (ga K "BadCount")) (no_BadCount : PySem.W.findIn K (.ref (ga K "BadCount")) "thing" = some none)
    (ex1 : PySem.W.exmOne K (.ref (ga K "BadInlet")) (.ref (ga K "BadInlet")) = some true) (ex2 : PySem.W.exmOne K (.ref (ga K "BadCount")) (.ref (ga K "BadInlet")) = some false) (ex3 : PySem.W.exmOne K (.ref (ga K "BadCount")) (.ref (ga K "BadCount")) = some true)
    (ck_course_of : CalKX P w K mg base 7 "course_of" 3 ["most"] (spOr (spCrsOf K CM) (spCrsOfB K CM))) : FnOk P w K mg base CX0 8 f fd ["_law_made_here", "_law_inlet", "_law_piece", "_law_most"] (spPieceSeen K CM) := by
  refine F.ok sc__law_piece_seen (fun vs H Q E h => ?_) (fun cdv A outer s H vs Q E hr h => ?_)
  · obtain ⟨x, n, b, ws, vi, vp, most, di, dp, rfl, _⟩ := h
    rfl
  · obtain ⟨x, n, b, ws, vi, vp, most, di, dp, rfl, mk, g, hi, hp, h⟩ := h
    refine ⟨_, PSs.nox (pss_one (ps_try_asM rfl rfl sc__law_piece_seen.nd takes0 (fun W pn xe tk _ => (pss_cons (ps_expr (pe_ckX tk ck_course_of hr (by decide) rfl (pa_cons (pv 0) (pa_cons (pv 1) (pa_cons (pv 2) pa_nil))) (pk_cons (pv 3) pk_nil))) (pss_one (ps_ret pe_non)))) (ClsOk.cons (i := 4) rfl rfl ⟨rfl, by decide, .inl m_BadInlet.gm⟩ (fun a oe cls d pn hz hf => (pss_one (ps_ret (pe_tup (pa_cons pe_str (pa_cons (pe_xf xf_BadInlet no_BadInlet hz hf (pv 4)) pa_nil)))))) (ClsOk.cons (i := 4) rfl rfl ⟨rfl, by decide, .inl m_BadCount.gm⟩ (fun a oe cls d pn hz hf => (pss_one (ps_ret (pe_tup (pa_cons pe_str (pa_cons (pe_xf xf_BadCount no_BadCount hz hf (pv 4)) pa_nil)))))) .nil)))), ?_⟩
    refine ⟨_, rfl, _, rfl, _, rfl, _, rfl, rfl, rfl, ?_⟩
    rcases h with ⟨oi, q⟩ | ⟨i, rfl, lt, oc, q⟩ | ⟨i, piece, rfl, lt, rfl, p1, p2, q⟩
    · refine .inr ⟨x, n, b, ws, vi, vp, most, di, dp, rfl, mk, hi, hp, .inl ⟨oi, fun d G s1 hd hx => ?_⟩⟩
      refine ⟨true, ex1, fun _ a ha => ?_, fun z => Bool.noConfusion z⟩
      exact ⟨_, rfl, rfl, rfl, d, _, _, rfl, hx, rfl, (by show 2 ≤ sizeLine; decide), fun p hp => q p _ (Same.trans s1 (NF.Same.new (Same.refl _) hp)) (SqT.of upd_same)⟩
    · refine .inr ⟨x, n, b, ws, _, vp, most, di, dp, rfl, mk, hi, hp, .inr ⟨i, rfl, lt, oc, fun d G s1 hd hx => ?_⟩⟩
      refine ⟨false, ex2, (fun z => Bool.noConfusion z), fun _ => ⟨true, ex3, fun _ a ha => ?_, fun z => Bool.noConfusion z⟩⟩
      exact ⟨_, rfl, rfl, rfl, d, _, _, rfl, hx, rfl, (by show 2 ≤ sizeLine; decide), fun p hp => q p _ (Same.trans s1 (NF.Same.new (Same.refl _) hp)) (SqT.of upd_same)⟩
    · refine .inl ⟨x, n, i, piece, most, b, ws, rfl, mk, g, lt, p1, p2, fun p fs ts G s1 _ _ => ?_⟩
      exact q G s1
theorem ok__law_refused {f : Addr} {fd : FuncData} (F : FunD K "_law_refused" "_law_refused" (defArgs s__law_refused) (defBody s__law_refused) (defScope s__law_refused) [] [] f fd) (T : Txt K mg gs FS) (hgs : ("least" : Str) ∈ gs ∧ ("greatest" : Str) ∈ gs)
    (m_BadInlet : ExcI P w K mg base "BadInlet" "thing") (xf_BadInlet : XfC K (ga K "BadInlet")) (no_BadInlet : PySem.W.findIn K (.ref (ga K "BadInlet")) "thing" = some none)
    (ex1 : PySem.W.exmOne K (.ref (ga K "BadInlet")) (.ref (ga K "BadInlet")) = some true)
    (c_least : CalX P w K mg base 7 "least" (spOr (spExt K CM CT false) (spChkIB K CM))) (c_greatest : CalX P w K mg base 7 "greatest" (spOr (spExt K CM CT true) (spChkIB K CM))) : FnOk P w K mg base CX0 8 f fd ["_law_call", "_law_made_here", "_law_inlet", "_law_due_here"] (spRefused K CM) := by
  refine F.ok sc__law_refused (fun vs H Q E h => ?_) (fun cdv A outer s H vs Q E hr h => ?_)
  · obtain ⟨nm, x, n, b, ws, v, d, wv, rfl, _⟩ := h
    rfl
  · obtain ⟨nm, x, n, b, ws, v, d, wv, rfl, hn, mk, g, hv, hs, h, q⟩ := h
    refine ⟨_, PSs.nox (pss_one (ps_try_as (i := 4) rfl rfl sc__law_refused.nd rfl rfl ⟨rfl, by decide, .inl m_BadInlet.gm⟩ takes0 (fun W pn xe tk _ => (pss_cons (ps_expr (pe_cvX (i := 0) K tk c_least (T.gl _ hgs.1) c_greatest (T.gl _ hgs.2) hr (by decide) (by decide) rfl (Or.inl rfl) (pa_cons (pv 1) (pa_cons (pv 2) pa_nil)))) (pss_one (ps_ret (pe_cmpR op_isN (pv 3) pe_non (nomark _)))))) (fun a oe cls d pn hz hf => (pss_one (ps_ret (pe_and (pe_cmpR op_eq (pv 3) pe_str (nomark _)) (pe_one (pe_cmpR op_eq (pe_xf xf_BadInlet no_BadInlet hz hf (pv 4)) (pv 2) (nomark _))))))))), ?_⟩
    have sv : decide (v = v) = true := decide_eq_true rfl
    rcases hn with rfl | rfl
    · refine .inl ⟨rfl, _, rfl, _, rfl, ?_⟩
      rcases h with ⟨i, rfl, lt, rfl⟩ | ⟨oi, rfl⟩
      · exact .inl ⟨x, n, i, b, ws, rfl, mk, g, lt, fun y z G _ s1 _ => ⟨_, rfl, rfl, q G s1⟩⟩
      · refine .inr ⟨x, n, b, ws, v, d, rfl, mk, hv, oi, fun dd G s1 hd hx => ?_⟩
        refine ⟨true, ex1, fun _ a ha => ?_, fun z => Bool.noConfusion z⟩
        refine ⟨_, rfl, rfl, _, rfl, iteT' (by decide +kernel) ?_⟩
        refine ⟨_, rfl, rfl, rfl, dd, _, _, rfl, hx, rfl, _, rfl, hs, ?_⟩
        rw [sv]
        exact q G s1
    · refine .inr ⟨rfl, _, rfl, _, rfl, ?_⟩
      rcases h with ⟨i, rfl, lt, rfl⟩ | ⟨oi, rfl⟩
      · exact .inl ⟨x, n, i, b, ws, rfl, mk, g, lt, fun y z G _ s1 _ => ⟨_, rfl, rfl, q G s1⟩⟩
      · refine .inr ⟨x, n, b, ws, v, d, rfl, mk, hv, oi, fun dd G s1 hd hx => ?_⟩
        refine ⟨true, ex1, fun _ a ha => ?_, fun z => Bool.noConfusion z⟩
        refine ⟨_, rfl, rfl, _, rfl, iteT' (by decide +kernel) ?_⟩
        refine ⟨_, rfl, rfl, rfl, dd, _, _, rfl, hx, rfl, _, rfl, hs, ?_⟩
        rw [sv]
        exact q G s1
end
end K25
set_option linter.all false
/-! Reading a table's words: the program's way and the law's machine say the same. -/
namespace NT
section
variable {α : Type} (num : α → Option Int) (nev thn up_ : α → Bool)
/-- numbers that climb -/
def climbW (m : Int) : List α → List Int
  | [] => []
  | w :: ws => match num w with
    | some v => if v < m then [] else v :: climbW v ws
    | none => []
def lastD (m : Int) (l : List Int) : Int := if l = [] then m else l.getD (l.length - 1) 0
/-- the program's reading: a place that is wrong, or the table -/
inductive Rd where
  | bad (k : Nat)
  | ok (h l : List Int) (r : Int)
def readW (ws : List α) : Rd :=
  let h := climbW num 0 ws
  match ws.drop h.length with
  | [] => .bad h.length
  | w :: r1 => if nev w = true then (if r1 = [] then .ok h [] 0 else .bad (h.length + 1))
    else if thn w = true then
      let l := climbW num (lastD 0 h) r1
      if l = [] then .bad (h.length + 1)
      else match r1.drop l.length with
        | [] => .bad (h.length + 1 + l.length)
        | u :: r2 => if up_ u = true then
            match climbW num (l.getD (l.length - 1) 0 - l.getD 0 0) r2 with
            | [] => .bad (h.length + 1 + l.length + 1)
            | v :: _ => if 1 < r2.length then .bad (h.length + 1 + l.length + 2) else .ok h l v
          else .bad (h.length + 1 + l.length)
    else .bad h.length
inductive St where
  | head | loop | rise | fin
/-- the law's machine; m: the greatest number so far, or 0 -/
def scan : St → Int → List Int → List Int → Int → Nat → List α → Option Nat × List Int × List Int × Int
  | s, _, h, l, r, k, [] => ((match s with | .fin => none | _ => some k), h, l, r)
  | .fin, _, h, l, r, k, _ :: _ => (some k, h, l, r)
  | .rise, m, h, l, r, k, w :: ws => (match num w with
    | none => (some k, h, l, r)
    | some v => if v < l.getD (l.length - 1) 0 - l.getD 0 0 then (some k, h, l, r) else scan .fin m h l v (k + 1) ws)
  | .head, m, h, l, r, k, w :: ws => (match num w with
    | some v => if v < m then (some k, h, l, r) else scan .head v (h ++ [v]) l r (k + 1) ws
    | none => if nev w = true then scan .fin m h l r (k + 1) ws else if thn w = true then scan .loop m h l r (k + 1) ws else (some k, h, l, r))
  | .loop, m, h, l, r, k, w :: ws => (match num w with
    | some v => if v < m then (some k, h, l, r) else scan .loop v h (l ++ [v]) r (k + 1) ws
    | none => if up_ w = true ∧ l ≠ [] then scan .rise m h l r (k + 1) ws else (some k, h, l, r))
variable {num nev thn up_}
theorem lastD_cons {m v : Int} {l : List Int} : lastD m (v :: l) = lastD v l := by
  unfold lastD
  rw [if_neg (by simp)]
  cases l with
  | nil => rfl
  | cons a l =>
    rw [if_neg (by simp)]
    rfl
/-- what stands where the climb stops -/
def Stops (m : Int) (ws : List α) : Prop := ∀ w r, ws = w :: r → ∀ v, num w = some v → v < m
theorem climb_stops : ∀ (ws : List α) (m : Int), Stops (num := num) (lastD m (climbW num m ws)) (ws.drop (climbW num m ws).length)
  | [], m, w, r, e => by simp at e
  | w :: ws, m, u, r, e => by
    intro v hv
    unfold climbW at e ⊢
    cases q : num w with
    | none =>
      rw [q] at e
      injection e with e1 e2
      subst e1
      rw [q] at hv
      cases hv
    | some x =>
      rw [q] at e
      dsimp only at e ⊢
      by_cases c : x < m
      · rw [if_pos c] at e ⊢
        injection e with e1 e2
        subst e1
        rw [q] at hv
        cases hv
        exact c
      · rw [if_neg c] at e ⊢
        rw [lastD_cons]
        exact climb_stops ws x u r e v hv
theorem scan_head : ∀ (ws : List α) (m : Int) (h l : List Int) (r : Int) (k : Nat),
    scan num nev thn up_ .head m h l r k ws = scan num nev thn up_ .head (lastD m (climbW num m ws)) (h ++ climbW num m ws) l r (k + (climbW num m ws).length) (ws.drop (climbW num m ws).length)
  | [], m, h, l, r, k => by simp [climbW, lastD]
  | w :: ws, m, h, l, r, k => by
    cases q : num w with
    | none =>
      have e : climbW num m (w :: ws) = [] := by unfold climbW; rw [q]
      rw [e]
      simp [lastD]
    | some x =>
      by_cases c : x < m
      · have e : climbW num m (w :: ws) = [] := by unfold climbW; rw [q]; simp [c]
        rw [e]
        simp [lastD]
      · have e : climbW num m (w :: ws) = x :: climbW num x ws := by
          conv => lhs; unfold climbW
          rw [q]
          simp [c]
        rw [e, lastD_cons]
        have ih := scan_head ws x (h ++ [x]) l r (k + 1)
        conv => lhs; unfold scan
        rw [q]
        dsimp only
        rw [if_neg c, ih, List.append_assoc, List.length_cons, List.drop_succ_cons, List.singleton_append]
        congr 1
        omega
theorem scan_loop : ∀ (ws : List α) (m : Int) (h l : List Int) (r : Int) (k : Nat),
    scan num nev thn up_ .loop m h l r k ws = scan num nev thn up_ .loop (lastD m (climbW num m ws)) h (l ++ climbW num m ws) r (k + (climbW num m ws).length) (ws.drop (climbW num m ws).length)
  | [], m, h, l, r, k => by simp [climbW, lastD]
  | w :: ws, m, h, l, r, k => by
    cases q : num w with
    | none =>
      have e : climbW num m (w :: ws) = [] := by unfold climbW; rw [q]
      rw [e]
      simp [lastD]
    | some x =>
      by_cases c : x < m
      · have e : climbW num m (w :: ws) = [] := by unfold climbW; rw [q]; simp [c]
        rw [e]
        simp [lastD]
      · have e : climbW num m (w :: ws) = x :: climbW num x ws := by
          conv => lhs; unfold climbW
          rw [q]
          simp [c]
        rw [e, lastD_cons]
        have ih := scan_loop ws x h (l ++ [x]) r (k + 1)
        conv => lhs; unfold scan
        rw [q]
        dsimp only
        rw [if_neg c, ih, List.append_assoc, List.length_cons, List.drop_succ_cons, List.singleton_append]
        congr 1
        omega
/-- no word is both a number and a word of the form -/
structure Apart (num : α → Option Int) (nev thn up_ : α → Bool) : Prop where
  n : ∀ w, nev w = true → num w = none
  t : ∀ w, thn w = true → num w = none
  u : ∀ w, up_ w = true → num w = none
/-- the law's machine over what the program reads -/
theorem scan_read (A : Apart num nev thn up_) (ws : List α) : match readW num nev thn up_ ws with
    | .bad k => (scan num nev thn up_ .head 0 [] [] 0 0 ws).1 = some k
    | .ok h l r => scan num nev thn up_ .head 0 [] [] 0 0 ws = (none, h, l, r) := by
  have st := climb_stops (num := num) ws 0
  rw [scan_head]
  unfold readW
  dsimp only
  generalize climbW num 0 ws = h at st ⊢
  rw [List.nil_append, Nat.zero_add]
  generalize hd : ws.drop h.length = rest at st ⊢
  cases rest with
  | nil => rfl
  | cons w r1 =>
    dsimp only
    by_cases c1 : nev w = true
    · have q := A.n w c1
      by_cases c2 : r1 = []
      · simp only [c1, c2, if_true, scan, q]
      · obtain ⟨x, y, rfl⟩ : ∃ x y, r1 = x :: y := by
          cases r1 with
          | nil => exact absurd rfl c2
          | cons x y => exact ⟨x, y, rfl⟩
        simp only [c1, c2, if_true, if_false, scan, q]
    · by_cases c2 : thn w = true
      · have q := A.t w c2
        simp only [if_neg c1, c2, if_true]
        have e1 : scan num nev thn up_ .head (lastD 0 h) h [] 0 h.length (w :: r1) = scan num nev thn up_ .loop (lastD 0 h) h [] 0 (h.length + 1) r1 := by
          conv => lhs; unfold scan
          rw [q]
          dsimp only
          rw [if_neg c1, if_pos c2]
        rw [e1, scan_loop]
        have st2 := climb_stops (num := num) r1 (lastD 0 h)
        generalize climbW num (lastD 0 h) r1 = l at st2 ⊢
        rw [List.nil_append]
        by_cases c3 : l = []
        · subst c3
          simp only [if_true]
          cases r1 with
          | nil => rfl
          | cons u r2 =>
            show (scan num nev thn up_ .loop _ h [] 0 _ (u :: r2)).1 = _
            conv => lhs; unfold scan
            cases qu : num u with
            | none =>
              dsimp only
              rw [if_neg (by simp)] <;> rfl
            | some v =>
              dsimp only
              have : v < lastD (lastD 0 h) [] := st2 u r2 rfl v qu
              rw [if_pos this] <;> rfl
        · rw [if_neg c3]
          generalize r1.drop l.length = rest2 at st2 ⊢
          cases rest2 with
          | nil => rfl
          | cons u r2 =>
            dsimp only
            by_cases c4 : up_ u = true
            · have qu := A.u u c4
              rw [if_pos c4]
              have e2 : scan num nev thn up_ .loop (lastD (lastD 0 h) l) h l 0 (h.length + 1 + l.length) (u :: r2) = scan num nev thn up_ .rise (lastD (lastD 0 h) l) h l 0 (h.length + 1 + l.length + 1) r2 := by
                conv => lhs; unfold scan
                rw [qu]
                dsimp only
                rw [if_pos ⟨c4, c3⟩]
              rw [e2]
              cases r2 with
              | nil => simp only [climbW, scan]
              | cons x y =>
                unfold climbW
                cases qx : num x with
                | none =>
                  dsimp only
                  unfold scan
                  rw [qx]
                | some v =>
                  dsimp only
                  by_cases c5 : v < l.getD (l.length - 1) 0 - l.getD 0 0
                  · rw [if_pos c5]
                    dsimp only
                    unfold scan
                    rw [qx]
                    dsimp only
                    rw [if_pos c5]
                  · rw [if_neg c5]
                    dsimp only
                    have e3 : scan num nev thn up_ .rise (lastD (lastD 0 h) l) h l 0 (h.length + 1 + l.length + 1) (x :: y) = scan num nev thn up_ .fin (lastD (lastD 0 h) l) h l v (h.length + 1 + l.length + 2) y := by
                      conv => lhs; unfold scan
                      rw [qx]
                      dsimp only
                      rw [if_neg c5]
                    rw [e3]
                    cases y with
                    | nil => simp [scan]
                    | cons y1 y2 => simp [scan]
            · rw [if_neg c4]
              dsimp only
              unfold scan
              cases qu : num u with
              | none =>
                dsimp only
                rw [if_neg (fun z => c4 z.1)]
              | some v =>
                dsimp only
                rw [if_pos (st2 u r2 rfl v qu)]
      · simp only [if_neg c1, if_neg c2]
        unfold scan
        cases q : num w with
        | none =>
          dsimp only
          rw [if_neg c1, if_neg c2]
        | some v =>
          dsimp only
          rw [if_pos (st w r1 rfl v q)]
theorem scan_head_s {w : α} {ws : List α} {m v r : Int} {h l : List Int} {k : Nat} (q : num w = some v) : scan num nev thn up_ .head m h l r k (w :: ws) = if v < m then (some k, h, l, r) else scan num nev thn up_ .head v (h ++ [v]) l r (k + 1) ws := by
  conv => lhs; unfold scan
  rw [q]
theorem scan_head_n {w : α} {ws : List α} {m r : Int} {h l : List Int} {k : Nat} (q : num w = none) : scan num nev thn up_ .head m h l r k (w :: ws) = if nev w = true then scan num nev thn up_ .fin m h l r (k + 1) ws else if thn w = true then scan num nev thn up_ .loop m h l r (k + 1) ws else (some k, h, l, r) := by
  conv => lhs; unfold scan
  rw [q]
theorem scan_loop_s {w : α} {ws : List α} {m v r : Int} {h l : List Int} {k : Nat} (q : num w = some v) : scan num nev thn up_ .loop m h l r k (w :: ws) = if v < m then (some k, h, l, r) else scan num nev thn up_ .loop v h (l ++ [v]) r (k + 1) ws := by
  conv => lhs; unfold scan
  rw [q]
theorem scan_loop_n {w : α} {ws : List α} {m r : Int} {h l : List Int} {k : Nat} (q : num w = none) : scan num nev thn up_ .loop m h l r k (w :: ws) = if up_ w = true ∧ l ≠ [] then scan num nev thn up_ .rise m h l r (k + 1) ws else (some k, h, l, r) := by
  conv => lhs; unfold scan
  rw [q]
theorem scan_rise_s {w : α} {ws : List α} {m v r : Int} {h l : List Int} {k : Nat} (q : num w = some v) : scan num nev thn up_ .rise m h l r k (w :: ws) = if v < l.getD (l.length - 1) 0 - l.getD 0 0 then (some k, h, l, r) else scan num nev thn up_ .fin m h l v (k + 1) ws := by
  conv => lhs; unfold scan
  rw [q]
theorem scan_rise_n {w : α} {ws : List α} {m r : Int} {h l : List Int} {k : Nat} (q : num w = none) : scan num nev thn up_ .rise m h l r k (w :: ws) = (some k, h, l, r) := by
  conv => lhs; unfold scan
  rw [q]
/-! ### what is read is a table -/
theorem climb_climbs : ∀ (ws : List α) (m : Int), climbs m (climbW num m ws)
  | [], _ => trivial
  | w :: ws, m => by
    unfold climbW
    cases q : num w with
    | none => trivial
    | some v =>
      dsimp only
      by_cases c : v < m
      · rw [if_pos c]; trivial
      · rw [if_neg c]
        exact ⟨by omega, climb_climbs ws v⟩
theorem climb_len : ∀ (ws : List α) (m : Int), (climbW num m ws).length ≤ ws.length
  | [], _ => Nat.le_refl _
  | w :: ws, m => by
    unfold climbW
    cases q : num w with
    | none => exact Nat.zero_le _
    | some v =>
      dsimp only
      by_cases c : v < m
      · rw [if_pos c]; exact Nat.zero_le _
      · rw [if_neg c]
        have := climb_len ws v
        simp only [List.length_cons]
        omega
theorem climbs_lowR : ∀ {l : List Int} {a b : Int}, a ≤ b → climbs b l → climbs a l
  | [], _, _, _, _ => trivial
  | x :: l, a, b, h, c => ⟨Int.le_trans h c.1, c.2⟩
theorem last_ge : ∀ {l : List Int} {m : Int}, climbs m l → m ≤ lastD m l
  | [], m, _ => by simp [lastD]
  | x :: l, m, c => by
    rw [lastD_cons]
    exact Int.le_trans c.1 (last_ge c.2)
theorem read_good {ws : List α} {h l : List Int} {r : Int} (e : readW num nev thn up_ ws = .ok h l r) : Good h l r ∧ h.length + l.length ≤ ws.length := by
  unfold readW at e
  dsimp only at e
  have c0 := climb_climbs (num := num) ws 0
  generalize climbW num 0 ws = h0 at c0 e
  split at e
  · cases e
  · rename_i w r1 hd
    have zr : r1.length + 1 + h0.length ≤ ws.length := by
      have := congrArg List.length hd
      rw [List.length_drop, List.length_cons] at this
      omega
    split at e
    · split at e
      · injection e with e1 e2 e3
        subst e1 e2 e3
        exact ⟨⟨c0, trivial, fun _ z => absurd rfl z, Int.le_refl _, fun _ => rfl, fun z => absurd rfl z⟩, by simp; omega⟩
      · cases e
    · split at e
      · have c1 := climb_climbs (num := num) r1 (lastD 0 h0)
        have z1 := climb_len (num := num) r1 (lastD 0 h0)
        generalize climbW num (lastD 0 h0) r1 = l0 at c1 z1 e
        split at e
        · cases e
        · rename_i hl
          split at e
          · cases e
          · rename_i u r2 hd2
            split at e
            · split at e
              · cases e
              · rename_i v tl hv
                split at e
                · cases e
                · injection e with e1 e2 e3
                  subst e1 e2 e3
                  have c2 := climb_climbs (num := num) r2 (l0.getD (l0.length - 1) 0 - l0.getD 0 0)
                  rw [hv] at c2
                  have hge := last_ge c0
                  have hp := len_pos hl
                  have hmono : ∀ i, i < l0.length → l0.getD 0 0 ≤ l0.getD i 0 := fun i hi => by
                    cases l0 with
                    | nil => exact absurd rfl hl
                    | cons a l =>
                      cases i with
                      | zero => exact Int.le_refl _
                      | succ i =>
                        have := climbs_lo (l := l) (lo := a) (i := i) c1.2 (by simpa using hi)
                        simpa using this
                  have hr : 0 ≤ v := by
                    have := hmono (l0.length - 1) (by omega)
                    have := c2.1
                    omega
                  refine ⟨⟨c0, climbs_lowR hge c1, fun hh _ => ?_, hr, fun z => absurd z hl, fun _ => ?_⟩, by omega⟩
                  · cases l0 with
                    | nil => exact absurd rfl hl
                    | cons a l =>
                      have := c1.1
                      unfold lastD at this
                      rw [if_neg hh] at this
                      simpa using this
                  · have := c2.1
                    omega
            · cases e
      · cases e
end
end NT
set_option Elab.async false
set_option linter.all false
set_option maxRecDepth 100000
set_option maxHeartbeats 4000000
/-! Expressions of a law's own that give things as data, while they draw from the source at p. -/
namespace NF
open PySem PySem.Spec PyProof.Rows L2 He RZ NT
section
variable {K : PySem.W.Frag} {p : Addr} {B H H' H'' : Hp} {σ : L2.St}
theorem wo_mono (s : Same H H') : Same (wo H p) (wo H' p) := fun a o e => by
  by_cases h : a = p
  · rw [h, wo_none] at e
    cases e
  · rw [wo_ne h] at e ⊢
    exact s a o e
theorem wo_into (n : B p = none) (s : Same B H) : Same B (wo H p) := fun a o e => (wo_ne (ne_of_none e n)).trans (s a o e)
/-- all but the source stands -/
def Out (p : Addr) (H H' : Hp) : Prop := Src H' p ∧ Same (wo H p) (wo H' p)
theorem Out.refl (h : Src H p) : Out p H H := ⟨h, Same.refl _⟩
theorem Out.trans (a : Out p H H') (b : Out p H' H'') : Out p H H'' := ⟨b.1, Same.trans a.2 b.2⟩
theorem Out.of_same (h : Src H p) (s : Same H H') : Out p H H' := ⟨h.mono s, wo_mono s⟩
theorem Out.of_pick (s : Same (wo H p) H') (h : Src H' p) : Out p H H' := ⟨h, wo_into wo_none s⟩
theorem src_ne {q : Addr} (h : Src H p) (n : H q = none) : q ≠ p := fun z => by
  obtain ⟨_, _, _, e⟩ := h
  rw [z, e] at n
  cases n
theorem dp_out {v : V} {d : PyData} (h : Dp K (wo H p) v d) (o : Out p H H') : Dp K (wo H' p) v d := dp_mono o.2 d h
def Ev (K : PySem.W.Frag) (p : Addr) (B : Hp) (σ : L2.St) (P : PyData → Prop) (te : TE) : Prop := ∀ H (Q : VK), Src H p → Same B (wo H p) → (∀ v d H', Out p H H' → P d → Dp K (wo H' p) v d → Q v H') → te σ H Q
def EvA (K : PySem.W.Frag) (p : Addr) (B : Hp) (σ : L2.St) (R : List PyData → Prop) (ta : TA) : Prop := ∀ H (Q : List V → Hp → Prop), Src H p → Same B (wo H p) → (∀ vs ds H', Out p H H' → R ds → DpAll K (wo H' p) vs ds → Q vs H') → ta σ H Q
def EvT (K : PySem.W.Frag) (p : Addr) (B : Hp) (σ : L2.St) (tt : TT) : Prop := ∀ H (Q : Bool → Hp → Prop), Src H p → Same B (wo H p) → (∀ b H', Out p H H' → Q b H') → tt σ H Q
variable {P P1 P2 : PyData → Prop} {R R2 : List PyData → Prop} {te ta tb : TE} {tt : TT} {ts : TA}
theorem Ev.imp (h : Ev K p B σ P te) (k : ∀ d, P d → P1 d) : Ev K p B σ P1 te := fun H Q hs ss q => h H Q hs ss fun v d H' o pd hv => q v d H' o (k d pd) hv
theorem ev_sc {v : V} {d : PyData} (hd : ∀ H, Dp K H v d) (h : ∀ H (Q : VK), Q v H → te σ H Q) : Ev K p B σ (· = d) te := fun H Q hs _ q => h H Q (q v d H (Out.refl hs) rfl (hd _))
theorem ev_int {i : Int} : Ev K p B σ (· = .int i) (tC (.int i)) := ev_sc (fun _ => .int i) fun _ _ q => q
theorem ev_bl {b : Bool} : Ev K p B σ (· = .bool b) (tC (.bl b)) := ev_sc (fun _ => .bl b) fun _ _ q => q
theorem ev_str {s : Str} : Ev K p B σ (· = .str s) (tC (.str s)) := ev_sc (fun _ => .str s) fun _ _ q => q
theorem ev_non : Ev K p B σ (· = .none) (tC .non) := ev_sc (fun _ => .non) fun _ _ q => q
theorem ev_neg {i : Int} : Ev K p B σ (· = .int (-i)) (tUn (rU fun i => .int (-i)) (tC (.int i))) := ev_sc (fun _ => .int _) fun _ _ q => ⟨_, rfl, q⟩
theorem ev_var {i : Nat} {v : V} {d : PyData} (e : σ[i]? = some (some v)) (hd : Dp K B v d) : Ev K p B σ (· = d) (tVar i) := fun H Q hs ss q => ⟨v, e, q v d H (Out.refl hs) rfl (dp_mono ss d hd)⟩
theorem evA_nil : EvA K p B σ (· = []) tNil := fun H Q hs _ q => q [] [] H (Out.refl hs) rfl .nil
theorem evA_cons (h : Ev K p B σ P te) (a : EvA K p B σ R ts) : EvA K p B σ (fun ds => ∃ d l, ds = d :: l ∧ P d ∧ R l) (tCons te ts) := fun H Q hs ss q =>
  h H _ hs ss fun v d H1 o1 pd hv => a H1 _ o1.1 (Same.trans ss o1.2) fun vs ds H2 o2 rd hvs => q (v :: vs) (d :: ds) H2 (o1.trans o2) ⟨d, ds, rfl, pd, rd⟩ (.cons (dp_out hv o2) hvs)
theorem ev_tup (a : EvA K p B σ R ts) (hl : ∀ ds, R ds → ds.length ≤ 1000) : Ev K p B σ (fun d => ∃ ds, d = .tuple ds ∧ R ds) (tTup ts) := fun H Q hs ss q =>
  a H _ hs ss fun vs ds H1 o1 rd hv => ⟨by rw [dpall_len hv]; exact Nat.le_trans (hl ds rd) (by decide), fun x hx => by
    have o2 := Out.of_same o1.1 (NF.Same.new (o := .tup vs) (Same.refl H1) hx)
    exact q _ _ _ (o1.trans o2) ⟨ds, rfl, rd⟩ (.tup (SqT.of (by rw [wo_ne (src_ne o1.1 hx)]; exact upd_same)) (dpall_mono o2.2 ds hv))⟩
theorem ev_lst (a : EvA K p B σ R ts) (hl : ∀ ds, R ds → ds.length ≤ 1000) : Ev K p B σ (fun d => ∃ ds, d = .list ds ∧ R ds) (tLst ts) := fun H Q hs ss q =>
  a H _ hs ss fun vs ds H1 o1 rd hv => ⟨by rw [dpall_len hv]; exact Nat.le_trans (hl ds rd) (by decide), fun x hx => by
    have o2 := Out.of_same o1.1 (NF.Same.new (o := .lst vs) (Same.refl H1) hx)
    exact q _ _ _ (o1.trans o2) ⟨ds, rfl, rd⟩ (.lst (SqL.of (by rw [wo_ne (src_ne o1.1 hx)]; exact upd_same)) (dpall_mono o2.2 ds hv))⟩
theorem dp_tup {v : V} {l : List PyData} (h : Dp K H v (.tuple l)) : ∃ a xs, v = .ref a ∧ SqT K H a xs ∧ DpAll K H xs l := by
  cases h with
  | tup h a => exact ⟨_, _, rfl, h, a⟩
theorem dp_lst {v : V} {l : List PyData} (h : Dp K H v (.list l)) : ∃ a xs, v = .ref a ∧ SqL K H a xs ∧ DpAll K H xs l := by
  cases h with
  | lst h a => exact ⟨_, _, rfl, h, a⟩
theorem dp_int {v : V} {i : Int} (h : Dp K H v (.int i)) : v = .int i := by
  cases h
  rfl
theorem ev_cat (a : Ev K p B σ P1 ta) (b : Ev K p B σ P2 tb) (k : ∀ d1 d2, P1 d1 → P2 d2 → ∃ l1 l2, d1 = .tuple l1 ∧ d2 = .tuple l2 ∧ l1.length + l2.length ≤ 10000 ∧ P (.tuple (l1 ++ l2))) : Ev K p B σ P (tOp (rCatA K) ta tb) := fun H Q hs ss q =>
  a H _ hs ss fun v1 d1 H1 o1 p1 h1 => b H1 _ o1.1 (Same.trans ss o1.2) fun v2 d2 H2 o2 p2 h2 => by
    obtain ⟨l1, l2, rfl, rfl, hl, pp⟩ := k d1 d2 p1 p2
    obtain ⟨x, xs, rfl, hx, dx⟩ := dp_tup (dp_out h1 o2)
    obtain ⟨y, ys, rfl, hy, dy⟩ := dp_tup h2
    have o12 := o1.trans o2
    refine ⟨x, y, xs, ys, rfl, rfl, NF.Same.tup wo_same' hx, NF.Same.tup wo_same' hy, by rw [dpall_len dx, dpall_len dy]; exact Nat.le_trans hl (by decide), fun e => ?_, fun _ e => ?_, fun _ _ z hz => ?_⟩
    · subst e
      cases dx
      exact q _ _ _ o12 pp (.tup hy dy)
    · subst e
      cases dy
      rw [List.append_nil] at pp
      exact q _ _ _ o12 pp (.tup hx dx)
    · have o3 := Out.of_same o2.1 (NF.Same.new (o := .tup (xs ++ ys)) (Same.refl H2) hz)
      exact q _ _ _ (o12.trans o3) pp (.tup (SqT.of (by rw [wo_ne (src_ne o2.1 hz)]; exact upd_same)) (dpall_app (dpall_mono o3.2 _ dx) (dpall_mono o3.2 _ dy)))
theorem dpall_rep : ∀ {k : Nat} {xs : List V} {l : List PyData}, DpAll K H xs l → DpAll K H (List.replicate k xs).flatten (List.replicate k l).flatten
  | 0, _, _, _ => .nil
  | k + 1, _, _, h => by
    rw [List.replicate_succ, List.replicate_succ, List.flatten_cons, List.flatten_cons]
    exact dpall_app h (dpall_rep h)
theorem ev_rep (a : Ev K p B σ P1 ta) (b : Ev K p B σ P2 tb) (k : ∀ d1 d2, P1 d1 → P2 d2 → ∃ l i, d1 = .tuple l ∧ d2 = .int i ∧ l ≠ [] ∧ 2 ≤ i ∧ i ≤ 1000 ∧ l.length ≤ 1000 ∧ P (.tuple (List.replicate i.toNat l).flatten)) : Ev K p B σ P (tOp (rRepT K) ta tb) := fun H Q hs ss q =>
  a H _ hs ss fun v1 d1 H1 o1 p1 h1 => b H1 _ o1.1 (Same.trans ss o1.2) fun v2 d2 H2 o2 p2 h2 => by
    obtain ⟨l1, i, rfl, rfl, ne, i2, i3, hl, pp⟩ := k d1 d2 p1 p2
    obtain ⟨x, xs, rfl, hx, dx⟩ := dp_tup (dp_out h1 o2)
    obtain rfl := dp_int h2
    have xl := dpall_len dx
    refine ⟨x, i, xs, rfl, rfl, NF.Same.tup wo_same' hx, fun e => ne (List.eq_nil_of_length_eq_zero (by rw [← xl, e]; rfl)), i2, i3, by omega, fun z hz => ?_⟩
    have o3 := Out.of_same o2.1 (NF.Same.new (o := .tup (List.replicate i.toNat xs).flatten) (Same.refl H2) hz)
    exact q _ _ _ (o1.trans (o2.trans o3)) pp (.tup (SqT.of (by rw [wo_ne (src_ne o2.1 hz)]; exact upd_same)) (dpall_rep (dpall_mono o3.2 _ dx)))
theorem ev_i2 {g : Int → Int → Int} (a : Ev K p B σ P1 ta) (b : Ev K p B σ P2 tb) (k : ∀ d1 d2, P1 d1 → P2 d2 → ∃ i j, d1 = .int i ∧ d2 = .int j ∧ P (.int (g i j))) : Ev K p B σ P (tOp (rI0 fun i j => .int (g i j)) ta tb) := fun H Q hs ss q =>
  a H _ hs ss fun v1 d1 H1 o1 p1 h1 => b H1 _ o1.1 (Same.trans ss o1.2) fun v2 d2 H2 o2 p2 h2 => by
    obtain ⟨i, j, rfl, rfl, pp⟩ := k d1 d2 p1 p2
    obtain rfl := dp_int h1
    obtain rfl := dp_int h2
    exact ⟨i, j, rfl, rfl, q _ _ _ (o1.trans o2) pp (.int _)⟩
theorem atI_get {xs : List V} {i : Int} (h0 : 0 ≤ i) (h1 : i < xs.length) : ∃ v, xs[i.toNat]? = some v ∧ atI xs i = some v := by
  obtain ⟨n, rfl⟩ : ∃ n : Nat, i = (n : Int) := ⟨i.toNat, by omega⟩
  have hn : n < xs.length := by omega
  refine ⟨xs[n], by rw [Int.toNat_natCast]; exact List.getElem?_eq_getElem hn, ?_⟩
  exact atI_nat (List.getElem?_eq_getElem hn)
theorem ev_ixl (a : Ev K p B σ P1 ta) (b : Ev K p B σ P2 tb) (k : ∀ d1 d2, P1 d1 → P2 d2 → ∃ l i, d1 = .list l ∧ d2 = .int i ∧ 0 ≤ i ∧ i < l.length ∧ ∀ d ∈ l, P d) : Ev K p B σ P (tOp (rIxL K) ta tb) := fun H Q hs ss q =>
  a H _ hs ss fun v1 d1 H1 o1 p1 h1 => b H1 _ o1.1 (Same.trans ss o1.2) fun v2 d2 H2 o2 p2 h2 => by
    obtain ⟨l1, i, rfl, rfl, i0, i1, pp⟩ := k d1 d2 p1 p2
    obtain ⟨x, xs, rfl, hx, dx⟩ := dp_lst (dp_out h1 o2)
    obtain rfl := dp_int h2
    have xl := dpall_len dx
    obtain ⟨v, e1, e2⟩ := atI_get (xs := xs) i0 (by omega)
    have il : i.toNat < l1.length := by omega
    exact ⟨x, xs, i, v, rfl, rfl, L2.Same.seq wo_same' hx, e2, q v l1[i.toNat] H2 (o1.trans o2) (pp _ (List.getElem_mem il)) (dpall_get dx e1 (List.getElem?_eq_getElem il))⟩
theorem ev_pick {i : Nat} {m : Int} (e : σ[i]? = some (some (.ref p))) (m1 : 0 < m) (m2 : m < 1073741824) : Ev K p B σ (fun d => ∃ k, d = .int k ∧ 0 ≤ k ∧ k < m) (tCall spPick [] E0 (tCons (tVar i) (tCons (tC (.int m)) tNil))) := fun H Q hs ss q =>
  ⟨_, e, wo H p, p, m, rfl, wo_same', wo_none, hs, m1, m2, fun d H' d0 d1 s1 hs' => q (.int d) (.int d) H' (Out.of_pick s1 hs') ⟨d, rfl, d0, d1⟩ (.int d)⟩
theorem ev_if (t : EvT K p B σ tt) (a : Ev K p B σ P ta) (b : Ev K p B σ P tb) : Ev K p B σ P (tIf tt ta tb) := fun H Q hs ss q =>
  t H _ hs ss fun bo H1 o1 => by
    cases bo with
    | true => exact iteT (a H1 Q o1.1 (Same.trans ss o1.2) fun v d H2 o2 pd hv => q v d H2 (o1.trans o2) pd hv)
    | false => exact iteF (b H1 Q o1.1 (Same.trans ss o1.2) fun v d H2 o2 pd hv => q v d H2 (o1.trans o2) pd hv)
/-- a number that is drawn, asked whether it is another -/
theorem evT_eq {j : Int} (a : Ev K p B σ P1 ta) (k : ∀ d, P1 d → ∃ i, d = .int i) : EvT K p B σ (tTest (tOp rEq ta (tC (.int j)))) := fun H Q hs ss q =>
  a H _ hs ss fun v1 d1 H1 o1 p1 h1 => by
    obtain ⟨i, rfl⟩ := k d1 p1
    obtain rfl := dp_int h1
    exact ⟨rfl, _, rfl, q _ _ o1⟩
theorem ev_eq {j : Int} (a : Ev K p B σ P1 ta) (k : ∀ d, P1 d → ∃ i, d = .int i) : Ev K p B σ (fun d => ∃ b, d = .bool b) (tOp rEq ta (tC (.int j))) := fun H Q hs ss q =>
  a H _ hs ss fun v1 d1 H1 o1 p1 h1 => by
    obtain ⟨i, rfl⟩ := k d1 p1
    obtain rfl := dp_int h1
    exact ⟨rfl, q _ _ _ o1 ⟨_, rfl⟩ (.bl _)⟩
theorem dpall_drop : ∀ {n : Nat} {xs : List V} {l : List PyData}, DpAll K H xs l → DpAll K H (xs.drop n) (l.drop n)
  | 0, _, _, h => h
  | _ + 1, _, _, .nil => .nil
  | n + 1, _, _, .cons _ a => dpall_drop (n := n) a
theorem dpall_take : ∀ {n : Nat} {xs : List V} {l : List PyData}, DpAll K H xs l → DpAll K H (xs.take n) (l.take n)
  | 0, _, _, _ => .nil
  | _ + 1, _, _, .nil => .nil
  | n + 1, _, _, .cons h a => .cons h (dpall_take (n := n) a)
/-- a part of a tuple -/
theorem ev_sl {tl th : TO} (a : Ev K p B σ P1 ta) (hl : ∀ H (Q : Option Int → Hp → Prop), (∀ o, Q o H) → tl σ H Q) (hh : ∀ H (Q : Option Int → Hp → Prop), (∀ o, Q o H) → th σ H Q)
    (k : ∀ d, P1 d → ∃ l, d = .tuple l ∧ ∀ l', (∀ t ∈ l', t ∈ l) → l'.length ≤ l.length → P (.tuple l')) : Ev K p B σ P (tSl (rSlA K) ta tl th) := fun H Q hs ss q =>
  a H _ hs ss fun v1 d1 H1 o1 p1 h1 => hl _ _ fun lo => hh _ _ fun hi => by
    obtain ⟨l, rfl, kk⟩ := k d1 p1
    obtain ⟨x, xs, rfl, hx, dx⟩ := dp_tup h1
    refine ⟨x, xs, rfl, NF.Same.tup wo_same' hx, fun _ => q _ _ _ o1 (kk l (fun _ h => h) (Nat.le_refl _)) h1, fun _ z hz => ?_⟩
    have o3 := Out.of_same o1.1 (NF.Same.new (o := .tup (cutV xs lo hi)) (Same.refl H1) hz)
    have dc : DpAll K (wo H1 p) (cutV xs lo hi) ((l.drop (HT.sIx xs.length 0 lo)).take (HT.sIx xs.length xs.length hi - HT.sIx xs.length 0 lo)) := dpall_take (dpall_drop dx)
    exact q _ _ _ (o1.trans o3) (kk _ (fun t ht => List.mem_of_mem_drop (List.mem_of_mem_take ht)) (by rw [List.length_take, List.length_drop]; omega)) (.tup (SqT.of (by rw [wo_ne (src_ne o1.1 hz)]; exact upd_same)) (dpall_mono o3.2 _ dc))
/-- an item of a tuple that stands -/
theorem ev_ixt {i : Nat} {a : Addr} {xs : List V} {j : Int} {v : V} {d : PyData} {tj : TE} (e : σ[i]? = some (some (.ref a))) (h : SqT K B a xs) (hv : atI xs j = some v) (hd : Dp K B v d) (hj : ∀ H (Q : VK), Q (.int j) H → tj σ H Q) : Ev K p B σ (· = d) (tOp (rIxT K) (tVar i) tj) := fun H Q hs ss q =>
  ⟨_, e, hj _ _ ⟨a, xs, j, v, rfl, rfl, NF.Same.tup wo_same' (NF.Same.tup ss h), hv, q v d H (Out.refl hs) rfl (dp_mono ss d hd)⟩⟩
/-- tuple(t) -/
theorem ev_tof (a : Ev K p B σ P ta) (k : ∀ d, P d → ∃ l, d = .tuple l) : Ev K p B σ P (tCB (rTupOf K) (tCons ta tNil)) := fun H Q hs ss q =>
  a H _ hs ss fun v1 d1 H1 o1 p1 h1 => by
    obtain ⟨l, rfl⟩ := k d1 p1
    obtain ⟨x, xs, rfl, hx, dx⟩ := dp_tup h1
    refine ⟨x, xs, rfl, .inr (NF.Same.tup wo_same' hx), fun y H2 s2 hy => ?_⟩
    have o2 := Out.of_same o1.1 s2
    have ny : H2 p ≠ none := fun z => by
      obtain ⟨_, _, _, e⟩ := o2.1
      rw [e] at z
      cases z
    obtain ⟨_, _, _, ep⟩ := o2.1
    exact q _ _ _ (o1.trans o2) p1 (.tup (SqT.wo hy ep trivial) (dpall_mono o2.2 _ dx))
end
section
variable {K : PySem.W.Frag} {p : Addr} {B : Hp} {σ : L2.St} {te ta tb : TE} {ts : TA} {d : PyData} {l : List PyData}
theorem evE_cons (h : Ev K p B σ (· = d) te) (a : EvA K p B σ (· = l) ts) : EvA K p B σ (· = d :: l) (tCons te ts) := fun H Q hs ss q =>
  h H _ hs ss fun v d1 H1 o1 pd hv => a H1 _ o1.1 (Same.trans ss o1.2) fun vs ds H2 o2 rd hvs => q (v :: vs) (d1 :: ds) H2 (o1.trans o2) (by rw [pd, rd]) (.cons (dp_out hv o2) hvs)
theorem evE_tup (a : EvA K p B σ (· = l) ts) (hl : l.length ≤ 1000) : Ev K p B σ (· = .tuple l) (tTup ts) :=
  Ev.imp (ev_tup a fun ds e => by rw [e]; exact hl) fun d ⟨ds, e1, e2⟩ => by rw [e1, e2]
theorem evE_lst (a : EvA K p B σ (· = l) ts) (hl : l.length ≤ 1000) : Ev K p B σ (· = .list l) (tLst ts) :=
  Ev.imp (ev_lst a fun ds e => by rw [e]; exact hl) fun d ⟨ds, e1, e2⟩ => by rw [e1, e2]
theorem flat_one {α : Type} {x : α} : ∀ n : Nat, (List.replicate n [x]).flatten = List.replicate n x
  | 0 => rfl
  | n + 1 => by
    rw [List.replicate_succ, List.flatten_cons, flat_one n, List.replicate_succ]
    rfl
theorem evE_rep {i : Int} (a : Ev K p B σ (· = .tuple [d]) ta) (h2 : 2 ≤ i) (h3 : i ≤ 1000) : Ev K p B σ (· = .tuple (List.replicate i.toNat d)) (tOp (rRepT K) ta (tC (.int i))) :=
  ev_rep a ev_int fun d1 d2 e1 e2 => ⟨[d], i, e1, e2, by simp, h2, h3, by show 1 ≤ 1000; decide, by rw [flat_one]⟩
end
/-! ### the shape of a goal before a loop -/
theorem set_in {i : Nat} {v : V} {σ : L2.St} {H : Hp} {Q : L2.St → Hp → Prop} (h : Q (σ.set i (some v)) H) : gName i v σ H Q := h
theorem cons_c {v : V} {tr : TA} {σ : L2.St} {H : Hp} {Q : List V → Hp → Prop} (h : tr σ H fun xs H2 => Q (v :: xs) H2) : tCons (tC v) tr σ H Q := h
theorem cons_v {i : Nat} {v : V} {tr : TA} {σ : L2.St} {H : Hp} {Q : List V → Hp → Prop} (e : σ[i]? = some (some v)) (h : tr σ H fun xs H2 => Q (v :: xs) H2) : tCons (tVar i) tr σ H Q := ⟨v, e, h⟩
theorem cons_e {te : TE} {tr : TA} {σ : L2.St} {H : Hp} {Q : List V → Hp → Prop} (h : te σ H fun x H1 => tr σ H1 fun xs H2 => Q (x :: xs) H2) : tCons te tr σ H Q := h
theorem next_in {D : Ends} {σ : L2.St} {H : Hp} (h : D.nx σ H) : tNext D σ H := h
theorem seq_in {t u : TS} {D : Ends} {σ : L2.St} {H : Hp} (h : t { D with nx := u D } σ H) : tSeq t u D σ H := h
theorem for_in {K : PySem.W.Frag} {te : TE} {g : TG} {tb : TS} {D : Ends} {σ : L2.St} {H : Hp} (h : te σ H fun x H1 => ∃ a, x = .ref a ∧ (∃ xs, SqL K H1 a xs) ∧ ∃ W : Nat → Nat → L2.St → Hp → Prop, (∃ m, W 0 m σ H1) ∧ ∀ i m σ H, W i m σ H →
    ((Itl K a).stop i H ∧ D.nx σ H) ∨ ((Itl K a).go i H ∧ ∃ N : L2.St → Hp → Prop, (∀ σ' H', N σ' H' → ∃ m', m' < m ∧ W (i + 1) m' σ' H') ∧ ∀ x H', (Itl K a).yld i H x H' → g x σ H' fun σ2 H2 => tb { D with nx := N, ct := N, bk := D.nx } σ2 H2)) : tFor (iList K te) g tb D σ H := h
end NF
set_option Elab.async false
set_option linter.all false
set_option maxRecDepth 100000
set_option maxHeartbeats 4000000
namespace K25
open PySem PySem.Spec PyProof.Rows L2 He NF RZ NT
/-- a tuple of things that bears == -/
def FlatT (n : Nat) (d : PyData) : Prop := ∃ l, d = .tuple l ∧ l.length ≤ n ∧ ∀ t ∈ l, SeqAt.shaped t = true
def spSpoilt (K : PySem.W.Frag) : Sp := fun vs H Q _ => ∃ p v d n, vs = [.ref p, v, .int n] ∧ Src H p ∧ Dp K (wo H p) v d ∧ FlatT 600 d ∧ ∀ v' d' H', Out p H H' → FlatT 1300 d' → Dp K (wo H' p) v' d' → Q v' H'
theorem sc__law_spoilt : FnScope ["_law_source_here", "_law_deeds_here", "_law_inlets", "_law_bad", "_law_place"] ["_law_source_here", "_law_deeds_here", "_law_inlets"] (defScope s__law_spoilt) := ⟨rfl, rfl, rfl, by decide +kernel, rfl, by decide +kernel, by decide +kernel⟩
section
variable {P : Program} {w : World} {K : PySem.W.Frag} {mg : Str → Option Value} {base : Heap} {gs fs : List Str} {C CM CR CT : Addr}
theorem ok__law_spoilt {f : Addr} {fd : FuncData} (F : FunD K "_law_spoilt" "_law_spoilt" (defArgs s__law_spoilt) (defBody s__law_spoilt) (defScope s__law_spoilt) [] [] f fd) (T : Txt K mg gs FS) (c__law_pick : Cal P w K mg base 1 "_law_pick" spPick) : FnOk P w K mg base CX0 2 f fd ["_law_source_here", "_law_deeds_here", "_law_inlets"] (spSpoilt K) := by
  refine F.ok sc__law_spoilt (fun vs H Q E h => ?_) (fun cdv A outer s H vs Q E hr h => ?_)
  · obtain ⟨p, v, d, n, rfl, _⟩ := h
    rfl
  · obtain ⟨p, v, d, n, rfl, hs, hv, ⟨l, rfl, hl, sh⟩, q⟩ := h
    refine ⟨_, PSs.nox (pss_cons (ps_set (i := 3) sc__law_spoilt.nd rfl (Or.inl rfl) (pe_ix (ixl (K := K)) (pe_lst (pa_cons (pv 2) (pa_cons pe_int (pa_cons (pe_un un_neg pe_int) (pa_cons pe_bl (pa_cons pe_bl (pa_cons pe_str (pa_cons pe_str (pa_cons pe_non (pa_cons (pe_tup (pa_cons pe_int pa_nil)) (pa_cons pe_str pa_nil))))))))))) (pe_c c__law_pick hr (by decide) rfl (pa_cons (pv 0) (pa_cons pe_int pa_nil))) fun _ _ => rfl)) (pss_cons (ps_set (i := 4) sc__law_spoilt.nd rfl (Or.inl rfl) (pe_c c__law_pick hr (by decide) rfl (pa_cons (pv 0) (pa_cons (pe_op op_add (pe_callB call_len_seq rfl (T.fr _ (by decide +kernel)) boot_len (pa_cons (pv 1) pa_nil)) pe_int) pa_nil)))) (pss_one (ps_ret (pe_op op_catA (pe_op op_catA (pe_callTy cr_tup rfl (T.fr _ (by decide +kernel)) (by decide +kernel) (pa_cons (pe_slice sl_tupA (pv 1) po_none (po_some (pv 4))) pa_nil)) (pe_tup (pa_cons (pv 3) pa_nil))) (pe_callTy cr_tup rfl (T.fr _ (by decide +kernel)) (by decide +kernel) (pa_cons (pe_slice sl_tupA (pv 1) (po_some (pv 4)) po_none) pa_nil))))))), ?_⟩
    refine ev_ixl (K := K) (p := p) (B := wo H p) (P := fun d => SeqAt.shaped d = true) (ev_lst (evA_cons (ev_var rfl (.int n)) (evA_cons ev_int (evA_cons ev_neg (evA_cons ev_bl (evA_cons ev_bl (evA_cons ev_str (evA_cons ev_str (evA_cons ev_non (evA_cons (ev_tup (evA_cons ev_int evA_nil) ?h1) (evA_cons ev_str evA_nil)))))))))) ?h2) (ev_pick rfl (by decide) (by decide)) ?h3 H _ hs (Same.refl _) ?h4
    case h1 =>
      rintro ds ⟨_, _, rfl, rfl, rfl⟩
      decide
    case h2 =>
      rintro ds ⟨_, _, rfl, rfl, _, _, rfl, rfl, _, _, rfl, rfl, _, _, rfl, rfl, _, _, rfl, rfl, _, _, rfl, rfl, _, _, rfl, rfl, _, _, rfl, rfl, _, _, rfl, _, _, _, rfl, rfl, rfl⟩
      show (10 : Nat) ≤ 1000
      decide
    case h3 =>
      rintro d1 d2 ⟨ds, rfl, _, _, rfl, rfl, _, _, rfl, rfl, _, _, rfl, rfl, _, _, rfl, rfl, _, _, rfl, rfl, _, _, rfl, rfl, _, _, rfl, rfl, _, _, rfl, rfl, _, _, rfl, ⟨_, rfl, _, _, rfl, rfl, rfl⟩, _, _, rfl, rfl, rfl⟩ ⟨i, rfl, i0, i1⟩
      refine ⟨_, _, rfl, rfl, i0, i1, fun d hd => ?_⟩
      simp only [List.mem_cons, List.not_mem_nil, or_false] at hd
      rcases hd with rfl | rfl | rfl | rfl | rfl | rfl | rfl | rfl | rfl | rfl <;> first | rfl | decide +kernel
    case h4 =>
      intro vb db H1 o1 pb hb
      have hv1 := dp_out hv o1
      obtain ⟨a, xs, rfl, ha, hd⟩ := dp_tup hv1
      have xl := dpall_len hd
      refine ⟨_, rfl, _, rfl, a, _, rfl, .inr (NF.Same.tup wo_same' ha), _, _, rfl, rfl, wo H1 p, p, _, rfl, wo_same', wo_none, o1.1, by omega, by omega, fun k H2 k0 k1 s2 hs2 => ?_⟩
      have o2 := Out.of_pick s2 hs2
      refine ev_cat (K := K) (p := p) (B := wo H2 p) (P := FlatT 1300) (ev_cat (P := FlatT 601) (ev_tof (P := FlatT 600) (ev_sl (P1 := FlatT 600) (Ev.imp (ev_var rfl (dp_out hv1 o2)) ?g1) (fun H Q q => q _) (fun H Q q => ⟨_, rfl, _, rfl, q _⟩) ?g2) ?g3) (Ev.imp (P1 := FlatT 1) (ev_tup (evA_cons (ev_var rfl (dp_out hb o2)) evA_nil) ?g4) ?g5) ?g6)
        (ev_tof (P := FlatT 600) (ev_sl (P1 := FlatT 600) (Ev.imp (ev_var rfl (dp_out hv1 o2)) ?g1) (fun H Q q => ⟨_, rfl, _, rfl, q _⟩) (fun H Q q => q _) ?g2) ?g3) ?g7 H2 _ hs2 (Same.refl _) (fun v' d' H' o' pd hv' => q v' d' H' (o1.trans (o2.trans o')) pd hv')
      case g1 =>
        rintro d rfl
        exact ⟨l, rfl, hl, sh⟩
      case g2 =>
        rintro d ⟨l', rfl, z1, z2⟩
        exact ⟨l', rfl, fun l2 z3 z4 => ⟨l2, rfl, by omega, fun t ht => z2 t (z3 t ht)⟩⟩
      case g3 =>
        rintro d ⟨l', rfl, _, _⟩
        exact ⟨l', rfl⟩
      case g4 =>
        rintro ds ⟨_, _, rfl, rfl, rfl⟩
        show 1 ≤ 1000
        decide
      case g5 =>
        rintro d ⟨_, rfl, _, _, rfl, rfl, rfl⟩
        exact ⟨_, rfl, Nat.le_refl _, fun t ht => by
          rw [List.mem_singleton] at ht
          rw [ht]
          exact pb⟩
      case g6 =>
        rintro d1 d2 ⟨l1, rfl, z1, z2⟩ ⟨l2, rfl, z3, z4⟩
        exact ⟨l1, l2, rfl, rfl, by omega, _, rfl, by rw [List.length_append]; omega, fun t ht => (List.mem_append.mp ht).elim (z2 t) (z4 t)⟩
      case g7 =>
        rintro d1 d2 ⟨l1, rfl, z1, z2⟩ ⟨l2, rfl, z3, z4⟩
        exact ⟨l1, l2, rfl, rfl, by omega, _, rfl, by rw [List.length_append]; omega, fun t ht => (List.mem_append.mp ht).elim (z2 t) (z4 t)⟩
end
end K25
set_option Elab.async false
set_option linter.all false
set_option maxRecDepth 100000
set_option maxHeartbeats 4000000
namespace K25
open PySem PySem.Spec PyProof.Rows L2 He NF RZ NT
/-- the parts of the maker that is drawn -/
structure Parts (K : PySem.W.Frag) (H : Hp) (q pb pw : Addr) (n : Nat) (b : List Deed) (ws : List (List Deed)) : Prop where
  q : SqT K H q [.int (n : Int), .ref pb, .ref pw]
  b : SqT K H pb (b.map dV)
  w : WaysT K H pw ws
theorem Parts.mono {K : PySem.W.Frag} {H H' : Hp} {q pb pw : Addr} {n : Nat} {b : List Deed} {ws : List (List Deed)} (h : Parts K H q pb pw n b ws) (s : Same H H') : Parts K H' q pb pw n b ws := ⟨NF.Same.tup s h.q, NF.Same.tup s h.b, h.w.mono s⟩
theorem Parts.mk' {K : PySem.W.Frag} {H : Hp} {q pb pw : Addr} {n : Nat} {b : List Deed} {ws : List (List Deed)} (h : Parts K H q pb pw n b ws) : MkrT K H q n b ws := ⟨pb, pw, h.q, h.b, h.w⟩
def BegOk (d : PyData) : Prop := (itemsP d).length ≤ 10000 ∧ ∀ t ∈ itemsP d, SeqAt.shaped t = true
def WayOk (d : PyData) : Prop := Few2 d ∧ ∀ v ∈ itemsP d, ∀ t ∈ itemsP v, SeqAt.shaped t = true
theorem MkOk.of {d2 d3 : PyData} (h : BegOk d2) (h3 : WayOk d3) : MkOk d2 d3 := ⟨h.1, h3.1, h.2, h3.2⟩
theorem beg_row {d : PyData} {l : List PyData} (e : itemsP d = l) (hl : l.length ≤ 10000) (h : ∀ t ∈ l, SeqAt.shaped t = true) : BegOk d := by
  unfold BegOk
  rw [e]
  exact ⟨hl, h⟩
theorem way_row {d : PyData} {l : List PyData} (e : itemsP d = l) (hl : l.length ≤ 10000) (h : ∀ t ∈ l, BegOk t) : WayOk d := by
  unfold WayOk Few2
  rw [e]
  exact ⟨⟨hl, fun w hw => (h w hw).1⟩, fun v hv => (h v hv).2⟩
theorem beg_none {d : PyData} (e : itemsP d = []) : BegOk d := beg_row e (Nat.zero_le _) (fun _ h => by cases h)
theorem way_none {d : PyData} (e : itemsP d = []) : WayOk d := way_row e (Nat.zero_le _) (fun _ h => by cases h)
theorem beg_flat {n : Nat} {d : PyData} (h : FlatT n d) (hn : n ≤ 10000) : BegOk d := by
  obtain ⟨l, rfl, h1, h2⟩ := h
  exact beg_row (l := l) rfl (by omega) h2
theorem shaped_dP (d : Deed) : SeqAt.shaped (dataD d) = true := by
  cases d with
  | none => decide +kernel
  | some i => rfl
theorem flat_deedsP {b : List Deed} {n : Nat} (h : b.length ≤ n) : FlatT n (dataW b) := ⟨_, rfl, by rw [List.length_map]; exact h, fun t ht => by
  obtain ⟨d, _, rfl⟩ := List.mem_map.mp ht
  exact shaped_dP d⟩
theorem okD_of {n : Nat} {d : Deed} (h : ∀ i, d = some i → i < n) : NF.okDP (n : Int) (dataD d) = true := by
  cases d with
  | none => exact decide_eq_true (p := V.str "give" = V.str "give") rfl
  | some i =>
    have := h i rfl
    show (decide (0 ≤ (i : Int)) && decide ((i : Int) < (n : Int))) = true
    rw [decide_eq_true (by omega), decide_eq_true (by omega)]
    rfl
def dataL (w : List Deed) : PyData := .list (w.map dataD)
theorem okDs_of {n : Nat} {b : List Deed} (h : ∀ i, some i ∈ b → i < n) : NF.okDsP (n : Int) (dataL b) = true := by
  show (true && (b.map dataD).all (NF.okDP (n : Int))) = true
  rw [Bool.true_and, List.all_map]
  exact List.all_eq_true.mpr fun d hd => okD_of fun i e => h i (by rw [← e]; exact hd)
theorem due_good {n : Nat} {b : List Deed} {ws : List (List Deed)} (d : Drawn n b ws) : dueM (.int (n : Int)) (dataL b) (.list (ws.map dataL)) = none := by
  have n1 := d.n1
  have n3 := d.n3
  have m1 := d.m1
  have m4 := d.m4
  have bl := d.bl
  have on : okNP (.int (n : Int)) = true := by
    show (decide (1 ≤ (n : Int)) && decide ((n : Int) ≤ 3)) = true
    rw [decide_eq_true (by omega), decide_eq_true (by omega)]
    rfl
  have o2 : NF.okDsP (numP (.int (n : Int))) (dataL b) = true := okDs_of d.bd
  have o3 : NF.okWsP (numP (.int (n : Int))) (.list (ws.map dataL)) = true := by
    show ((true && (decide (1 ≤ (ws.map dataL).length) && decide ((ws.map dataL).length ≤ 4))) && (ws.map dataL).all (NF.okWP (n : Int))) = true
    rw [List.length_map, decide_eq_true m1, decide_eq_true m4, Bool.true_and, Bool.true_and, Bool.true_and, List.all_map]
    refine List.all_eq_true.mpr fun w hw => ?_
    obtain ⟨w1, w2, w3⟩ := d.wy w hw
    show (NF.okDsP (n : Int) (dataL w) && decide (0 < (w.map dataD).length)) = true
    rw [okDs_of w3, List.length_map, decide_eq_true (List.length_pos_iff.mpr w1)]
    rfl
  rw [due_t on o2 o3]
  refine if_neg ?_
  have : tooP (dataL b) (.list (ws.map dataL)) = false := by
    show (decide (600 < (b.map dataD).length) || (ws.map dataL).any fun w => decide (mostP (.list (ws.map dataL)) < (itemsP w).length)) = false
    rw [List.length_map, decide_eq_false (by omega), Bool.false_or, List.any_map]
    refine List.any_eq_false.mpr fun w hw => ?_
    have w2 := (d.wy w hw).2.1
    show ¬ decide (mostP (.list (ws.map dataL)) < (w.map dataD).length) = true
    rw [List.length_map]
    have : 24 ≤ mostP (.list (ws.map dataL)) := by
      unfold mostP
      split <;> decide
    rw [decide_eq_false (by omega)]
    decide
  rw [this]
  decide
theorem ok_list {n : Nat} {b : List Deed} {ws : List (List Deed)} (d : Drawn n b ws) : MkOk (dataL b) (.list (ws.map dataL)) := by
  have m4 := d.m4
  have bl := d.bl
  refine MkOk.of (beg_row (l := b.map dataD) rfl (by rw [List.length_map]; omega) fun t ht => ?_) (way_row (l := ws.map dataL) rfl (by rw [List.length_map]; omega) fun t ht => ?_)
  · obtain ⟨x, _, rfl⟩ := List.mem_map.mp ht
    exact shaped_dP x
  · obtain ⟨w, hw, rfl⟩ := List.mem_map.mp ht
    have := (d.wy w hw).2.1
    refine beg_row (l := w.map dataD) rfl (by rw [List.length_map]; omega) fun t ht => ?_
    obtain ⟨x, _, rfl⟩ := List.mem_map.mp ht
    exact shaped_dP x
theorem dp_listL {K : PySem.W.Frag} {H : Hp} : ∀ (as : List Addr) (ws : List (List Deed)), as.length = ws.length → (∀ (j : Nat) (a : Addr) (w : List Deed), as[j]? = some a → ws[j]? = some w → H a = some (.lst (w.map dV))) → DpAll K H (as.map V.ref) (ws.map dataL)
  | [], [], _, _ => .nil
  | [], _ :: _, h, _ => nomatch h
  | _ :: _, [], h, _ => nomatch h
  | a :: as, w :: ws, h, q => .cons (.lst (SqL.of (q 0 a w rfl rfl)) (dp_deeds w)) (dp_listL as ws (by simpa using h) fun j a' w' e1 e2 => q (j + 1) a' w' (by simpa using e1) (by simpa using e2))
theorem shaped_pair {wd : Str} {d : PyData} (hw : PyData.canLay0 (.str wd) = true) (h : SeqAt.shaped d = true) (hd : PyData.depth d ≤ 60) : SeqAt.shaped (.tuple [.str wd, d]) = true := by
  have h1 : PyData.canLay0 d = true := (ba h).1
  show (PyData.canLayAll0 [.str wd, d] && decide (PyData.depthAll [.str wd, d] + 1 ≤ 64)) = true
  have e1 : PyData.canLayAll0 [.str wd, d] = true := by
    show (PyData.canLay0 (.str wd) && (PyData.canLay0 d && true)) = true
    rw [hw, h1]
    rfl
  have e2 : PyData.depthAll [.str wd, d] ≤ 60 := by
    show max (PyData.depth (.str wd)) (max (PyData.depth d) 0) ≤ 60
    have : PyData.depth (.str wd) = 0 := rfl
    omega
  rw [e1, decide_eq_true (by omega)]
  rfl
theorem eqv_self {d : PyData} (h : SeqAt.shaped d = true) : PyData.eqv d d = true := SeqAt.eqv_refl d (ba h).1
theorem dp_scal {K : PySem.W.Frag} {H : Hp} {v : V} {d : PyData} (h : Dp K H v d) (e : rowP d = none) : scal v v = true := by
  cases h with
  | lst _ _ => cases e
  | tup _ _ => cases e
  | _ => rfl
theorem wordO_scal (o : Option Str) : scal (wordO o) (wordO o) = true := by cases o <;> rfl
def few2B (d : PyData) : Bool := Nat.ble (itemsP d).length 10000 && (itemsP d).all fun w => Nat.ble (itemsP w).length 10000
theorem few2_of {d : PyData} (h : few2B d = true) : Few2 d := by
  obtain ⟨h1, h2⟩ := ba h
  exact ⟨Nat.le_of_ble_eq_true h1, fun w hw => Nat.le_of_ble_eq_true (List.all_eq_true.mp h2 w hw)⟩
def courses (m : Int) : List PyData := [.none, .tuple [.tuple [], .tuple []], .tuple [.tuple (List.replicate (201 : Int).toNat (.int 0)), .tuple [.int 0]], .tuple [.tuple [], .tuple (List.replicate (41 : Int).toNat (.int 0))],
  .tuple [.tuple [.int m], .tuple [.int 0]], .tuple [.tuple [], .tuple [.int (-1)]], .tuple [.tuple [.bool true], .tuple [.int 0]], .tuple [.tuple [.int 0]], .str "ab", .tuple [.tuple [], .tuple [.int 0], .tuple []], .tuple [.tuple [], .tuple [.int m]], .tuple [.int 0, .int 0]]
theorem bad_course (m : Nat) : ∀ d ∈ courses (m : Int), okCP m d = false ∧ SeqAt.shaped d = true ∧ PyData.depth d ≤ 60 ∧ Few2 d := fun d hd => by
  have om : okNuP m (.int (m : Int)) = false := by
    show (_ && decide ((m : Int) < (m : Int))) = false
    rw [decide_eq_false (Int.lt_irrefl _), Bool.and_false]
  unfold courses at hd
  simp only [List.mem_cons, List.not_mem_nil, or_false] at hd
  rcases hd with rfl | rfl | rfl | rfl | rfl | rfl | rfl | rfl | rfl | rfl | rfl | rfl
  · exact ⟨rfl, rfl, Nat.le_of_ble_eq_true rfl, few2_of rfl⟩
  · exact ⟨rfl, rfl, Nat.le_of_ble_eq_true rfl, few2_of rfl⟩
  · exact ⟨rfl, rfl, Nat.le_of_ble_eq_true rfl, few2_of rfl⟩
  · exact ⟨rfl, rfl, Nat.le_of_ble_eq_true rfl, few2_of rfl⟩
  · refine ⟨?_, rfl, Nat.le_of_ble_eq_true rfl, few2_of rfl⟩
    show (true && (((true && true) && (okNuP m (.int (m : Int)) && true)) && _)) = false
    rw [om]
    rfl
  · exact ⟨rfl, rfl, Nat.le_of_ble_eq_true rfl, few2_of rfl⟩
  · exact ⟨rfl, rfl, Nat.le_of_ble_eq_true rfl, few2_of rfl⟩
  · exact ⟨rfl, rfl, Nat.le_of_ble_eq_true rfl, few2_of rfl⟩
  · exact ⟨rfl, by decide +kernel, Nat.le_of_ble_eq_true rfl, few2_of rfl⟩
  · exact ⟨rfl, rfl, Nat.le_of_ble_eq_true rfl, few2_of rfl⟩
  · refine ⟨?_, rfl, Nat.le_of_ble_eq_true rfl, few2_of rfl⟩
    show (true && (true && ((true && true) && (okNuP m (.int (m : Int)) && true)))) = false
    rw [om]
    rfl
  · exact ⟨rfl, rfl, Nat.le_of_ble_eq_true rfl, few2_of rfl⟩
def pieces : List PyData := [.int 0, .int (-1), .none, .bool true, .str "1", .int 2001, .int (10 ^ (20 : Int).toNat)]
theorem bad_piece : ∀ d ∈ pieces, okPP d = false ∧ SeqAt.shaped d = true ∧ PyData.depth d ≤ 60 := fun d hd => by
  unfold pieces at hd
  simp only [List.mem_cons, List.not_mem_nil, or_false] at hd
  rcases hd with rfl | rfl | rfl | rfl | rfl | rfl | rfl
  · exact ⟨by decide, rfl, Nat.zero_le _⟩
  · exact ⟨by decide, rfl, Nat.zero_le _⟩
  · exact ⟨rfl, rfl, Nat.zero_le _⟩
  · exact ⟨rfl, rfl, Nat.zero_le _⟩
  · exact ⟨rfl, by decide +kernel, Nat.zero_le _⟩
  · exact ⟨by decide, rfl, Nat.zero_le _⟩
  · exact ⟨by decide +kernel, rfl, Nat.zero_le _⟩
theorem nums_of {K : PySem.W.Frag} {H : Hp} : ∀ {xs : List V} {ks : List Nat}, DpAll K H xs (ks.map fun k : Nat => PyData.int (k : Int)) → xs = vNs ks
  | [], [], _ => rfl
  | [], _ :: _, h => nomatch h
  | _ :: _, [], h => nomatch h
  | _ :: _, k :: ks, h => by
    cases h with
    | cons h a =>
      obtain rfl := dp_int h
      rw [nums_of a]
      rfl
theorem ne_pair {K : PySem.W.Frag} {H : Hp} {wd : Str} {v : V} {d : PyData} {p1 : Addr} {Q : VK} (tp : SqT K H p1 [.str wd, v]) (hv : Dp K H v d) (hw : PyData.canLay0 (.str wd) = true) (sh : SeqAt.shaped d = true) (d6 : PyData.depth d ≤ 60) (q : ∀ t, H t = none → Q (.bl false) (upd H t (.tup [.str wd, v]))) :
    ([V.str wd, v] : List V).length ≤ sizeLine ∧ ∀ t, H t = none → rNeD K (.ref p1) (.ref t) (upd H t (.tup [.str wd, v])) Q :=
  ⟨by show 2 ≤ sizeLine; decide, fun t ht => by
    have sT := NF.Same.new (o := .tup [.str wd, v]) (Same.refl H) ht
    have hvT := dp_mono sT _ hv
    have shp := shaped_pair hw sh d6
    refine ⟨_, _, .tup (NF.Same.tup sT tp) (.cons (.str _) (.cons hvT .nil)), .tup (SqT.of upd_same) (.cons (.str _) (.cons hvT .nil)), shp, shp, ?_⟩
    rw [eqv_self shp]
    exact q t ht⟩
end K25
set_option Elab.async false
set_option linter.all false
set_option maxRecDepth 100000
set_option maxHeartbeats 4000000
namespace K25
open PySem PySem.Spec PyProof.Rows L2 He NF RZ NT
open C8 (pss_cut)
def spLaw (K : PySem.W.Frag) : Sp := fun vs H Q _ => ∃ (l : Addr) (ns : List Int), vs = [.ref l] ∧ SqL K H l (ns.map V.int) ∧ ns.length ≤ 63 ∧ (∀ k ∈ ns, Builtin.Int.intBits k ≤ 1048576) ∧ ∀ H', Q (.bl true) H'
theorem sc_law : FnScope ["_law_script", "_law_source_here", "_law_maker_here", "_law_way", "_law_made_here", "_law_thing", "_law_many", "_law_course", "_law_piece", "_law_inlets", "_law_begin", "_law_ways", "_law_bad", "_law_call", "_law_one"] ["_law_script"] (defScope s_law) := ⟨rfl, rfl, rfl, by decide +kernel, rfl, by decide +kernel, by decide +kernel⟩
def InvL (K : PySem.W.Frag) (p q pb pw l : Addr) (n : Nat) (b : List Deed) (ws : List (List Deed)) (Fb Fw : V → Prop) : L2.St → Hp → Prop := fun σ H => ∃ vi vb vw di db dw k ob, σ = [some (.ref l), some (.ref p), some (.ref q), some (.int k), none, none, none, none, none, some vi, some vb, some vw, ob, none, none] ∧
  Src H p ∧ Parts K (wo H p) q pb pw n b ws ∧ Dp K (wo H p) vi di ∧ Dp K (wo H p) vb db ∧ BegOk db ∧ Dp K (wo H p) vw dw ∧ WayOk dw ∧ Fb vb ∧ Fw vw
theorem in3 {K : PySem.W.Frag} {H : Hp} {k a b c : Int} {Q : VK} (q : ∀ t x, H t = none → Q (.bl x) (upd H t (.tup [.int a, .int b, .int c]))) : ([V.int a, V.int b, V.int c] : List V).length ≤ sizeLine ∧ ∀ t, H t = none → rIn K false (.int k) (.ref t) (upd H t (.tup [.int a, .int b, .int c])) Q :=
  ⟨by show 3 ≤ sizeLine; decide, fun t ht => ⟨t, _, rfl, .inr (SqT.of upd_same), rfl, rfl, q t _ ht⟩⟩
theorem way_flat {n : Nat} {d : PyData} (h : ∃ l, d = .tuple l ∧ l.length ≤ n ∧ ∀ t ∈ l, BegOk t) (hn : n ≤ 10000) : WayOk d := by
  obtain ⟨l, rfl, h1, h2⟩ := h
  exact way_row (l := l) rfl (by omega) h2
theorem at_lastV {xs : List V} (h : 0 < xs.length) : atI xs (-1) = xs[xs.length - 1]? := by
  unfold atI ixN
  rw [if_neg (by omega), if_pos (by omega)]
  show xs[((-1 : Int) + (xs.length : Int)).toNat]? = _
  rw [show ((-1 : Int) + (xs.length : Int)).toNat = xs.length - 1 by omega]
def WayT (n : Nat) (d : PyData) : Prop := ∃ l, d = .tuple l ∧ l.length ≤ n ∧ ∀ t ∈ l, BegOk t
theorem MakAt.woP {K : PySem.W.Frag} {C : Addr} {H : Hp} {x p : Addr} {n : Nat} {b : List Deed} {ws : List (List Deed)} (h : MakAt K C H x n b ws) (hs : Src H p) : MakAt K C (wo H p) x n b ws := by
  obtain ⟨dx, pb, pw, h1, h2, h3⟩ := h
  obtain ⟨_, _, _, e⟩ := hs
  refine ⟨dx, pb, pw, ?_, SqT.wo h2 e trivial, WaysT.wo h3 e trivial⟩
  rw [wo_ne fun z => by rw [z, e] at h1; cases h1]
  exact h1
theorem ev_spoilt {K : PySem.W.Frag} {p : Addr} {B : Hp} {σ : L2.St} {i : Nat} {ta tb : TE} (e : σ[i]? = some (some (.ref p))) (a : Ev K p B σ (FlatT 600) ta) (b : Ev K p B σ (fun d => ∃ j, d = .int j) tb) : Ev K p B σ (FlatT 1300) (tCall (spSpoilt K) [] E0 (tCons (tVar i) (tCons ta (tCons tb tNil)))) := fun H Q hs ss q =>
  ⟨_, e, a H _ hs ss fun v1 d1 H1 o1 p1 h1 => b H1 _ o1.1 (Same.trans ss o1.2) fun v2 d2 H2 o2 p2 h2 => by
    obtain ⟨j, rfl⟩ := p2
    obtain rfl := dp_int h2
    exact ⟨p, v1, d1, j, rfl, o2.1, dp_out h1 o2, p1, fun v' d' H' o' pd hv' => q v' d' H' (o1.trans (o2.trans o')) pd hv'⟩⟩
theorem flat_rep {l : List PyData} {k n : Nat} (h : ∀ t ∈ l, SeqAt.shaped t = true) (hl : l.length * k ≤ n) : FlatT n (.tuple (List.replicate k l).flatten) := by
  refine ⟨_, rfl, ?_, fun t ht => ?_⟩
  · rw [List.length_flatten, List.map_replicate, List.sum_replicate_nat, Nat.mul_comm]
    exact hl
  · obtain ⟨l', hl', ht⟩ := List.mem_flatten.mp ht
    rw [(List.mem_replicate.mp hl').2] at ht
    exact h t ht
section
variable {P : Program} {w : World} {K : PySem.W.Frag} {mg : Str → Option Value} {base : Heap} {gs fs : List Str} {C CT CR : Addr}
theorem ok_law {f : Addr} {fd : FuncData} (F : FunD K "law" "law" (defArgs s_law) (defBody s_law) (defScope s_law) [] [] f fd) (T : Txt K mg gs FS) (hg1 : ("least" : Str) ∈ gs) (hg2 : ("greatest" : Str) ∈ gs) (c__law_source : Cal P w K mg base 1 "_law_source" (spSource K)) (c__law_pick : Cal P w K mg base 1 "_law_pick" spPick) (c__law_maker : Cal P w K mg base 3 "_law_maker" (spLMaker K)) (c__law_made : Cal P w K mg base 9 "_law_made" (spLMade K C)) (c__law_spoilt : Cal P w K mg base 2 "_law_spoilt" (spSpoilt K)) (c__law_seen : Cal P w K mg base 9 "_law_seen" (spSeenM K)) (c__law_due : Cal P w K mg base 4 "_law_due" (spLDue K)) (c__law_refused : Cal P w K mg base 8 "_law_refused" (spRefused K C)) (c__law_need_seen : Cal P w K mg base 7 "_law_need_seen" (spNeedSeen K C)) (c__law_piece_seen : Cal P w K mg base 8 "_law_piece_seen" (spPieceSeen K C)) : FnOk P w K mg base CX0 10 f fd ["_law_script"] (spLaw K) := by
  refine F.ok sc_law (fun vs H Q E h => ?_) (fun cdv A outer s H vs Q E hr h => ?_)
  · obtain ⟨l, ns, rfl, _⟩ := h
    rfl
  · obtain ⟨sl, ns, rfl, hsl, hlen, hbits, k⟩ := h
    have hu : (A.deeper (envOfC "law" (defScope s_law) s.heap.objs.size f cdv)).units + 64 < cLine := by
      have := hr.un
      omega
    refine ⟨_, PSs.nox (pss_cons (ps_set (i := 1) sc_law.nd rfl (Or.inl rfl) (pe_c c__law_source hr (by decide) rfl (pa_cons (pv 0) (pa_cons pe_int pa_nil)))) (pss_cons (ps_set (i := 2) sc_law.nd rfl (Or.inl rfl) (pe_c c__law_maker hr (by decide) rfl (pa_cons (pv 1) (pa_cons (pe_op op_add pe_int (pe_c c__law_pick hr (by decide) rfl (pa_cons (pv 1) (pa_cons pe_int pa_nil)))) (pa_cons pe_int (pa_cons pe_bl pa_nil)))))) (pss_cons (ps_asg (pv 2) (pgt (K := K) (n := 3) rfl rfl (pgs_cons (pg_name (i := 9) sc_law.nd rfl (Or.inl rfl)) (pgs_cons (pg_name (i := 10) sc_law.nd rfl (Or.inl rfl)) (pgs_cons (pg_name (i := 11) sc_law.nd rfl (Or.inl rfl)) pgs_nil))))) (pss_cons (ps_set (i := 3) sc_law.nd rfl (Or.inl rfl) (pe_c c__law_pick hr (by decide) rfl (pa_cons (pv 1) (pa_cons pe_int pa_nil)))) (pss_cut (ps_if (pt_cmpR op_in_seq (pv 3) (pe_tup (pa_cons pe_int (pa_cons pe_int (pa_cons pe_int pa_nil)))) rfl) (pss_one (ps_set (i := 9) sc_law.nd rfl (Or.inl rfl) (pe_ix (ixl (K := K)) (pe_lst (pa_cons pe_int (pa_cons pe_int (pa_cons (pe_un un_neg pe_int) (pa_cons pe_bl (pa_cons pe_non (pa_cons pe_str (pa_cons (pe_op op_pow pe_int pe_int) pa_nil)))))))) (pe_c c__law_pick hr (by decide) rfl (pa_cons (pv 1) (pa_cons pe_int pa_nil))) fun _ _ => rfl))) pss_nil) (pss_cut (ps_if (pt_cmpR op_in_seq (pv 3) (pe_tup (pa_cons pe_int (pa_cons pe_int (pa_cons pe_int pa_nil)))) rfl) (pss_one (ps_set (i := 10) sc_law.nd rfl (Or.inl rfl) (pe_ix (ixl (K := K)) (pe_lst (pa_cons (pe_c c__law_spoilt hr (by decide) rfl (pa_cons (pv 1) (pa_cons (pv 10) (pa_cons (pe_ix (ixt (K := K)) (pv 2) pe_int fun _ _ => rfl) pa_nil)))) (pa_cons pe_non (pa_cons pe_str (pa_cons pe_int pa_nil))))) (pe_c c__law_pick hr (by decide) rfl (pa_cons (pv 1) (pa_cons pe_int pa_nil))) fun _ _ => rfl))) pss_nil) (pss_cut (ps_if (pt_cmpR op_in_seq (pv 3) (pe_tup (pa_cons pe_int (pa_cons pe_int (pa_cons pe_int pa_nil)))) rfl) (pss_cons (ps_set (i := 12) sc_law.nd rfl (Or.inl rfl) (pe_op op_catA (pe_slice sl_tupA (pv 11) po_none (po_some (pe_un un_neg pe_int))) (pe_tup (pa_cons (pe_c c__law_spoilt hr (by decide) rfl (pa_cons (pv 1) (pa_cons (pe_ix (ixt (K := K)) (pv 11) (pe_un un_neg pe_int) fun _ _ => rfl) (pa_cons (pe_ix (ixt (K := K)) (pv 2) pe_int fun _ _ => rfl) pa_nil)))) pa_nil)))) (pss_one (ps_set (i := 11) sc_law.nd rfl (Or.inl rfl) (pe_ix (ixl (K := K)) (pe_lst (pa_cons (pv 12) (pa_cons (pe_tup pa_nil) (pa_cons (pe_op op_catA (pv 11) (pe_tup (pa_cons (pe_tup pa_nil) pa_nil))) (pa_cons (pe_op op_repT (pe_tup (pa_cons (pe_tup (pa_cons pe_str pa_nil)) pa_nil)) pe_int) (pa_cons pe_non (pa_cons (pe_tup (pa_cons pe_str pa_nil)) (pa_cons pe_int pa_nil)))))))) (pe_c c__law_pick hr (by decide) rfl (pa_cons (pv 1) (pa_cons pe_int pa_nil))) fun _ _ => rfl)))) pss_nil) (pss_cut (ps_if (pt_cmpR op_eq (pv 3) pe_int (nomark _)) (pss_one (ps_set (i := 11) sc_law.nd rfl (Or.inl rfl) (pe_tup (pa_cons (pe_op op_repT (pe_tup (pa_cons pe_str pa_nil)) (pe_op op_add pe_int (pe_c c__law_pick hr (by decide) rfl (pa_cons (pv 1) (pa_cons pe_int pa_nil))))) pa_nil)))) pss_nil) (pss_cut (ps_if (pt_cmpR op_eq (pv 3) pe_int (nomark _)) (pss_one (ps_set (i := 11) sc_law.nd rfl (Or.inl rfl) (pe_tup (pa_cons (pe_tup (pa_cons pe_str pa_nil)) (pa_cons (pe_op op_repT (pe_tup (pa_cons pe_int pa_nil)) (pe_op op_add pe_int (pe_c c__law_pick hr (by decide) rfl (pa_cons (pv 1) (pa_cons pe_int pa_nil))))) pa_nil))))) pss_nil) (pss_cut (ps_if (pt_cmpR op_eq (pv 3) pe_int (nomark _)) (pss_cons (ps_set (i := 10) sc_law.nd rfl (Or.inl rfl) (pe_op op_catA (pe_op op_repT (pe_tup (pa_cons pe_str (pa_cons pe_int pa_nil))) pe_int) (pe_ifExp (pt_cmpR op_eq (pe_c c__law_pick hr (by decide) rfl (pa_cons (pv 1) (pa_cons pe_int pa_nil))) pe_int (nomark _)) (pe_tup (pa_cons pe_int pa_nil)) (pe_tup pa_nil)))) (pss_one (ps_set (i := 11) sc_law.nd rfl (Or.inl rfl) (pe_ix (ixl (K := K)) (pe_lst (pa_cons (pv 11) (pa_cons (pv 11) (pa_cons (pe_tup pa_nil) (pa_cons (pe_tup (pa_cons (pe_tup (pa_cons pe_bl pa_nil)) pa_nil)) pa_nil))))) (pe_c c__law_pick hr (by decide) rfl (pa_cons (pv 1) (pa_cons pe_int pa_nil))) fun _ _ => rfl)))) pss_nil) (pss_cons (ps_if (pt_cmpR op_ne (pe_c c__law_seen hr (by decide) rfl (pa_cons (pv 9) (pa_cons (pv 10) (pa_cons (pv 11) pa_nil)))) (pe_c c__law_due hr (by decide) rfl (pa_cons (pv 9) (pa_cons (pv 10) (pa_cons (pv 11) pa_nil)))) (nomark _)) (pss_one (ps_ret pe_bl)) pss_nil) (pss_cons (ps_if (pt_cmpR op_notN (pe_c c__law_seen hr (by decide) rfl (pa_cons (pe_ix (ixt (K := K)) (pv 2) pe_int fun _ _ => rfl) (pa_cons (pe_callTy call_list_of rfl (T.fr _ (by decide +kernel)) (by decide +kernel) (pa_cons (pe_ix (ixt (K := K)) (pv 2) pe_int fun _ _ => rfl) pa_nil)) (pa_cons (pe_lc (own := [("_law_one", 14)]) rfl sc_law.nd (pi_tup (pe_ix (ixt (K := K)) (pv 2) pe_int fun _ _ => rfl)) (blkOk_by (N := ["_law_script", "_law_source_here", "_law_maker_here", "_law_way", "_law_made_here", "_law_thing", "_law_many", "_law_course", "_law_piece", "_law_inlets", "_law_begin", "_law_ways", "_law_bad", "_law_call", "_law_one"]) (sc := defScope s_law) (by decide +kernel)) (fun _ _ _ _ _ => by exact (pg_name (i := 14) sc_law.nd rfl (Or.inl rfl))) (fun _ _ _ _ _ => by exact pts_nil) (fun _ _ _ _ _ => by exact (pe_callTy (call_list_ofK (K := K)) rfl (T.fr _ (by decide +kernel)) (by decide +kernel) (pa_cons (pv 14) pa_nil)))) pa_nil)))) pe_non (nomark _)) (pss_one (ps_ret pe_bl)) pss_nil) (pss_cons (ps_set (i := 4) sc_law.nd rfl (Or.inl rfl) (pe_c c__law_made hr (by decide) rfl (pa_cons (pv 2) pa_nil))) (pss_cons (ps_for PassesOwn.never rfl (pi_list (pe_lst (pa_cons (pe_ix (ixt (K := K)) (pv 2) pe_int fun _ _ => rfl) (pa_cons (pe_un un_neg pe_int) (pa_cons pe_bl (pa_cons pe_str (pa_cons pe_non pa_nil))))))) (pg_name (i := 5) sc_law.nd rfl (Or.inl rfl)) (pss_cons (ps_for PassesOwn.never rfl (pi_list (pe_lst (pa_cons (pe_gl (T.gl _ hg1)) (pa_cons (pe_gl (T.gl _ hg2)) pa_nil)))) (pg_name (i := 13) sc_law.nd rfl (Or.inl rfl)) (pss_one (ps_if (PW.pt (pw_or (pt_not (pt_val (pe_c c__law_refused hr (by decide) rfl (pa_cons (pv 13) (pa_cons (pv 4) (pa_cons (pv 5) (pa_cons pe_str pa_nil))))))) (pw_or1 (pt_not (pt_val (pe_c c__law_refused hr (by decide) rfl (pa_cons (pv 13) (pa_cons (pv 4) (pa_cons (pe_op op_sub (pe_ix (ixt (K := K)) (pv 2) pe_int fun _ _ => rfl) pe_int) (pa_cons pe_non pa_nil)))))))))) (pss_one (ps_ret pe_bl)) pss_nil))) (pss_cons (ps_if (pt_cmpR (op_neD hu) (pe_c c__law_need_seen hr (by decide) rfl (pa_cons (pv 4) (pa_cons (pv 5) (pa_cons pe_non pa_nil)))) (pe_tup (pa_cons pe_str (pa_cons (pv 5) pa_nil))) (nomark _)) (pss_one (ps_ret pe_bl)) pss_nil) (pss_one (ps_if (pt_cmpR (op_neD hu) (pe_c c__law_piece_seen hr (by decide) rfl (pa_cons (pv 4) (pa_cons (pv 5) (pa_cons pe_int (pa_cons pe_bl pa_nil))))) (pe_tup (pa_cons pe_str (pa_cons (pv 5) pa_nil))) (nomark _)) (pss_one (ps_ret pe_bl)) pss_nil))))) (pss_cons (ps_set (i := 6) sc_law.nd rfl (Or.inl rfl) (pe_callB call_len_seq rfl (T.fr _ (by decide +kernel)) boot_len (pa_cons (pe_ix (ixt (K := K)) (pv 2) pe_int fun _ _ => rfl) pa_nil))) (pss_cons (ps_for PassesOwn.never rfl (pi_list (pe_lst (pa_cons pe_non (pa_cons (pe_tup (pa_cons (pe_tup pa_nil) (pa_cons (pe_tup pa_nil) pa_nil))) (pa_cons (pe_tup (pa_cons (pe_op op_repT (pe_tup (pa_cons pe_int pa_nil)) pe_int) (pa_cons (pe_tup (pa_cons pe_int pa_nil)) pa_nil))) (pa_cons (pe_tup (pa_cons (pe_tup pa_nil) (pa_cons (pe_op op_repT (pe_tup (pa_cons pe_int pa_nil)) pe_int) pa_nil))) (pa_cons (pe_tup (pa_cons (pe_tup (pa_cons (pv 6) pa_nil)) (pa_cons (pe_tup (pa_cons pe_int pa_nil)) pa_nil))) (pa_cons (pe_tup (pa_cons (pe_tup pa_nil) (pa_cons (pe_tup (pa_cons (pe_un un_neg pe_int) pa_nil)) pa_nil))) (pa_cons (pe_tup (pa_cons (pe_tup (pa_cons pe_bl pa_nil)) (pa_cons (pe_tup (pa_cons pe_int pa_nil)) pa_nil))) (pa_cons (pe_tup (pa_cons (pe_tup (pa_cons pe_int pa_nil)) pa_nil)) (pa_cons pe_str (pa_cons (pe_tup (pa_cons (pe_tup pa_nil) (pa_cons (pe_tup (pa_cons pe_int pa_nil)) (pa_cons (pe_tup pa_nil) pa_nil)))) (pa_cons (pe_tup (pa_cons (pe_tup pa_nil) (pa_cons (pe_tup (pa_cons (pv 6) pa_nil)) pa_nil))) (pa_cons (pe_tup (pa_cons pe_int (pa_cons pe_int pa_nil))) pa_nil)))))))))))))) (pg_name (i := 7) sc_law.nd rfl (Or.inl rfl)) (pss_one (ps_if (pt_cmpR (op_neD hu) (pe_c c__law_need_seen hr (by decide) rfl (pa_cons (pv 4) (pa_cons pe_int (pa_cons (pv 7) pa_nil)))) (pe_tup (pa_cons pe_str (pa_cons (pv 7) pa_nil))) (nomark _)) (pss_one (ps_ret pe_bl)) pss_nil))) (pss_cons (ps_if (pt_cmpR op_notN (pe_c c__law_need_seen hr (by decide) rfl (pa_cons (pv 4) (pa_cons pe_int (pa_cons (pe_tup (pa_cons (pe_op op_repT (pe_tup (pa_cons pe_int pa_nil)) pe_int) (pa_cons (pe_op op_repT (pe_tup (pa_cons (pe_op op_sub (pv 6) pe_int) pa_nil)) pe_int) pa_nil))) pa_nil)))) pe_non (nomark _)) (pss_one (ps_ret pe_bl)) pss_nil) (pss_cons (ps_for PassesOwn.never rfl (pi_list (pe_lst (pa_cons pe_int (pa_cons (pe_un un_neg pe_int) (pa_cons pe_non (pa_cons pe_bl (pa_cons pe_str (pa_cons pe_int (pa_cons (pe_op op_pow pe_int pe_int) pa_nil))))))))) (pg_name (i := 8) sc_law.nd rfl (Or.inl rfl)) (pss_one (ps_if (pt_cmpR (op_neD hu) (pe_c c__law_piece_seen hr (by decide) rfl (pa_cons (pv 4) (pa_cons pe_int (pa_cons (pv 8) (pa_cons (pe_cmpR op_eq (pe_c c__law_pick hr (by decide) rfl (pa_cons (pv 1) (pa_cons pe_int pa_nil))) pe_int (nomark _)) pa_nil))))) (pe_tup (pa_cons pe_str (pa_cons (pv 8) pa_nil))) (nomark _)) (pss_one (ps_ret pe_bl)) pss_nil))) (pss_one (ps_ret (pe_cmpR op_isN (pe_c c__law_piece_seen hr (by decide) rfl (pa_cons (pv 4) (pa_cons pe_int (pa_cons (pe_ifExp (pt_cmpR op_eq (pe_c c__law_pick hr (by decide) rfl (pa_cons (pv 1) (pa_cons pe_int pa_nil))) pe_int (nomark _)) pe_int pe_int) (pa_cons pe_bl pa_nil))))) pe_non (nomark _)))))))))))))))))))))), ?_⟩
    refine ⟨_, rfl, sl, ns, 0, rfl, hsl, hlen, hbits, by decide, fun p G1 s1 hp1 S1 => ?_⟩
    -- the maker
    refine ⟨_, rfl, _, rfl, wo G1 p, p, 3, rfl, wo_same', wo_none, S1, by decide, by decide, fun d1 G2 d0 d3 s2 S2 => ?_⟩
    have o2 := Out.of_pick s2 S2
    refine ⟨_, _, rfl, rfl, wo G2 p, p, (1 + d1).toNat, 4, true, ?_, wo_same', wo_none, S2, by omega, by omega, by decide, by decide, fun q b ws G3 s3 S3 dr mk => ?_⟩
    · show [V.ref p, V.int (1 + d1), V.int 4, V.bl true] = [V.ref p, V.int ((1 + d1).toNat : Int), V.int ((4 : Nat) : Int), V.bl true]
      rw [Int.toNat_of_nonneg (by omega)]
      rfl
    generalize (1 + d1).toNat = n at dr mk
    obtain ⟨pb, pw, hq, hb, hw⟩ := mk.wo S3
    have pt : Parts K (wo G3 p) q pb pw n b ws := ⟨hq, hb, hw⟩
    have n1 := dr.n1
    have n3 := dr.n3
    have m1 := dr.m1
    have m4 := dr.m4
    have bl := dr.bl
    refine ⟨_, rfl, q, _, rfl, NF.Same.tup wo_same' hq, rfl, _, _, rfl, ?_⟩
    refine ⟨_, _, rfl, ?_⟩
    refine ⟨_, _, rfl, ?_⟩
    refine ⟨rfl, ?_⟩
    refine ⟨_, rfl, wo G3 p, p, 12, rfl, wo_same', wo_none, S3, by decide, by decide, fun wy G4 w0 w1 s4 S4 => ?_⟩
    have o4 := Out.of_pick s4 S4
    have pt := pt.mono o4.2
    have begB : BegOk (dataW b) := beg_flat (flat_deedsP (n := 4) bl) (by decide)
    have wayB : ∀ ws' : List (List Deed), (∀ v ∈ ws', v ∈ ws) → ∀ t ∈ ws'.map dataW, BegOk t := fun ws' h t ht => by
      obtain ⟨v, hv, rfl⟩ := List.mem_map.mp ht
      exact beg_flat (flat_deedsP (n := 4) (dr.wy v (h v hv)).2.1) (by decide)
    have wayW : WayOk (dataWs ws) := way_row (l := ws.map dataW) rfl (by rw [List.length_map]; omega) (wayB ws fun _ h => h)
    -- the inlets
    refine ⟨InvL K p q pb pw sl n b ws (· = .ref pb) (· = .ref pw), ?_, ?_⟩
    · refine ⟨_, rfl, ?_⟩
      refine in3 fun t x ht => ⟨_, rfl, ?_⟩
      have ot := Out.of_same S4 (NF.Same.new (o := .tup [.int 0, .int 1, .int 5]) (Same.refl G4) ht)
      generalize upd G4 t (.tup [.int 0, .int 1, .int 5]) = G5 at ot
      have pt := pt.mono ot.2
      cases x with
      | true =>
        refine iteT ?_
        refine ev_ixl (K := K) (p := p) (B := wo G5 p) (P := fun _ => True) (ev_lst (evA_cons ev_int (evA_cons ev_int (evA_cons ev_neg (evA_cons ev_bl (evA_cons ev_non (evA_cons ev_str (evA_cons (ev_sc (d := .int (10 ^ (9 : Int).toNat)) (fun _ => .int _) fun H Q q => ⟨_, _, rfl, rfl, ⟨by decide, by decide, by decide⟩, q⟩) evA_nil))))))) ?h2) (ev_pick rfl (by decide) (by decide)) ?h3 G5 _ ot.1 (Same.refl _) ?h4
        case h2 =>
          rintro ds ⟨_, _, rfl, rfl, _, _, rfl, rfl, _, _, rfl, rfl, _, _, rfl, rfl, _, _, rfl, rfl, _, _, rfl, rfl, _, _, rfl, rfl, rfl⟩
          show 7 ≤ 1000
          decide
        case h3 =>
          rintro d1 d2 ⟨ds, rfl, _, _, rfl, rfl, _, _, rfl, rfl, _, _, rfl, rfl, _, _, rfl, rfl, _, _, rfl, rfl, _, _, rfl, rfl, _, _, rfl, rfl, rfl⟩ ⟨i, rfl, i0, i1⟩
          exact ⟨_, _, rfl, rfl, i0, i1, fun _ _ => trivial⟩
        case h4 =>
          intro v d H1 o1 _ hv
          have pt := pt.mono o1.2
          exact ⟨v, _, _, d, dataW b, dataWs ws, _, none, rfl, o1.1, pt, hv, dp_way pt.b, begB, dp_ways pt.w, wayW, rfl, rfl⟩
      | false =>
        refine iteF ?_
        exact ⟨_, _, _, .int (n : Int), dataW b, dataWs ws, _, none, rfl, ot.1, pt, .int _, dp_way pt.b, begB, dp_ways pt.w, wayW, rfl, rfl⟩
    clear pt hq hb hw mk S1 S2 S3 S4
    -- the beginning
    rintro σ G ⟨vi, vb, vw, di, db, dw, wy, ob, rfl, S5, pt, hi, hb, kb, hw, kw, rfl, rfl⟩
    refine ⟨InvL K p q pb pw sl n b ws (fun _ => True) (· = .ref pw), ?_, ?_⟩
    · refine ⟨_, rfl, ?_⟩
      refine in3 fun t x ht => ⟨_, rfl, ?_⟩
      have ot := Out.of_same S5 (NF.Same.new (o := .tup [.int 1, .int 2, .int 6]) (Same.refl G) ht)
      generalize upd G t (.tup [.int 1, .int 2, .int 6]) = G5 at ot
      have pt := pt.mono ot.2
      have hi := dp_out hi ot
      cases x with
      | true =>
        refine iteT ?_
        refine ev_ixl (K := K) (p := p) (B := wo G5 p) (P := BegOk) (ev_lst (evA_cons (ev_spoilt rfl (Ev.imp (ev_var rfl (dp_way pt.b)) ?h0) (Ev.imp (ev_ixt rfl pt.q at0 (.int _) fun H Q q => q) fun d e => ⟨_, e⟩)) (evA_cons ev_non (evA_cons ev_str (evA_cons ev_int evA_nil)))) ?h2) (ev_pick rfl (by decide) (by decide)) ?h3 G5 _ ot.1 (Same.refl _) ?h4
        case h0 =>
          rintro d rfl
          exact flat_deedsP (by omega)
        case h2 =>
          rintro ds ⟨_, _, rfl, _, _, _, rfl, rfl, _, _, rfl, rfl, _, _, rfl, rfl, rfl⟩
          show 4 ≤ 1000
          decide
        case h3 =>
          rintro d1 d2 ⟨ds, rfl, _, _, rfl, ft, _, _, rfl, rfl, _, _, rfl, rfl, _, _, rfl, rfl, rfl⟩ ⟨i, rfl, i0, i1⟩
          refine ⟨_, _, rfl, rfl, i0, i1, fun d hd => ?_⟩
          simp only [List.mem_cons, List.not_mem_nil, or_false] at hd
          rcases hd with rfl | rfl | rfl | rfl
          · exact beg_flat ft (by decide)
          · exact beg_none rfl
          · exact beg_none rfl
          · exact beg_none rfl
        case h4 =>
          intro v d H1 o1 kd hv
          have pt := pt.mono o1.2
          exact ⟨vi, v, _, di, d, dataWs ws, _, ob, rfl, o1.1, pt, dp_out hi o1, hv, kd, dp_ways pt.w, wayW, trivial, rfl⟩
      | false =>
        refine iteF ?_
        exact ⟨vi, _, _, di, dataW b, dataWs ws, _, ob, rfl, ot.1, pt, hi, dp_way pt.b, begB, dp_ways pt.w, wayW, trivial, rfl⟩
    clear pt hi hb kb hw kw S5
    -- the ways
    rintro σ G ⟨vi, vb, vw, di, db, dw, wy, ob, rfl, S5, pt, hi, hb, kb, hw, kw, _, rfl⟩
    refine ⟨InvL K p q pb pw sl n b ws (fun _ => True) (fun _ => True), ?_, ?_⟩
    · refine ⟨_, rfl, ?_⟩
      refine in3 fun t x ht => ⟨_, rfl, ?_⟩
      have ot := Out.of_same S5 (NF.Same.new (o := .tup [.int 3, .int 6, .int 2]) (Same.refl G) ht)
      generalize upd G t (.tup [.int 3, .int 6, .int 2]) = G5 at ot
      have pt := pt.mono ot.2
      have hi := dp_out hi ot
      have hb := dp_out hb ot
      cases x with
      | true =>
        refine iteT ?_
        obtain ⟨as, hw1, hl1, hw2⟩ := id pt.w
        have la : as.length - 1 < as.length := by omega
        have lw : as.length - 1 < ws.length := by omega
        have atL : atI (as.map V.ref) (-1) = some (.ref as[as.length - 1]) := by
          have := at_lastV (xs := as.map V.ref) (by rw [List.length_map]; omega)
          rw [this, List.length_map, List.getElem?_map, List.getElem?_eq_getElem la]
          rfl
        refine ev_cat (K := K) (p := p) (B := wo G5 p) (P := WayT 5) (ev_sl (P := WayT 4) (ev_var rfl (dp_ways pt.w)) (fun H Q q => q _) (fun H Q q => ⟨_, rfl, _, rfl, q _⟩) ?h0)
          (ev_tup (evA_cons (ev_spoilt rfl (Ev.imp (ev_ixt rfl hw1 atL (dp_way (hw2 _ _ _ (List.getElem?_eq_getElem la) (List.getElem?_eq_getElem lw))) fun H Q q => ⟨_, rfl, q⟩) ?h1) (Ev.imp (ev_ixt rfl pt.q at0 (.int _) fun H Q q => q) fun d e => ⟨_, e⟩)) evA_nil) ?h2) ?h3 G5 _ ot.1 (Same.refl _) ?h4
        case h0 =>
          rintro d rfl
          refine ⟨_, rfl, fun l' z1 z2 => ⟨l', rfl, by rw [List.length_map] at z2; omega, fun t ht => wayB ws (fun _ h => h) t (z1 t ht)⟩⟩
        case h1 =>
          rintro d rfl
          exact flat_deedsP (by have := (dr.wy ws[as.length - 1] (List.getElem_mem lw)).2.1; omega)
        case h2 =>
          rintro ds ⟨_, _, rfl, _, rfl⟩
          show 1 ≤ 1000
          decide
        case h3 =>
          rintro d1 d2 ⟨l1, rfl, z1, z2⟩ ⟨l2, rfl, _, _, rfl, ft, rfl⟩
          refine ⟨l1, _, rfl, rfl, by show l1.length + 1 ≤ 10000; omega, _, rfl, by rw [List.length_append]; show l1.length + 1 ≤ 5; omega, fun t ht => ?_⟩
          rcases List.mem_append.mp ht with z | z
          · exact z2 t z
          · rw [List.mem_singleton] at z
            rw [z]
            exact beg_flat ft (by decide)
        case h4 =>
          intro v12 d12 H1 o1 k12 hv12
          have pt := pt.mono o1.2
          have hi := dp_out hi o1
          have hb := dp_out hb o1
          refine ev_ixl (K := K) (p := p) (B := wo H1 p) (P := WayOk) (ev_lst (evA_cons (ev_var rfl hv12) (evA_cons (ev_tup evA_nil ?g1) (evA_cons (ev_cat (P := WayT 5) (ev_var rfl (dp_ways pt.w)) (ev_tup (evA_cons (ev_tup evA_nil ?g1) evA_nil) ?g2) ?g3) (evA_cons (ev_rep (P := WayT 5) (ev_tup (evA_cons (ev_tup (evA_cons ev_str evA_nil) ?g4) evA_nil) ?g5) ev_int ?g6) (evA_cons ev_non (evA_cons (ev_tup (evA_cons ev_str evA_nil) ?g4) (evA_cons ev_int evA_nil))))))) ?g7) (ev_pick rfl (by decide) (by decide)) ?g8 H1 _ o1.1 (Same.refl _) ?g9
          case g1 =>
            rintro ds rfl
            show 0 ≤ 1000
            decide
          case g2 =>
            rintro ds ⟨_, _, rfl, _, rfl⟩
            show 1 ≤ 1000
            decide
          case g3 =>
            rintro d1 d2 rfl ⟨l2, rfl, _, _, rfl, ⟨_, rfl, rfl⟩, rfl⟩
            refine ⟨ws.map dataW, _, rfl, rfl, by show (ws.map dataW).length + 1 ≤ 10000; rw [List.length_map]; omega, _, rfl, by rw [List.length_append, List.length_map]; show ws.length + 1 ≤ 5; omega, fun t ht => ?_⟩
            rcases List.mem_append.mp ht with z | z
            · exact wayB ws (fun _ h => h) t z
            · rw [List.mem_singleton] at z
              rw [z]
              exact beg_none rfl
          case g4 =>
            rintro ds ⟨_, _, rfl, rfl, rfl⟩
            show 1 ≤ 1000
            decide
          case g5 =>
            rintro ds ⟨_, _, rfl, _, rfl⟩
            show 1 ≤ 1000
            decide
          case g6 =>
            rintro d1 d2 ⟨l2, rfl, _, _, rfl, ⟨_, rfl, _, _, rfl, rfl, rfl⟩, rfl⟩ rfl
            refine ⟨_, 5, rfl, rfl, by simp, by decide, by decide, by show 1 ≤ 1000; decide, _, rfl, by show 5 ≤ 5; decide, fun t ht => ?_⟩
            obtain ⟨l', hl', ht⟩ := List.mem_flatten.mp ht
            rw [(List.mem_replicate.mp hl').2, List.mem_singleton] at ht
            rw [ht]
            exact beg_row (l := [.str "give"]) rfl (by decide) fun t ht => by
              rw [List.mem_singleton] at ht
              rw [ht]
              decide +kernel
          case g7 =>
            rintro ds ⟨_, _, rfl, _, _, _, rfl, _, _, _, rfl, _, _, _, rfl, _, _, _, rfl, _, _, _, rfl, _, _, _, rfl, _, rfl⟩
            show 7 ≤ 1000
            decide
          case g8 =>
            rintro d1 d2 ⟨ds, rfl, _, _, rfl, rfl, _, _, rfl, ⟨_, rfl, rfl⟩, _, _, rfl, w3, _, _, rfl, w4, _, _, rfl, rfl, _, _, rfl, ⟨_, rfl, _, _, rfl, rfl, rfl⟩, _, _, rfl, rfl, rfl⟩ ⟨i, rfl, i0, i1⟩
            refine ⟨_, _, rfl, rfl, i0, i1, fun d hd => ?_⟩
            simp only [List.mem_cons, List.not_mem_nil, or_false] at hd
            rcases hd with rfl | rfl | rfl | rfl | rfl | rfl | rfl
            · exact way_flat k12 (by decide)
            · exact way_none rfl
            · exact way_flat w3 (by decide)
            · exact way_flat w4 (by decide)
            · exact way_none rfl
            · exact way_row (l := [.str "give"]) rfl (by decide) fun t ht => by
                rw [List.mem_singleton] at ht
                rw [ht]
                exact beg_none rfl
            · exact way_none rfl
          case g9 =>
            intro v d H2 o2 kd hv
            have pt := pt.mono o2.2
            exact ⟨vi, vb, v, di, db, d, _, some v12, rfl, o2.1, pt, dp_out hi o2, dp_out hb o2, kb, hv, kd, trivial, trivial⟩
      | false =>
        refine iteF ?_
        exact ⟨vi, vb, _, di, db, dataWs ws, _, ob, rfl, ot.1, pt, hi, hb, kb, dp_ways pt.w, wayW, trivial, trivial⟩
    clear pt hi hb kb hw kw S5
    rintro σ G ⟨vi, vb, vw, di, db, dw, wy, ob, rfl, S5, pt, hi, hb, kb, hw, kw, _, _⟩
    -- a long way
    refine ⟨InvL K p q pb pw sl n b ws (fun _ => True) (fun _ => True), ?_, ?_⟩
    · refine ⟨_, rfl, rfl, _, rfl, ite2 (fun _ => ?_) (fun _ => ?_)⟩
      rotate_left
      · exact ⟨vi, vb, vw, di, db, dw, _, ob, rfl, S5, pt, hi, hb, kb, hw, kw, trivial, trivial⟩
      refine ev_tup (K := K) (p := p) (B := wo G p) (evA_cons (ev_rep (P := FlatT 1000) (ev_tup (evA_cons ev_str evA_nil) ?h0) (ev_i2 (P := fun d => ∃ i, d = .int i ∧ 2 ≤ i ∧ i ≤ 1000) ev_int (ev_pick rfl (by decide) (by decide)) ?h1) ?h2) evA_nil) ?h3 G _ S5 (Same.refl _) ?h4
      case h0 =>
        rintro ds ⟨_, _, rfl, rfl, rfl⟩
        show 1 ≤ 1000
        decide
      case h1 =>
        rintro d1 d2 rfl ⟨i, rfl, i0, i1⟩
        exact ⟨_, _, rfl, rfl, _, rfl, by omega, by omega⟩
      case h2 =>
        rintro d1 d2 ⟨_, rfl, _, _, rfl, rfl, rfl⟩ ⟨i, rfl, i0, i1⟩
        refine ⟨_, i, rfl, rfl, by simp, i0, i1, by show 1 ≤ 1000; decide, flat_rep (fun t ht => ?_) (by show 1 * i.toNat ≤ 1000; omega)⟩
        rw [List.mem_singleton] at ht
        rw [ht]
        decide +kernel
      case h3 =>
        rintro ds ⟨_, _, rfl, _, rfl⟩
        show 1 ≤ 1000
        decide
      case h4 =>
        rintro v d H1 o1 ⟨_, rfl, _, _, rfl, ft, rfl⟩ hv
        refine ⟨vi, vb, v, di, db, _, _, ob, rfl, o1.1, pt.mono o1.2, dp_out hi o1, dp_out hb o1, kb, hv, way_row (l := [_]) rfl (by show 1 ≤ 10000; decide) fun t ht => ?_, trivial, trivial⟩
        rw [List.mem_singleton] at ht
        rw [ht]
        exact beg_flat ft (by decide)
    clear pt hi hb kb hw kw S5
    rintro σ G ⟨vi, vb, vw, di, db, dw, wy, ob, rfl, S5, pt, hi, hb, kb, hw, kw, _, _⟩
    -- a long way among two
    refine ⟨InvL K p q pb pw sl n b ws (fun _ => True) (fun _ => True), ?_, ?_⟩
    · refine ⟨_, rfl, rfl, _, rfl, ite2 (fun _ => ?_) (fun _ => ?_)⟩
      rotate_left
      · exact ⟨vi, vb, vw, di, db, dw, _, ob, rfl, S5, pt, hi, hb, kb, hw, kw, trivial, trivial⟩
      refine ev_tup (K := K) (p := p) (B := wo G p) (evA_cons (ev_tup (evA_cons ev_str evA_nil) ?h5) (evA_cons (ev_rep (P := FlatT 1000) (ev_tup (evA_cons ev_int evA_nil) ?h0) (ev_i2 (P := fun d => ∃ i, d = .int i ∧ 2 ≤ i ∧ i ≤ 1000) ev_int (ev_pick rfl (by decide) (by decide)) ?h1) ?h2) evA_nil)) ?h3 G _ S5 (Same.refl _) ?h4
      case h0 =>
        rintro ds ⟨_, _, rfl, rfl, rfl⟩
        show 1 ≤ 1000
        decide
      case h5 =>
        rintro ds ⟨_, _, rfl, rfl, rfl⟩
        show 1 ≤ 1000
        decide
      case h1 =>
        rintro d1 d2 rfl ⟨i, rfl, i0, i1⟩
        exact ⟨_, _, rfl, rfl, _, rfl, by omega, by omega⟩
      case h2 =>
        rintro d1 d2 ⟨_, rfl, _, _, rfl, rfl, rfl⟩ ⟨i, rfl, i0, i1⟩
        refine ⟨_, i, rfl, rfl, by simp, i0, i1, by show 1 ≤ 1000; decide, flat_rep (fun t ht => ?_) (by show 1 * i.toNat ≤ 1000; omega)⟩
        rw [List.mem_singleton] at ht
        rw [ht]
        rfl
      case h3 =>
        rintro ds ⟨_, _, rfl, _, _, _, rfl, _, rfl⟩
        show 2 ≤ 1000
        decide
      case h4 =>
        rintro v d H1 o1 ⟨_, rfl, _, _, rfl, ⟨_, rfl, _, _, rfl, rfl, rfl⟩, _, _, rfl, ft, rfl⟩ hv
        refine ⟨vi, vb, v, di, db, _, _, ob, rfl, o1.1, pt.mono o1.2, dp_out hi o1, dp_out hb o1, kb, hv, way_row (l := [_, _]) rfl (by show 2 ≤ 10000; decide) fun t ht => ?_, trivial, trivial⟩
        simp only [List.mem_cons, List.not_mem_nil, or_false] at ht
        rcases ht with rfl | rfl
        · exact beg_row (l := [.str "give"]) rfl (by decide) fun t ht => by
            rw [List.mem_singleton] at ht
            rw [ht]
            decide +kernel
        · exact beg_flat ft (by decide)
    clear pt hi hb kb hw kw S5
    rintro σ G ⟨vi, vb, vw, di, db, dw, wy, ob, rfl, S5, pt, hi, hb, kb, hw, kw, _, _⟩
    -- a long beginning
    refine ⟨InvL K p q pb pw sl n b ws (fun _ => True) (fun _ => True), ?_, ?_⟩
    · refine ⟨_, rfl, rfl, _, rfl, ite2 (fun _ => ?_) (fun _ => ?_)⟩
      rotate_left
      · exact ⟨vi, vb, vw, di, db, dw, _, ob, rfl, S5, pt, hi, hb, kb, hw, kw, trivial, trivial⟩
      refine ev_cat (K := K) (p := p) (B := wo G p) (P := FlatT 700) (ev_rep (P := FlatT 600) (ev_tup (evA_cons ev_str (evA_cons ev_int evA_nil)) ?h0) ev_int ?h1) (ev_if (P := FlatT 1) (evT_eq (ev_pick rfl (by decide) (by decide)) ?h2) (Ev.imp (ev_tup (evA_cons ev_int evA_nil) ?h3) ?h4) (Ev.imp (ev_tup evA_nil ?h5) ?h6)) ?h7 G _ S5 (Same.refl _) ?h8
      case h0 =>
        rintro ds ⟨_, _, rfl, rfl, _, _, rfl, rfl, rfl⟩
        show 2 ≤ 1000
        decide
      case h1 =>
        rintro d1 d2 ⟨_, rfl, _, _, rfl, rfl, _, _, rfl, rfl, rfl⟩ rfl
        refine ⟨_, 300, rfl, rfl, by simp, by decide, by decide, by show 2 ≤ 1000; decide, flat_rep (fun t ht => ?_) (by show 2 * 300 ≤ 600; decide)⟩
        simp only [List.mem_cons, List.not_mem_nil, or_false] at ht
        rcases ht with rfl | rfl
        · decide +kernel
        · rfl
      case h2 =>
        rintro d ⟨i, rfl, _, _⟩
        exact ⟨i, rfl⟩
      case h3 =>
        rintro ds ⟨_, _, rfl, rfl, rfl⟩
        show 1 ≤ 1000
        decide
      case h4 =>
        rintro d ⟨_, rfl, _, _, rfl, rfl, rfl⟩
        exact ⟨_, rfl, Nat.le_refl _, fun t ht => by
          rw [List.mem_singleton] at ht
          rw [ht]
          rfl⟩
      case h5 =>
        rintro ds rfl
        show 0 ≤ 1000
        decide
      case h6 =>
        rintro d ⟨_, rfl, rfl⟩
        exact ⟨_, rfl, Nat.zero_le _, fun t ht => by cases ht⟩
      case h7 =>
        rintro d1 d2 ⟨l1, rfl, z1, z2⟩ ⟨l2, rfl, z3, z4⟩
        exact ⟨l1, l2, rfl, rfl, by omega, _, rfl, by rw [List.length_append]; omega, fun t ht => (List.mem_append.mp ht).elim (z2 t) (z4 t)⟩
      case h8 =>
        intro v10 d10 H1 o1 ft hv10
        have pt := pt.mono o1.2
        have hi := dp_out hi o1
        have hw := dp_out hw o1
        refine ev_ixl (K := K) (p := p) (B := wo H1 p) (P := WayOk) (ev_lst (evA_cons (ev_var rfl hw) (evA_cons (ev_var rfl hw) (evA_cons (ev_tup evA_nil ?g1) (evA_cons (ev_tup (evA_cons (ev_tup (evA_cons ev_bl evA_nil) ?g2) evA_nil) ?g3) evA_nil)))) ?g4) (ev_pick rfl (by decide) (by decide)) ?g5 H1 _ o1.1 (Same.refl _) ?g6
        case g1 =>
          rintro ds rfl
          show 0 ≤ 1000
          decide
        case g2 =>
          rintro ds ⟨_, _, rfl, rfl, rfl⟩
          show 1 ≤ 1000
          decide
        case g3 =>
          rintro ds ⟨_, _, rfl, _, rfl⟩
          show 1 ≤ 1000
          decide
        case g4 =>
          rintro ds ⟨_, _, rfl, _, _, _, rfl, _, _, _, rfl, _, _, _, rfl, _, rfl⟩
          show 4 ≤ 1000
          decide
        case g5 =>
          rintro d1 d2 ⟨ds, rfl, _, _, rfl, rfl, _, _, rfl, rfl, _, _, rfl, ⟨_, rfl, rfl⟩, _, _, rfl, ⟨_, rfl, _, _, rfl, ⟨_, rfl, _, _, rfl, rfl, rfl⟩, rfl⟩, rfl⟩ ⟨i, rfl, i0, i1⟩
          refine ⟨_, _, rfl, rfl, i0, i1, fun d hd => ?_⟩
          simp only [List.mem_cons, List.not_mem_nil, or_false] at hd
          rcases hd with rfl | rfl | rfl | rfl
          · exact kw
          · exact kw
          · exact way_none rfl
          · exact way_row (l := [.tuple [.bool true]]) rfl (by decide) fun t ht => by
              rw [List.mem_singleton] at ht
              rw [ht]
              exact beg_row (l := [.bool true]) rfl (by decide) fun t ht => by
                rw [List.mem_singleton] at ht
                rw [ht]
                rfl
        case g6 =>
          intro v d H2 o2 kd hv
          exact ⟨vi, v10, v, di, d10, d, _, ob, rfl, o2.1, pt.mono o2.2, dp_out hi o2, dp_out hv10 o2, beg_flat ft (by decide), hv, kd, trivial, trivial⟩
    clear pt hi hb kb hw kw S5
    rintro σ G ⟨vi, vb, vw, di, db, dw, wy, ob, rfl, S5, pt, hi, hb, kb, hw, kw, _, _⟩
    -- what is told for the maker that may be spoilt
    have mok := MkOk.of kb kw
    have hiH := dp_mono wo_same' di hi
    have hbH := dp_mono wo_same' db hb
    have hwH := dp_mono wo_same' dw hw
    refine ⟨_, rfl, _, rfl, _, rfl, vi, vb, vw, di, db, dw, rfl, hiH, hbH, hwH, mok, fun G6 s6 => ?_⟩
    refine ⟨_, rfl, _, rfl, _, rfl, vi, vb, vw, di, db, dw, rfl, dp_mono s6 _ hiH, dp_mono s6 _ hbH, dp_mono s6 _ hwH, mok, fun G7 s7 => ?_⟩
    refine ⟨wordO_scal _, _, rfl, ?_⟩
    rw [decide_eq_true rfl]
    refine iteF ?_
    have o7 := Out.of_same S5 (Same.trans s6 s7)
    have S7 := o7.1
    have pt := pt.mono o7.2
    clear hiH hbH hwH s6 s7
    -- the right maker, told by lists
    have ptH := pt.mono (wo_same' (H := G7) (p := p))
    refine ⟨_, rfl, q, _, _, _, rfl, rfl, ptH.q, at0, ?_⟩
    refine ⟨_, rfl, q, _, _, _, rfl, rfl, ptH.q, at1, pb, _, rfl, .inr ptH.b, fun lb hlb => ?_⟩
    have s8 := NF.Same.new (o := .lst (b.map dV)) (Same.refl G7) hlb
    have hb8 := upd_same (H := G7) (a := lb) (o := .lst (b.map dV))
    generalize upd G7 lb (.lst (b.map dV)) = G8 at s8 hb8
    have ptH := ptH.mono s8
    obtain ⟨as, hwa, hl1, hw2⟩ := id ptH.w
    refine ⟨_, rfl, q, _, _, _, rfl, rfl, ptH.q, at2, pw, rfl, ⟨_, hwa⟩, fun D hD => ?_⟩
    refine lc_tup (xs := as.map V.ref) (fun j Z => Same G8 Z ∧ ∃ cs : List Addr, cs.length = j ∧ Z D = some (.lst (cs.map V.ref)) ∧ ∀ (k : Nat) (c : Addr) (v : List Deed), cs[k]? = some c → ws[k]? = some v → c ≠ D ∧ Z c = some (.lst (v.map dV))) ⟨NF.Same.new (Same.refl G8) hD, [], rfl, upd_same, fun k c v e => by simp at e⟩ (fun j Z _ z => NF.Same.tup z.1 hwa) ?_ ?_
    · rintro j v Z hv ⟨sZ, cs, hcl, hZ, hc⟩
      have hj := (List.getElem?_eq_some_iff.mp hv).1
      rw [List.length_map] at hj
      obtain rfl : V.ref (as[j]) = v := by
        rw [List.getElem?_map, List.getElem?_eq_getElem hj] at hv
        exact Option.some.inj hv
      have hjw : j < ws.length := by omega
      have hr1 := NF.Same.tup sZ (hw2 j as[j] ws[j] (List.getElem?_eq_getElem hj) (List.getElem?_eq_getElem hjw))
      refine ⟨rfl, _, rfl, as[j], _, rfl, .inr hr1, fun c hcn => ?_⟩
      have hDZ : (upd Z c (.lst (ws[j].map dV))) D = some (.lst (cs.map V.ref)) := by
        rw [upd_ne fun z => by rw [z, hcn] at hZ; cases hZ]
        exact hZ
      have cD : c ≠ D := fun z => by
        rw [z, hZ] at hcn
        cases hcn
      refine ⟨_, hDZ, by rw [List.length_map, hcl]; exact Nat.lt_of_lt_of_le (show j < 10000 by omega) (by decide), NF.Same.mut (NF.Same.new sZ (L2.Same.free (Same.refl _) hcn)) hD, cs ++ [c], by simp [hcl], ?_, fun k c' v' e1 e2 => ?_⟩
      · rw [upd_same, List.map_append]
        rfl
      · rcases Nat.lt_trichotomy k j with h | h | h
        · rw [List.getElem?_append_left (by omega)] at e1
          obtain ⟨cd', this⟩ := hc k c' v' e1 e2
          refine ⟨cd', ?_⟩
          rw [upd_ne cd', upd_ne fun z => by rw [z, hcn] at this; cases this]
          exact this
        · subst h
          rw [List.getElem?_append_right (by omega), hcl, Nat.sub_self] at e1
          rw [List.getElem?_eq_getElem hjw] at e2
          cases e1
          cases e2
          exact ⟨cD, by rw [upd_ne cD, upd_same]⟩
        · rw [List.getElem?_eq_none (by simp [hcl]; omega)] at e1
          cases e1
    · rintro Z ⟨sZ, cs, hcl, hZ, hc⟩
      rw [List.length_map, hl1] at hcl
      have hbZ := sZ _ _ hb8
      refine ⟨_, _, _, .int (n : Int), dataL b, .list (ws.map dataL), rfl, .int _, .lst (SqL.of hbZ) (dp_deeds b), .lst (SqL.of hZ) (dp_listL cs ws hcl fun j a w e1 e2 => (hc j a w e1 e2).2), ok_list dr, fun G9 s9 => ?_⟩
      rw [due_good dr]
      refine ⟨rfl, _, rfl, iteF ?_⟩
      have o9 := Out.of_same S7 (Same.trans s8 (Same.trans sZ s9))
      have S9 := o9.1
      have pt := pt.mono o9.2
      clear hb8 hbZ hZ hc s8 sZ s9 ptH hwa hw2 hlb hD
      -- the maker
      refine ⟨_, rfl, q, n, b, ws, rfl, (pt.mono wo_same').mk', dr.good, fun x G10 s10 ma => ?_⟩
      have o10 := Out.of_same S9 s10
      have S10 := o10.1
      have pt := pt.mono o10.2
      have g := dr.good
      -- odd inlets
      have ev := fun (σ : L2.St) (e : σ[2]? = some (some (.ref q))) => ev_lst (K := K) (p := p) (B := wo G10 p) (evA_cons (ev_ixt (tj := tC (.int 0)) e pt.q at0 (.int _) fun H Q q => q) (evA_cons (ev_neg (i := 1)) (evA_cons (ev_bl (b := true)) (evA_cons (ev_str (s := "0")) (evA_cons ev_non evA_nil))))) fun ds h => by
        obtain ⟨_, _, rfl, rfl, _, _, rfl, rfl, _, _, rfl, rfl, _, _, rfl, rfl, _, _, rfl, rfl, rfl⟩ := h
        show 5 ≤ 1000
        decide
      refine set_in ?_
      dsimp only
      refine seq_in ?_
      refine for_in (K := K) ?_
      refine ev _ rfl G10 _ S10 (Same.refl _) ?_
      rintro v d G11 o11 ⟨_, rfl, _, _, rfl, rfl, _, _, rfl, rfl, _, _, rfl, rfl, _, _, rfl, rfl, _, _, rfl, rfl, rfl⟩ hv
      obtain ⟨a, xs, rfl, ha, hd⟩ := dp_lst hv
      have odd : ∀ d ∈ [PyData.int (n : Int), .int (-1), .bool true, .str "0", .none], okIP n d = false ∧ rowP d = none ∧ SeqAt.shaped d = true ∧ PyData.depth d ≤ 60 := fun d hd => by
        simp only [List.mem_cons, List.not_mem_nil, or_false] at hd
        rcases hd with rfl | rfl | rfl | rfl | rfl
        · refine ⟨?_, rfl, rfl, Nat.zero_le _⟩
          show (_ && decide ((n : Int) < (n : Int))) = false
          rw [decide_eq_false (Int.lt_irrefl _), Bool.and_false]
        · exact ⟨rfl, rfl, rfl, Nat.zero_le _⟩
        · exact ⟨rfl, rfl, rfl, Nat.zero_le _⟩
        · exact ⟨rfl, rfl, by decide +kernel, Nat.zero_le _⟩
        · exact ⟨rfl, rfl, rfl, Nat.zero_le _⟩
      have maW := ma.woP S10
      clear ma
      refine ⟨a, rfl, ⟨xs, L2.Same.seq wo_same' ha⟩, for_list (xs := xs) (fun j σ Z => Out p G11 Z ∧ ∃ v5 v13 : Option V, σ = [some (.ref sl), some (.ref p), some (.ref q), some (.int wy), some (.ref x), v5, none, none, none, some vi, some vb, some vw, ob, v13, none]) ⟨Out.refl o11.1, none, none, rfl⟩ (fun j σ Z _ z => L2.Same.seq wo_same' (L2.Same.seq z.1.2 ha)) ?_ ?_⟩
      · rintro j v σ Z hx ⟨oZ, v5, v13, rfl⟩
        have hj := (List.getElem?_eq_some_iff.mp hx).1
        have xl := dpall_len hd
        have hjl : j < [PyData.int (n : Int), .int (-1), .bool true, .str "0", .none].length := by omega
        have hvd := dp_mono wo_same' _ (dp_out (dpall_get hd hx (List.getElem?_eq_getElem hjl)) oZ)
        obtain ⟨oi, nr, sh, dp6⟩ := odd _ (List.getElem_mem hjl)
        generalize [PyData.int (n : Int), .int (-1), .bool true, .str "0", .none][j] = d at hvd oi nr sh dp6
        have ma := (maW.mono (o11.trans oZ).2).mono (wo_same' (H := Z) (p := p))
        have ptZ := (pt.mono (o11.trans oZ).2).mono (wo_same' (H := Z) (p := p))
        have sc := dp_scal hvd nr
        refine ⟨(by show 2 ≤ sizeLine; decide), fun D2 hD2 => ?_⟩
        refine ⟨D2, rfl, ⟨_, SqL.of upd_same⟩, for_list (xs := [.ref (ga K "least"), .ref (ga K "greatest")]) (fun i σ Y => Same Z Y ∧ Y D2 = some (.lst [.ref (ga K "least"), .ref (ga K "greatest")]) ∧ ∃ v13 : Option V, σ = [some (.ref sl), some (.ref p), some (.ref q), some (.int wy), some (.ref x), some v, none, none, none, some vi, some vb, some vw, ob, v13, none]) ⟨NF.Same.new (Same.refl Z) hD2, upd_same, v13, rfl⟩ (fun j σ Y _ z => SqL.of z.2.1) ?_ ?_⟩
        · rintro i y σ Y hy ⟨sY, hD, v13, rfl⟩
          obtain ⟨nm, rfl, hnm⟩ : ∃ nm : Str, y = .ref (ga K nm) ∧ (nm = "least" ∨ nm = "greatest") := by
            match i, hy with
            | 0, hy => cases hy; exact ⟨_, rfl, .inl rfl⟩
            | 1, hy => cases hy; exact ⟨_, rfl, .inr rfl⟩
          refine ⟨_, rfl, _, rfl, _, rfl, nm, x, n, b, ws, v, d, .str "inlet", rfl, hnm, ma.mono sY, dr.good, dp_mono sY _ hvd, sc, .inr ⟨oi, rfl⟩, fun Y1 t1 => ⟨true, rfl, iteF ?_⟩⟩
          have sY1 := Same.trans sY t1
          refine ⟨_, rfl, _, rfl, _, rfl, q, _, _, _, rfl, rfl, NF.Same.tup sY1 ptZ.q, at0, _, _, rfl, rfl, nm, x, n, b, ws, .int ((n : Int) - 1), .int ((n : Int) - 1), .non, rfl, hnm, ma.mono sY1, dr.good, .int _, rfl, .inl ⟨n - 1, by congr 1; omega, by omega, rfl⟩, fun Y2 t2 => ⟨true, rfl, iteF ?_⟩⟩
          exact ⟨Same.trans sY1 t2, t2 _ _ (t1 _ _ hD), _, rfl⟩
        · rintro σ Y ⟨sY, hD, v13, rfl⟩
          refine ⟨_, rfl, _, rfl, x, n, b, ws, v, .non, d, .none, rfl, ma.mono sY, dr.good, dp_mono sY _ hvd, .non, ⟨Nat.zero_le _, fun w hw => by cases hw⟩, .inl ⟨oi, fun p1 Y1 t1 tp1 => ?_⟩⟩
          have hvY := dp_mono (Same.trans sY t1) _ hvd
          refine ⟨_, rfl, ne_pair tp1 hvY (by decide +kernel) sh dp6 fun t ht => ⟨_, rfl, iteF ?_⟩⟩
          have s2 := Same.trans (Same.trans sY t1) (NF.Same.new (o := .tup [.str "inlet", v]) (Same.refl Y1) ht)
          refine ⟨_, rfl, _, rfl, x, n, b, ws, v, .int 0, true, d, .int 0, rfl, ma.mono s2, dr.good, dp_mono s2 _ hvd, .int _, .inl ⟨oi, fun p2 Y2 t2 tp2 => ?_⟩⟩
          have s3 := Same.trans s2 t2
          refine ⟨_, rfl, ne_pair tp2 (dp_mono s3 _ hvd) (by decide +kernel) sh dp6 fun t' ht' => ⟨_, rfl, iteF ?_⟩⟩
          exact ⟨oZ.trans (Out.of_same oZ.1 (Same.trans s3 (NF.Same.new (o := .tup [.str "inlet", v]) (Same.refl Y2) ht'))), _, _, rfl⟩
      · rintro σ Z ⟨oZ, v5, v13, rfl⟩
        have oW := o11.trans oZ
        have SZ := oZ.1
        have pt := pt.mono oW.2
        have maW := maW.mono oW.2
        have ptH := pt.mono (wo_same' (H := Z) (p := p))
        obtain ⟨as2, hwa, hl2, _⟩ := id ptH.w
        refine ⟨_, rfl, q, _, _, _, rfl, rfl, ptH.q, at2, pw, _, rfl, .inr hwa, ?_⟩
        rw [List.length_map, hl2]
        refine set_in ?_
        dsimp only
        refine seq_in ?_
        refine for_in (K := K) ?_
        have i0 : ∀ {σ : L2.St}, Ev K p (wo Z p) σ (· = .tuple [.int 0]) (tTup (tCons (tC (.int 0)) tNil)) := fun {σ} => evE_tup (evE_cons ev_int evA_nil) (by decide)
        have e0 : ∀ {σ : L2.St}, Ev K p (wo Z p) σ (· = .tuple []) (tTup tNil) := fun {σ} => evE_tup evA_nil (by decide)
        have ev := fun (σ : L2.St) (e : σ[6]? = some (some (.int (ws.length : Int)))) => evE_lst (K := K) (p := p) (B := wo Z p) (evE_cons ev_non (evE_cons (evE_tup (evE_cons e0 (evE_cons e0 evA_nil)) (by decide)) (evE_cons (evE_tup (evE_cons (evE_rep (i := 201) i0 (by decide) (by decide)) (evE_cons i0 evA_nil)) (by decide)) (evE_cons (evE_tup (evE_cons e0 (evE_cons (evE_rep (i := 41) i0 (by decide) (by decide)) evA_nil)) (by decide))
          (evE_cons (evE_tup (evE_cons (evE_tup (evE_cons (ev_var e (.int _)) evA_nil) (by show 1 ≤ 1000; decide)) (evE_cons i0 evA_nil)) (by show 2 ≤ 1000; decide)) (evE_cons (evE_tup (evE_cons e0 (evE_cons (evE_tup (evE_cons (ev_neg (i := 1)) evA_nil) (by decide)) evA_nil)) (by decide)) (evE_cons (evE_tup (evE_cons (evE_tup (evE_cons (ev_bl (b := true)) evA_nil) (by decide)) (evE_cons i0 evA_nil)) (by decide)) (evE_cons (evE_tup (evE_cons i0 evA_nil) (by decide)) (evE_cons (ev_str (s := "ab")) (evE_cons (evE_tup (evE_cons e0 (evE_cons i0 (evE_cons e0 evA_nil))) (by decide))
          (evE_cons (evE_tup (evE_cons e0 (evE_cons (evE_tup (evE_cons (ev_var e (.int _)) evA_nil) (by show 1 ≤ 1000; decide)) evA_nil)) (by show 2 ≤ 1000; decide)) (evE_cons (evE_tup (evE_cons (ev_int (i := 0)) (evE_cons (ev_int (i := 0)) evA_nil)) (by decide)) evA_nil)))))))))))) (by show 12 ≤ 1000; decide)
        refine ev _ rfl Z _ SZ (Same.refl _) ?_
        rintro v d G12 o12 rfl hv
        obtain ⟨a, xs, rfl, ha, hd⟩ := dp_lst hv
        have hd : DpAll K (wo G12 p) xs (courses (ws.length : Int)) := hd
        have xl := dpall_len hd
        refine ⟨a, rfl, ⟨xs, L2.Same.seq wo_same' ha⟩, for_list (xs := xs) (fun j σ Y => Out p G12 Y ∧ ∃ v7 : Option V, σ = [some (.ref sl), some (.ref p), some (.ref q), some (.int wy), some (.ref x), v5, some (.int (ws.length : Int)), v7, none, some vi, some vb, some vw, ob, v13, none]) ⟨Out.refl o12.1, none, rfl⟩ (fun j σ Y _ z => L2.Same.seq wo_same' (L2.Same.seq z.1.2 ha)) ?_ ?_⟩
        · rintro j v σ Y hx ⟨oY, v7, rfl⟩
          have hj := (List.getElem?_eq_some_iff.mp hx).1
          have hjl : j < (courses (ws.length : Int)).length := by omega
          have hvd := dp_mono wo_same' _ (dp_out (dpall_get hd hx (List.getElem?_eq_getElem hjl)) oY)
          obtain ⟨oc, sh, d6, f2⟩ := bad_course ws.length _ (List.getElem_mem hjl)
          have ma := (maW.mono (o12.trans oY).2).mono (wo_same' (H := Y) (p := p))
          refine ⟨_, rfl, _, rfl, x, n, b, ws, .int 0, v, .int 0, _, rfl, ma, dr.good, .int _, hvd, f2, .inr (.inl ⟨0, rfl, by omega, oc, fun p1 Y1 t1 tp1 => ?_⟩)⟩
          refine ⟨_, rfl, ne_pair tp1 (dp_mono t1 _ hvd) (by decide +kernel) sh d6 fun t ht => ⟨_, rfl, iteF ?_⟩⟩
          exact ⟨oY.trans (Out.of_same oY.1 (Same.trans t1 (NF.Same.new (o := .tup [.str "course", v]) (Same.refl Y1) ht))), _, rfl⟩
        · rintro σ Y ⟨oY, v7, rfl⟩
          have oW := o12.trans oY
          have SY := oY.1
          have maW := maW.mono oW.2
          have ma := maW.mono (wo_same' (H := Y) (p := p))
          -- a course that is let
          have i0 : ∀ {σ : L2.St}, Ev K p (wo Y p) σ (· = .tuple [.int 0]) (tTup (tCons (tC (.int 0)) tNil)) := fun {σ} => evE_tup (evE_cons ev_int evA_nil) (by decide)
          have ev := fun (σ : L2.St) (e : σ[6]? = some (some (.int (ws.length : Int)))) => evE_tup (K := K) (p := p) (B := wo Y p) (evE_cons (evE_rep (i := 200) i0 (by decide) (by decide)) (evE_cons (evE_rep (i := 40) (evE_tup (evE_cons (ev_i2 (g := fun i j => i - j) (P := fun d => d = .int ((ws.length : Int) - 1)) (ev_var e (.int _)) (ev_int (i := 1)) fun d1 d2 e1 e2 => ⟨_, _, e1, e2, rfl⟩) evA_nil) (by show 1 ≤ 1000; decide)) (by decide) (by decide)) evA_nil)) (by show 2 ≤ 1000; decide)
          refine ⟨_, rfl, ?_⟩
          refine cons_c ?_
          refine cons_e ?_
          refine ev _ rfl Y _ SY (Same.refl _) ?_
          rintro v d G13 o13 rfl hv
          have ma13 := (maW.mono o13.2).mono (wo_same' (H := G13) (p := p))
          have hvd := dp_mono wo_same' _ hv
          obtain ⟨a1, xs1, rfl, ha1, hd1⟩ := dp_tup hvd
          have cr : CrsR K G13 a1 (List.replicate 200 0) (List.replicate 40 (ws.length - 1)) := by
            cases hd1 with
            | cons h1 r1 =>
              cases r1 with
              | cons h2 r2 =>
                cases r2
                obtain ⟨b1, y1, rfl, hb1, e1⟩ := dp_tup h1
                obtain ⟨b2, y2, rfl, hb2, e2⟩ := dp_tup h2
                obtain rfl : y1 = vNs (List.replicate 200 0) := nums_of (by rw [List.map_replicate]; exact e1)
                obtain rfl : y2 = vNs (List.replicate 40 (ws.length - 1)) := nums_of (by
                  rw [List.map_replicate, show ((ws.length - 1 : Nat) : Int) = (ws.length : Int) - 1 by omega]
                  exact e2)
                exact ⟨b1, b2, .inr ha1, .inr hb1, .inr hb2⟩
          have w4 : ∀ v ∈ ws, v.length ≤ 4 := fun v hv => (dr.wy v hv).2.1
          have l1 := deeds_len (ks := List.replicate 200 0) w4
          have l2 := deeds_len (ks := List.replicate 40 (ws.length - 1)) w4
          rw [List.length_replicate] at l1 l2
          refine ⟨x, n, b, ws, .int 0, _, .int 0, _, rfl, ma13, dr.good, .int _, hvd, few2_of rfl, .inr (.inr ⟨0, a1, _, _, rfl, by omega, rfl, cr, ⟨fun k hk => by rw [(List.mem_replicate.mp hk).2]; omega, fun k hk => by rw [(List.mem_replicate.mp hk).2]; omega, by rw [List.length_replicate]; decide, by rw [List.length_replicate]; decide, by rw [List.length_replicate]; decide⟩, by omega, by omega, fun G14 s14 => ?_⟩)⟩
          refine ⟨rfl, _, rfl, iteF ?_⟩
          have o14 := Out.of_same o13.1 s14
          have S14 := o14.1
          have maW := maW.mono (o13.trans o14).2
          clear hv hvd cr ma13 ha1 hd1
          -- odd pieces
          refine next_in ?_
          dsimp only
          refine seq_in ?_
          refine for_in (K := K) ?_
          have ev := fun (σ : L2.St) => evE_lst (K := K) (p := p) (B := wo G14 p) (σ := σ) (evE_cons (ev_int (i := 0)) (evE_cons (ev_neg (i := 1)) (evE_cons ev_non (evE_cons (ev_bl (b := true)) (evE_cons (ev_str (s := "1")) (evE_cons (ev_int (i := 2001)) (evE_cons (te := tOp (rI CPow fun i j => .int (i ^ j.toNat)) (tC (.int 10)) (tC (.int 20))) (ev_sc (d := .int (10 ^ (20 : Int).toNat)) (fun _ => .int _) fun H Q q => ⟨_, _, rfl, rfl, ⟨by decide, by decide, by decide⟩, q⟩) evA_nil))))))) (by show 7 ≤ 1000; decide)
          refine ev _ G14 _ S14 (Same.refl _) ?_
          rintro v d G15 o15 rfl hv
          obtain ⟨a, xs, rfl, ha, hd⟩ := dp_lst hv
          have hd : DpAll K (wo G15 p) xs pieces := hd
          have xl := dpall_len hd
          refine ⟨a, rfl, ⟨xs, L2.Same.seq wo_same' ha⟩, for_list (xs := xs) (fun j σ Y => Out p G15 Y ∧ ∃ v8 : Option V, σ = [some (.ref sl), some (.ref p), some (.ref q), some (.int wy), some (.ref x), v5, some (.int (ws.length : Int)), v7, v8, some vi, some vb, some vw, ob, v13, none]) ⟨Out.refl o15.1, none, rfl⟩ (fun j σ Y _ z => L2.Same.seq wo_same' (L2.Same.seq z.1.2 ha)) ?_ ?_⟩
          · rintro j v σ Y hx ⟨oY, v8, rfl⟩
            have hj := (List.getElem?_eq_some_iff.mp hx).1
            have hjl : j < pieces.length := by omega
            have hvW := dp_out (dpall_get hd hx (List.getElem?_eq_getElem hjl)) oY
            obtain ⟨op, sh, d6⟩ := bad_piece _ (List.getElem_mem hjl)
            refine ⟨_, rfl, ?_⟩
            refine cons_c ?_
            refine cons_v (v := v) rfl ?_
            refine cons_e ?_
            refine ev_eq (K := K) (p := p) (B := wo Y p) (ev_pick rfl (by decide) (by decide)) (fun d ⟨i, e, _⟩ => ⟨i, e⟩) Y _ oY.1 (Same.refl _) ?_
            rintro vb2 d2 Y2 o2 ⟨bo, rfl⟩ hb2
            cases hb2
            have ma := (maW.mono (o15.trans (oY.trans o2)).2).mono (wo_same' (H := Y2) (p := p))
            have hvd := dp_mono wo_same' _ (dp_out hvW o2)
            refine ⟨x, n, b, ws, .int 0, v, bo, .int 0, _, rfl, ma, dr.good, .int _, hvd, .inr (.inl ⟨0, rfl, by omega, op, fun p1 Y3 t3 tp3 => ?_⟩)⟩
            refine ⟨_, rfl, ne_pair tp3 (dp_mono t3 _ hvd) (by decide +kernel) sh d6 fun t ht => ⟨_, rfl, iteF ?_⟩⟩
            exact ⟨oY.trans (o2.trans (Out.of_same o2.1 (Same.trans t3 (NF.Same.new (o := .tup [.str "count", v]) (Same.refl Y3) ht)))), _, rfl⟩
          · rintro σ Y ⟨oY, v8, rfl⟩
            have maW := maW.mono (o15.trans oY).2
            refine ⟨_, rfl, ?_⟩
            refine cons_c ?_
            refine cons_e ?_
            refine ev_if (K := K) (p := p) (B := wo Y p) (P := fun d => ∃ k : Nat, d = .int (k : Int) ∧ 1 ≤ k ∧ k ≤ 2000) (evT_eq (ev_pick rfl (by decide) (by decide)) fun d ⟨i, e, _⟩ => ⟨i, e⟩) (Ev.imp ev_int fun d e => ⟨2000, e, by decide, by decide⟩) (Ev.imp ev_int fun d e => ⟨9, e, by decide, by decide⟩) Y _ oY.1 (Same.refl _) ?_
            rintro v2 d2 Y2 o2 ⟨pc, rfl, pc1, pc2⟩ h2
            obtain rfl := dp_int h2
            have ma := (maW.mono o2.2).mono (wo_same' (H := Y2) (p := p))
            refine ⟨x, n, b, ws, .int 0, _, true, .int 0, _, rfl, ma, dr.good, .int _, .int _, .inr (.inr ⟨0, pc, rfl, by omega, rfl, pc1, pc2, fun Y3 t3 => ?_⟩)⟩
            exact ⟨rfl, k _⟩
end
end K25
set_option Elab.async false
set_option linter.all false
set_option maxRecDepth 100000
set_option maxHeartbeats 4000000
namespace K25
open PySem PySem.Spec PyProof.Rows L2 He NF RZ NT
theorem all_ok {P : Program} {w : World} {K : PySem.W.Frag} {h : Heap} {mg : Str → Option Value} {f : Addr} (X : K.In h) (G : h.Ns mainGlobals mg) (hfa : mg ("law" : Str) = some (.ref f)) (c : SaysP exB fn K) :
    ∃ fd : FuncData, (∀ (s : Shared) (v : Value), BindsTo s fd ⟨[v], []⟩ [("_law_script", v)]) ∧ ∀ base : Heap, K.In base → base.Ns mainGlobals mg → FnOk P w K mg base CX0 10 f fd ["_law_script"] (spLaw K) := by
  have ht : ∀ f ∈ exL, f K = true := fun f hf => List.all_eq_true.mp c.truth f hf
  have b_nam : (namB gs FS) K = true := ht _ (List.mem_of_getElem? (i := 0) rfl)
  have b_int_MOST_INLETS : (intB "MOST_INLETS" 3) K = true := ht _ (List.mem_of_getElem? (i := 1) rfl)
  have b_int_MOST_WAYS : (intB "MOST_WAYS" 4) K = true := ht _ (List.mem_of_getElem? (i := 2) rfl)
  have b_int_MOST_DEEDS : (intB "MOST_DEEDS" 600) K = true := ht _ (List.mem_of_getElem? (i := 3) rfl)
  have b_int_MOST_DEEDS_OF_SEVERAL : (intB "MOST_DEEDS_OF_SEVERAL" 24) K = true := ht _ (List.mem_of_getElem? (i := 4) rfl)
  have b_int_MOST_FIRST : (intB "MOST_FIRST" 200) K = true := ht _ (List.mem_of_getElem? (i := 5) rfl)
  have b_int_MOST_THEN : (intB "MOST_THEN" 40) K = true := ht _ (List.mem_of_getElem? (i := 6) rfl)
  have b_int_LAST_PIECE : (intB "LAST_PIECE" 2000) K = true := ht _ (List.mem_of_getElem? (i := 7) rfl)
  have b_exc_BadMaker : (excKB "BadMaker" "word") K = true := ht _ (List.mem_of_getElem? (i := 8) rfl)
  have b_exc_TooMany : (excKB "TooMany" "word") K = true := ht _ (List.mem_of_getElem? (i := 9) rfl)
  have b_exc_BadInlet : (excKB "BadInlet" "thing") K = true := ht _ (List.mem_of_getElem? (i := 10) rfl)
  have b_exc_BadCourse : (excKB "BadCourse" "thing") K = true := ht _ (List.mem_of_getElem? (i := 11) rfl)
  have b_exc_BadCount : (excKB "BadCount" "thing") K = true := ht _ (List.mem_of_getElem? (i := 12) rfl)
  have b_kit : (kitPB kits) K = true := ht _ (List.mem_of_getElem? (i := 13) rfl)
  have b_exm : (exmPB exms) K = true := ht _ (List.mem_of_getElem? (i := 14) rfl)
  have b_cls : (clsB "Table") K = true := ht _ (List.mem_of_getElem? (i := 15) rfl)
  have b_fld : (fldsB "Table" ["head", "loop", "rise"]) K = true := ht _ (List.mem_of_getElem? (i := 16) rfl)
  have b_ty : (tyB "Table") K = true := ht _ (List.mem_of_getElem? (i := 17) rfl)
  have b_mk_Table : (mkB "Table") K = true := ht _ (List.mem_of_getElem? (i := 18) rfl)
  have b_call : (callB "Table") K = true := ht _ (List.mem_of_getElem? (i := 19) rfl)
  have b_clsM : (clsB "Maker") K = true := ht _ (List.mem_of_getElem? (i := 20) rfl)
  have b_fldM : (fldsB "Maker" ["inlets", "begin", "ways"]) K = true := ht _ (List.mem_of_getElem? (i := 21) rfl)
  have b_tyM : (tyB "Maker") K = true := ht _ (List.mem_of_getElem? (i := 22) rfl)
  have b_mk_Maker : (mkB "Maker") K = true := ht _ (List.mem_of_getElem? (i := 23) rfl)
  have b_met_need : (metB "Maker" "need") K = true := ht _ (List.mem_of_getElem? (i := 24) rfl)
  have b_clsR : (clsB "Round") K = true := ht _ (List.mem_of_getElem? (i := 25) rfl)
  have b_fldR : (fldsB "Round" ["taken", "marks"]) K = true := ht _ (List.mem_of_getElem? (i := 26) rfl)
  have b_mk_Round : (mkB "Round") K = true := ht _ (List.mem_of_getElem? (i := 27) rfl)
  have b_clsO : (clsB "Outlook") K = true := ht _ (List.mem_of_getElem? (i := 28) rfl)
  have b_fldO : (fldsB "Outlook" ["most", "begin", "rounds", "giving", "shares", "taken", "lasts"]) K = true := ht _ (List.mem_of_getElem? (i := 29) rfl)
  have b_mk_Outlook : (mkB "Outlook") K = true := ht _ (List.mem_of_getElem? (i := 30) rfl)
  have b_met_better : (metB "Outlook" "better") K = true := ht _ (List.mem_of_getElem? (i := 31) rfl)
  have b_met_stopping : (metB "Outlook" "stopping") K = true := ht _ (List.mem_of_getElem? (i := 32) rfl)
  have b_met_look : (metB "Outlook" "look") K = true := ht _ (List.mem_of_getElem? (i := 33) rfl)
  have b_met_best_way : (metB "Outlook" "best_way") K = true := ht _ (List.mem_of_getElem? (i := 34) rfl)
  have b_met_ahead_of : (metB "Outlook" "ahead_of") K = true := ht _ (List.mem_of_getElem? (i := 35) rfl)
  have b_met_values_up_to : (metB "Outlook" "values_up_to") K = true := ht _ (List.mem_of_getElem? (i := 36) rfl)
  have b_met_others_ahead : (metB "Outlook" "others_ahead") K = true := ht _ (List.mem_of_getElem? (i := 37) rfl)
  have b_met_form : (metB "Outlook" "form") K = true := ht _ (List.mem_of_getElem? (i := 38) rfl)
  have b_met_course : (metB "Outlook" "course") K = true := ht _ (List.mem_of_getElem? (i := 39) rfl)
  have T : Txt K mg gs FS := nam_ok b_nam X G
  obtain ⟨tok_MOST_INLETS, h_MOST_INLETS⟩ := int_ok b_int_MOST_INLETS X G
  obtain ⟨tok_MOST_WAYS, h_MOST_WAYS⟩ := int_ok b_int_MOST_WAYS X G
  obtain ⟨tok_MOST_DEEDS, h_MOST_DEEDS⟩ := int_ok b_int_MOST_DEEDS X G
  obtain ⟨tok_MOST_DEEDS_OF_SEVERAL, h_MOST_DEEDS_OF_SEVERAL⟩ := int_ok b_int_MOST_DEEDS_OF_SEVERAL X G
  obtain ⟨tok_MOST_FIRST, h_MOST_FIRST⟩ := int_ok b_int_MOST_FIRST X G
  obtain ⟨tok_MOST_THEN, h_MOST_THEN⟩ := int_ok b_int_MOST_THEN X G
  obtain ⟨tok_LAST_PIECE, h_LAST_PIECE⟩ := int_ok b_int_LAST_PIECE X G
  have x_BadMaker := excK_ok b_exc_BadMaker
  have x_TooMany := excK_ok b_exc_TooMany
  have x_BadInlet := excK_ok b_exc_BadInlet
  have x_BadCourse := excK_ok b_exc_BadCourse
  have x_BadCount := excK_ok b_exc_BadCount
  have tcl := cls_ok b_cls
  have ty := ty_ok b_ty
  have tc : TabC K (ga K "Table") := ⟨tcl, flds_ok b_fld (by decide +kernel), flds_ok b_fld (by decide +kernel), flds_ok b_fld (by decide +kernel), ty.ac, ty.ag, ty.at_, ty.am, ty.self, ty.tup, ty.int, ty.non⟩
  have tyM := ty_ok b_tyM
  have mc : MakC K (ga K "Maker") := ⟨cls_ok b_clsM, flds_ok b_fldM (by decide +kernel), flds_ok b_fldM (by decide +kernel), flds_ok b_fldM (by decide +kernel), tyM.ac, tyM.ag, tyM.at_, tyM.am, tyM.self, tyM.tup, tyM.int⟩
  have rc : RouC K (ga K "Round") := ⟨cls_ok b_clsR, flds_ok b_fldR (by decide +kernel), flds_ok b_fldR (by decide +kernel)⟩
  have oc : OutC K (ga K "Outlook") := ⟨cls_ok b_clsO, flds_ok b_fldO (by decide +kernel), flds_ok b_fldO (by decide +kernel), flds_ok b_fldO (by decide +kernel), flds_ok b_fldO (by decide +kernel), flds_ok b_fldO (by decide +kernel), flds_ok b_fldO (by decide +kernel), flds_ok b_fldO (by decide +kernel)⟩
  obtain ⟨f0, F0⟩ := c.def_ 0 (d := dG "shortest_lap" s_shortest_lap) rfl
  obtain ⟨f1, F1⟩ := c.def_ 1 (d := dG "plain_form" s_plain_form) rfl
  obtain ⟨f2, F2⟩ := c.def_ 2 (d := dG "is_integer" s_is_integer) rfl
  obtain ⟨f3, F3⟩ := c.def_ 3 (d := dG "is_count" s_is_count) rfl
  obtain ⟨f4, F4⟩ := c.def_ 4 (d := dG "is_row" s_is_row) rfl
  obtain ⟨f5, F5⟩ := c.def_ 5 (d := dG "is_climb" s_is_climb) rfl
  obtain ⟨f6, F6⟩ := c.def_ 6 (d := dG "check_table" s_check_table) rfl
  obtain ⟨f7, F7⟩ := c.def_ 7 (d := dM "Table" "__init__" "Table.__init__" s_Table_init [.adr e0, .int 0]) rfl
  obtain ⟨f8, F8⟩ := c.def_ 8 (d := dG "is_deed" s_is_deed) rfl
  obtain ⟨f9, F9⟩ := c.def_ 9 (d := dG "are_deeds" s_are_deeds) rfl
  obtain ⟨f10, F10⟩ := c.def_ 10 (d := dG "are_ways" s_are_ways) rfl
  obtain ⟨f11, F11⟩ := c.def_ 11 (d := dG "check_maker" s_check_maker) rfl
  obtain ⟨f12, F12⟩ := c.def_ 12 (d := dM "Maker" "__init__" "Maker.__init__" s_Maker_init []) rfl
  obtain ⟨f13, F13⟩ := c.def_ 13 (d := dM "Round" "__init__" "Round.__init__" s_Round_init []) rfl
  obtain ⟨f14, F14⟩ := c.def_ 14 (d := dG "is_pair" s_is_pair) rfl
  obtain ⟨f15, F15⟩ := c.def_ 15 (d := dG "are_numbers" s_are_numbers) rfl
  obtain ⟨f16, F16⟩ := c.def_ 16 (d := dG "is_course" s_is_course) rfl
  obtain ⟨f17, F17⟩ := c.def_ 17 (d := dG "check_inlet" s_check_inlet) rfl
  obtain ⟨f18, F18⟩ := c.def_ 18 (d := dG "marks_along" s_marks_along) rfl
  obtain ⟨f19, F19⟩ := c.def_ 19 (d := dG "_law_pick" s__law_pick) rfl
  obtain ⟨f20, F20⟩ := c.def_ 20 (d := dG "_law_source" s__law_source) rfl
  obtain ⟨f21, F21⟩ := c.def_ 21 (d := dG "_law_deeds" s__law_deeds) rfl
  obtain ⟨f22, F22⟩ := c.def_ 22 (d := dG "_law_maker" s__law_maker) rfl
  obtain ⟨f23, F23⟩ := c.def_ 23 (d := dG "_law_made" s__law_made) rfl
  obtain ⟨f24, F24⟩ := c.def_ 24 (d := dM "Outlook" "better" "Outlook.better" s_Outlook_better []) rfl
  obtain ⟨f25, F25⟩ := c.def_ 25 (d := dM "Outlook" "stopping" "Outlook.stopping" s_Outlook_stopping []) rfl
  obtain ⟨f26, F26⟩ := c.def_ 26 (d := dM "Outlook" "__init__" "Outlook.__init__" s_Outlook_init []) rfl
  obtain ⟨f27, F27⟩ := c.def_ 27 (d := dM "Outlook" "look" "Outlook.look" s_Outlook_look []) rfl
  obtain ⟨f28, F28⟩ := c.def_ 28 (d := dM "Outlook" "best_way" "Outlook.best_way" s_Outlook_best_way []) rfl
  obtain ⟨f29, F29⟩ := c.def_ 29 (d := dM "Outlook" "ahead_of" "Outlook.ahead_of" s_Outlook_ahead_of []) rfl
  obtain ⟨f30, F30⟩ := c.def_ 30 (d := dM "Outlook" "values_up_to" "Outlook.values_up_to" s_Outlook_values_up_to []) rfl
  obtain ⟨f31, F31⟩ := c.def_ 31 (d := dM "Outlook" "others_ahead" "Outlook.others_ahead" s_Outlook_others_ahead []) rfl
  obtain ⟨f32, F32⟩ := c.def_ 32 (d := dM "Outlook" "form" "Outlook.form" s_Outlook_form []) rfl
  obtain ⟨f33, F33⟩ := c.def_ 33 (d := dM "Outlook" "course" "Outlook.course" s_Outlook_course []) rfl
  obtain ⟨f34, F34⟩ := c.def_ 34 (d := dM "Maker" "__init__" "Maker.__init__" s_Maker_init []) rfl
  obtain ⟨f35, F35⟩ := c.def_ 35 (d := dM "Maker" "need" "Maker.need" s_Maker_need []) rfl
  obtain ⟨f36, F36⟩ := c.def_ 36 (d := dG "least" s_least) rfl
  obtain ⟨f37, F37⟩ := c.def_ 37 (d := dG "greatest" s_greatest) rfl
  obtain ⟨f38, F38⟩ := c.def_ 38 (d := dGk "course_of" s_course_of [("most", .bl true)]) rfl
  obtain ⟨f39, F39⟩ := c.def_ 39 (d := dG "_law_is_integer" s__law_is_integer) rfl
  obtain ⟨f40, F40⟩ := c.def_ 40 (d := dG "_law_is_count" s__law_is_count) rfl
  obtain ⟨f41, F41⟩ := c.def_ 41 (d := dG "_law_is_deeds" s__law_is_deeds) rfl
  obtain ⟨f42, F42⟩ := c.def_ 42 (d := dG "_law_due" s__law_due) rfl
  obtain ⟨f43, F43⟩ := c.def_ 43 (d := dG "_law_seen" s__law_seen) rfl
  obtain ⟨f44, F44⟩ := c.def_ 44 (d := dG "_law_need_seen" s__law_need_seen) rfl
  obtain ⟨f45, F45⟩ := c.def_ 45 (d := dG "_law_piece_seen" s__law_piece_seen) rfl
  obtain ⟨f46, F46⟩ := c.def_ 46 (d := dG "_law_refused" s__law_refused) rfl
  obtain ⟨f47, F47⟩ := c.def_ 47 (d := dG "_law_spoilt" s__law_spoilt) rfl
  obtain ⟨f48, F48⟩ := c.def_ 48 (d := dG "law" s_law) rfl
  obtain ⟨f49, F49⟩ := c.def_ 49 (d := dM "BadMaker" "__init__" "BadMaker.__init__" s_BadMaker_init []) rfl
  obtain ⟨f50, F50⟩ := c.def_ 50 (d := dM "TooMany" "__init__" "TooMany.__init__" s_TooMany_init []) rfl
  obtain ⟨f51, F51⟩ := c.def_ 51 (d := dM "BadInlet" "__init__" "BadInlet.__init__" s_BadInlet_init []) rfl
  obtain ⟨f52, F52⟩ := c.def_ 52 (d := dM "BadCourse" "__init__" "BadCourse.__init__" s_BadCourse_init []) rfl
  obtain ⟨f53, F53⟩ := c.def_ 53 (d := dM "BadCount" "__init__" "BadCount.__init__" s_BadCount_init []) rfl
  have e := hfa.symm.trans (T.gl "law" (by decide +kernel))
  cases e
  have bl := FunD.bindsA (ps := ["_law_script"]) F48 fun _ _ _ _ _ _ us hl => match us, hl with | [_], _ => rfl
  refine ⟨f48, fun s v => bl s [v] rfl, fun base _ _ => ?_⟩
  have m_BadMaker : ExcI P w K mg base "BadMaker" "word" := x_BadMaker.excI T (by decide +kernel) F49 rfl ⟨rfl, rfl, rfl, by decide +kernel, rfl, by decide +kernel, by decide +kernel⟩ (Or.inl rfl) (Or.inl rfl) (by decide) (by decide) (F49.bindsN fun _ _ _ _ _ _ us hl => match us, hl with | [_, _], _ => rfl)
  have m_TooMany : ExcI P w K mg base "TooMany" "word" := x_TooMany.excI T (by decide +kernel) F50 rfl ⟨rfl, rfl, rfl, by decide +kernel, rfl, by decide +kernel, by decide +kernel⟩ (Or.inl rfl) (Or.inl rfl) (by decide) (by decide) (F50.bindsN fun _ _ _ _ _ _ us hl => match us, hl with | [_, _], _ => rfl)
  have m_BadInlet : ExcI P w K mg base "BadInlet" "thing" := x_BadInlet.excI T (by decide +kernel) F51 rfl ⟨rfl, rfl, rfl, by decide +kernel, rfl, by decide +kernel, by decide +kernel⟩ (Or.inl rfl) (Or.inl rfl) (by decide) (by decide) (F51.bindsN fun _ _ _ _ _ _ us hl => match us, hl with | [_, _], _ => rfl)
  have m_BadCourse : ExcI P w K mg base "BadCourse" "thing" := x_BadCourse.excI T (by decide +kernel) F52 rfl ⟨rfl, rfl, rfl, by decide +kernel, rfl, by decide +kernel, by decide +kernel⟩ (Or.inl rfl) (Or.inl rfl) (by decide) (by decide) (F52.bindsN fun _ _ _ _ _ _ us hl => match us, hl with | [_, _], _ => rfl)
  have m_BadCount : ExcI P w K mg base "BadCount" "thing" := x_BadCount.excI T (by decide +kernel) F53 rfl ⟨rfl, rfl, rfl, by decide +kernel, rfl, by decide +kernel, by decide +kernel⟩ (Or.inl rfl) (Or.inl rfl) (by decide) (by decide) (F53.bindsN fun _ _ _ _ _ _ us hl => match us, hl with | [_, _], _ => rfl)
  have c_shortest_lap : Cal P w K mg base 1 "shortest_lap" (spLap K) := Cal.mk' F0 (ok_shortest_lap F0 T rfl) (T.gl _ (by decide +kernel)) (F0.bindsN fun _ _ _ _ _ _ us hl => match us, hl with | [_, _], _ => rfl)
  have c_plain_form : Cal P w K mg base 2 "plain_form" (spForm K) := Cal.mk' F1 (ok_plain_form F1 T rfl c_shortest_lap) (T.gl _ (by decide +kernel)) (F1.bindsN fun _ _ _ _ _ _ us hl => match us, hl with | [_, _, _], _ => rfl)
  have c_is_integer : Cal P w K mg base 1 "is_integer" spIsInt := Cal.mk' F2 (ok_is_integer F2 T) (T.gl _ (by decide +kernel)) (F2.bindsN fun _ _ _ _ _ _ us hl => match us, hl with | [_], _ => rfl)
  have c_is_count : Cal P w K mg base 2 "is_count" spIsCount := Cal.mk' F3 (ok_is_count F3 T c_is_integer) (T.gl _ (by decide +kernel)) (F3.bindsN fun _ _ _ _ _ _ us hl => match us, hl with | [_], _ => rfl)
  have c_is_row : Cal P w K mg base 1 "is_row" (spIsRow K) := Cal.mk' F4 (ok_is_row F4 T) (T.gl _ (by decide +kernel)) (F4.bindsN fun _ _ _ _ _ _ us hl => match us, hl with | [_], _ => rfl)
  have c_is_climb : Cal P w K mg base 2 "is_climb" (spIsClimb K) := Cal.mk' F5 (ok_is_climb F5 T c_is_row c_is_integer) (T.gl _ (by decide +kernel)) (F5.bindsN fun _ _ _ _ _ _ us hl => match us, hl with | [_], _ => rfl)
  have c_check_table : Cal P w K mg base 3 "check_table" (spCheck K) := Cal.mk' F6 (ok_check_table F6 T c_is_climb c_is_count) (T.gl _ (by decide +kernel)) (F6.bindsN fun _ _ _ _ _ _ us hl => match us, hl with | [_, _, _], _ => rfl)
  have oi_Table : FnOk P w K mg base CX0 4 _ f7 ["self", "head", "loop", "rise"] (spInit K (ga K "Table")) := (ok_Table_init F7 T tcl tc.hd tc.lp tc.ri c_check_table c_plain_form)
  obtain ⟨dd_m_Table, vv_m_Table, bb_m_Table⟩ := F7.binds1 (ps := ["self", "head", "loop", "rise"]) 4 2 (List.cons_ne_nil _ _) rfl fun T kV doc pm an cdv ct us its hl hd => match us, hl, its, hd with | [_, _, _, _], _, [_, _], _ => ⟨_, rfl, rfl⟩
  have m_Table : Mak P w K mg base 4 0 "Table" (ga K "Table") (spInit K (ga K "Table")) [] := ⟨_, _, _, _, mk_ok b_mk_Table, oi_Table, T.gl "Table" (by decide +kernel), bb_m_Table, vv_m_Table⟩
  have c_is_deed : Cal P w K mg base 3 "is_deed" spDeed := Cal.mk' F8 (ok_is_deed F8 T c_is_count) (T.gl _ (by decide +kernel)) (F8.bindsN fun _ _ _ _ _ _ us hl => match us, hl with | [_, _], _ => rfl)
  have c_are_deeds : Cal P w K mg base 4 "are_deeds" (spDeeds K) := Cal.mk' F9 (ok_are_deeds F9 T c_is_row c_is_deed) (T.gl _ (by decide +kernel)) (F9.bindsN fun _ _ _ _ _ _ us hl => match us, hl with | [_, _], _ => rfl)
  have c_are_ways : Cal P w K mg base 5 "are_ways" (spWays K) := Cal.mk' F10 (ok_are_ways F10 T h_MOST_WAYS c_is_row c_are_deeds) (T.gl _ (by decide +kernel)) (F10.bindsN fun _ _ _ _ _ _ us hl => match us, hl with | [_, _], _ => rfl)
  have c_check_maker : Cal P w K mg base 6 "check_maker" (spCheckM K) := Cal.mk' F11 (ok_check_maker F11 T h_MOST_INLETS h_MOST_DEEDS h_MOST_DEEDS_OF_SEVERAL c_is_integer c_are_deeds c_are_ways) (T.gl _ (by decide +kernel)) (F11.bindsN fun _ _ _ _ _ _ us hl => match us, hl with | [_, _, _], _ => rfl)
  have oi_Maker : FnOk P w K mg base CX0 7 _ f12 ["self", "inlets", "begin", "ways"] (spMkInit K (ga K "Maker")) := (ok_Maker_init F12 T mc c_check_maker)
  have m_Maker : Mak P w K mg base 7 0 "Maker" (ga K "Maker") (spMkInit K (ga K "Maker")) [] := ⟨_, _, _, _, mk_ok b_mk_Maker, oi_Maker, T.gl "Maker" (by decide +kernel), (F12.bindsN fun _ _ _ _ _ _ us hl => match us, hl with | [_, _, _, _], _ => rfl), .nil⟩
  have oi_Round : FnOk P w K mg base CX0 1 _ f13 ["self", "deeds", "inlet"] (spRoInit K (ga K "Round")) := (ok_Round_init F13 T rc)
  have m_Round2 : Mak P w K mg base 1 0 "Round" (ga K "Round") (spRoInit K (ga K "Round")) [] := ⟨_, _, _, _, mk_ok b_mk_Round, oi_Round, T.gl "Round" (by decide +kernel), (F13.bindsN fun _ _ _ _ _ _ us hl => match us, hl with | [_, _, _], _ => rfl), .nil⟩
  have c_is_pair : Cal P w K mg base 2 "is_pair" (spPair K) := Cal.mk' F14 (ok_is_pair F14 T c_is_row) (T.gl _ (by decide +kernel)) (F14.bindsN fun _ _ _ _ _ _ us hl => match us, hl with | [_], _ => rfl)
  have c_are_numbers : Cal P w K mg base 3 "are_numbers" (spNums K) := Cal.mk' F15 (ok_are_numbers F15 T c_is_row c_is_count) (T.gl _ (by decide +kernel)) (F15.bindsN fun _ _ _ _ _ _ us hl => match us, hl with | [_, _, _, _], _ => rfl)
  have c_is_course : Cal P w K mg base 4 "is_course" (spCrs K (ga K "Maker")) := Cal.mk' F16 (ok_is_course F16 T mc h_MOST_FIRST h_MOST_THEN c_is_pair c_are_numbers) (T.gl _ (by decide +kernel)) (F16.bindsN fun _ _ _ _ _ _ us hl => match us, hl with | [_, _], _ => rfl)
  have c_check_inlet : Cal P w K mg base 3 "check_inlet" (spChkI K (ga K "Maker")) := Cal.mk' F17 (ok_check_inlet F17 T mc c_is_count) (T.gl _ (by decide +kernel)) (F17.bindsN fun _ _ _ _ _ _ us hl => match us, hl with | [_, _], _ => rfl)
  have c_marks_along : Cal P w K mg base 1 "marks_along" (spMarks K (ga K "Round")) := Cal.mk' F18 (ok_marks_along F18 T rc) (T.gl _ (by decide +kernel)) (F18.bindsN fun _ _ _ _ _ _ us hl => match us, hl with | [_, _], _ => rfl)
  have c__law_pick : Cal P w K mg base 1 "_law_pick" spPick := Cal.mk' F19 (ok_pick F19 T (by decide +kernel)) (T.gl _ (by decide +kernel)) (F19.bindsN fun _ _ _ _ _ _ us hl => match us, hl with | [_, _], _ => rfl)
  have c__law_source : Cal P w K mg base 1 "_law_source" (spSource K) := Cal.mk' F20 (ok_source F20 T (by decide +kernel) (by decide +kernel) (by decide +kernel)) (T.gl _ (by decide +kernel)) (F20.bindsN fun _ _ _ _ _ _ us hl => match us, hl with | [_, _], _ => rfl)
  have c__law_deeds : Cal P w K mg base 2 "_law_deeds" spLDeeds := Cal.mk' F21 (ok__law_deeds F21 T c__law_pick) (T.gl _ (by decide +kernel)) (F21.bindsN fun _ _ _ _ _ _ us hl => match us, hl with | [_, _, _, _], _ => rfl)
  have c__law_maker : Cal P w K mg base 3 "_law_maker" (spLMaker K) := Cal.mk' F22 (ok__law_maker F22 T c__law_pick c__law_deeds) (T.gl _ (by decide +kernel)) (F22.bindsN fun _ _ _ _ _ _ us hl => match us, hl with | [_, _, _, _], _ => rfl)
  have c__law_made : Cal P w K mg base 9 "_law_made" (spLMade K (ga K "Maker")) := Cal.mk' F23 (ok__law_made F23 T m_Maker) (T.gl _ (by decide +kernel)) (F23.bindsN fun _ _ _ _ _ _ us hl => match us, hl with | [_], _ => rfl)
  have o_better : MetC P w K mg base 1 (ga K "Outlook") "better" (spBet K (ga K "Outlook")) := ⟨oc.cl, _, f24, _, met_ok b_met_better, (ok_Outlook_better F24 T oc), (F24.bindsN fun _ _ _ _ _ _ us hl => match us, hl with | [_, _, _], _ => rfl)⟩
  have o_stopping : MetC P w K mg base 1 (ga K "Outlook") "stopping" (spStop K (ga K "Outlook") (ga K "Round")) := ⟨oc.cl, _, f25, _, met_ok b_met_stopping, (ok_Outlook_stopping F25 T oc rc), (F25.bindsN fun _ _ _ _ _ _ us hl => match us, hl with | [_], _ => rfl)⟩
  have oi_Outlook : FnOk P w K mg base CX0 3 _ f26 ["self", "maker", "inlet", "most"] (spOInit K (ga K "Outlook") (ga K "Maker") (ga K "Round")) := (ok_Outlook_init F26 T oc mc rc m_Round2)
  have m_Outlook : Mak P w K mg base 3 0 "Outlook" (ga K "Outlook") (spOInit K (ga K "Outlook") (ga K "Maker") (ga K "Round")) [] := ⟨_, _, _, _, mk_ok b_mk_Outlook, oi_Outlook, T.gl "Outlook" (by decide +kernel), (F26.bindsN fun _ _ _ _ _ _ us hl => match us, hl with | [_, _, _, _], _ => rfl), .nil⟩
  have o_look : MetC P w K mg base 3 (ga K "Outlook") "look" (spLook K (ga K "Outlook") (ga K "Round")) := ⟨oc.cl, _, f27, _, met_ok b_met_look, (ok_Outlook_look F27 T oc rc o_better), (F27.bindsN fun _ _ _ _ _ _ us hl => match us, hl with | [_, _, _], _ => rfl)⟩
  have o_best_way : MetC P w K mg base 3 (ga K "Outlook") "best_way" (spBestW K (ga K "Outlook") (ga K "Round")) := ⟨oc.cl, _, f28, _, met_ok b_met_best_way, (ok_Outlook_best_way F28 T oc rc o_better), (F28.bindsN fun _ _ _ _ _ _ us hl => match us, hl with | [_], _ => rfl)⟩
  have o_ahead_of : MetC P w K mg base 3 (ga K "Outlook") "ahead_of" (spAhd K (ga K "Outlook") (ga K "Round")) := ⟨oc.cl, _, f29, _, met_ok b_met_ahead_of, (ok_Outlook_ahead_of F29 T oc rc o_better), (F29.bindsN fun _ _ _ _ _ _ us hl => match us, hl with | [_, _, _], _ => rfl)⟩
  have o_values_up_to : MetC P w K mg base 3 (ga K "Outlook") "values_up_to" (spVals K (ga K "Outlook") (ga K "Round")) := ⟨oc.cl, _, f30, _, met_ok b_met_values_up_to, (ok_Outlook_values_up_to F30 T oc rc o_better), (F30.bindsN fun _ _ _ _ _ _ us hl => match us, hl with | [_, _], _ => rfl)⟩
  have o_others_ahead : MetC P w K mg base 1 (ga K "Outlook") "others_ahead" (spOth K (ga K "Outlook") (ga K "Round")) := ⟨oc.cl, _, f31, _, met_ok b_met_others_ahead, (ok_Outlook_others_ahead F31 T oc rc), (F31.bindsN fun _ _ _ _ _ _ us hl => match us, hl with | [_, _, _], _ => rfl)⟩
  have o_form : MetC P w K mg base 5 (ga K "Outlook") "form" (spForm2 K (ga K "Outlook") (ga K "Round")) := ⟨oc.cl, _, f32, _, met_ok b_met_form, (ok_Outlook_form F32 T oc rc o_stopping o_best_way o_look o_values_up_to), (F32.bindsN fun _ _ _ _ _ _ us hl => match us, hl with | [_], _ => rfl)⟩
  have o_course : MetC P w K mg base 5 (ga K "Outlook") "course" (spCourse K (ga K "Outlook") (ga K "Round")) := ⟨oc.cl, _, f33, _, met_ok b_met_course, (ok_Outlook_course F33 T oc rc o_stopping o_better o_look o_ahead_of o_others_ahead), (F33.bindsN fun _ _ _ _ _ _ us hl => match us, hl with | [_, _], _ => rfl)⟩
  have c_is_integerP : Cal P w K mg base 1 "is_integer" (spIntP K) := Cal.mk' F2 (ok_is_integerP F2 T) (T.gl _ (by decide +kernel)) (F2.bindsN fun _ _ _ _ _ _ us hl => match us, hl with | [_], _ => rfl)
  have c_is_countP : Cal P w K mg base 2 "is_count" (spCntP K) := Cal.mk' F3 (ok_is_countP F3 T c_is_integerP) (T.gl _ (by decide +kernel)) (F3.bindsN fun _ _ _ _ _ _ us hl => match us, hl with | [_], _ => rfl)
  have c_is_rowP : Cal P w K mg base 1 "is_row" (spRowP K) := Cal.mk' F4 (ok_is_rowP F4 T) (T.gl _ (by decide +kernel)) (F4.bindsN fun _ _ _ _ _ _ us hl => match us, hl with | [_], _ => rfl)
  have c_is_deedP : Cal P w K mg base 3 "is_deed" (spDeedP K) := Cal.mk' F8 (ok_is_deedP F8 T c_is_countP) (T.gl _ (by decide +kernel)) (F8.bindsN fun _ _ _ _ _ _ us hl => match us, hl with | [_, _], _ => rfl)
  have c_are_deedsP : Cal P w K mg base 4 "are_deeds" (spDeedsP K) := Cal.mk' F9 (ok_are_deedsP F9 T c_is_rowP c_is_deedP) (T.gl _ (by decide +kernel)) (F9.bindsN fun _ _ _ _ _ _ us hl => match us, hl with | [_, _], _ => rfl)
  have c_are_waysP : Cal P w K mg base 5 "are_ways" (spWaysP K) := Cal.mk' F10 (ok_are_waysP F10 T h_MOST_WAYS c_is_rowP c_are_deedsP) (T.gl _ (by decide +kernel)) (F10.bindsN fun _ _ _ _ _ _ us hl => match us, hl with | [_, _], _ => rfl)
  have c_check_makerB : CalX P w K mg base 6 "check_maker" (spCheckB K) := ⟨_, f11, _, (ok_check_makerB F11 T h_MOST_INLETS h_MOST_DEEDS h_MOST_DEEDS_OF_SEVERAL m_BadMaker m_TooMany c_is_integerP c_are_deedsP c_are_waysP), T.gl _ (by decide +kernel), F11.kp, (F11.bindsN fun _ _ _ _ _ _ us hl => match us, hl with | [_, _, _], _ => rfl)⟩
  have c_is_pairP : Cal P w K mg base 2 "is_pair" (spPairP K) := Cal.mk' F14 (ok_is_pairP F14 T c_is_rowP) (T.gl _ (by decide +kernel)) (F14.bindsN fun _ _ _ _ _ _ us hl => match us, hl with | [_], _ => rfl)
  have c_are_numbersP : Cal P w K mg base 3 "are_numbers" (spNumsP K) := Cal.mk' F15 (ok_are_numbersP F15 T c_is_rowP c_is_countP) (T.gl _ (by decide +kernel)) (F15.bindsN fun _ _ _ _ _ _ us hl => match us, hl with | [_, _, _, _], _ => rfl)
  have c_is_courseP : Cal P w K mg base 4 "is_course" (spCrsP K (ga K "Maker")) := Cal.mk' F16 (ok_is_courseP F16 T mc h_MOST_FIRST h_MOST_THEN c_is_pairP c_are_numbersP) (T.gl _ (by decide +kernel)) (F16.bindsN fun _ _ _ _ _ _ us hl => match us, hl with | [_, _], _ => rfl)
  have c_check_inlet2 : CalX P w K mg base 3 "check_inlet" (spOr (spChkI K (ga K "Maker")) (spChkIB K (ga K "Maker"))) := ⟨_, f17, _, (ok_check_inlet2 F17 T mc m_BadInlet c_is_count c_is_countP), T.gl _ (by decide +kernel), F17.kp, (F17.bindsN fun _ _ _ _ _ _ us hl => match us, hl with | [_, _], _ => rfl)⟩
  have oi_Maker : FnOk P w K mg base (L2.CX P w) 7 _ f34 ["self", "inlets", "begin", "ways"] (spOr (spMkInit K (ga K "Maker")) (spMkInitB K (ga K "Maker"))) := (ok_Maker_init2 F34 T mc c_check_maker c_check_makerB)
  have m_MakerX : MakX P w K mg base 7 0 "Maker" (ga K "Maker") (spOr (spMkInit K (ga K "Maker")) (spMkInitB K (ga K "Maker"))) [] := ⟨_, _, _, _, mk_ok b_mk_Maker, oi_Maker, T.gl "Maker" (by decide +kernel), (F34.bindsN fun _ _ _ _ _ _ us hl => match us, hl with | [_, _, _, _], _ => rfl), .nil⟩
  have o_need : MetX P w K mg base 6 (ga K "Maker") "need" (spOr (spNeed K (ga K "Table") (ga K "Maker")) (spNeedB K (ga K "Maker"))) := ⟨mc.cl, _, f35, _, met_ok b_met_need, (ok_Maker_need2 F35 T mc rc c_check_inlet c_is_course c_marks_along m_Round2 m_Table m_BadCourse c_check_inlet2 c_is_courseP), (F35.bindsN fun _ _ _ _ _ _ us hl => match us, hl with | [_, _, _], _ => rfl)⟩
  have c_least : CalX P w K mg base 7 "least" (spOr (spExt K (ga K "Maker") (ga K "Table") false) (spChkIB K (ga K "Maker"))) := ⟨_, f36, _, (ok_least2 F36 T c_check_inlet m_Outlook o_form m_Table c_check_inlet2), T.gl _ (by decide +kernel), F36.kp, (F36.bindsN fun _ _ _ _ _ _ us hl => match us, hl with | [_, _], _ => rfl)⟩
  have c_greatest : CalX P w K mg base 7 "greatest" (spOr (spExt K (ga K "Maker") (ga K "Table") true) (spChkIB K (ga K "Maker"))) := ⟨_, f37, _, (ok_greatest2 F37 T c_check_inlet m_Outlook o_form m_Table c_check_inlet2), T.gl _ (by decide +kernel), F37.kp, (F37.bindsN fun _ _ _ _ _ _ us hl => match us, hl with | [_, _], _ => rfl)⟩
  have ck_course_of : CalKX P w K mg base 7 "course_of" 3 ["most"] (spOr (spCrsOf K (ga K "Maker")) (spCrsOfB K (ga K "Maker"))) := ⟨_, f38, _, (ok_course_of2 F38 T h_LAST_PIECE c_check_inlet c_is_count m_Outlook o_course m_BadCount c_check_inlet2 c_is_countP), T.gl _ (by decide +kernel), F38.kp, kbN F38 3 ["most"] fun _ _ _ _ _ _ us ws hl hk => match us, hl, ws, hk with | [_, _, _], _, [_], _ => rfl⟩
  have c__law_is_integer : Cal P w K mg base 1 "_law_is_integer" (spIntP K) := Cal.mk' F39 (ok__law_is_integer F39 T) (T.gl _ (by decide +kernel)) (F39.bindsN fun _ _ _ _ _ _ us hl => match us, hl with | [_], _ => rfl)
  have c__law_is_count : Cal P w K mg base 2 "_law_is_count" (spCntP K) := Cal.mk' F40 (ok__law_is_count F40 T c__law_is_integer) (T.gl _ (by decide +kernel)) (F40.bindsN fun _ _ _ _ _ _ us hl => match us, hl with | [_], _ => rfl)
  have c__law_is_deeds : Cal P w K mg base 3 "_law_is_deeds" (spLIsD K) := Cal.mk' F41 (ok__law_is_deeds F41 T c__law_is_count) (T.gl _ (by decide +kernel)) (F41.bindsN fun _ _ _ _ _ _ us hl => match us, hl with | [_, _], _ => rfl)
  have c__law_due : Cal P w K mg base 4 "_law_due" (spLDue K) := Cal.mk' F42 (ok__law_due F42 T c__law_is_count c__law_is_deeds) (T.gl _ (by decide +kernel)) (F42.bindsN fun _ _ _ _ _ _ us hl => match us, hl with | [_, _, _], _ => rfl)
  have c__law_seen : Cal P w K mg base 9 "_law_seen" (spSeenM K) := Cal.mk' F43 (ok__law_seen F43 T ⟨by decide +kernel, by decide +kernel⟩ m_BadMaker x_BadMaker.xf x_BadMaker.no x_BadMaker.xc m_TooMany x_TooMany.xf x_TooMany.no x_TooMany.xc (kitP_ok b_kit (by decide +kernel)) (kitP_ok b_kit (by decide +kernel)) (exmP_ok b_exm (by decide +kernel)) (exmP_ok b_exm (by decide +kernel)) (exmP_ok b_exm (by decide +kernel)) m_MakerX) (T.gl _ (by decide +kernel)) (F43.bindsN fun _ _ _ _ _ _ us hl => match us, hl with | [_, _, _], _ => rfl)
  have c__law_need_seen : Cal P w K mg base 7 "_law_need_seen" (spNeedSeen K (ga K "Maker")) := Cal.mk' F44 (ok__law_need_seen F44 T m_BadInlet x_BadInlet.xf x_BadInlet.no m_BadCourse x_BadCourse.xf x_BadCourse.no (exmP_ok b_exm (by decide +kernel)) (exmP_ok b_exm (by decide +kernel)) (exmP_ok b_exm (by decide +kernel)) o_need) (T.gl _ (by decide +kernel)) (F44.bindsN fun _ _ _ _ _ _ us hl => match us, hl with | [_, _, _], _ => rfl)
  have c__law_piece_seen : Cal P w K mg base 8 "_law_piece_seen" (spPieceSeen K (ga K "Maker")) := Cal.mk' F45 (ok__law_piece_seen F45 T m_BadInlet x_BadInlet.xf x_BadInlet.no m_BadCount x_BadCount.xf x_BadCount.no (exmP_ok b_exm (by decide +kernel)) (exmP_ok b_exm (by decide +kernel)) (exmP_ok b_exm (by decide +kernel)) ck_course_of) (T.gl _ (by decide +kernel)) (F45.bindsN fun _ _ _ _ _ _ us hl => match us, hl with | [_, _, _, _], _ => rfl)
  have c__law_refused : Cal P w K mg base 8 "_law_refused" (spRefused K (ga K "Maker")) := Cal.mk' F46 (ok__law_refused F46 T ⟨by decide +kernel, by decide +kernel⟩ m_BadInlet x_BadInlet.xf x_BadInlet.no (exmP_ok b_exm (by decide +kernel)) c_least c_greatest) (T.gl _ (by decide +kernel)) (F46.bindsN fun _ _ _ _ _ _ us hl => match us, hl with | [_, _, _, _], _ => rfl)
  have c__law_spoilt : Cal P w K mg base 2 "_law_spoilt" (spSpoilt K) := Cal.mk' F47 (ok__law_spoilt F47 T c__law_pick) (T.gl _ (by decide +kernel)) (F47.bindsN fun _ _ _ _ _ _ us hl => match us, hl with | [_, _, _], _ => rfl)
  exact ok_law F48 T (by decide +kernel) (by decide +kernel) c__law_source c__law_pick c__law_maker c__law_made c__law_spoilt c__law_seen c__law_due c__law_refused c__law_need_seen c__law_piece_seen
end K25
set_option Elab.async false
set_option linter.all false
set_option maxRecDepth 100000
set_option maxHeartbeats 4000000
open PySem PySem.W PySem.Calls PyProof.Rows
theorem PySem.Challenge.cw_needforth_k25_whole_bad_makers_holds : PySem.Challenge.rw_needforth_k25_whole_bad_makers.Holds := by
  w_on; o_law
  refine HandSHeadRun.head_imp (r := OpenLaw.row PySem.Challenge.rw_needforth_k25_whole_bad_makers) (q := view (OpenLaw.row PySem.Challenge.rw_needforth_k25_whole_bad_makers).prog [0, 86]) (H := K25.hk) (ob := K25.ob) (M := 12000) (loose := K25.loose) (d := HandSHeadRun.topDef (OpenLaw.row PySem.Challenge.rw_needforth_k25_whole_bad_makers).prog 86) (kwd := []) K25.ob_eq
    K25.run (by kernel_rfl) (by kernel_rfl) (by kernel_rfl) (by rfl) (by first | assumption | decide +kernel) (by decide +kernel) ⟨rfl, rfl, rfl, rfl, rfl, by decide +kernel⟩ ?hw ?hc
  case hw => w_witness2
  case hc =>
    refine NF.walk_ofEB (l := PySem.Challenge.rw_needforth_k25_whole_bad_makers) (n := 63) (k := 10) (x := "_law_script") (CX := L2.CX0) rfl (by decide) (by kernel_rfl) ⟨rfl, by decide, by decide⟩ ?F (fun _ _ _ _ z => z)
    intro w mg fa h Y G hmg0
    obtain ⟨K, KX, c⟩ := Y
    have hmg : mg ("law" : PySem.Str) = some (.ref fa) := by
      have e : (HandSHeadRun.topDef (OpenLaw.row PySem.Challenge.rw_needforth_k25_whole_bad_makers).prog 86).name = ("law" : PySem.Str) := by kernel_rfl
      rw [← e]
      exact hmg0
    obtain ⟨fd, hb, hF⟩ := K25.all_ok (P := (PySem.Challenge.rw_needforth_k25_whole_bad_makers).prog) (w := w) KX G hmg c
    exact ⟨K, fd, K25.spLaw K, KX, hb, fun H a ns hl hbits _ hS => ⟨a, ns, rfl, hS, hl, hbits, fun _ => rfl⟩, hF⟩
