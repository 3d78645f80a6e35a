import PyProof.Rows.All
import Wide.All
import OpenK.AllK
import Wide.FinOn
import PyProof.EqAt
import PyProof.EqKinds
import PyProof.TupleCall
import KE.KStateDown
import KE.KIsAll
import KE.KTryMore
import KE.KFromBytes
import HandS.ForMost
import HandS.ForExc
import HandS.IsInst
import HandS.Flow
import HandS.WideBits
import HandS.ExcInit
import HandS.ExcIs
import HandS.Head0
import HandS.Head1
import HandS.Head2
import HandS.HeadEnd
import HandS.HeadHook1
import HandS.HeadHook2
import HandS.ExcField
import HandS.ExcValue
import KE.KExcIs
import HandS.EndBits
import HandS.TupAny
import HandS.Zip
import HandS.TupMul
import HandS.Gcd
import HandS.Property
import HandS.Conv
import KE.KAssignIn
import HandS.Star
import HandS.WordsList
import PyProof.InstNe
import HandS.Head3
import HandS.HeadHook3
import HandS.More
import OpenK.KMeth
import PySem.Challenge.RW_needforth_k13_whole_bad_term_texts
import HandS.Style
import HandS.SetFor
import HandS.FStr
import KE.KRevSl
import PyProof.FString3
import HandS.Walk
import HandS.SortKw
import KE.GoesEnumKw
import PyProof.Rows.Range3
import HandS.Small
import HandS.TryOnly
import KE.GoesMore
import KE.GoesEnum
import HandS.Call
import HandS.WordsExc
import PyProof.StrBlock2
import KE.IntTextLaws
import KE.KIntText
import PyProof.Rows.StrIntSpec
import HandS.Codes
set_option Elab.async false
set_option linter.all false
set_option maxRecDepth 100000
set_option maxHeartbeats 4000000
/-! Facts of the top as one truth of the written part, and the head that hands them on. -/
namespace NF
open PySem PySem.Spec PyProof.Rows L2 He
def obsM (ex : PySem.W.Frag → Bool) (fn : List DefD) (K : PySem.W.Frag) : AlD := (ex K && fn.all fun d => d.ok K, fn.map fun d => fnW K d.at_)
def SaysM (ex : PySem.W.Frag → Bool) (fn : List DefD) (K : PySem.W.Frag) : Prop := obsM ex fn K = valD fn
def obsMG (n : Nat) (ex : PySem.W.Frag → Bool) (fn : List DefD) (g : Addr → Option Obj) : AlD := obsM ex fn (frG g (asD g n))
def hookM (n : Nat) (ex : PySem.W.Frag → Bool) (fn : List DefD) : PySem.W.Hook where
  α := AlD
  obs := fun s => obsMG n ex fn s.heap.get?
  val := fun _ => valD fn
  says := fun _ h => ∃ K : PySem.W.Frag, K.In h ∧ SaysM ex fn K
  of := fun _ _ e => ⟨_, frG_in, e⟩
  keeps := fun _ _ _ ⟨K, hK, c⟩ k => ⟨K, PySem.W.Frag.In.keeps hK k, c⟩
theorem obsMG_eq {n : Nat} {ex : PySem.W.Frag → Bool} {fn : List DefD} {g : Addr → Option Obj} {s : Shared} (h : ∀ a, g a = s.heap.get? a) : obsMG n ex fn g = (hookM n ex fn).obs s := by
  have e : g = s.heap.get? := funext h
  rw [e] <;> rfl
section
variable {ex : PySem.W.Frag → Bool} {fn : List DefD} {K : PySem.W.Frag}
theorem SaysM.truth (c : SaysM ex fn K) : ex K = true :=
  (ba (show (ex K && fn.all fun d => d.ok K) = true from congrArg (fun z : AlD => z.1) c)).1
theorem SaysM.def_ (c : SaysM ex fn K) (i : Nat) {d : DefD} (h : fn[i]? = some d := by rfl) : ∃ fd, FunD K d.name d.qual d.params d.body d.scope (d.dvs K) (d.kws K) (fAd K d.at_) fd := by
  have c2 := (ba (show (ex K && fn.all fun d => d.ok K) = true from congrArg (fun z : AlD => z.1) c)).2
  have e : fn.map (fun d => fnW K d.at_) = fn.map DefD.val := congrArg (fun z : AlD => z.2) c
  have e2 : (fn.map fun d => fnW K d.at_)[i]? = (fn.map DefD.val)[i]? := by rw [e]
  rw [List.getElem?_map, List.getElem?_map, h] at e2
  exact DefD.funD (Option.some.inj e2) (List.all_eq_true.mp c2 d (List.mem_of_getElem? h))
end
/-! ### an exception class of the program's own, over ValueError, by truths of the written part -/
/-- the class's own object -/
def exObjB (K : PySem.W.Frag) (C : Addr) : Bool := match K.lookup C with
  | some ⟨.type t, _, .cls cd, sl⟩ => t == "type" && (match cd.mro with
    | .ref C' :: bm => C' == C && PySem.HandSPX.refsVE bm
    | _ => false) && (cd.hasDict && !cd.hasDel) && (match sl.toList with
    | [_, _, _, _, some (.builtin n), _] => n == "ValueError.__new__"
    | _ => false)
  | _ => false
theorem exObjB_ok {K : PySem.W.Frag} {C : Addr} (h : exObjB K C = true) :
    ∃ nm q N bs bm sn sub ab col dd k0 k1 k2 k3 k5, K.lookup C = some (excClassObj nm q C N bs bm true sn sub ab col dd k0 k1 k2 k3 k5 "ValueError.__new__") ∧ PySem.HandSPX.refsVE bm = true := by
  unfold exObjB at h
  split at h
  · rename_i t dd cd sl hl
    obtain ⟨h, h4⟩ := ba h
    obtain ⟨h, h3⟩ := ba h
    obtain ⟨h1, h2⟩ := ba h
    split at h2
    · rename_i C' bm hm
      obtain ⟨h5, h6⟩ := ba h2
      split at h4
      · rename_i k0 k1 k2 k3 n k5 hs
        obtain ⟨h7, h8⟩ := ba h3
        have e1 : t = "type" := eq_of_beq h1
        have e5 : C' = C := eq_of_beq h5
        have e9 : n = "ValueError.__new__" := eq_of_beq h4
        subst e1 e5 e9
        obtain ⟨nm, bs, mro, N, q, hd, sn, sub, ab, col, hdel⟩ := cd
        dsimp only at hm h7 h8
        subst hm h7
        have hdel' : hdel = false := by
          cases hdel with
          | false => rfl
          | true => cases h8
        subst hdel'
        have hsl : sl = #[k0, k1, k2, k3, some (.builtin "ValueError.__new__"), k5] := by
          have := congrArg List.toArray hs
          simpa using this
        subst hsl
        exact ⟨nm, q, N, bs, bm, sn, sub, ab, col, dd, k0, k1, k2, k3, k5, hl, h6⟩
      · cases h4
    · cases h2
  · cases h
/-- all that making one, storing to it and raising it ask of the class -/
def oexB (K : PySem.W.Frag) (C : Addr) : Bool :=
  exObjB K C && eqO (PySem.W.findIn K (.ref C) "__setattr__") (some (some (.builtin "object.__setattr__"))) && decide (PySem.W.subIn K (.ref C) (.type "BaseException") = some true) &&
    decide (PySem.W.typeIn K (.ref C) = some (.type "type")) && PySem.W.keepIn K (.ref C)
theorem oexB_ok {K : PySem.W.Frag} {C : Addr} (h : oexB K C = true) : OexC K C := by
  obtain ⟨h, h5⟩ := ba h
  obtain ⟨h, h4⟩ := ba h
  obtain ⟨h, h3⟩ := ba h
  obtain ⟨h1, h2⟩ := ba h
  exact ⟨exObjB_ok h1, eqO_ok h2, of_decide_eq_true h3, of_decide_eq_true h4, h5⟩
/-- all that isinstance asks of an instance's class -/
def excB (K : PySem.W.Frag) (D : Addr) : Bool :=
  eqO (PySem.W.findIn K (.ref D) "__getattribute__") (some (some (.builtin "BaseException.__getattribute__"))) && eqO (PySem.W.findIn K (.ref D) "__getattr__") (some none) &&
    decide (PySem.W.subIn K (.ref D) (.type "BaseException") = some true) && PySem.W.hasDictIn K D && eqO (PySem.W.findIn K (.ref D) "__class__") (some (some (.builtin "object.__class__"))) &&
    eqO (PySem.W.specialIn K (.builtin "object.__class__") "__get__") (some (some (.builtin "getset_descriptor.__get__"))) && decide (PySem.W.takesIn K (.builtin "object.__class__") = some true) && decide (PySem.W.mroIn K D (.type "object") = some true)
theorem excB_ok {K : PySem.W.Frag} {D : Addr} (h : excB K D = true) : ExcC K D := by
  obtain ⟨h, h8⟩ := ba h
  obtain ⟨h, h7⟩ := ba h
  obtain ⟨h, h6⟩ := ba h
  obtain ⟨h, h5⟩ := ba h
  obtain ⟨h, h4⟩ := ba h
  obtain ⟨h, h3⟩ := ba h
  obtain ⟨h1, h2⟩ := ba h
  exact ⟨eqO_ok h1, eqO_ok h2, of_decide_eq_true h3, h4, eqO_ok h5, eqO_ok h6, of_decide_eq_true h7, of_decide_eq_true h8⟩
end NF
set_option Elab.async false
set_option linter.all false
set_option maxRecDepth 100000
set_option maxHeartbeats 4000000
/-! Own exceptions as values: made, asked for their class, read. -/
namespace NF
open PySem PySem.Spec PyProof.Rows L2 He
/-! ### C(e, ..) as a value: the class's own __init__ keeps sp -/
def tMkV (C : Addr) (sp : Sp) (ta : TA) : TE := fun σ H Q => ta σ H fun vs H1 => vs.length ≤ 1000 ∧ ∀ a, H1 a = none → sp (.ref a :: vs) (upd H1 a (exo a C none))
  (fun v H2 => v = .non ∧ Q (.ref a) H2) (fun _ _ _ => False)
section
variable {X : Cx} {e : Expr} {es : List Expr} {ta : TA} {p pos : Pos}
theorem pe_oex {CX : CXT} {x : Str} {C fI : Addr} {k : Nat} {fd : FuncData} {ps : List Str} {sp : Sp} (T : OexC X.K C) (iC : PySem.W.findIn X.K (.ref C) "__init__" = some (some (.ref fI))) (tI : PySem.W.typeIn X.K (.ref fI) = some (.type "function"))
    (F1 : FnOk X.prog X.w X.K X.mg X.base CX k fI fd ps sp) (hr : Room (k + 1) X.A) (hb : Binds X.K fd ps []) (hx : Passes CX X (fun _ _ _ => False)) (hg : Gl X x) (hm : X.mg x = some (.ref C)) (ha : PA X (e :: es) ta)
    (hdb : (x == ("__debug__" : Str)) = false := by decide) (he : starEach (e :: es) X.env = (false, eval e X.env) :: starEach es X.env := by rfl) (hpl : (backTo pos (starEach es X.env)).any (·.1) = false := by rfl) :
    PE X (.Call (.Name x p) (e :: es) [] pos) (tMkV C sp ta) := by
  refine ⟨fun pins s σ H Q I h => ?_⟩
  obtain ⟨nm, q, N, bs, bm, sn, sub, ab, col, dd, k0, k1, k2, k3, k5, hC, hbm⟩ := T.cls
  refine wpAny_Call_Name_kw (ld_glob I hg hm ?_ hdb)
  refine PySem.W.callWith_K (h₀ := X.base) I.ok.mod.kin T.kC (thn (ha.run pos pins s σ H _ I h) fun us s1 ⟨vs, H1, I1, r1, hz, q1⟩ => ⟨I1.kIn, ?_⟩) he hpl
  show wpAny _ _ (call (.ref C) us) _ _ _
  obtain ⟨hp, g, dr, tk, os⟩ := s1
  have hsz : hp.objs.size ≤ hp.objs.size + 1 := Nat.le_succ _
  have hn : H1 (hp.objs.size + 1) = none := I1.hok.fresh hsz
  have hq := q1 (hp.objs.size + 1) hn
  have kk : ∀ b o, hp.get? b = some o → ((hp.push (PySem.W.kdv_tup us)).push (PySem.HandSPX.excO C hp.objs.size)).get? b = some o := fun b o e => Heap.get?_push_of_some _ (Heap.get?_push_of_some _ e)
  have hget : ((hp.push (PySem.W.kdv_tup us)).push (PySem.HandSPX.excO C hp.objs.size)).get? (hp.objs.size + 1) = some (PySem.HandSPX.excO C hp.objs.size) := by heap_get
  have I2 : Inv X pins σ (upd H1 (hp.objs.size + 1) (exo (hp.objs.size + 1) C none)) ⟨(hp.push (PySem.W.kdv_tup us)).push (PySem.HandSPX.excO C hp.objs.size), g, dr, tk, os⟩ :=
    I1.laid (t' := tk) (a := hp.objs.size + 1) (o := exo (hp.objs.size + 1) C none) (h' := (hp.push (PySem.W.kdv_tup us)).push (PySem.HandSPX.excO C hp.objs.size)) kk hsz (exo_ok hget)
  have r2 : Vals (V.ref (hp.objs.size + 1) :: vs) (Value.ref (hp.objs.size + 1) :: us) := .cons rfl r1
  have hl : (Value.ref (hp.objs.size + 1) :: us ++ []).length = ps.length := by
    have e := r2.length
    rw [F1.len _ _ _ _ hq] at e
    rw [List.append_nil]
    exact e.symm
  have hus : us.length ≤ sizeLine := by
    rw [← Paired.length r1, sizeLine_eq]
    omega
  have hb' : BindsTo (⟨(hp.push (PySem.W.kdv_tup us)).push (PySem.HandSPX.excO C hp.objs.size), g, dr, tk, os⟩ : Shared) fd ⟨Value.ref (hp.objs.size + 1) :: us, []⟩ (ps.zip (Value.ref (hp.objs.size + 1) :: us)) := by
    have := hb ⟨(hp.push (PySem.W.kdv_tup us)).push (PySem.HandSPX.excO C hp.objs.size), g, dr, tk, os⟩ (Value.ref (hp.objs.size + 1) :: us) I2.kIn hl
    rw [List.append_nil] at this
    exact this
  refine wpAny_call (PySem.HandSPX.call_own F.excBase_ValueError (fun Y => PySem.HandSPX.refsVE_contains Y bm hbm) (I1.kIn _ _ hC) (PySem.W.looks_findIn I1.kIn iC) (fun self => PySem.W.bind_fn I1.kIn self tI) hus
    (codeAny_mono (F1.run _ X.stack _ _ ⟨Value.ref (hp.objs.size + 1) :: us, []⟩ (Value.ref (hp.objs.size + 1) :: us) _ _ (fun _ _ _ => False) (hr.make C us []) (I2.env0.make C us []) hb' r2 hq) fun r s' hq' => ?_))
  cases r with
  | error er => exact hx pins σ _ _ er s' I2 hq'
  | ok fl =>
    cases fl with
    | ret u =>
      obtain ⟨v, H2, os2, bare2, un2, hok2, rv, ev, q2⟩ := hq'
      subst ev
      obtain ⟨h2, g2, d2, t2, os'⟩ := s'
      exact ⟨rv, V.ref (hp.objs.size + 1), H2, I2.call' (ch := []) os2 un2 hok2 bare2 (fun b z => absurd z (by simp)), rfl, q2⟩
    | next => exact False.elim hq'
    | brk => exact False.elim hq'
    | cont => exact False.elim hq'
/-- C(), an own exception class without own __init__, as a value -/
def tMk0 (C : Addr) : TE := fun _ H Q => ∀ a, H a = none → Q (.ref a) (upd H a (exo a C none))
theorem pe_exc0 {C : Addr} {x : Str} (q : PySem.W.excIn X.K C He.veBase "ValueError.__new__" = true) (gC : X.mg x = some (.ref C)) (kC : PySem.W.keepIn X.K (.ref C) = true) (hg : Gl X x)
    (hdb : (x == ("__debug__" : Str)) = false := by decide) :
    PE X (.Call (.Name x p) [] [] pos) (tMk0 C) := by
  refine ⟨fun pins s σ H Q I h => ?_⟩
  refine wpAny_Call_Name_kw (ld_glob I hg gC ?_ hdb)
  refine PySem.W.callWith_K0 I.kIn kC ?_
  show wpAny _ _ (call (.ref C) []) _ _ _
  obtain ⟨bm, N, nm, qn, bs, hdct, sn, sub, ab, col, dd, k0, k1, k2, k3, k5, mN, hC, hN, hni, T⟩ := exc_obj I.kIn q
  obtain ⟨hp, g, dr, tk, os⟩ := s
  refine wpAny_call_exc_subT F.excBase_ValueError T hC hN hni (fun h' a hm => ?_) (Nat.zero_le _)
  have hn : H a = none := I.hok.gone hm.new
  obtain ⟨t, ht, _, _⟩ := hm.there
  exact ⟨.ref a, upd H a (exo a C none), I.laidN hm.keeps hm.new hn (exo_ok ht), rfl, h a hn⟩
/-! ### isinstance of such a value -/
def rIsV (K : PySem.W.Frag) : List V → Hp → VK → Prop := fun xs H Q => ∃ (a C : Addr) (od : Option Addr) (c : V) (u : Value) (b : Bool), xs = [.ref a, c] ∧ ClsV c u ∧ ExcC K C ∧ H a = some (exo a C od) ∧
  (∀ d, od = some d → ∃ fs, H d = some (exd d fs)) ∧ PySem.W.kitOne K (.ref C) u = some b ∧ Q (.bl b) H
theorem inst_exo {pins : List (Addr × Obj)} {σ : L2.St} {H : Hp} {s : Shared} {a C : Addr} {od : Option Addr} (I : Inv X pins σ H s) (e : H a = some (exo a C od)) (hd : ∀ d, od = some d → ∃ fs, H d = some (exd d fs)) :
    ∃ ox o, PySem.W.InstAt s.heap a ox C o := by
  obtain ⟨t1, h1⟩ := exo_at I.hok e
  cases od with
  | none => exact ⟨_, none, h1, rfl, rfl, trivial⟩
  | some d =>
    obtain ⟨fs, h2⟩ := hd d rfl
    obtain ⟨mA, hns, _⟩ := exd_at I.hok h2
    obtain ⟨o, ho, _⟩ := lookIn_ns hns
    exact ⟨_, some o, h1, rfl, rfl, ho⟩
theorem call_isV : CallR X (.builtin "isinstance") (rIsV X.K) := by
  intro pins s σ H xs us Q I r h
  obtain ⟨a, C, od, c, u, b, rfl, k, T, e, hd, hk, q⟩ := h
  obtain ⟨u1, u2, rfl, r1, r2⟩ := vals2 r
  have e2 := k.eq r2
  subst e2
  cases (show u1 = Value.ref a from r1)
  obtain ⟨ox, o, J⟩ := inst_exo I e hd
  have hcl : (PySem.W.clsIn X.K C).isSome = true := by
    obtain ⟨cd, hc, _⟩ := PySem.W.any_some T.hd
    rw [hc] <;> rfl
  exact PySem.W.kia_one (PySem.W.kitx_exc (ox := ox) (od := o) hcl T.hg T.hk T.hs T.ha T.hn T.ht T.hm) I.kIn J hk (fun z => nomatch z) fun tk => ⟨.bl b, H, I.tok tk, rfl, q⟩
/-! ### its field -/
def tXv (K : PySem.W.Frag) (f : Str) (te : TE) : TE := fun σ H Q => te σ H fun x H1 => ∃ (a C d : Addr) (fs : List (Str × V)) (v : V), x = .ref a ∧ XfC K C ∧ PySem.W.findIn K (.ref C) f = some none ∧ H1 a = some (exo a C (some d)) ∧ H1 d = some (exd d fs) ∧ fs.lookup f = some v ∧ Q v H1
theorem pe_xv {n : Str} {te : TE} (he : PE X e te) (hb : attributeBase e n X.env (eval e X.env) = eval e X.env := by rfl) : PE X (.Attribute e n pos) (tXv X.K n te) := by
  refine ⟨fun pins s σ H Q I h => ?_⟩
  refine attr_of hb (thn (he.run pins s σ H _ I h) fun u s1 hh => ?_)
  obtain ⟨x, H1, I1, rx, a, C, d, fs, v, ex, T, hno, ea, ed, l, q⟩ := hh
  subst ex
  obtain rfl : u = Value.ref a := rx
  obtain ⟨t1, h1⟩ := exo_at I1.hok ea
  obtain ⟨mA, hns, hr⟩ := exd_at I1.hok ed
  obtain ⟨od, ho, hl⟩ := lookIn_ns hns
  obtain ⟨u, hu, ru⟩ := RelO.some_of (v := v) (o := mA n) (by rw [← l]; exact hr n)
  have J : PySem.W.InstAt s1.heap a _ C (some od) := ⟨h1, rfl, rfl, ho⟩
  exact HandSPX.exc_get I1.kIn J T.ga T.gg T.exC (PySem.W.findObj_own T.hdC hno rfl (by rw [hl, hu])) (handed_of ru) ⟨v, H1, I1.tok _, ru, q⟩
end
end NF
set_option Elab.async false
set_option linter.all false
set_option maxRecDepth 100000
set_option maxHeartbeats 4000000
/-! What each law's own helpers keep: the source of draws. -/
namespace NF
open PySem PySem.Spec PyProof.Rows L2 He
/-- the names that a def reads off the module: those that stand for an object of the written part, those that are still Python's own -/
structure Txt (K : PySem.W.Frag) (mg : Str → Option Value) (gs fs : List Str) : Prop where
  gl : ∀ x, x ∈ gs → mg x = some (.ref (ga K x))
  fr : ∀ x, x ∈ fs → mg x = none
/-- a source of draws at p: three ints -/
def Src (H : Hp) (p : Addr) : Prop := ∃ a s c : Int, H p = some (.lst [.int a, .int s, .int c])
/-- a draw: some number from 0 below m; all but the source stands (H0: what the caller wants to stand) -/
def spPick : Sp := fun vs H Q _ => ∃ (H0 : Hp) (p : Addr) (m : Int), vs = [.ref p, .int m] ∧ Same H0 H ∧ H0 p = none ∧ Src H p ∧ 0 < m ∧ m < 1073741824 ∧
  ∀ d H', 0 ≤ d → d < m → Same H0 H' → Src H' p → Q (.int d) H'
/-- a new source of the script -/
def spSource (K : PySem.W.Frag) : Sp := fun vs H Q _ => ∃ (l : Addr) (ns : List Int) (i : Nat), vs = [.ref l, .int (i : Int)] ∧ SqL K H l (ns.map V.int) ∧ ns.length ≤ 63 ∧ (∀ k ∈ ns, Builtin.Int.intBits k ≤ 1048576) ∧ i < 1000 ∧
  ∀ p H', Same H H' → H p = none → Src H' p → Q (.ref p) H'
theorem Same.put {H0 H : Hp} {p : Addr} {o : HO} (h : Same H0 H) (n : H0 p = none) : Same H0 (upd H p o) := fun b u e => by
  rw [upd_ne (ne_of_none e n)]
  exact h b u e
theorem Same.new {H0 H : Hp} {p : Addr} {o : HO} (h : Same H0 H) (n : H p = none) : Same H0 (upd H p o) := NF.Same.put h (L2.Same.free h n)
/-- a def that may be called by its name; it lets nothing out -/
structure Cal (P : Program) (w : World) (K : PySem.W.Frag) (mg : Str → Option Value) (base : Heap) (k : Nat) (x : Str) (sp : Sp) : Prop where
  ex : ∃ (f : Addr) (fd : FuncData) (ps : List Str), FnOk P w K mg base CX0 k f fd ps sp ∧ mg x = some (.ref f) ∧ PySem.W.keepIn K (.ref f) = true ∧ Binds K fd ps []
theorem pe_c {X : Cx} {k j : Nat} {x : Str} {sp : Sp} {e : Expr} {es : List Expr} {t : TA} {p pos : Pos} (c : Cal X.prog X.w X.K X.mg X.base k x sp) (hr : Room j X.A) (hk : k ≤ j) (hg : Gl X x) (ha : PA X (e :: es) t)
    (hdb : (x == ("__debug__" : Str)) = false := by decide) (he : starEach (e :: es) X.env = (false, eval e X.env) :: starEach es X.env := by rfl) (hpl : (backTo pos (starEach es X.env)).any (·.1) = false := by rfl) :
    PE X (.Call (.Name x p) (e :: es) [] pos) (tCall sp [] E0 t) := by
  obtain ⟨f, fd, ps, F, hm, kp, b⟩ := c.ex
  exact pe_call F (hr.mono hk) hg hm kp b .nil pass0 ha hdb he hpl
theorem Cal.mk' {P : Program} {w : World} {K : PySem.W.Frag} {mg : Str → Option Value} {base : Heap} {k : Nat} {x q : Str} {pa : Arguments} {bd : List Stmt} {sc : Scope} {sp : Sp} {f : Addr} {fd : FuncData} {ps : List Str}
    (F : FunD K x q pa bd sc [] [] f fd) (ok : FnOk P w K mg base CX0 k f fd ps sp) (hm : mg x = some (.ref f)) (b : Binds K fd ps []) : Cal P w K mg base k x sp := ⟨f, fd, ps, ok, hm, F.kp, b⟩
theorem at0 {x y z : V} : atI [x, y, z] 0 = some x := rfl
theorem at1 {x y z : V} : atI [x, y, z] 1 = some y := rfl
theorem at2 {x y z : V} : atI [x, y, z] 2 = some z := rfl
end NF
namespace NF
open PySem PySem.Spec PyProof.Rows L2 He
/-- the heap without p -/
def wo (H : Hp) (p : Addr) : Hp := fun a => if a = p then none else H a
theorem wo_none {H : Hp} {p : Addr} : wo H p p = none := if_pos rfl
theorem wo_ne {H : Hp} {p a : Addr} (h : a ≠ p) : wo H p a = H a := if_neg h
theorem wo_same' {H : Hp} {p : Addr} : Same (wo H p) H := fun a o e => by
  by_cases h : a = p
  · rw [h, wo_none] at e
    cases e
  · rw [wo_ne h] at e
    exact e
theorem wo_same {H0 H H' : Hp} {p : Addr} (s : Same H0 H) (n : H0 p = none) (s' : Same (wo H p) H') : Same H0 H' := fun a o e =>
  s' a o ((wo_ne (ne_of_none e n)).trans (s a o e))
theorem Same.mut {H0 H : Hp} {p : Addr} {o : HO} (h : Same H0 H) (n : H0 p = none) : Same H0 (upd H p o) := NF.Same.put h n
theorem Src.mono {H H' : Hp} {p : Addr} (h : Src H p) (s : Same H H') : Src H' p := by
  obtain ⟨x, y, z, h⟩ := h
  exact ⟨x, y, z, s _ _ h⟩
end NF
namespace NF
open PySem PySem.Spec PyProof.Rows L2 He
theorem walk_ofEB {l : PySem.W.OpenLaw} {n k : Nat} {q : Program} {loose : List Str} {XP : (Str → Option Value) → Heap → Prop} {YP : World → Heap → Prop} {d : DefRec} {CX : CXT} {x : Str}
    (hn : l.most = some n) (hn2 : n ≤ sizeLine) (hdf : d.params.defaults = []) (hr : Room k callerA)
    (F : ∀ (w : World) (mg : Str → Option Value) (fa : Addr) (h : Heap), YP w h → h.Ns mainGlobals mg → mg d.name = some (.ref fa) →
      ∃ (K : PySem.W.Frag) (fd : FuncData) (sp : Sp), K.In h ∧ (∀ (s : Shared) (u : Value), BindsTo s fd ⟨[u], []⟩ [(x, u)]) ∧
        (∀ (H : Hp) (a : Addr) (ns : List Int), ns.length ≤ n → (∀ z ∈ ns, Builtin.Int.intBits z ≤ 1048576) → Only H → SqL K H a (ns.map V.int) → sp [.ref a] H (fun v _ => v = .bl true) fun _ _ _ => False) ∧
        ∀ base : Heap, K.In base → base.Ns mainGlobals mg → FnOk l.prog w K mg base CX k fa fd [x] sp)
    (hCX : ∀ (H : Hp) (s : Shared) (e : Value) (s' : Shared), CX [] H s (fun _ _ _ => False) e s' → False) :
    PySem.W.WalkO q loose XP YP l.row.toRowW d [] (fun f vs => PySem.call f vs) := by
  refine Att.attach_callB hn hdf fun w s₀ s₁ mg mb fa o pm cd doc a vs ns G Y ho hd hcd hmg hobj hints hlen hbits hg => ?_
  obtain ⟨K, fd, sp, KX, hb, hsp, hF⟩ := F w mg fa _ Y G.T.g hmg
  exact law_call KX G.T.g G.T.b G.T.builtins G.T.nolimit hg hobj hints (Nat.le_trans hlen hn2) hr hF hb (fun H hO hS => hsp H a ns hlen hbits hO hS) fun H e s' => hCX H s₁ e s'
end NF
set_option linter.all false
/-! Tables as plain Lean: head, loop, rise; the plain form is the only one. -/
namespace NT
/-- what a loop tells, from its first place on -/
def walk (l : List Int) (r : Int) (k : Nat) : Int := l.getD (k % l.length) 0 + r * ((k / l.length : Nat) : Int)
/-- the value at n, from 1 on; none: never -/
def at_ (h l : List Int) (r : Int) (n : Nat) : Option Int :=
  if n ≤ h.length then some (h.getD (n - 1) 0) else if l = [] then none else some (walk l r (n - h.length - 1))
/-- m steps on the values are a fixed number more -/
def Per (f : Nat → Int) (m : Nat) : Prop := ∃ c, ∀ k, f (k + m) = f k + c
def LoopMin (l : List Int) (r : Int) : Prop := ∀ m, 0 < m → m ∣ l.length → Per (walk l r) m → m = l.length
def HeadMin (h l : List Int) (r : Int) : Prop := ∀ k, h.length = k + 1 → h.getD k 0 + r ≠ l.getD (l.length - 1) 0

theorem walk_add {l : List Int} {r : Int} (hl : 0 < l.length) (k : Nat) : walk l r (k + l.length) = walk l r k + r := by
  unfold walk
  rw [Nat.add_mod_right, Nat.add_div_right _ hl]
  rw [Int.natCast_add, Int.mul_add]
  omega
theorem walk_add_mul {l : List Int} {r : Int} (hl : 0 < l.length) (k j : Nat) : walk l r (k + l.length * j) = walk l r k + r * (j : Int) := by
  induction j with
  | zero => simp
  | succ j ih =>
    rw [Nat.mul_succ, ← Nat.add_assoc, walk_add hl, ih, Int.natCast_add, Int.mul_add]
    omega
theorem walk_lt {l : List Int} {r : Int} {k : Nat} (h : k < l.length) : walk l r k = l.getD k 0 := by
  unfold walk
  rw [Nat.mod_eq_of_lt h, Nat.div_eq_of_lt h]
  simp
/-- periods, further on alone -/
def PerF (f : Nat → Int) (N m : Nat) : Prop := ∃ c, ∀ k, N ≤ k → f (k + m) = f k + c
theorem PerF.sub {f : Nat → Int} {N a b : Nat} (ha : PerF f N (a + b)) (hb : PerF f N b) : PerF f N a := by
  obtain ⟨c, hc⟩ := ha
  obtain ⟨d, hd⟩ := hb
  refine ⟨c - d, fun k hk => ?_⟩
  have h1 := hc k hk
  have h2 := hd (k + a) (by omega)
  rw [show k + a + b = k + (a + b) by omega, h1] at h2
  omega
theorem PerF.mul {f : Nat → Int} {N a : Nat} (ha : PerF f N a) (j : Nat) : PerF f N (a * j) := by
  obtain ⟨c, hc⟩ := ha
  refine ⟨c * (j : Int), ?_⟩
  induction j with
  | zero => intro k _; simp
  | succ j ih =>
    intro k hk
    have h1 := ih k hk
    have h2 := hc (k + a * j) (by omega)
    rw [Nat.mul_succ, ← Nat.add_assoc, h2, h1, Int.natCast_add, Int.mul_add]
    omega
theorem PerF.gcd {f : Nat → Int} {N : Nat} : ∀ (a b : Nat), PerF f N a → PerF f N b → PerF f N (Nat.gcd a b) := by
  intro a
  induction a using Nat.strongRecOn with
  | _ a ih =>
    intro b ha hb
    cases a with
    | zero => rw [Nat.gcd_zero_left]; exact hb
    | succ a =>
      rw [Nat.gcd_rec]
      have hlt : b % (a + 1) < a + 1 := Nat.mod_lt _ (Nat.succ_pos a)
      have hm : PerF f N (b % (a + 1)) := by
        have h1 : b = b % (a + 1) + (a + 1) * (b / (a + 1)) := (Nat.mod_add_div b (a + 1)).symm
        exact PerF.sub (b := (a + 1) * (b / (a + 1))) (by rw [← h1]; exact hb) (ha.mul _)
      exact ih _ hlt (a + 1) hm ha
theorem at_loop {h l : List Int} {r : Int} {n : Nat} (hl : l ≠ []) (hn : h.length < n) : at_ h l r n = some (walk l r (n - h.length - 1)) := by
  unfold at_
  rw [if_neg (by omega), if_neg hl]
theorem len_pos {l : List Int} (h : l ≠ []) : 0 < l.length := List.length_pos_iff.mpr h

section
variable {h1 l1 h2 l2 : List Int} {r1 r2 : Int}
theorem walk_eq (n1 : l1 ≠ []) (n2 : l2 ≠ []) (e : ∀ n, 1 ≤ n → at_ h1 l1 r1 n = at_ h2 l2 r2 n) {n : Nat} (g1 : h1.length < n) (g2 : h2.length < n) : walk l1 r1 (n - h1.length - 1) = walk l2 r2 (n - h2.length - 1) := by
  have q := e n (by omega)
  rw [at_loop n1 g1, at_loop n2 g2] at q
  exact Option.some.inj q
theorem one_loop_le (n1 : l1 ≠ []) (n2 : l2 ≠ []) (m1 : LoopMin l1 r1) (e : ∀ n, 1 ≤ n → at_ h1 l1 r1 n = at_ h2 l2 r2 n) : l1.length ∣ l2.length := by
  have p1 := len_pos n1
  have p2 := len_pos n2
  -- l1's walk is, further on, of both periods
  have hA : PerF (walk l1 r1) (h1.length + h2.length) l1.length := ⟨r1, fun k _ => walk_add p1 k⟩
  have hB : PerF (walk l1 r1) (h1.length + h2.length) l2.length := by
    refine ⟨r2, fun k hk => ?_⟩
    have q1 := walk_eq n1 n2 e (n := k + h1.length + 1) (by omega) (by omega)
    have q2 := walk_eq n1 n2 e (n := k + l2.length + h1.length + 1) (by omega) (by omega)
    rw [show k + h1.length + 1 - h1.length - 1 = k by omega] at q1
    rw [show k + l2.length + h1.length + 1 - h1.length - 1 = k + l2.length by omega, show k + l2.length + h1.length + 1 - h2.length - 1 = (k + h1.length + 1 - h2.length - 1) + l2.length by omega, walk_add p2, ← q1] at q2
    exact q2
  have hG := PerF.gcd _ _ hA hB
  obtain ⟨c, hc⟩ := hG
  have hP : Per (walk l1 r1) (Nat.gcd l1.length l2.length) := by
    refine ⟨c, fun k => ?_⟩
    have q := hc (k + l1.length * (h1.length + h2.length)) (by
      have : h1.length + h2.length ≤ l1.length * (h1.length + h2.length) := Nat.le_mul_of_pos_left _ p1
      omega)
    rw [show k + l1.length * (h1.length + h2.length) + Nat.gcd l1.length l2.length = (k + Nat.gcd l1.length l2.length) + l1.length * (h1.length + h2.length) by omega, walk_add_mul p1, walk_add_mul p1] at q
    omega
  have := m1 _ (Nat.gcd_pos_of_pos_left _ p1) (Nat.gcd_dvd_left _ _) hP
  rw [← this]
  exact Nat.gcd_dvd_right _ _
theorem one_head_le (n1 : l1 ≠ []) (n2 : l2 ≠ []) (el : l1.length = l2.length) (m2 : HeadMin h2 l2 r2) (er : r1 = r2) (e : ∀ n, 1 ≤ n → at_ h1 l1 r1 n = at_ h2 l2 r2 n) : h2.length ≤ h1.length := by
  have p1 := len_pos n1
  have p2 := len_pos n2
  refine Nat.le_of_not_lt fun hlt => ?_
  obtain ⟨k, hk⟩ : ∃ k, h2.length = k + 1 := ⟨h2.length - 1, by omega⟩
  have q1 := e (k + 1) (by omega)
  have q2 := e (k + 1 + l2.length) (by omega)
  rw [at_loop n1 (by omega), at_loop n2 (by omega)] at q2
  rw [at_loop n1 (by omega)] at q1
  unfold at_ at q1
  rw [if_pos (by omega)] at q1
  have q1 := Option.some.inj q1
  have q2 := Option.some.inj q2
  rw [show k + 1 + l2.length - h1.length - 1 = (k + 1 - h1.length - 1) + l1.length by omega, walk_add p1, q1] at q2
  rw [walk_lt (by omega), show k + 1 + l2.length - h2.length - 1 = l2.length - 1 by omega, show k + 1 - 1 = k by omega] at q2
  exact m2 k hk (by rw [← q2, er])
/-- two forms that can't be made smaller and tell the same are the same -/
theorem one_form (n1 : l1 ≠ []) (n2 : l2 ≠ []) (a1 : LoopMin l1 r1) (a2 : LoopMin l2 r2) (b1 : HeadMin h1 l1 r1) (b2 : HeadMin h2 l2 r2) (e : ∀ n, 1 ≤ n → at_ h1 l1 r1 n = at_ h2 l2 r2 n) : h1 = h2 ∧ l1 = l2 ∧ r1 = r2 := by
  have p1 := len_pos n1
  have p2 := len_pos n2
  have el : l1.length = l2.length := Nat.dvd_antisymm (one_loop_le n1 n2 a1 e) (one_loop_le n2 n1 a2 fun n hn => (e n hn).symm)
  have er : r1 = r2 := by
    have q1 := walk_eq n1 n2 e (n := h1.length + h2.length + 1) (by omega) (by omega)
    have q2 := walk_eq n1 n2 e (n := h1.length + h2.length + 1 + l1.length) (by omega) (by omega)
    rw [show h1.length + h2.length + 1 + l1.length - h1.length - 1 = (h1.length + h2.length + 1 - h1.length - 1) + l1.length by omega, walk_add p1,
      show h1.length + h2.length + 1 + l1.length - h2.length - 1 = (h1.length + h2.length + 1 - h2.length - 1) + l2.length by omega, walk_add p2, q1] at q2
    omega
  have eh : h1.length = h2.length := Nat.le_antisymm (one_head_le n2 n1 el.symm b1 er.symm fun n hn => (e n hn).symm) (one_head_le n1 n2 el b2 er e)
  refine ⟨List.ext_getElem eh fun i i1 i2 => ?_, List.ext_getElem el fun i i1 i2 => ?_, er⟩
  · have q := e (i + 1) (by omega)
    unfold at_ at q
    rw [if_pos (by omega), if_pos (by omega)] at q
    have q := Option.some.inj q
    rw [show i + 1 - 1 = i by omega, List.getD_eq_getElem?_getD, List.getD_eq_getElem?_getD, List.getElem?_eq_getElem i1, List.getElem?_eq_getElem i2] at q
    exact q
  · have q := walk_eq n1 n2 e (n := h1.length + 1 + i) (by omega) (by omega)
    rw [show h1.length + 1 + i - h1.length - 1 = i by omega, show h1.length + 1 + i - h2.length - 1 = i by omega, walk_lt i1, walk_lt i2,
      List.getD_eq_getElem?_getD, List.getD_eq_getElem?_getD, List.getElem?_eq_getElem i1, List.getElem?_eq_getElem i2] at q
    exact q
theorem one_never (e : ∀ n, 1 ≤ n → at_ h1 [] r1 n = at_ h2 [] r2 n) : h1 = h2 := by
  have el : h1.length = h2.length := by
    have q1 := e (h1.length + 1) (by omega)
    have q2 := e (h2.length + 1) (by omega)
    unfold at_ at q1 q2
    rw [if_neg (by omega), if_pos rfl] at q1
    rw [if_neg (show ¬ h2.length + 1 ≤ h2.length by omega), if_pos rfl] at q2
    by_cases c1 : h1.length + 1 ≤ h2.length
    · rw [if_pos c1] at q1
      cases q1
    · by_cases c2 : h2.length + 1 ≤ h1.length
      · rw [if_pos c2] at q2
        cases q2
      · omega
  refine List.ext_getElem el fun i i1 i2 => ?_
  have q := e (i + 1) (by omega)
  unfold at_ at q
  rw [if_pos (by omega), if_pos (by omega)] at q
  have q := Option.some.inj q
  rw [show i + 1 - 1 = i by omega, List.getD_eq_getElem?_getD, List.getD_eq_getElem?_getD, List.getElem?_eq_getElem i1, List.getElem?_eq_getElem i2] at q
  exact q
end
end NT
set_option linter.all false
namespace NT
structure LapIs (l : List Int) (r : Int) (m : Nat) : Prop where
  pos : 0 < m
  dvd : m ∣ l.length
  per : Per (walk l r) m
  least : ∀ m', 0 < m' → m' ∣ l.length → Per (walk l r) m' → m ≤ m'
theorem LapIs.one {l : List Int} {r : Int} {m m' : Nat} (a : LapIs l r m) (b : LapIs l r m') : m = m' := Nat.le_antisymm (a.least _ b.pos b.dvd b.per) (b.least _ a.pos a.dvd a.per)
theorem per_mul {f : Nat → Int} {m : Nat} {c : Int} (h : ∀ k, f (k + m) = f k + c) (k j : Nat) : f (k + m * j) = f k + c * (j : Int) := by
  induction j with
  | zero => simp
  | succ j ih =>
    rw [Nat.mul_succ, ← Nat.add_assoc, h, ih, Int.natCast_add, Int.mul_add]
    omega
/-- the rise of a part that comes round -/
theorem per_rise {l : List Int} {r c : Int} {m : Nat} (hl : l ≠ []) (h : ∀ k, walk l r (k + m) = walk l r k + c) {t : Nat} (ht : m * t = l.length) : r = c * (t : Int) := by
  have q := per_mul h 0 t
  rw [ht, walk_add (len_pos hl)] at q
  omega
theorem per_self {l : List Int} {r : Int} (hl : l ≠ []) : Per (walk l r) l.length := ⟨r, walk_add (len_pos hl)⟩
theorem getD_take {l : List Int} {m i : Nat} (h : i < m) : (l.take m).getD i 0 = l.getD i 0 := by
  rw [List.getD_eq_getElem?_getD, List.getD_eq_getElem?_getD, List.getElem?_take, if_pos h]
theorem getD_drop {l : List Int} {m i : Nat} : (l.drop m).getD i 0 = l.getD (m + i) 0 := by
  rw [List.getD_eq_getElem?_getD, List.getD_eq_getElem?_getD, List.getElem?_drop]
theorem getD_app1 {h l : List Int} {i : Nat} (q : i < h.length) : (h ++ l).getD i 0 = h.getD i 0 := by
  rw [List.getD_eq_getElem?_getD, List.getD_eq_getElem?_getD, List.getElem?_append_left q]
theorem getD_app2 {h l : List Int} {i : Nat} (q : h.length ≤ i) : (h ++ l).getD i 0 = l.getD (i - h.length) 0 := by
  rw [List.getD_eq_getElem?_getD, List.getD_eq_getElem?_getD, List.getElem?_append_right q]
/-- the shorter loop tells the same -/
theorem walk_short {l : List Int} {r c : Int} {m : Nat} (hm : 0 < m) (hle : m ≤ l.length) (h : ∀ k, walk l r (k + m) = walk l r k + c) (k : Nat) : walk (l.take m) c k = walk l r k := by
  have e : k = k % m + m * (k / m) := (Nat.mod_add_div k m).symm
  have hlt : k % m < m := Nat.mod_lt _ hm
  have q := per_mul h (k % m) (k / m)
  rw [← e] at q
  have w1 : walk l r (k % m) = l.getD (k % m) 0 := walk_lt (by omega)
  rw [q, w1]
  show (l.take m).getD (k % (l.take m).length) 0 + c * ((k / (l.take m).length : Nat) : Int) = _
  rw [List.length_take, Nat.min_eq_left hle, getD_take hlt]
theorem short_min {l : List Int} {r c : Int} {m : Nat} (hl : l ≠ []) (a : LapIs l r m) (h : ∀ k, walk l r (k + m) = walk l r k + c) : LoopMin (l.take m) c := by
  have hle : m ≤ l.length := Nat.le_of_dvd (len_pos hl) a.dvd
  intro m' p d q
  rw [List.length_take, Nat.min_eq_left hle] at d ⊢
  have e : walk (l.take m) c = walk l r := funext fun k => walk_short a.pos hle h k
  rw [e] at q
  exact Nat.le_antisymm (Nat.le_of_dvd a.pos d) (a.least _ p (Nat.dvd_trans d a.dvd) q)
/-! ### the head is cut -/
def cut (e : List Int) (p : Nat) (r : Int) : Nat → Nat
  | 0 => 0
  | k + 1 => if e.getD k 0 + r = e.getD (k + p) 0 then cut e p r k else k + 1
/-- the window of p entries behind the first `left` ones -/
def win (e : List Int) (left p : Nat) : List Int := (e.drop left).take p
theorem win_len {e : List Int} {left p : Nat} (h : left + p ≤ e.length) : (win e left p).length = p := by
  unfold win
  rw [List.length_take, List.length_drop]
  omega
theorem win_get {e : List Int} {left p i : Nat} (hi : i < p) : (win e left p).getD i 0 = e.getD (left + i) 0 := by
  unfold win
  rw [getD_take hi, getD_drop]
theorem win_step {e : List Int} {left p : Nat} {r : Int} (hp : 0 < p) (hle : left + 1 + p ≤ e.length) (hs : e.getD left 0 + r = e.getD (left + p) 0) (k : Nat) : walk (win e (left + 1) p) r k = walk (win e left p) r (k + 1) := by
  unfold walk
  rw [win_len (by omega), win_len (by omega)]
  have hlt : k % p < p := Nat.mod_lt _ hp
  rw [win_get hlt]
  by_cases c : k % p + 1 < p
  · have e1 : (k + 1) % p = k % p + 1 := by
      rw [Nat.add_mod, Nat.mod_eq_of_lt (show 1 < p by omega), Nat.mod_eq_of_lt c]
    have e2 : (k + 1) / p = k / p := by
      have q1 := Nat.div_add_mod (k + 1) p
      have q2 := Nat.div_add_mod k p
      rw [e1] at q1
      have : p * ((k + 1) / p) = p * (k / p) := by omega
      exact Nat.eq_of_mul_eq_mul_left hp this
    rw [e1, e2, win_get c]
    congr 2
    omega
  · have cp : k % p + 1 = p := by omega
    have hk : k + 1 = p * (k / p + 1) := by
      have q2 := Nat.div_add_mod k p
      rw [Nat.mul_add, Nat.mul_one]
      omega
    have e1 : (k + 1) % p = 0 := by rw [hk]; exact Nat.mul_mod_right _ _
    have e2 : (k + 1) / p = k / p + 1 := by rw [hk]; exact Nat.mul_div_cancel_left _ hp
    rw [e1, e2, win_get hp, Int.natCast_add, Int.mul_add, show left + 1 + k % p = left + p by omega, ← hs, show left + 0 = left from rfl]
    omega
theorem at_step {e : List Int} {left p : Nat} {r : Int} (hp : 0 < p) (hle : left + 1 + p ≤ e.length) (hs : e.getD left 0 + r = e.getD (left + p) 0) (n : Nat) (hn : 1 ≤ n) :
    at_ (e.take left) (win e left p) r n = at_ (e.take (left + 1)) (win e (left + 1) p) r n := by
  have n1 : win e left p ≠ [] := fun z => by
    have := win_len (e := e) (left := left) (p := p) (by omega)
    rw [z] at this
    simp at this
    omega
  have n2 : win e (left + 1) p ≠ [] := fun z => by
    have := win_len (e := e) (left := left + 1) (p := p) (by omega)
    rw [z] at this
    simp at this
    omega
  unfold at_
  rw [List.length_take, List.length_take, Nat.min_eq_left (by omega), Nat.min_eq_left (by omega), if_neg n1, if_neg n2]
  by_cases c1 : n ≤ left
  · rw [if_pos c1, if_pos (by omega), getD_take (by omega), getD_take (by omega)]
  · by_cases c2 : n ≤ left + 1
    · rw [if_neg c1, if_pos c2, getD_take (by omega), show n - left - 1 = 0 by omega, walk_lt (by rw [win_len (by omega)]; exact hp), win_get hp, show n - 1 = left + 0 by omega]
    · rw [if_neg c1, if_neg c2, win_step hp hle hs, show n - (left + 1) - 1 + 1 = n - left - 1 by omega]
theorem min_step {e : List Int} {left p : Nat} {r : Int} (hp : 0 < p) (hle : left + 1 + p ≤ e.length) (hs : e.getD left 0 + r = e.getD (left + p) 0) (h : LoopMin (win e (left + 1) p) r) : LoopMin (win e left p) r := by
  have l0 := win_len (e := e) (left := left) (p := p) (by omega)
  have l1 := win_len (e := e) (left := left + 1) (p := p) (by omega)
  intro m hm hd hq
  rw [l0] at hd ⊢
  have := h m hm (by rw [l1]; exact hd) (by
    obtain ⟨c, hc⟩ := hq
    refine ⟨c, fun k => ?_⟩
    rw [win_step hp hle hs, win_step hp hle hs, show k + m + 1 = k + 1 + m by omega, hc])
  rw [l1] at this
  exact this
theorem cut_le {e : List Int} {p : Nat} {r : Int} : ∀ k, cut e p r k ≤ k
  | 0 => Nat.le_refl _
  | k + 1 => by
    unfold cut
    split
    · exact Nat.le_succ_of_le (cut_le k)
    · exact Nat.le_refl _
theorem cut_at {e : List Int} {p : Nat} {r : Int} (hp : 0 < p) : ∀ k, k + p ≤ e.length → ∀ n, 1 ≤ n → at_ (e.take (cut e p r k)) (win e (cut e p r k) p) r n = at_ (e.take k) (win e k p) r n
  | 0, _, _, _ => rfl
  | k + 1, h, n, hn => by
    unfold cut
    split
    · rename_i c
      rw [cut_at hp k (by omega) n hn]
      exact at_step hp h c n hn
    · rfl
theorem cut_min {e : List Int} {p : Nat} {r : Int} (hp : 0 < p) : ∀ k, k + p ≤ e.length → LoopMin (win e k p) r → LoopMin (win e (cut e p r k) p) r
  | 0, _, h => h
  | k + 1, hk, h => by
    unfold cut
    split
    · rename_i c
      exact cut_min hp k (by omega) (min_step hp hk c h)
    · exact h
theorem cut_head {e : List Int} {p : Nat} {r : Int} (hp : 0 < p) : ∀ k, k + p ≤ e.length → HeadMin (e.take (cut e p r k)) (win e (cut e p r k) p) r
  | 0, h => fun k hk => by
    unfold cut at hk
    simp at hk
  | k + 1, h => by
    unfold cut
    split
    · exact cut_head hp k (by omega)
    · rename_i c
      intro j hj
      rw [List.length_take, Nat.min_eq_left (by omega)] at hj
      have ej : j = k := by omega
      subst ej
      rw [getD_take (by omega), win_len (by omega), win_get (by omega)]
      intro z
      exact c (by rw [z]; congr 1; omega)
/-! ### the plain form -/
def IsPlain (h l : List Int) (r : Int) (x : List Int × List Int × Int) : Prop :=
  (l = [] ∧ x = (h, [], 0)) ∨ (l ≠ [] ∧ x.2.1 ≠ [] ∧ LoopMin x.2.1 x.2.2 ∧ HeadMin x.1 x.2.1 x.2.2 ∧ ∀ n, 1 ≤ n → at_ x.1 x.2.1 x.2.2 n = at_ h l r n)
theorem plain_one {h1 l1 h2 l2 : List Int} {r1 r2 : Int} {x y : List Int × List Int × Int} (a : IsPlain h1 l1 r1 x) (b : IsPlain h2 l2 r2 y) (e : ∀ n, 1 ≤ n → at_ h1 l1 r1 n = at_ h2 l2 r2 n) : x = y := by
  rcases a with ⟨rfl, rfl⟩ | ⟨n1, n1', m1, k1, e1⟩
  · rcases b with ⟨rfl, rfl⟩ | ⟨n2, n2', m2, k2, e2⟩
    · rw [one_never e]
    · have q := e (h1.length + h2.length + 1) (by omega)
      rw [at_loop n2 (by omega)] at q
      unfold at_ at q
      rw [if_neg (by omega), if_pos rfl] at q
      cases q
  · rcases b with ⟨rfl, rfl⟩ | ⟨n2, n2', m2, k2, e2⟩
    · have q := e (h1.length + h2.length + 1) (by omega)
      rw [at_loop n1 (by omega)] at q
      unfold at_ at q
      rw [if_neg (by omega), if_pos rfl] at q
      cases q
    · obtain ⟨q1, q2, q3⟩ := one_form n1' n2' m1 m2 k1 k2 fun n hn => by rw [e1 n hn, e n hn, e2 n hn]
      obtain ⟨x1, x2, x3⟩ := x
      obtain ⟨y1, y2, y3⟩ := y
      dsimp only at q1 q2 q3
      rw [q1, q2, q3]
theorem plain_is {h l : List Int} {r : Int} {m : Nat} (hl : l ≠ []) (a : LapIs l r m) {c : Int} (hc : ∀ k, walk l r (k + m) = walk l r k + c) :
    IsPlain h l r ((h ++ l.take m).take (cut (h ++ l.take m) m c h.length), win (h ++ l.take m) (cut (h ++ l.take m) m c h.length) m, c) := by
  have hle : m ≤ l.length := Nat.le_of_dvd (len_pos hl) a.dvd
  have hlen : (h ++ l.take m).length = h.length + m := by rw [List.length_append, List.length_take, Nat.min_eq_left hle]
  have hcut := cut_le (e := h ++ l.take m) (p := m) (r := c) h.length
  have hw : win (h ++ l.take m) h.length m = l.take m := by
    unfold win
    rw [List.drop_left, List.take_of_length_le (by rw [List.length_take]; omega)]
  have ht : (h ++ l.take m).take h.length = h := List.take_left
  refine .inr ⟨hl, fun z => ?_, ?_, ?_, fun n hn => ?_⟩
  · have q := win_len (e := h ++ l.take m) (left := cut (h ++ l.take m) m c h.length) (p := m) (by rw [hlen]; omega)
    have z' : win (h ++ l.take m) (cut (h ++ l.take m) m c h.length) m = [] := z
    rw [z'] at q
    have := a.pos
    simp at q
    omega
  · exact cut_min a.pos _ (by rw [hlen]; exact Nat.le_refl _) (by rw [hw]; exact short_min hl a hc)
  · exact cut_head a.pos _ (by rw [hlen]; exact Nat.le_refl _)
  · show at_ ((h ++ l.take m).take (cut (h ++ l.take m) m c h.length)) (win (h ++ l.take m) (cut (h ++ l.take m) m c h.length) m) c n = _
    rw [cut_at a.pos _ (by rw [hlen]; exact Nat.le_refl _) n hn, hw, ht]
    unfold at_
    have n1 : l.take m ≠ [] := fun z => by
      have q := congrArg List.length z
      rw [List.length_take, Nat.min_eq_left hle] at q
      have := a.pos
      simp at q
      omega
    rw [if_neg hl, if_neg n1, walk_short a.pos hle hc]
end NT
set_option linter.all false
namespace NT
def sk (l : List Int) (r : Int) (k : Nat) : Int := walk l r (k + 1) - walk l r k
def steps (l : List Int) (r : Int) : List Int := (List.range l.length).map (sk l r)
section
variable {l : List Int} {r : Int} {m : Nat}
theorem sk_add (hl : l ≠ []) (k q : Nat) : sk l r (k + l.length * q) = sk l r k := by
  unfold sk
  rw [show k + l.length * q + 1 = (k + 1) + l.length * q by omega, walk_add_mul (len_pos hl), walk_add_mul (len_pos hl)]
  omega
theorem per_of_sk (h : ∀ k, sk l r (k + m) = sk l r k) : Per (walk l r) m := by
  refine ⟨walk l r m - walk l r 0, fun k => ?_⟩
  induction k with
  | zero => rw [Nat.zero_add]; omega
  | succ k ih =>
    have q := h k
    unfold sk at q
    rw [show k + 1 + m = k + m + 1 by omega]
    omega
theorem sk_of_per (h : Per (walk l r) m) (k : Nat) : sk l r (k + m) = sk l r k := by
  obtain ⟨c, hc⟩ := h
  unfold sk
  rw [show k + m + 1 = (k + 1) + m by omega, hc, hc]
  omega
theorem chain_up {f : Nat → Int} {n : Nat} {c : Int} (h : ∀ k, k + m < n → f (k + m) = f k + c) (j : Nat) : ∀ u, j + m * u < n → f (j + m * u) = f j + c * (u : Int)
  | 0, _ => by simp
  | u + 1, hu => by
    have e : j + m * (u + 1) = j + m * u + m := by rw [Nat.mul_succ]; omega
    have ih := chain_up h j u (by omega)
    rw [e, h _ (by omega), ih, Int.natCast_add, Int.mul_add]
    omega
/-- a place in the last part of a loop -/
theorem last_part {n i t : Nat} (hm : 0 < m) (ht : m * t = n) (hi : i < n) (hg : ¬ i + m < n) : ∃ j, j < m ∧ i + m = n + j ∧ i = j + m * (t - 1) ∧ 0 < t := by
  have t0 : 0 < t := Nat.pos_of_ne_zero fun z => by rw [z, Nat.mul_zero] at ht; omega
  obtain ⟨t', rfl⟩ : ∃ t', t = t' + 1 := ⟨t - 1, by omega⟩
  rw [Nat.mul_succ] at ht
  refine ⟨i + m - n, by omega, by omega, ?_, t0⟩
  rw [show t' + 1 - 1 = t' by omega]
  omega
theorem cond_iff (hl : l ≠ []) (hm : 0 < m) (hd : m ∣ l.length) : ((steps l r).drop m = (steps l r).take (l.length - m)) ↔ Per (walk l r) m := by
  obtain ⟨t, ht⟩ := hd
  have hle : m ≤ l.length := by rw [ht]; exact Nat.le_mul_of_pos_right _ (Nat.pos_of_ne_zero fun z => by rw [z, Nat.mul_zero] at ht; exact absurd ht (Nat.ne_of_gt (len_pos hl)))
  constructor
  · intro h
    have h0 : ∀ k, k + m < l.length → sk l r (k + m) = sk l r k + 0 := fun k hk => by
      have q := congrArg (fun z : List Int => z[k]?) h
      simp only [steps, List.getElem?_drop, List.getElem?_take, if_pos (show k < l.length - m by omega), List.getElem?_map, List.getElem?_range (show m + k < l.length by omega), List.getElem?_range (show k < l.length by omega), Option.map_some, Option.some.injEq] at q
      rw [show k + m = m + k by omega, q]
      omega
    refine per_of_sk fun k => ?_
    have hp := len_pos hl
    have e : k = k % l.length + l.length * (k / l.length) := (Nat.mod_add_div k _).symm
    have hi : k % l.length < l.length := Nat.mod_lt _ hp
    have e1 : sk l r k = sk l r (k % l.length) := by
      have := sk_add (r := r) hl (k % l.length) (k / l.length)
      rw [← e] at this
      exact this
    have e2 : sk l r (k + m) = sk l r (k % l.length + m) := by
      have := sk_add (r := r) hl (k % l.length + m) (k / l.length)
      rw [show k % l.length + m + l.length * (k / l.length) = k + m by omega] at this
      exact this
    rw [e1, e2]
    by_cases c : k % l.length + m < l.length
    · rw [h0 _ c]; omega
    · obtain ⟨j, j1, j2, j3, t0⟩ := last_part hm ht.symm hi c
      have q := chain_up (f := sk l r) (n := l.length) h0 j (t - 1) (by omega)
      rw [j2, show l.length + j = j + l.length * 1 by omega, sk_add hl, j3, q]
      omega
  · intro h
    refine List.ext_getElem? fun k => ?_
    simp only [steps, List.getElem?_drop, List.getElem?_take, List.getElem?_map]
    by_cases c : k < l.length - m
    · rw [if_pos c, List.getElem?_range (by omega), List.getElem?_range (by omega)]
      simp only [Option.map_some]
      rw [show m + k = k + m by omega, sk_of_per h]
    · rw [if_neg c, List.getElem?_eq_none (by rw [List.length_range]; omega)]
      rfl
theorem walk_i {i : Nat} (h : i < l.length) : walk l r i = l.getD i 0 := walk_lt h
/-- the law's own look at a part of a loop -/
theorem law_iff (hl : l ≠ []) (hm : 0 < m) {t : Nat} (ht : m * t = l.length) : (r % (t : Int) = 0 ∧ ∀ k, k + m < l.length → l.getD (k + m) 0 = l.getD k 0 + r / (t : Int)) ↔ Per (walk l r) m := by
  have hp := len_pos hl
  have t0 : 0 < t := Nat.pos_of_ne_zero fun z => by rw [z, Nat.mul_zero] at ht; omega
  constructor
  · rintro ⟨h1, h2⟩
    have hr : r = r / (t : Int) * (t : Int) := (Int.ediv_mul_cancel (Int.dvd_of_emod_eq_zero h1)).symm
    refine ⟨r / (t : Int), fun k => ?_⟩
    have e : k = k % l.length + l.length * (k / l.length) := (Nat.mod_add_div k _).symm
    have hi : k % l.length < l.length := Nat.mod_lt _ hp
    have e1 : walk l r k = walk l r (k % l.length) + r * ((k / l.length : Nat) : Int) := by
      have := walk_add_mul (r := r) hp (k % l.length) (k / l.length)
      rw [← e] at this
      exact this
    have e2 : walk l r (k + m) = walk l r (k % l.length + m) + r * ((k / l.length : Nat) : Int) := by
      have := walk_add_mul (r := r) hp (k % l.length + m) (k / l.length)
      rw [show k % l.length + m + l.length * (k / l.length) = k + m by omega] at this
      exact this
    rw [e1, e2, walk_i hi]
    by_cases c : k % l.length + m < l.length
    · rw [walk_i c, h2 _ c]; omega
    · obtain ⟨j, j1, j2, j3, _⟩ := last_part hm ht hi c
      have q := chain_up (f := fun i => l.getD i 0) (n := l.length) h2 j (t - 1) (by omega)
      have q' : l.getD (k % l.length) 0 = l.getD j 0 + r / (t : Int) * ((t - 1 : Nat) : Int) := by rw [← q]; exact congrArg (fun i => l.getD i 0) j3
      have hjl : j < l.length := by omega
      rw [j2, show l.length + j = j + l.length by omega, walk_add hp, walk_i hjl, q']
      have e3 : r / (t : Int) * (t : Int) = r / (t : Int) * ((t - 1 : Nat) : Int) + r / (t : Int) := by
        rw [show (t : Int) = ((t - 1 : Nat) : Int) + 1 by omega, Int.mul_add, Int.mul_one]
      omega
  · rintro ⟨c, hc⟩
    have hr := per_rise hl hc ht
    have hd : r / (t : Int) = c := by
      rw [hr]
      exact Int.mul_ediv_cancel _ (by omega)
    refine ⟨by rw [hr]; exact Int.mul_emod_left _ _, fun k hk => ?_⟩
    have q := hc k
    rw [walk_i hk, walk_i (by omega)] at q
    rw [q, hd]
/-- what goes on by a part goes on so by its rise -/
theorem per_at (hl : l ≠ []) (hm : 0 < m) (h : Per (walk l r) m) {t : Nat} (ht : m * t = l.length) : ∀ k, walk l r (k + m) = walk l r k + r / (t : Int) := by
  obtain ⟨c, hc⟩ := h
  have hr := per_rise hl hc ht
  have t0 : 0 < t := Nat.pos_of_ne_zero fun z => by rw [z, Nat.mul_zero] at ht; exact absurd ht.symm (Nat.ne_of_gt (len_pos hl))
  have hd : r / (t : Int) = c := by
    rw [hr]
    exact Int.mul_ediv_cancel _ (by omega)
  rw [hd]
  exact hc
/-- the program's search -/
theorem lap_prog (hl : l ≠ []) (hm : 0 < m) (hle : m ≤ l.length / 2) (hd : m ∣ l.length) (hp : Per (walk l r) m) (hno : ∀ m', 0 < m' → m' < m → m' ∣ l.length → ¬ Per (walk l r) m') : LapIs l r m :=
  ⟨hm, hd, hp, fun m' p d q => Nat.le_of_not_lt fun c => hno m' p c d q⟩
theorem lap_whole (hl : l ≠ []) (hno : ∀ m', 0 < m' → m' ≤ l.length / 2 → m' ∣ l.length → ¬ Per (walk l r) m') : LapIs l r l.length :=
  ⟨len_pos hl, Nat.dvd_refl _, per_self hl, fun m' p d q => Nat.le_of_not_lt fun c => hno m' p (by
    obtain ⟨t, ht⟩ := d
    have t2 : 2 ≤ t := Nat.le_of_not_lt fun z => by
      have : t = 0 ∨ t = 1 := by omega
      rcases this with rfl | rfl
      · rw [Nat.mul_zero] at ht; omega
      · rw [Nat.mul_one] at ht; omega
    have : m' * 2 ≤ l.length := by rw [ht]; exact Nat.mul_le_mul_left _ t2
    omega) d q⟩
end
end NT
set_option Elab.async false
set_option linter.all false
set_option maxRecDepth 100000
set_option maxHeartbeats 4000000
namespace NF
open PySem PySem.Spec PyProof.Rows L2 He RZ
theorem Same.tup {K : PySem.W.Frag} {H H' : Hp} {a : Addr} {xs : List V} (e : Same H H') (h : SqT K H a xs) : SqT K H' a xs := by
  rcases h with (h | ⟨o, h⟩) | h
  · exact .inl (.inl (e _ _ h))
  · exact .inl (.inr ⟨o, e _ _ h⟩)
  · exact .inr h
abbrev vI (l : List Int) : List V := l.map V.int
/-! ### o.f = v as one of several targets -/
def gFld (K : PySem.W.Frag) (ta : TE) (f : Str) : TG := fun v σ H Q => ta σ H fun x H1 => ∃ a C dx fs, x = .ref a ∧ H1 a = some (.ins C dx fs) ∧ Cls K C ∧ NoAttr K C f ∧ fs.length < 1000 ∧ Q σ (upd H1 a (.ins C dx (putF f v fs)))
theorem pg_fld {X : Cx} {o : Expr} {f : Str} {pos : Pos} {ta : TE} (ha : PE X o ta) : PG X (.Attribute o f pos) (gFld X.K ta f) := by
  refine ⟨fun pins s σ H v u Q I r h => ?_⟩
  refine PySem.W.kas_attr (thn (ha.run pins s σ H _ I h) fun ov s1 ⟨x, H1, I1, rx, a, C, dx, fs, ex, ea, c, n, l, q⟩ => ?_)
  subst ex
  obtain rfl : ov = Value.ref a := rx
  exact setattr_ok I1 ea c n l r fun s2 I2 => ⟨σ, _, I2, q⟩
/-! ### a name of the module that is a function of Python's own -/
theorem pe_gl {X : Cx} {x : Str} {a : Addr} {pos : Pos} (hm : X.mg x = some (.ref a)) (hg : Gl X x := by rfl) (hd : (x == ("__debug__" : Str)) = false := by decide) : PE X (.Name x pos) (tC (.ref a)) := pe_glob (v := .ref a) hg hm rfl hd
theorem ixl {X : Cx} {K : PySem.W.Frag} (h : X.K = K := by rfl) : IxR X (rIxL K) := h ▸ ix_list
theorem pgt {X : Cx} {K : PySem.W.Frag} {es : List Expr} {k : Nat} {pos : Pos} {t : TGs} {n : Nat} (hK : X.K = K) (hc : X.calm = true) (h : PGs X es t)
    (hn : (assignEach es X.env).length = n := by rfl) (hst : (assignEach es X.env).findIdx? (·.1) = none := by rfl) : PG X (.Tuple es k pos) (gTup K n t) := hK ▸ pg_tup hc h hn hst
theorem ixt {X : Cx} {K : PySem.W.Frag} (h : X.K = K := by rfl) : IxR X (rIxT K) := h ▸ ix_tup
/-! ### slices and sums of tuples: whatever object they give -/
theorem sIx_negN {n d k : Nat} (hk : 0 < k) : HT.sIx n d (some (-(k : Int))) = n - k := by
  show (if -(k : Int) < 0 then (-(k : Int) + (n : Int)).toNat else min (-(k : Int)).toNat n) = n - k
  rw [if_pos (by omega)]
  omega
theorem cut_whole {xs : List V} {lo hi : Option Int} (h : HT.sIx xs.length 0 lo = 0 ∧ HT.sIx xs.length xs.length hi = xs.length) : cutV xs lo hi = xs := by
  unfold cutV
  rw [h.1, h.2]
  simp
theorem slA_done {K : PySem.W.Frag} {H : Hp} {a : Addr} {xs : List V} {lo hi : Option Int} {Q : VK} (hx : SqT K H a xs) (q : ∀ p H', Same H H' → SqT K H' p (cutV xs lo hi) → Q (.ref p) H') : rSlA K (.ref a) lo hi H Q := by
  refine ⟨a, xs, rfl, hx, fun w => q a H (Same.refl H) (by rw [cut_whole w]; exact hx), fun _ p hp => q p _ (NF.Same.new (Same.refl H) hp) (SqT.of upd_same)⟩
theorem slA_from {K : PySem.W.Frag} {H : Hp} {a : Addr} {xs : List V} {lo : Option Int} {Q : VK} {σ : L2.St} (hx : SqT K H a xs) (q : ∀ p H', Same H H' → SqT K H' p (cutV xs lo none) → Q (.ref p) H') : tNoPart σ H fun u H3 => rSlA K (.ref a) lo u H3 Q := by
  show rSlA K (.ref a) lo none H Q
  exact slA_done hx q
theorem catA_done {K : PySem.W.Frag} {H : Hp} {a b : Addr} {xs ys : List V} {Q : VK} (hx : SqT K H a xs) (hy : SqT K H b ys) (hz : xs.length + ys.length ≤ sizeLine) (q : ∀ p H', Same H H' → SqT K H' p (xs ++ ys) → Q (.ref p) H') : rCatA K (.ref a) (.ref b) H Q := by
  refine ⟨a, b, xs, ys, rfl, rfl, hx, hy, hz, fun e => q b H (Same.refl H) (by rw [e]; exact hy), fun _ e => q a H (Same.refl H) (by rw [e, List.append_nil]; exact hx), fun _ _ p hp => q p _ (NF.Same.new (Same.refl H) hp) (SqT.of upd_same)⟩
theorem cut_from {xs : List V} {n : Nat} : cutV xs (some (n : Int)) none = xs.drop n := by
  unfold cutV
  rw [HT.sIx_nat]
  show (xs.drop (min n xs.length)).take (xs.length - min n xs.length) = xs.drop n
  by_cases h : n ≤ xs.length
  · rw [Nat.min_eq_left h, List.take_of_length_le (by rw [List.length_drop]; exact Nat.le_refl _)]
  · rw [Nat.min_eq_right (by omega), List.drop_of_length_le (Nat.le_refl _), List.drop_of_length_le (by omega)]
    simp
theorem cut_to {xs : List V} {n : Nat} : cutV xs none (some (n : Int)) = xs.take n := by
  unfold cutV
  rw [HT.sIx_nat]
  show (xs.drop 0).take (min n xs.length - 0) = xs.take n
  rw [List.drop_zero, Nat.sub_zero]
  by_cases h : n ≤ xs.length
  · rw [Nat.min_eq_left h]
  · rw [Nat.min_eq_right (by omega), List.take_of_length_le (Nat.le_refl _), List.take_of_length_le (by omega)]
theorem cut_toN {xs : List V} {n : Nat} (h : 0 < n) : cutV xs none (some (-(n : Int))) = xs.take (xs.length - n) := by
  unfold cutV
  rw [sIx_negN h]
  show (xs.drop 0).take (xs.length - n - 0) = _
  rw [List.drop_zero, Nat.sub_zero]
theorem cut_mid {xs : List V} {a b : Nat} (h : a ≤ b) (hb : b ≤ xs.length) : cutV xs (some (a : Int)) (some (b : Int)) = (xs.drop a).take (b - a) := by
  unfold cutV
  rw [HT.sIx_nat, HT.sIx_nat, Nat.min_eq_left hb, Nat.min_eq_left (by omega)]
theorem map_cut {l : List Int} {lo hi : Option Int} : ∃ m : List Int, cutV (vI l) lo hi = vI m := ⟨(l.drop (HT.sIx (vI l).length 0 lo)).take (HT.sIx (vI l).length (vI l).length hi - HT.sIx (vI l).length 0 lo), by unfold cutV; simp only [vI, List.map_take, List.map_drop]⟩
theorem at_int {l : List Int} {i : Int} {k : Nat} (e : i = (k : Int)) (h : k < l.length) : atI (vI l) i = some (V.int (l.getD k 0)) := by
  rw [e]
  exact atI_nat (by rw [List.getElem?_map, List.getElem?_eq_getElem h, List.getD_eq_getElem?_getD, List.getElem?_eq_getElem h] <;> rfl)
theorem at_last {l : List Int} (h : 0 < l.length) : atI (vI l) (-1) = some (V.int (l.getD (l.length - 1) 0)) := by
  unfold atI ixN
  rw [if_neg (by omega), List.length_map, if_pos (by omega)]
  show (vI l)[((-1 : Int) + (l.length : Int)).toNat]? = _
  rw [show ((-1 : Int) + (l.length : Int)).toNat = l.length - 1 by omega, List.getElem?_map, List.getElem?_eq_getElem (by omega), List.getD_eq_getElem?_getD, List.getElem?_eq_getElem (by omega)] <;> rfl
/-! ### [.. for a, b in zip(t, u)] of two tuples of one length -/
theorem lc_zipT {K : PySem.W.Frag} {a b : Addr} {xs ys : List V} {g : TG} {tt : TT} {te : TE} {vs : List Nat} {σ : L2.St} {H1 : Hp} {D : Addr} {Qd : Hp → Prop} (hl : xs.length = ys.length) (Pv : Nat → Hp → Prop) (h0 : Pv 0 (upd H1 D (.lst []))) (hq : ∀ i H, Pv i H → SqT K H a xs ∧ SqT K H b ys)
    (hs : ∀ i x y T H, xs[i]? = some x → ys[i]? = some y → Pv i H → H T = none → g (.ref T) (wipe σ vs) (upd H T (.tup [x, y])) fun σ2 H2 => wipe σ2 vs = wipe σ vs ∧ tt σ2 H2 fun b H3 =>
      if b = true then te σ2 H3 fun y H4 => ∃ acc, H4 D = some (.lst acc) ∧ acc.length < sizeLine ∧ Pv (i + 1) (upd H4 D (.lst (acc ++ [y]))) else Pv (i + 1) H3) (hd : ∀ H, Pv xs.length H → Qd H) :
    ∃ W : Nat → Nat → Hp → Prop, (∃ m, W 0 m (upd H1 D (.lst []))) ∧ ∀ i m H, W i m H →
      ((ItzT K a b).stop i H ∧ Qd H) ∨ ((ItzT K a b).go i H ∧ ∃ Nx : Hp → Prop, (∀ H', Nx H' → ∃ m', m' < m ∧ W (i + 1) m' H') ∧ ∀ x H', (ItzT K a b).yld i H x H' → g x (wipe σ vs) H' fun σ2 H2 => wipe σ2 vs = wipe σ vs ∧ tt σ2 H2 fun b H3 =>
        if b = true then te σ2 H3 fun y H4 => ∃ acc, H4 D = some (.lst acc) ∧ acc.length < sizeLine ∧ Nx (upd H4 D (.lst (acc ++ [y]))) else Nx H3) := by
  refine ⟨fun i m H => m = xs.length - i ∧ i ≤ xs.length ∧ Pv i H, ⟨xs.length, rfl, Nat.zero_le _, h0⟩, ?_⟩
  rintro i m H ⟨rfl, hi, p⟩
  obtain ⟨qx, qy⟩ := hq i H p
  by_cases hlt : i < xs.length
  · have hx : xs[i]? = some xs[i] := List.getElem?_eq_getElem hlt
    have hlt2 : i < ys.length := by omega
    have hy : ys[i]? = some ys[i] := List.getElem?_eq_getElem hlt2
    refine .inr ⟨⟨xs, ys, _, _, qx, qy, hx, hy⟩, Pv (i + 1), fun H' p' => ⟨xs.length - (i + 1), by omega, rfl, hlt, p'⟩, fun v H' y => ?_⟩
    obtain ⟨T, x', y', rfl, hT, rfl, f1, f2⟩ := y
    exact hs i x' y' T H (f1 xs qx) (f2 ys qy) p hT
  · have e : i = xs.length := by omega
    subst e
    exact .inl ⟨⟨xs, ys, qx, qy, Or.inl (Nat.le_refl _)⟩, hd H p⟩
theorem tru_tup {K : PySem.W.Frag} {H : Hp} {a : Addr} {l : List Int} (h : SqT K H a (vI l)) : TruV K (.ref a) H (!l.isEmpty) := Or.inr (Or.inl ⟨_, h, by cases l <;> rfl⟩)
theorem tru_int {K : PySem.W.Frag} {H : Hp} {i : Int} : TruV K (.int i) H (i != 0) := rfl
/-! ### deep == of lists and tuples of vI -/
theorem dp_ints {K : PySem.W.Frag} {H : Hp} : ∀ l : List Int, DpAll K H (vI l) (l.map PyData.int)
  | [] => .nil
  | i :: l => .cons (.int i) (dp_ints l)
theorem eqv_ints : ∀ a b : List Int, PyData.eqvAll (a.map PyData.int) (b.map PyData.int) = decide (a = b)
  | [], [] => rfl
  | [], _ :: _ => rfl
  | _ :: _, [] => rfl
  | x :: a, y :: b => by
    show (PyData.eqv (.int x) (.int y) && PyData.eqvAll (a.map PyData.int) (b.map PyData.int)) = _
    rw [eqv_ints a b]
    show ((x == y) && decide (a = b)) = _
    by_cases h : x = y <;> by_cases g : a = b <;> simp [h, g]
end NF
namespace NF
open PySem PySem.Spec PyProof.Rows L2 He RZ
theorem lay_ints : ∀ l : List Int, PyData.canLayAll0 (l.map PyData.int) = true
  | [] => rfl
  | _ :: l => lay_ints l
theorem depth_ints : ∀ l : List Int, PyData.depthAll (l.map PyData.int) = 0
  | [] => rfl
  | i :: l => by
    show max (PyData.depth (.int i)) (PyData.depthAll (l.map PyData.int)) = 0
    rw [depth_ints l]
    rfl
theorem shaped_L (l : List Int) : SeqAt.shaped (.list (l.map PyData.int)) = true := by
  show (PyData.canLayAll0 (l.map PyData.int) && decide (PyData.depthAll (l.map PyData.int) + 1 ≤ 64)) = true
  rw [lay_ints, depth_ints]
  rfl
theorem shaped_T (l : List Int) : SeqAt.shaped (.tuple (l.map PyData.int)) = true := by
  show (PyData.canLayAll0 (l.map PyData.int) && decide (PyData.depthAll (l.map PyData.int) + 1 ≤ 64)) = true
  rw [lay_ints, depth_ints]
  rfl
theorem eqL_done {K : PySem.W.Frag} {H : Hp} {a b : Addr} {x y : List Int} {Q : VK} (hx : SqL K H a (vI x)) (hy : SqL K H b (vI y)) (q : Q (.bl (decide (x = y))) H) : rEqD K (.ref a) (.ref b) H Q :=
  ⟨_, _, .lst hx (dp_ints x), .lst hy (dp_ints y), shaped_L x, shaped_L y, by rw [show PyData.eqv (.list (x.map PyData.int)) (.list (y.map PyData.int)) = decide (x = y) from eqv_ints x y]; exact q⟩
theorem eqT_done {K : PySem.W.Frag} {H : Hp} {a b : Addr} {x y : List Int} {Q : VK} (hx : SqT K H a (vI x)) (hy : SqT K H b (vI y)) (q : Q (.bl (decide (x = y))) H) : rEqD K (.ref a) (.ref b) H Q :=
  ⟨_, _, .tup hx (dp_ints x), .tup hy (dp_ints y), shaped_T x, shaped_T y, by rw [show PyData.eqv (.tuple (x.map PyData.int)) (.tuple (y.map PyData.int)) = decide (x = y) from eqv_ints x y]; exact q⟩
theorem neT_done {K : PySem.W.Frag} {H : Hp} {a b : Addr} {x y : List Int} {Q : VK} (hx : SqT K H a (vI x)) (hy : SqT K H b (vI y)) (q : Q (.bl (!decide (x = y))) H) : rNeD K (.ref a) (.ref b) H Q :=
  ⟨_, _, .tup hx (dp_ints x), .tup hy (dp_ints y), shaped_T x, shaped_T y, by rw [show PyData.eqv (.tuple (x.map PyData.int)) (.tuple (y.map PyData.int)) = decide (x = y) from eqv_ints x y]; exact q⟩
end NF
namespace NF
open PySem
theorem vI_drop {l : List Int} {n : Nat} : (vI l).drop n = vI (l.drop n) := by simp [vI, List.map_drop]
theorem vI_take {l : List Int} {n : Nat} : (vI l).take n = vI (l.take n) := by simp [vI, List.map_take]
theorem vI_app {l m : List Int} : vI l ++ vI m = vI (l ++ m) := by simp [vI]
theorem vI_len {l : List Int} : (vI l).length = l.length := by simp [vI]
end NF
namespace NF
open PySem PySem.Spec PyProof.Rows L2 He RZ
/-- a list or a tuple -/
def Row (K : PySem.W.Frag) (H : Hp) (a : Addr) (xs : List V) : Prop := SqL K H a xs ∨ SqT K H a xs
theorem Row.mono {K : PySem.W.Frag} {H H' : Hp} {a : Addr} {xs : List V} (h : Row K H a xs) (s : Same H H') : Row K H' a xs := h.elim (fun h => .inl (L2.Same.seq s h)) (fun h => .inr (NF.Same.tup s h))
def iRow (K : PySem.W.Frag) (tl : TE) : TI := fun σ H R => tl σ H fun x H1 => ∃ a, x = .ref a ∧ (((∃ xs, SqL K H1 a xs) ∧ R (Itl K a) H1) ∨ ((∃ xs, SqT K H1 a xs) ∧ R (Itt K a) H1))
theorem pi_row {X : Cx} {tg l : Expr} {tl : TE} (hl : PE X l tl) : PI X tg l (iRow X.K tl) := by
  refine ⟨fun pins s σ H R I h => ?_⟩
  refine thn (hl.run pins s σ H _ I h) fun v s1 ⟨x, H1, I1, r1, q1⟩ => ?_
  obtain ⟨a, e, q⟩ := q1
  subst e
  cases r1
  rcases q with ⟨⟨xs, hq⟩, q⟩ | ⟨⟨xs, hq⟩, q⟩
  · obtain ⟨its, rv, p, hz⟩ := I1.list hq
    refine wpAny_pyIter_list p.isList ?_
    refine ⟨s1.heap.objs.size, [s1.heap.objs.size], _, _, H1, rfl, I1.kept (t' := s1.toks) fun b o e => Heap.get?_push_of_some _ e, turn_list a _, ⟨_, Heap.get?_push_size _ rfl, rfl, rfl⟩, fun b hb => ?_, q⟩
    have e : b = s1.heap.objs.size := by simpa using hb
    subst e
    exact I1.fpOk (Nat.le_refl _) (I1.hok.fresh (Nat.le_refl _))
  · obtain ⟨its, rv, p, hz⟩ := I1.tuple hq
    refine wpAny_pyIter_tuple (show s1.heap.IsTuple a its.toArray from p) ?_
    refine ⟨s1.heap.objs.size, [s1.heap.objs.size], _, _, H1, rfl, I1.kept (t' := s1.toks) fun b o e => Heap.get?_push_of_some _ e, turn_tuple a _, ⟨_, Heap.get?_push_size _ rfl, rfl, rfl⟩, fun b hb => ?_, q⟩
    have e : b = s1.heap.objs.size := by simpa using hb
    subst e
    exact I1.fpOk (Nat.le_refl _) (I1.hok.fresh (Nat.le_refl _))
theorem for_row {K : PySem.W.Frag} {a : Addr} {xs : List V} {g : TG} {tb : TS} {D : Ends} {σ : L2.St} {H : Hp} (hr : Row K H a xs) (Pv : Nat → L2.St → Hp → Prop) (h0 : Pv 0 σ H) (hm : ∀ i σ H', Pv i σ H' → Same H H')
    (hs : ∀ i x σ H, xs[i]? = some x → Pv i σ H → g x σ H fun σ2 H2 => tb { D with nx := Pv (i + 1), ct := Pv (i + 1), bk := D.nx } σ2 H2) (hd : ∀ σ H, Pv xs.length σ H → D.nx σ H) :
    ((∃ xs, SqL K H a xs) ∧ (∃ W : Nat → Nat → L2.St → Hp → Prop, (∃ m, W 0 m σ H) ∧ ∀ i m σ H, W i m σ H →
      ((Itl K a).stop i H ∧ D.nx σ H) ∨ ((Itl K a).go i H ∧ ∃ N : L2.St → Hp → Prop, (∀ σ' H', N σ' H' → ∃ m', m' < m ∧ W (i + 1) m' σ' H') ∧ ∀ x H', (Itl K a).yld i H x H' → g x σ H' fun σ2 H2 => tb { D with nx := N, ct := N, bk := D.nx } σ2 H2))) ∨
    ((∃ xs, SqT K H a xs) ∧ (∃ W : Nat → Nat → L2.St → Hp → Prop, (∃ m, W 0 m σ H) ∧ ∀ i m σ H, W i m σ H →
      ((Itt K a).stop i H ∧ D.nx σ H) ∨ ((Itt K a).go i H ∧ ∃ N : L2.St → Hp → Prop, (∀ σ' H', N σ' H' → ∃ m', m' < m ∧ W (i + 1) m' σ' H') ∧ ∀ x H', (Itt K a).yld i H x H' → g x σ H' fun σ2 H2 => tb { D with nx := N, ct := N, bk := D.nx } σ2 H2))) := by
  rcases hr with hr | hr
  · exact .inl ⟨⟨_, hr⟩, for_list Pv h0 (fun i σ H' _ p => L2.Same.seq (hm i σ H' p) hr) hs hd⟩
  · exact .inr ⟨⟨_, hr⟩, for_tup Pv h0 (fun i σ H' _ p => NF.Same.tup (hm i σ H' p) hr) hs hd⟩
theorem ixs {X : Cx} {K : PySem.W.Frag} (h : X.K = K := by rfl) : IxR X (rIx K) := h ▸ ix_seq
theorem ix_done {K : PySem.W.Frag} {H : Hp} {a : Addr} {xs : List V} {i : Int} {v : V} {Q : VK} (hr : Row K H a xs) (hv : atI xs i = some v) (q : Q v H) : rIx K (.ref a) (.int i) H Q :=
  hr.elim (fun h => .inl ⟨a, xs, i, v, rfl, rfl, h, hv, q⟩) fun h => .inr (.inl ⟨a, xs, i, v, rfl, rfl, h, hv, q⟩)
theorem tru_row {K : PySem.W.Frag} {H : Hp} {a : Addr} {l : List Int} (h : Row K H a (vI l)) : TruV K (.ref a) H (!l.isEmpty) := h.elim (fun h => Or.inl ⟨_, h, by cases l <;> rfl⟩) tru_tup
theorem tyx_tup {K : PySem.W.Frag} {H : Hp} {a : Addr} {xs : List V} (h : SqT K H a xs) : TyX K H (.ref a) (.type "tuple") := by
  rcases h with (h | ⟨o, h⟩) | ⟨o, its, n, h1, h2, _⟩
  · exact .base (.tup h)
  · exact .fTuple h
  · exact .kTuple h1 h2
theorem tyx_lst {K : PySem.W.Frag} {H : Hp} {a : Addr} {xs : List V} (h : SqL K H a xs) : TyX K H (.ref a) (.type "list") := by
  rcases h with (h | ⟨o, h⟩) | ⟨o, its, n, h1, h2, _⟩
  · exact .base (.lst h)
  · exact .base (.frz h)
  · exact .kList h1 h2
theorem kit_i_i (K : PySem.W.Frag) : PySem.W.kitOne K (.type "int") (.type "int") = some true := if_pos (by decide +kernel)
theorem kit_i_b (K : PySem.W.Frag) : PySem.W.kitOne K (.type "int") (.type "bool") = some false := by kernel_rfl
theorem kit_b_b (K : PySem.W.Frag) : PySem.W.kitOne K (.type "bool") (.type "bool") = some true := if_pos (by decide +kernel)
theorem kit_t_t (K : PySem.W.Frag) : PySem.W.kitOne K (.type "tuple") (.type "tuple") = some true := if_pos (by decide +kernel)
theorem kit_t_tl (K : PySem.W.Frag) : PySem.W.kitAny K (.type "tuple") [.type "tuple", .type "list"] = some true := by kernel_rfl
theorem kit_l_tl (K : PySem.W.Frag) : PySem.W.kitAny K (.type "list") [.type "tuple", .type "list"] = some true := by kernel_rfl
end NF
namespace NT
def climbs : Int → List Int → Prop
  | _, [] => True
  | lo, x :: xs => lo ≤ x ∧ climbs x xs
structure Good (h l : List Int) (r : Int) : Prop where
  hd : climbs 0 h
  lp : climbs 0 l
  join : h ≠ [] → l ≠ [] → h.getD (h.length - 1) 0 ≤ l.getD 0 0
  r0 : 0 ≤ r
  rl : l = [] → r = 0
  last : l ≠ [] → l.getD (l.length - 1) 0 ≤ l.getD 0 0 + r
end NT
set_option Elab.async false
set_option linter.all false
set_option maxRecDepth 100000
set_option maxHeartbeats 4000000
namespace NT
theorem least_of {p : Nat → Prop} : ∀ n, p n → ∃ m, p m ∧ m ≤ n ∧ ∀ k, p k → m ≤ k := by
  intro n
  induction n using Nat.strongRecOn with
  | _ n ih =>
    intro hn
    by_cases h : ∃ k, p k ∧ k < n
    · obtain ⟨k, hk, hlt⟩ := h
      obtain ⟨m, h1, h2, h3⟩ := ih k hlt hk
      exact ⟨m, h1, by omega, h3⟩
    · exact ⟨n, hn, Nat.le_refl _, fun k hk => Nat.le_of_not_lt fun hlt => h ⟨k, hk, hlt⟩⟩
theorem lap_ex {l : List Int} {r : Int} (hl : l ≠ []) : ∃ m, LapIs l r m := by
  obtain ⟨m, ⟨h1, h2, h3⟩, _, hm⟩ := least_of (p := fun m => 0 < m ∧ m ∣ l.length ∧ Per (walk l r) m) l.length ⟨len_pos hl, Nat.dvd_refl _, per_self hl⟩
  exact ⟨m, h1, h2, h3, fun k a b c => hm k ⟨a, b, c⟩⟩
/-- the plain form is no longer than what it was told by -/
theorem plain_size {h l : List Int} {r : Int} {x : List Int × List Int × Int} (hx : IsPlain h l r x) : x.1.length ≤ h.length ∧ x.2.1.length ≤ l.length ∧ (l ≠ [] → x.2.1 ≠ []) ∧ (l = [] → x.2.1 = []) ∧ (0 ≤ r → 0 ≤ x.2.2 ∧ x.2.2 ≤ r) ∧ (l ≠ [] → (0 < r ↔ 0 < x.2.2)) ∧ (l = [] → x = (h, [], 0)) := by
  by_cases hl : l = []
  · subst hl
    rcases hx with ⟨_, rfl⟩ | ⟨z, _⟩
    · exact ⟨Nat.le_refl _, Nat.le_refl _, fun z => absurd rfl z, fun _ => rfl, fun h => ⟨Int.le_refl _, h⟩, fun z => absurd rfl z, fun _ => rfl⟩
    · exact absurd rfl z
  · obtain ⟨m, a⟩ := lap_ex (r := r) hl
    obtain ⟨t, ht⟩ := a.dvd
    have hc := per_at hl a.pos a.per ht.symm
    have hr := per_rise hl hc ht.symm
    have t0 : 0 < t := Nat.pos_of_ne_zero fun z => by rw [z, Nat.mul_zero] at ht; have := len_pos hl; omega
    have b := plain_is (h := h) hl a hc
    have e := plain_one hx b fun n _ => rfl
    have hle : m ≤ l.length := Nat.le_of_dvd (len_pos hl) a.dvd
    have hlen : (h ++ l.take m).length = h.length + m := by rw [List.length_append, List.length_take, Nat.min_eq_left hle]
    have hcut := cut_le (e := h ++ l.take m) (p := m) (r := r / (t : Int)) h.length
    have hw := win_len (e := h ++ l.take m) (left := cut (h ++ l.take m) m (r / (t : Int)) h.length) (p := m) (by rw [hlen]; omega)
    subst e
    have hm := a.pos
    refine ⟨?_, ?_, fun _ z => ?_, fun z => absurd z hl, fun h0 => ?_, fun _ => ?_, fun z => absurd z hl⟩
    · show ((h ++ l.take m).take _).length ≤ _
      rw [List.length_take]
      omega
    · show (win _ _ _).length ≤ _
      rw [hw]
      exact hle
    · have z' : win (h ++ l.take m) (cut (h ++ l.take m) m (r / (t : Int)) h.length) m = [] := z
      rw [z'] at hw
      simp at hw
      omega
    · show 0 ≤ r / (t : Int) ∧ r / (t : Int) ≤ r
      exact ⟨Int.ediv_nonneg h0 (by omega), Int.ediv_le_self _ h0⟩
    · show 0 < r ↔ 0 < r / (t : Int)
      have t1 : (0 : Int) < (t : Int) := by omega
      constructor
      · intro h0
        rcases Int.lt_or_le 0 (r / (t : Int)) with q | q
        · exact q
        · have := Int.mul_le_mul_of_nonneg_right q (Int.le_of_lt t1)
          omega
      · intro h0
        have := Int.mul_pos h0 t1
        omega
/-- the end of a table -/
def fin_ (l : List Int) (r : Int) : Option Int := if l = [] ∨ 0 < r then none else some (l.getD (l.length - 1) 0)
/-- the value at a count, or at never -/
def val_ (h l : List Int) (r : Int) : Option Nat → Option Int
  | none => fin_ l r
  | some n => if n = 0 then some 0 else at_ h l r n
end NT
namespace NF
open PySem PySem.Spec PyProof.Rows L2 He RZ NT
def vO : Option Int → V
  | none => .non
  | some i => .int i
def vN : Option Nat → V
  | none => .non
  | some n => .int (n : Int)
def tf (a b : Addr) (r : Int) : List (Str × V) := [("head", .ref a), ("loop", .ref b), ("rise", .int r)]
/-- a table with these three -/
def TabAt (K : PySem.W.Frag) (C : Addr) (H : Hp) (x : Addr) (y : List Int × List Int × Int) : Prop := ∃ dx a b, H x = some (.ins C dx (tf a b y.2.2)) ∧ SqT K H a (vI y.1) ∧ SqT K H b (vI y.2.1)
theorem TabAt.mono {K : PySem.W.Frag} {C : Addr} {H H' : Hp} {x : Addr} {y : List Int × List Int × Int} (h : TabAt K C H x y) (s : Same H H') : TabAt K C H' x y := by
  obtain ⟨dx, a, b, h1, h2, h3⟩ := h
  exact ⟨dx, a, b, s _ _ h1, NF.Same.tup s h2, NF.Same.tup s h3⟩
/-- what stands at p is no tuple -/
def NoTup : HO → Prop
  | .tup _ => False
  | .frz _ _ => False
  | _ => True
theorem SqT.put {K : PySem.W.Frag} {H : Hp} {a p : Addr} {o u : HO} {xs : List V} (h : SqT K H a xs) (hp : H p = some u) (n : match u with | .lst _ => True | .ins _ _ _ => True | _ => False) : SqT K (upd H p o) a xs := by
  rcases h with (h | ⟨w, h⟩) | h
  · refine .inl (.inl ?_)
    rw [upd_ne (fun z => by subst z; rw [h] at hp; cases hp; exact n)]
    exact h
  · refine .inl (.inr ⟨w, ?_⟩)
    rw [upd_ne (fun z => by subst z; rw [h] at hp; cases hp; exact n)]
    exact h
  · exact .inr h
theorem SqT.wo {K : PySem.W.Frag} {H : Hp} {a p : Addr} {u : HO} {xs : List V} (h : SqT K H a xs) (hp : H p = some u) (n : match u with | .lst _ => True | .ins _ _ _ => True | _ => False) : SqT K (wo H p) a xs := by
  rcases h with (h | ⟨w, h⟩) | h
  · refine .inl (.inl ?_)
    rw [wo_ne (fun z => by subst z; rw [h] at hp; cases hp; exact n)]
    exact h
  · refine .inl (.inr ⟨w, ?_⟩)
    rw [wo_ne (fun z => by subst z; rw [h] at hp; cases hp; exact n)]
    exact h
  · exact .inr h
theorem TabAt.wo {K : PySem.W.Frag} {C : Addr} {H : Hp} {x p : Addr} {y : List Int × List Int × Int} {l : List V} (h : TabAt K C H x y) (hp : H p = some (.lst l)) : TabAt K C (NF.wo H p) x y := by
  obtain ⟨dx, a, b, h1, h2, h3⟩ := h
  refine ⟨dx, a, b, ?_, SqT.wo h2 hp trivial, SqT.wo h3 hp trivial⟩
  rw [wo_ne (fun z => by subst z; rw [h1] at hp; cases hp)]
  exact h1
/-- a class that may be made by its name; sp: its __init__ -/
structure Mak (P : Program) (w : World) (K : PySem.W.Frag) (mg : Str → Option Value) (base : Heap) (k n : Nat) (x : Str) (C : Addr) (sp : Sp) (dvs : List V) : Prop where
  ex : ∃ (f : Addr) (fd : FuncData) (ps : List Str) (ds : List Value), Mk K C f ∧ FnOk P w K mg base CX0 k f fd ps sp ∧ mg x = some (.ref C) ∧ Binds K fd ps ds ∧ Vals dvs ds
theorem pe_mk {X : Cx} {k j n : Nat} {C : Addr} {x : Str} {sp : Sp} {dvs : List V} {p pos : Pos} {e : Expr} {es : List Expr} {t : TA} (c : Mak X.prog X.w X.K X.mg X.base k n x C sp dvs) (hr : Room j X.A) (hk : k + 1 ≤ j) (hg : Gl X x) (ha : PA X (e :: es) t)
    (hdb : (x == ("__debug__" : Str)) = false := by decide) (he : starEach (e :: es) X.env = (false, eval e X.env) :: starEach es X.env := by rfl) (hpl : (backTo pos (starEach es X.env)).any (·.1) = false := by rfl) :
    PE X (.Call (.Name x p) (e :: es) [] pos) (tMake C sp dvs E0 t) := by
  obtain ⟨f, fd, ps, ds, M, F, hm, b, d⟩ := c.ex
  exact pe_make M F (hr.mono hk) hg hm b d pass0 ha hdb he hpl
end NF
namespace NF
open PySem PySem.Spec PyProof.Rows L2 He RZ NT
/-- tuple(..) of a list or a tuple -/
def rTupOf (K : PySem.W.Frag) : List V → Hp → VK → Prop := fun xs H Q => ∃ a ys, xs = [.ref a] ∧ Row K H a ys ∧ ∀ p H', Same H H' → SqT K H' p ys → Q (.ref p) H'
theorem cr_tup {X : Cx} : CallR X (.type "tuple") (rTupOf X.K) := by
  intro pins s σ H xs us Q I r h
  obtain ⟨a, ys, rfl, hr, q⟩ := h
  refine call_tuple_of pins s σ H _ us Q I r ⟨a, ys, rfl, ?_⟩
  exact hr.elim (fun h => .inl ⟨h, fun l hl => q l _ (NF.Same.new (Same.refl H) hl) (SqT.of upd_same)⟩) fun h => .inr ⟨h, q a H (Same.refl H) h⟩
end NF
set_option Elab.async false
set_option linter.all false
set_option maxRecDepth 100000
set_option maxHeartbeats 4000000
/-! Instances of a plain class with an own __eq__: ==, !=, isinstance, calls, properties. -/
namespace NF
open PySem PySem.Spec PyProof.Rows L2 He RZ NT
theorem ns_some_of {K : PySem.W.Frag} {h : Heap} {N : Addr} {mg : Str → Option Value} {n : Str} {v : Value} (X : K.In h) (G : h.Ns N mg) (e : PySem.W.nsIn K N n = some (some v)) : mg n = some v := by
  rcases G with ⟨ob, rows, cnt, at_, isD, rest⟩
  have val := rest.2 n
  rcases hk : K.lookup N with _ | ⟨c0, d0, dt, sl⟩
  · simp only [PySem.W.nsIn, hk] at e
    cases e
  · have same := (X N _ hk).symm.trans at_
    injection same with same
    subst same
    dsimp only at isD
    subst isD
    simp only [PySem.W.nsIn, hk] at e
    rw [← val]
    unfold nsFind findBy
    rw [← Array.find?_toList]
    revert e
    cases rows.toList.find? _ with
    | some en => exact fun e => by simpa using e
    | none =>
      intro e
      by_cases hany : (rows.toList.any fun x => x.refKey) = true
      · simp [hany] at e
      · simp [hany] at e
/-- the class's own object: nothing above it but object, an own __eq__ at f, no own __ne__ -/
def plObjB (K : PySem.W.Frag) (C f : Addr) : Bool := match K.lookup C with
  | some ⟨.type t, _, .cls cd, sl⟩ => t == "type" && (match cd.mro with
    | .ref C' :: bm => C' == C && bm == [.type "object"]
    | _ => false) && (cd.hasDict && !cd.hasDel) && (PySem.W.nsOkIn K cd.ns && eqO (PySem.W.nsIn K cd.ns "__eq__") (some (some (.ref f))) && eqO (PySem.W.nsIn K cd.ns "__ne__") (some none)) && (match sl.toList with
    | [_, _, _, _, some (.builtin n), _] => n == "object.__new__"
    | _ => false)
  | _ => false
theorem plObjB_ok {K : PySem.W.Frag} {C f : Addr} (h : plObjB K C f = true) :
    ∃ nm q N bs sn sub ab col dd k0 k1 k2 k3 k5, K.lookup C = some (excClassObj nm q C N bs [.type "object"] true sn sub ab col dd k0 k1 k2 k3 k5 "object.__new__") ∧ PySem.W.nsOkIn K N = true ∧ PySem.W.nsIn K N "__eq__" = some (some (.ref f)) ∧ PySem.W.nsIn K N "__ne__" = some none := by
  unfold plObjB at h
  split at h
  · rename_i t dd cd sl hl
    obtain ⟨h, h4⟩ := ba h
    obtain ⟨h, h9⟩ := ba h
    obtain ⟨h, h3⟩ := ba h
    obtain ⟨h1, h2⟩ := ba h
    obtain ⟨h12, h11⟩ := ba h9
    obtain ⟨h13, h10⟩ := ba h12
    split at h2
    · rename_i C' bm hm
      obtain ⟨h5, h6⟩ := ba h2
      split at h4
      · rename_i k0 k1 k2 k3 n k5 hs
        obtain ⟨h7, h8⟩ := ba h3
        have e1 : t = "type" := eq_of_beq h1
        have e5 : C' = C := eq_of_beq h5
        have e6 : bm = [.type "object"] := eq_of_beq h6
        have e9 : n = "object.__new__" := eq_of_beq h4
        subst e1 e5 e6 e9
        obtain ⟨nm, bs, mro, N, q, hd, sn, sub, ab, col, hdel⟩ := cd
        dsimp only at hm h7 h8 h13 h10 h11
        subst hm h7
        have hdel' : hdel = false := by
          cases hdel with
          | false => rfl
          | true => cases h8
        subst hdel'
        have hsl : sl = #[k0, k1, k2, k3, some (.builtin "object.__new__"), k5] := by
          have := congrArg List.toArray hs
          simpa using this
        subst hsl
        exact ⟨nm, q, N, bs, sn, sub, ab, col, dd, k0, k1, k2, k3, k5, hl, h13, eqO_ok h10, eqO_ok h11⟩
      · cases h4
    · cases h2
  · cases h
/-- x == y, x an instance of C -/
def rEqO (K : PySem.W.Frag) (C : Addr) (sp : Sp) : R2 := fun x y H Q => ∃ a dx fs tb, x = .ref a ∧ H a = some (.ins C dx fs) ∧ TyX K H y tb ∧ PySem.W.notFirst K C tb = true ∧ sp [.ref a, y] H Q E0
/-- x != y, both instances of C -/
def rNeO (K : PySem.W.Frag) (C : Addr) (sp : Sp) : R2 := fun x y H Q => ∃ a dx fs b dy gs, x = .ref a ∧ H a = some (.ins C dx fs) ∧ y = .ref b ∧ H b = some (.ins C dy gs) ∧ sp [.ref a, .ref b] H (fun v H' => ∃ t, v = .bl t ∧ Q (.bl (!t)) H') E0
/-- a class with an own == at f -/
structure EqC (P : Program) (w : World) (K : PySem.W.Frag) (mg : Str → Option Value) (base : Heap) (k : Nat) (C : Addr) (sp : Sp) : Prop where
  ex : ∃ (f : Addr) (fd : FuncData) (ps : List Str), FnOk P w K mg base CX0 k f fd ps sp ∧ PySem.W.findIn K (.ref C) "__eq__" = some (some (.ref f)) ∧ PySem.W.isFn K (.ref f) = true ∧ plObjB K C f = true ∧ Binds K fd ps []
theorem op_eqO {X : Cx} {k j : Nat} {C : Addr} {sp : Sp} (c : EqC X.prog X.w X.K X.mg X.base k C sp) (hr : Room j X.A) (hk : k ≤ j) : OpR X (compareOp .Eq) (rEqO X.K C sp) := by
  obtain ⟨f, fd, ps, F, hs, hf, _, hb⟩ := c.ex
  intro pins s σ H x y v u Q I rx ry h
  obtain ⟨a, dx, fs, tb, rfl, ha, ty, hn, q⟩ := h
  cases rx
  obtain ⟨mA, O, _⟩ := ins_get I.hok ha
  obtain ⟨od, J, _⟩ := O.look
  obtain ⟨m, hF⟩ := I.fr
  obtain ⟨P, Z, p, _⟩ := kit_of I ry ty
  show wpAny (model X.prog X.w) X.A (richCompare .Eq (.ref a) u) (EP X pins σ Q) X.xe s
  refine PySem.W.cmp_K (op := .Eq) (tb := tb) hr.units0 hF I.ok.mod.kin J (Z.ty _ _ I.kIn p) hn hs hf ?_
  have r2 : Vals [V.ref a, y] [Value.ref a, u] := .cons rfl (.cons ry .nil)
  refine wpAny_mono (run_fn (us := [.ref a, u]) (vs := [.ref a, y]) F (hr.mono hk) hb .nil pass0 I r2 q) (fun r s' z => ?_) fun _ _ e => e
  obtain ⟨z, H', I', rz, q'⟩ := z
  have hni : r ≠ .notImplemented := fun e => by
    subst e
    cases z with
    | int i => obtain ⟨t, e⟩ := (show ∃ t, Value.notImplemented = Value.int i t from rz); cases e
    | str i => obtain ⟨t, e⟩ := (show ∃ t, Value.notImplemented = Value.str i t from rz); cases e
    | byt i => obtain ⟨t, e⟩ := (show ∃ t, Value.notImplemented = Value.bytes i t from rz); cases e
    | flt i => obtain ⟨t, e⟩ := (show ∃ t, Value.notImplemented = Value.float i t from rz); cases e
    | _ => cases rz
  unfold PySem.W.CmpBack
  split
  · exact hni rfl
  · exact ⟨z, H', I', rz, q'⟩
theorem op_neO {X : Cx} {k j : Nat} {C : Addr} {sp : Sp} (c : EqC X.prog X.w X.K X.mg X.base k C sp) (hr : Room j X.A) (hk : k + 1 ≤ j) : OpR X (compareOp .NotEq) (rNeO X.K C sp) := by
  obtain ⟨f, fd, ps, F, hs, hf, hp, hb⟩ := c.ex
  intro pins s σ H x y v u Q I rx ry h
  obtain ⟨a, dx, fs, b, dy, gs, rfl, ha, rfl, hb', q⟩ := h
  cases rx
  cases ry
  obtain ⟨mA, O, _⟩ := ins_get I.hok ha
  obtain ⟨od, J, _⟩ := O.look
  obtain ⟨mB, O', _⟩ := ins_get I.hok hb'
  obtain ⟨od', J', _⟩ := O'.look
  obtain ⟨nm, qn, N, bs, sn, sub, ab, col, dd, k0, k1, k2, k3, k5, hl, hok, he, hne⟩ := plObjB_ok hp
  have G : s.heap.Ns N (s.heap.nsMap N) := .of_isNs (PySem.W.isNs_of_in I.kIn hok)
  have hr1 := hr.mono hk
  have r2 : Vals [V.ref a, .ref b] [Value.ref a, .ref b] := .cons rfl (.cons rfl .nil)
  have hlen := F.len _ _ _ _ q
  have run : wpAny (model X.prog X.w) X.A.in1 (call (.ref f) [.ref a, .ref b]) (fun v s' => ∃ t, v = .bool t ∧ EP X pins σ Q (.bool (!t)) s') X.xe s := by
    refine wpAny_call (codeAny_mono (F.run X.A.in1 X.stack s H ⟨[.ref a, .ref b], []⟩ [.ref a, .ref b] [.ref a, .ref b] _ E0 hr1.in1 I.env0.in1 (by
      have := hb s [.ref a, .ref b] I.kIn (by simpa using hlen)
      simpa using this) r2 q) fun r s' hq => ?_)
    cases r with
    | error e => exact False.elim hq
    | ok fl =>
      cases fl with
      | ret w =>
        obtain ⟨z, H', I', rz, t, ez, q3⟩ := I.after hq
        subst ez
        cases rz
        exact ⟨t, rfl, .bl (!t), H', I', rfl, q3⟩
      | next => exact False.elim hq
      | brk => exact False.elim hq
      | cont => exact False.elim hq
  obtain ⟨j1, j2, _⟩ := J
  obtain ⟨j3, j4, _⟩ := J'
  obtain ⟨of, hfo, hfc⟩ : ∃ of, s.heap.get? f = some of ∧ of.cls = .type "function" := by
    have e : (K0 : PySem.W.Frag) → K0.In s.heap → PySem.W.isFn K0 (.ref f) = true → ∃ of, s.heap.get? f = some of ∧ of.cls = .type "function" := fun K0 hK h0 => by
      have e1 : (K0.lookup f).map (·.cls) = some (.type "function") := beq_iff_eq.mp h0
      obtain ⟨o, ho, hc⟩ := Option.map_eq_some_iff.mp e1
      exact ⟨o, hK _ _ ho, hc⟩
    exact e X.K I.kIn hf
  obtain ⟨hp', g, d, tk, os⟩ := s
  exact PySem.compareOp_ne_ownEq (B := "object") (bm := [.type "object"]) PySem.F.cmp_object ⟨_, of, nm, qn, N, bs, true, sn, sub, ab, col, dd, k0, k1, k2, k3, k5, "object.__new__", _, _, j1, j2, I.kIn _ _ hl, G, ns_some_of I.kIn G he, hfo, hfc, PySem.F.cmp_object.mro, PySem.F.cmp_object.eq.lookup, PySem.W.ns_none_of I.kIn G hne⟩ j3 j4 (by have := hr.un; omega) run
/-- an instance of C may be called -/
structure CalO (P : Program) (w : World) (K : PySem.W.Frag) (mg : Str → Option Value) (base : Heap) (k : Nat) (C : Addr) (sp : Sp) : Prop where
  ex : ∃ (g : Addr) (fd : FuncData) (ps : List Str), StX.CallO K C g ∧ FnOk P w K mg base CX0 k g fd ps sp ∧ Binds K fd ps []
theorem pe_co {X : Cx} {k j : Nat} {C : Addr} {sp : Sp} {fe e : Expr} {es : List Expr} {t : TA} {tf : TE} {pos : Pos} (hf : PE X fe tf) (c : CalO X.prog X.w X.K X.mg X.base k C sp) (hr : Room j X.A) (hk : k ≤ j) (ha : PA X (e :: es) t)
    (ht : eval (.Call fe (e :: es) [] pos) X.env = (do callWith pos (← eval fe X.env) [] (backTo pos (starEach (e :: es) X.env)) (backToKw pos (keywordEach [] X.env))) := by rfl)
    (he : starEach (e :: es) X.env = (false, eval e X.env) :: starEach es X.env := by rfl) (hpl : (backTo pos (starEach es X.env)).any (·.1) = false := by rfl) :
    PE X (.Call fe (e :: es) [] pos) (StX.tCallO X C (fun vs H Q E => sp (vs ++ []) H Q E) E0 tf t) := by
  obtain ⟨g, fd, ps, c, F, b⟩ := c.ex
  exact StX.pe_callO hf c (F.raw b .nil) (hr.mono hk) pass0 ha ht he hpl
/-- a property of C -/
structure PropC (P : Program) (w : World) (K : PySem.W.Frag) (mg : Str → Option Value) (base : Heap) (k : Nat) (C : Addr) (f : Str) (sp : Sp) : Prop where
  cl : Cls K C
  ex : ∃ (p g : Addr) (fd : FuncData) (ps : List Str), PropOf K C f p g ∧ FnOk P w K mg base CX0 k g fd ps sp ∧ Binds K fd ps []
theorem pe_pr {X : Cx} {k j : Nat} {C : Addr} {f : Str} {sp : Sp} {e : Expr} {ta : TE} {pos : Pos} (he : PE X e ta) (c : PropC X.prog X.w X.K X.mg X.base k C f sp) (hr : Room j X.A) (hk : k + 1 ≤ j) (hab : attributeBase e f X.env (eval e X.env) = eval e X.env := by rfl) :
    PE X (.Attribute e f pos) (tProp C sp [] E0 ta) := by
  obtain ⟨p, g, fd, ps, c2, F, b⟩ := c.ex
  exact pe_prop he c.cl c2 F (hr.mono hk) b .nil pass0 hab
end NF
set_option Elab.async false
set_option linter.all false
set_option maxRecDepth 100000
set_option maxHeartbeats 4000000
/-! The hook with getters: defs at addresses told by the written part. -/
namespace NF
open PySem PySem.Spec PyProof.Rows L2 He
def fnWa (K : PySem.W.Frag) (a : Addr) : FnW := match K.lookup a with
  | some ⟨_, _, .func fd, _⟩ => some (fd.name, fd.qualname, fd.params, fd.body, fd.scope, fd.globals, fd.closure, fd.builtins)
  | _ => none
def okA (K : PySem.W.Frag) (a : Addr) (d : DefD) : Bool := PySem.W.keepIn K (.ref a) && (match K.lookup a with
  | some ⟨_, _, .func fd, _⟩ => PySem.W.codeIn K fd.code d.qual && (dflB K fd.defaults (d.dvs K) && kwdB K fd.kwdefaults (d.kws K))
  | _ => false)
theorem funA {K : PySem.W.Frag} {a : Addr} {d : DefD} (e : fnWa K a = d.val) (c : okA K a d = true) : ∃ fd, FunD K d.name d.qual d.params d.body d.scope (d.dvs K) (d.kws K) a fd := by
  have hkp := (ba c).1
  have hrec := (ba c).2
  rcases hl : K.lookup a with _ | ⟨c0, d0, dt, sl⟩
  · simp only [hl] at hrec
    exact absurd hrec (by decide)
  · cases dt
    case func g =>
      simp only [fnWa, hl, DefD.val, Option.some.injEq, Prod.mk.injEq] at e
      rcases g with ⟨m1, m2, m3, m4, m5, m6, m7, m8, m9, m10, m11, m12, m13, m14, m15⟩
      simp only at e
      rcases e with ⟨z1, z2, z3, z4, z5, z6, z7, z8⟩
      simp only [hl] at hrec
      have hcode := (ba hrec).1
      have hdfl := dflB_ok (ba (ba hrec).2).1
      have hkwd := kwdB_ok (ba (ba hrec).2).2
      refine ⟨PySem.W.fnOf d.name d.qual d.params d.body d.scope m8 m9 m10 m11 m12 m13 m14, ⟨c0, d0, m8, m9, m10, m11, m12, m13, m14, sl, rfl, ?_, hcode, hdfl, hkwd⟩, hkp⟩
      subst z1 z2 z3 z4 z5 z6 z7 z8
      exact hl
    all_goals
      simp only [hl] at hrec
      exact absurd hrec (by decide)
abbrev Adr := (PySem.W.Frag → Addr) × DefD
def obsP (ex : PySem.W.Frag → Bool) (fn : List Adr) (K : PySem.W.Frag) : AlD := (ex K && fn.all fun d => okA K (d.1 K) d.2, fn.map fun d => fnWa K (d.1 K))
def valP (fn : List Adr) : AlD := (true, fn.map fun d => d.2.val)
def SaysP (ex : PySem.W.Frag → Bool) (fn : List Adr) (K : PySem.W.Frag) : Prop := obsP ex fn K = valP fn
def obsPG (n : Nat) (ex : PySem.W.Frag → Bool) (fn : List Adr) (g : Addr → Option Obj) : AlD := obsP ex fn (frG g (asD g n))
def hookP (n : Nat) (ex : PySem.W.Frag → Bool) (fn : List Adr) : PySem.W.Hook where
  α := AlD
  obs := fun s => obsPG n ex fn s.heap.get?
  val := fun _ => valP fn
  says := fun _ h => ∃ K : PySem.W.Frag, K.In h ∧ SaysP ex fn K
  of := fun _ _ e => ⟨_, frG_in, e⟩
  keeps := fun _ _ _ ⟨K, hK, c⟩ k => ⟨K, PySem.W.Frag.In.keeps hK k, c⟩
theorem obsPG_eq {n : Nat} {ex : PySem.W.Frag → Bool} {fn : List Adr} {g : Addr → Option Obj} {s : Shared} (h : ∀ a, g a = s.heap.get? a) : obsPG n ex fn g = (hookP n ex fn).obs s := by
  have e : g = s.heap.get? := funext h
  rw [e] <;> rfl
section
variable {ex : PySem.W.Frag → Bool} {fn : List Adr} {K : PySem.W.Frag}
theorem SaysP.truth (c : SaysP ex fn K) : ex K = true :=
  (ba (show (ex K && fn.all fun d => okA K (d.1 K) d.2) = true from congrArg (fun z : AlD => z.1) c)).1
theorem SaysP.def_ (c : SaysP ex fn K) (i : Nat) {d : Adr} (h : fn[i]? = some d := by rfl) : ∃ fd, FunD K d.2.name d.2.qual d.2.params d.2.body d.2.scope (d.2.dvs K) (d.2.kws K) (d.1 K) fd := by
  have c2 := (ba (show (ex K && fn.all fun d => okA K (d.1 K) d.2) = true from congrArg (fun z : AlD => z.1) c)).2
  have e : fn.map (fun d => fnWa K (d.1 K)) = fn.map fun d => d.2.val := congrArg (fun z : AlD => z.2) c
  have e2 : (fn.map fun d => fnWa K (d.1 K))[i]? = (fn.map fun d => d.2.val)[i]? := by rw [e]
  rw [List.getElem?_map, List.getElem?_map, h] at e2
  exact funA (Option.some.inj e2) (List.all_eq_true.mp c2 d (List.mem_of_getElem? h))
end
end NF
set_option Elab.async false
set_option linter.all false
set_option maxRecDepth 100000
set_option maxHeartbeats 4000000
/-! Makers and instances whose defs let an exception out. -/
namespace NF
open PySem PySem.Spec PyProof.Rows L2 He RZ NT
/-- a def's answer handed on, or its exception let through -/
theorem handS {X : Cx} {CX : CXT} {E : L2.St → XK} {σ : L2.St} {pins : List (Addr × Obj)} {H : Hp} {s : Shared} {Q : VK} (hx : PassesAt CX X σ (E σ)) (I : Inv X pins σ H s) {r : Result} {s' : Shared} (h : CR CX X.stack X.prog X.w H s Q (E σ) r s') :
    (∃ u, r = .ok (.ret u) ∧ EP X pins σ Q u s') ∨ ∃ e, r = .error e ∧ X.xe e s' := by
  cases r with
  | error e => exact .inr ⟨e, rfl, hx pins H s e s' I h⟩
  | ok fl => cases fl with
    | ret u => exact .inl ⟨u, rfl, I.after h⟩
    | next => exact h.elim
    | brk => exact h.elim
    | cont => exact h.elim
def tMakeS (C : Addr) (sp : Sp) (dvs : List V) (E : L2.St → XK) (t : TA) : TE := fun σ H Q => t σ H fun vs H1 => ∀ x dx, H1 x = none → H1 dx = none → dx ≠ x →
  sp (.ref x :: (vs ++ dvs)) (upd (upd H1 dx (.own x)) x (.ins C dx [])) (fun v H2 => v = .non ∧ Q (.ref x) H2) (E σ)
theorem make_runs {X : Cx} {CX : CXT} {k : Nat} {C f : Addr} {fd : FuncData} {ps : List Str} {sp : Sp} {dvs : List V} {ds : List Value} {E : L2.St → XK} {pins : List (Addr × Obj)} {σ : L2.St} {H : Hp} {s : Shared} {Q : VK} {us : List Value} {vs : List V}
    (M : Mk X.K C f) (F : FnOk X.prog X.w X.K X.mg X.base CX k f fd ps sp) (hr : Room (k + 1) X.A) (hb : Binds X.K fd ps ds) (hd : Vals dvs ds) (hx : PassesAt CX X σ (E σ)) (I : Inv X pins σ H s) (r : Vals vs us)
    (h : ∀ x dx, H x = none → H dx = none → dx ≠ x → sp (.ref x :: (vs ++ dvs)) (upd (upd H dx (.own x)) x (.ins C dx [])) (fun v H2 => v = .non ∧ Q (.ref x) H2) (E σ)) :
    wpAny (model X.prog X.w) X.A (call (.ref C) us) (EP X pins σ Q) X.xe s := by
  have want := h (s.heap.objs.size + 1) s.heap.objs.size (I.hok.fresh (Nat.le_succ _)) (I.hok.fresh (Nat.le_refl _)) (Nat.ne_of_lt (Nat.lt_succ_self _))
  have J := Inv.made (C := C) I
  have rr : Vals (V.ref (s.heap.objs.size + 1) :: (vs ++ dvs)) (Value.ref (s.heap.objs.size + 1) :: (us ++ ds)) := .cons rfl (r.append hd)
  have len : (Value.ref (s.heap.objs.size + 1) :: us ++ ds).length = ps.length := rr.length.symm.trans (F.len _ _ _ _ want)
  have body := F.run _ X.stack _ _ ⟨Value.ref (s.heap.objs.size + 1) :: us, []⟩ (Value.ref (s.heap.objs.size + 1) :: (us ++ ds)) _ _ (E σ) (hr.make C us []) (J.env0.make C us []) (hb _ (Value.ref (s.heap.objs.size + 1) :: us) J.kIn len) rr want
  refine wpAny_call (make_map (f := f) I.kIn M.makes M.init (beq_iff_eq.mp M.fn) (codeAny_mono body fun q s' hq => ?_))
  rcases handS hx J hq with ⟨u, rfl, v, H', J', rv, ev, q3⟩ | ⟨e, rfl, hz⟩
  · subst ev
    exact ⟨rv, V.ref (s.heap.objs.size + 1), H', J', rfl, q3⟩
  · exact hz
/-- a class whose __init__ may let an exception out -/
structure MakX (P : Program) (w : World) (K : PySem.W.Frag) (mg : Str → Option Value) (base : Heap) (k n : Nat) (x : Str) (C : Addr) (sp : Sp) (dvs : List V) : Prop where
  ex : ∃ (f : Addr) (fd : FuncData) (ps : List Str) (ds : List Value), Mk K C f ∧ FnOk P w K mg base (L2.CX P w) k f fd ps sp ∧ mg x = some (.ref C) ∧ Binds K fd ps ds ∧ Vals dvs ds
theorem pe_mkX {X : Cx} {k j n : Nat} {C : Addr} {x : Str} {sp : Sp} {dvs : List V} {W : WX} {p pos : Pos} {e : Expr} {es : List Expr} {t : TA} (tk : Takes X W) (c : MakX X.prog X.w X.K X.mg X.base k n x C sp dvs) (hr : Room j X.A) (hk : k + 1 ≤ j) (hg : Gl X x) (ha : PA X (e :: es) t)
    (hdb : (x == ("__debug__" : Str)) = false := by decide) (he : starEach (e :: es) X.env = (false, eval e X.env) :: starEach es X.env := by rfl) (hpl : (backTo pos (starEach es X.env)).any (·.1) = false := by rfl) :
    PE X (.Call (.Name x p) (e :: es) [] pos) (tMakeS C sp dvs (WE W) t) := by
  obtain ⟨f, fd, ps, ds, M, F, hm, b, d⟩ := c.ex
  refine ⟨fun pins s σ H Q I h => ?_⟩
  refine wpAny_Call_Name_kw (ld_glob I hg hm ?_ hdb)
  refine PySem.W.callWith_K (h₀ := X.base) I.ok.mod.kin M.kp (thn (ha.run pos pins s σ H _ I h) fun us s1 ⟨vs, H1, I1, r, q⟩ => ⟨I1.kIn, ?_⟩) he hpl
  exact make_runs (E := WE W) M F (hr.mono hk) b d (passAt tk σ) I1 r q
/-- a def that may let an exception out, by its name -/
structure CalX (P : Program) (w : World) (K : PySem.W.Frag) (mg : Str → Option Value) (base : Heap) (k : Nat) (x : Str) (sp : Sp) : Prop where
  ex : ∃ (f : Addr) (fd : FuncData) (ps : List Str), FnOk P w K mg base (L2.CX P w) k f fd ps sp ∧ mg x = some (.ref f) ∧ PySem.W.keepIn K (.ref f) = true ∧ Binds K fd ps []
theorem pe_cX {X : Cx} {k j : Nat} {x : Str} {sp : Sp} {W : WX} {e : Expr} {es : List Expr} {t : TA} {p pos : Pos} (tk : Takes X W) (c : CalX X.prog X.w X.K X.mg X.base k x sp) (hr : Room j X.A) (hk : k ≤ j) (hg : Gl X x) (ha : PA X (e :: es) t)
    (hdb : (x == ("__debug__" : Str)) = false := by decide) (he : starEach (e :: es) X.env = (false, eval e X.env) :: starEach es X.env := by rfl) (hpl : (backTo pos (starEach es X.env)).any (·.1) = false := by rfl) :
    PE X (.Call (.Name x p) (e :: es) [] pos) (tCallS sp (WE W) t) := by
  obtain ⟨f, fd, ps, F, hm, kp, b⟩ := c.ex
  exact pe_callS F (hr.mono hk) hg hm kp b (fun σ => passAt tk σ) ha hdb he hpl
/-- an instance that may be called, and may let an exception out -/
structure CalOX (P : Program) (w : World) (K : PySem.W.Frag) (mg : Str → Option Value) (base : Heap) (k : Nat) (C : Addr) (sp : Sp) : Prop where
  ex : ∃ (g : Addr) (fd : FuncData) (ps : List Str), StX.CallO K C g ∧ FnOk P w K mg base (L2.CX P w) k g fd ps sp ∧ Binds K fd ps []
def tCallOS (C : Addr) (sp : Sp) (E : L2.St → XK) (tf : TE) (t : TA) : TE := fun σ H Q => tf σ H fun y H1 => ∃ a, y = V.ref a ∧ t σ H1 fun vs H2 => (∃ dx fs, H2 a = some (.ins C dx fs)) ∧ sp (V.ref a :: vs) H2 Q (E σ)
theorem pe_coX {X : Cx} {k j : Nat} {C : Addr} {sp : Sp} {W : WX} {fe e : Expr} {es : List Expr} {t : TA} {tf : TE} {pos : Pos} (tk : Takes X W) (hf : PE X fe tf) (c : CalOX X.prog X.w X.K X.mg X.base k C sp) (hr : Room j X.A) (hk : k ≤ j) (ha : PA X (e :: es) t)
    (ht : eval (.Call fe (e :: es) [] pos) X.env = (do callWith pos (← eval fe X.env) [] (backTo pos (starEach (e :: es) X.env)) (backToKw pos (keywordEach [] X.env))) := by rfl)
    (he : starEach (e :: es) X.env = (false, eval e X.env) :: starEach es X.env := by rfl) (hpl : (backTo pos (starEach es X.env)).any (·.1) = false := by rfl) :
    PE X (.Call fe (e :: es) [] pos) (tCallOS C sp (WE W) tf t) := by
  obtain ⟨g, fd, ps, co, F, b⟩ := c.ex
  refine ⟨fun pins s σ H Q I h => ?_⟩
  refine Call_ (thn (hf.run pins s σ H _ I h) fun u s1 ⟨y, H1, I1, ry, a, ey, q⟩ => ?_) ht
  subst ey
  cases ry
  refine StX.callO_with (thn (ha.run pos pins s1 σ H1 _ I1 q) fun us s2 ⟨vs, H2, I2, r, hi0, q2⟩ => ?_) he hpl
  have hi : StX.InsC X H2 a C := .inr hi0
  obtain ⟨ox, od, J, hd⟩ := StX.insC_at I2 hi
  refine ⟨⟨C, ox, od, J, hd⟩, ?_⟩
  have rr : Vals (V.ref a :: vs) (Value.ref a :: us) := .cons rfl r
  have len : (Value.ref a :: us).length = ps.length := rr.length.symm.trans (F.len _ _ _ _ q2)
  have bb := b s2 (Value.ref a :: us) I2.kIn (by rw [List.append_nil]; exact len)
  rw [List.append_nil] at bb
  refine wpAny_call (PySem.W.kco_code I2.kIn J hd co.at_ co.fn co.fi (codeAny_mono (F.run X.A X.stack s2 H2 ⟨Value.ref a :: us, []⟩ (Value.ref a :: us) (V.ref a :: vs) Q (WE W σ) (hr.mono hk) I2.env0 bb rr q2) fun z s' hq => ?_))
  rcases handS (E := WE W) (passAt tk σ) I2 hq with ⟨u, rfl, hz⟩ | ⟨e, rfl, hz⟩
  · exact hz
  · exact hz
/-! ### own exceptions that keep their one argument -/
/-- what __init__ of a class whose errors bear f does -/
def spExc (C : Addr) (f : Str) : Sp := fun vs H Q _ => ∃ (a : Addr) (v : V), vs = [.ref a, v] ∧ H a = some (exo a C none) ∧ ∀ d, H d = none → d ≠ a → Q .non (upd (upd H d (exd d [(f, v)])) a (exo a C (some d)))
structure ExcI (P : Program) (w : World) (K : PySem.W.Frag) (mg : Str → Option Value) (base : Heap) (x f : Str) : Prop where
  T : OexC K (ga K x)
  ex : ∃ (fI : Addr) (fd : FuncData), PySem.W.findIn K (.ref (ga K x)) "__init__" = some (some (.ref fI)) ∧ PySem.W.typeIn K (.ref fI) = some (.type "function") ∧ FnOk P w K mg base CX0 1 fI fd ["self", f] (spExc (ga K x) f) ∧ Binds K fd ["self", f] []
  gm : mg x = some (.ref (ga K x))
abbrev bodyE (f : Str) (q1 q2 q3 q4 : Pos) : List Stmt := [.Assign [.Attribute (.Name "self" q1) f q2] (.Name f q3) q4]
theorem ok_exc {P : Program} {w : World} {K : PySem.W.Frag} {mg : Str → Option Value} {base : Heap} {x q f : Str} {pa : Arguments} {bd : List Stmt} {sc : Scope} {fI : Addr} {fd : FuncData} {q1 q2 q3 q4 : Pos} (F : FunD K "__init__" q pa bd sc [] [] fI fd) (hb : bd = bodyE f q1 q2 q3 q4) (S : FnScope ["self", f] ["self", f] sc)
    (T : OexC K (ga K x)) (hno : PySem.W.findIn K (.ref (ga K x)) f = some none) (hv0 : Vis sc "self") (hv1 : Vis sc f) (hd : (f == ("__debug__" : Str)) = false) (hcd : (f == ("__classdict__" : Str)) = false) :
    FnOk P w K mg base CX0 1 fI fd ["self", f] (spExc (ga K x) f) := by
  subst hb
  refine F.ok S (fun vs H Q E h => ?_) (fun cdv A outer s H vs Q E hr h => ?_)
  · obtain ⟨a, v, rfl, _⟩ := h
    rfl
  · obtain ⟨a, v, rfl, ha, k⟩ := h
    refine ⟨_, PSs.nox (pss_one (ps_ost (pe_var (i := 0) rfl hv0) (pe_var (i := 1) rfl hv1 hd hcd))), ?_⟩
    exact ⟨_, rfl, _, rfl, a, ga K x, rfl, T, hno, Or.inl ⟨ha, fun d hd hda => k d hd hda⟩⟩
/-- raise X(e) -/
theorem ps_rz {X : Cx} {W : WX} {x f : Str} {e : Expr} {te : TE} {p pos pos' : Pos} {j : Nat} (hc : X.calm = true) (tk : Takes X W) (M : ExcI X.prog X.w X.K X.mg X.base x f) (hr : Room j X.A) (hj : 2 ≤ j) (hg : Gl X x) (he : PE X e te) (hdb : (x == ("__debug__" : Str)) = false := by decide)
    (hs : starEach (e :: []) X.env = (false, eval e X.env) :: starEach [] X.env := by rfl) : PS X (.Raise (some (.Call (.Name x p) [e] [] pos)) none pos') (fun _ σ H => tMkO (ga X.K x) (spExc (ga X.K x) f) [] (tCons te tNil) σ H fun cls d H' => W cls d σ H') := by
  obtain ⟨fI, fd, h1, h2, h3, h4⟩ := M.ex
  exact ps_raise hc tk (pmk_oex M.T h1 h2 h3 (hr.mono hj) h4 .nil pass0 hg M.gm (pa_cons he pa_nil hs) hdb hs)
theorem raise_done {C : Addr} {f : Str} {v : V} {H1 : Hp} {Q : XK} (k : ∀ d H2, H1 d = none → Same H1 H2 → H2 d = some (.xd [(f, v)]) → Q (.ref C) (some d) H2) :
    ([v] : List V).length ≤ 1000 ∧ ∀ a, H1 a = none → spExc C f (.ref a :: ([v] ++ [])) (upd H1 a (exo a C none)) (fun u H2 => u = .non ∧ ∃ (d : Addr) (fs : List (Str × V)), H2 a = some (exo a C (some d)) ∧ H2 d = some (exd d fs) ∧ H1 d = none ∧ Q (.ref C) (some d) (upd (del H2 a) d (.xd fs))) (fun _ _ _ => False) := by
  refine ⟨by show 1 ≤ 1000; decide, fun a ha => ⟨a, v, rfl, upd_same, fun d hd hda => ?_⟩⟩
  have hd0 : H1 d = none := by
    rw [upd_ne hda] at hd
    exact hd
  refine ⟨rfl, d, [(f, v)], upd_same, by rw [upd_ne hda, upd_same], hd0, k d _ hd0 ?_ upd_same⟩
  intro b u e
  have hb : b ≠ d := ne_of_none e hd0
  have hba : b ≠ a := ne_of_none e ha
  rw [upd_ne hb, del_ne hba, upd_ne hba, upd_ne hb, upd_ne hba]
  exact e
end NF
set_option Elab.async false
set_option linter.all false
set_option maxRecDepth 100000
set_option maxHeartbeats 4000000
/-! tuple * int for any int that is not too great. -/
namespace NF
open PySem PySem.Spec PyProof.Rows L2 He RZ
theorem rep_none (l : Addr) (items : Array Value) (n : Nat) (dd : Option Addr) (sl : Array (Option Value)) (x : Int) (u : Tok) (c0 : (decide (x < -(2 ^ 63)) || decide (x ≥ 2 ^ 63)) = false) (c1 : (items.isEmpty || x == 1) = false) (c2 : (decide (x ≤ 0) || items.isEmpty) = true) :
    Meets (Builtin.«tuple.__mul__» ⟨[.ref l, .int x u], []⟩) (fun _ R s => s.heap.get? l = some { cls := .type "tuple", dict := dd, data := .seq items n, slots := sl } ∧
      R (.ok (.ret (Value.ref s.heap.objs.size))) { s with heap := s.heap.push { cls := Value.type "tuple", data := Data.seq #[] } }) :=
  .of_wp fun prog w A R s h => by
    obtain ⟨hp, g, d, tk, os⟩ := s
    obtain ⟨hl, h⟩ := h
    have f1 := AutoSeq1.idx_int
    wp_walk using wpAny_loadPart' hl
    repeat (first
      | (refine wpAny_ite_false (decide_eq_false (by rw [c0]; exact Bool.false_ne_true)) ?_; wp_walk using wpAny_loadPart' hl)
      | (refine wpAny_ite_false (decide_eq_false (by rw [c1]; exact Bool.false_ne_true)) ?_; wp_walk using wpAny_loadPart' hl)
      | (refine wpAny_ite_true (decide_eq_true (by rw [c2])) ?_; wp_walk using wpAny_loadPart' hl))
    exact ⟨_, rfl, h⟩
theorem rep_one (l : Addr) (items : Array Value) (n : Nat) (dd : Option Addr) (sl : Array (Option Value)) (x : Int) (u : Tok) (c0 : (decide (x < -(2 ^ 63)) || decide (x ≥ 2 ^ 63)) = false) (c1 : (items.isEmpty || x == 1) = true) :
    Meets (Builtin.«tuple.__mul__» ⟨[.ref l, .int x u], []⟩) (fun _ R s => s.heap.get? l = some { cls := .type "tuple", dict := dd, data := .seq items n, slots := sl } ∧ R (.ok (.ret (Value.ref l))) s) :=
  .of_wp fun prog w A R s h => by
    obtain ⟨hp, g, d, tk, os⟩ := s
    obtain ⟨hl, h⟩ := h
    have f1 := AutoSeq1.idx_int
    wp_walk using wpAny_loadPart' hl
    repeat (first
      | (refine wpAny_ite_false (decide_eq_false (by rw [c0]; exact Bool.false_ne_true)) ?_; wp_walk using wpAny_loadPart' hl)
      | (refine wpAny_ite_true (decide_eq_true (by rw [c1])) ?_; wp_walk using wpAny_loadPart' hl))
    exact ⟨_, rfl, h⟩
def rRepA (K : PySem.W.Frag) : R2 := fun x y H Q => ∃ l k xs, x = .ref l ∧ y = .int k ∧ SqT K H l xs ∧ xs ≠ [] ∧ xs.length ≤ 100 ∧ -10000 ≤ k ∧ k ≤ 10000 ∧ ∀ p H', Same H H' → SqT K H' p (List.replicate k.toNat xs).flatten → Q (.ref p) H'
/-- t * k -/
theorem op_repA {X : Cx} : OpR X (binaryOp .Mult) (rRepA X.K) := by
  intro pins s σ H x y v u Q I rx ry h
  obtain ⟨l, k, xs, rfl, rfl, hT, hne, hz, k1, k2, q⟩ := h
  cases rx
  obtain ⟨t, rfl⟩ := ry
  obtain ⟨its, r, ⟨⟨cls, dd, data, sl⟩, ho, hc, n, hd⟩, hs⟩ := I.tuple hT
  simp only at hc hd
  subst hc hd
  have hle : its.length = xs.length := r.length.symm
  have hpos : 0 < its.length := by
    rw [hle]
    exact List.length_pos_iff.mpr hne
  have hfull : its.toArray.isEmpty = false := by
    cases hi : its with
    | nil => rw [hi] at hpos; simp at hpos
    | cons _ _ => rfl
  have small : (decide (k < -(2 ^ 63)) || decide (k ≥ 2 ^ 63)) = false := by
    rw [decide_eq_false (show ¬ k < -(2 ^ 63) by omega), decide_eq_false (show ¬ k ≥ 2 ^ 63 by omega)]
    rfl
  have ty : s.TypeIs (.ref l) "tuple" := ⟨_, ho, rfl⟩
  have road : ∀ {W : Value → Shared → Prop}, wpAny (model X.prog X.w) X.A (call (.builtin "tuple.__mul__") [.ref l, .int k t]) W X.xe s → wpAny (model X.prog X.w) X.A (binaryOp .Mult (.ref l) (.int k t)) W X.xe s := fun {W} z =>
    wpAny_binaryOp_repeat_ref (T := "tuple") (U := "int") (by decide) ty (fun s' => typeIs_int s' k t) noFill_tuple_mul F.fills_int_mul F.slot_int_rmul repeat_tuple F.slot_int_index.lookup
      (call_meets F.slot_int_rmul (typeIs_int s k t) F.entry_int_rmul (F.args_int_rmul_2 _ _) (int_rmul_tuple k t l its.toArray n dd sl) ⟨ho, rfl, ty, z⟩)
  refine road ?_
  by_cases c1 : k = 1
  · subst c1
    refine call_meets F.slot_tuple_mul ty F.entry_tuple_mul (F.args_tuple_mul_2 _ _) (rep_one l its.toArray n dd sl 1 t small (by rw [hfull]; rfl)) ⟨ho, ?_⟩
    refine ⟨.ref l, H, I, rfl, q l H (Same.refl H) ?_⟩
    rw [show (List.replicate (1 : Int).toNat xs).flatten = xs by simp]
    exact hT
  · have not1 : (its.toArray.isEmpty || k == 1) = false := by
      rw [hfull, Bool.false_or]
      exact beq_eq_false_iff_ne.mpr c1
    by_cases c0 : k ≤ 0
    · refine call_meets F.slot_tuple_mul ty F.entry_tuple_mul (F.args_tuple_mul_2 _ _) (rep_none l its.toArray n dd sl k t small not1 (by rw [decide_eq_true c0]; rfl)) ⟨ho, ?_⟩
      have hn := I.hok.fresh (Nat.le_refl s.heap.objs.size)
      have e0 : (List.replicate k.toNat xs).flatten = [] := by
        rw [show k.toNat = 0 by omega]
        rfl
      refine ⟨.ref s.heap.objs.size, _, I.laid (t' := s.toks) (o := .tup []) (fun b ob q => Heap.get?_push_of_some _ q) (Nat.le_refl _) ?_, rfl, q _ _ (NF.Same.new (Same.refl H) hn) (by rw [e0]; exact SqT.of upd_same)⟩
      exact ⟨Nat.zero_le _, [], .nil, IsTup.new _ _⟩
    · have many : its.toArray.size = xs.length := by rw [List.size_toArray, hle]
      have prod : ((its.toArray.size : Nat) : Int) * k ≤ 100 * 10000 := by
        rw [many]
        exact Int.mul_le_mul (by omega) k2 (by omega) (by decide)
      have flat : (List.replicate k.toNat xs).flatten.length ≤ 1000000 := by
        rw [PyProof.Rows.lm_len_rep_flat]
        exact Nat.le_trans (Nat.mul_le_mul (show k.toNat ≤ 10000 by omega) hz) (by decide)
      have flat2 : (List.replicate k.toNat its).flatten.length ≤ 1000000 := by
        rw [PyProof.Rows.lm_len_rep_flat, hle]
        exact Nat.le_trans (Nat.mul_le_mul (show k.toNat ≤ 10000 by omega) hz) (by decide)
      refine call_meets F.slot_tuple_mul ty F.entry_tuple_mul (F.args_tuple_mul_2 _ _) (tuple_mulW l its.toArray n dd sl k t small not1 (by rw [hfull, Bool.or_false]; exact decide_eq_false c0) (by omega) ?_ ?_) ⟨ho, ?_⟩
      · unfold Builtin.Tuple.tupleTooMany
        rw [sizeLine_eq]
        exact decide_eq_false (by omega)
      · rw [size_rep, List.size_toArray, sizeLine_eq]
        omega
      · rw [size_rep]
        have hn := I.hok.fresh (Nat.le_refl s.heap.objs.size)
        refine ⟨.ref s.heap.objs.size, _, I.laid (t' := s.toks) (o := .tup (List.replicate k.toNat xs).flatten) (fun b ob q => Heap.get?_push_of_some _ q) (Nat.le_refl _) ?_, rfl, q _ _ (NF.Same.new (Same.refl H) hn) (SqT.of upd_same)⟩
        exact ⟨by rw [sizeLine_eq]; omega, _, r.rep k.toNat, IsTup.new _ _⟩
end NF
set_option Elab.async false
set_option linter.all false
set_option maxRecDepth 100000
set_option maxHeartbeats 4000000
/-! C.m(..), m a static method that may let an exception out. -/
namespace NF
open PySem PySem.Spec PyProof.Rows L2 He RZ
structure SMet (K : PySem.W.Frag) (C : Addr) (mc : Value) (m : Str) (p g : Addr) : Prop where
  ty : PySem.W.typeIn K (.ref C) = some mc
  rd : PySem.W.readsIn K C mc = true
  ga : PySem.W.specialIn K (.ref C) "__getattribute__" = some (some (.builtin "type.__getattribute__"))
  at_ : PySem.W.findCls K (.ref C) mc m = some (.get (.builtin "staticmethod.__get__") (.ref p) .none (.ref C))
  rc : ∃ rest, PySem.W.recIn K p "staticmethod" = some (.ref g :: rest)
  kp : PySem.W.keepIn K (.ref g) = true
structure StaX (P : Program) (w : World) (K : PySem.W.Frag) (mg : Str → Option Value) (base : Heap) (k : Nat) (C : Addr) (m : Str) (sp : Sp) : Prop where
  ex : ∃ (mc : Value) (p g : Addr) (fd : FuncData) (ps : List Str), SMet K C mc m p g ∧ FnOk P w K mg base (L2.CX P w) k g fd ps sp ∧ Binds K fd ps []
def tStaS (C : Addr) (sp : Sp) (E : L2.St → XK) (ta : TE) (t : TA) : TE := fun σ H Q => ta σ H fun x H1 => x = .ref C ∧ t σ H1 fun vs H2 => sp vs H2 Q (E σ)
theorem pe_smX {X : Cx} {k j : Nat} {C : Addr} {m : Str} {sp : Sp} {W : WX} {o e : Expr} {es : List Expr} {ta : TE} {t : TA} {pos apos : Pos} {pl : Sem Bool} (tk : Takes X W) (he : PE X o ta) (c : StaX X.prog X.w X.K X.mg X.base k C m sp) (hr : Room j X.A) (hk : k ≤ j) (ha : PA X (e :: es) t)
    (hst : starEach (e :: es) X.env = (false, eval e X.env) :: starEach es X.env := by rfl) (hpl : (backTo pos (starEach es X.env)).any (·.1) = false := by rfl)
    (ht : eval (.Call (.Attribute o m apos) (e :: es) [] pos) X.env = (do
      let ov ← eval o X.env
      standAt apos.atName
      let (f, first) ← holding [ov] (getMethod ov m pl)
      callWith pos f first (backTo pos (starEach (e :: es) X.env)) (backToKw pos (keywordEach [] X.env))) := by rfl) :
    PE X (.Call (.Attribute o m apos) (e :: es) [] pos) (tStaS C sp (WE W) ta t) := by
  obtain ⟨mc, p, g, fd, ps, S, F, hb⟩ := c.ex
  obtain ⟨rest, hp⟩ := S.rc
  refine ⟨fun pins s σ H Q I h => ?_⟩
  refine PySem.W.methodCall_KW (pl := pl) (thn (he.run pins s σ H _ I h) fun u s1 ⟨x, H1, I1, rx, ex, q⟩ => ?_) ht
  subst ex
  cases rx
  obtain ⟨fm, hF⟩ := I1.fr
  refine PySem.W.method_cls I1.kIn S.ga (PySem.W.cls_sm hF I1.ok.mod.kin S.ty S.rd S.at_ hp rfl ?_)
  have I2 := I1.tok (s1.toks + 1)
  show wpAny _ _ (callWith pos (.ref g) [] (backTo pos (starEach (e :: es) X.env)) []) _ _ _
  refine PySem.W.callWith_K (h₀ := X.base) I2.ok.mod.kin S.kp (thn (ha.run pos pins _ σ H1 _ I2 q) fun us s3 ⟨vs, H2, I3, r, q2⟩ => ⟨I3.kIn, ?_⟩) hst hpl
  exact run_fnS (E := WE W) F (hr.mono hk) hb (passAt tk σ) I3 r q2
end NF
set_option Elab.async false
set_option linter.all false
set_option maxRecDepth 100000
set_option maxHeartbeats 4000000
/-! Facts of a top, each as one Bool of the written part, with what it says. -/
namespace NF
open PySem PySem.Spec PyProof.Rows L2 He RZ
def dG (x : Str) (st : Stmt) : Adr := (fun K => ga K x, ⟨(x, none), x, x, defArgs st, defBody st, defScope st, [], []⟩)
def dGd (x : Str) (st : Stmt) (dfl : List He.Dv) : Adr := (fun K => ga K x, ⟨(x, none), x, x, defArgs st, defBody st, defScope st, dfl, []⟩)
def dM (c m q : Str) (st : Stmt) (dfl : List He.Dv) : Adr := (fun K => ma K (ga K c) m, ⟨(c, some m), m, q, defArgs st, defBody st, defScope st, dfl, []⟩)
def getW (t : String) (c f : Str) (K : PySem.W.Frag) : Addr := match PySem.W.recIn K (ma K (ga K c) f) t with
  | some (.ref g :: _) => g
  | _ => 0
def dP (c m q : Str) (st : Stmt) : Adr := (getW "property" c m, ⟨(c, some m), m, q, defArgs st, defBody st, defScope st, [], []⟩)
def dS (c m q : Str) (st : Stmt) : Adr := (getW "staticmethod" c m, ⟨(c, some m), m, q, defArgs st, defBody st, defScope st, [], []⟩)
def recB (t : String) (c f : Str) (K : PySem.W.Frag) : Bool := match PySem.W.recIn K (ma K (ga K c) f) t with
  | some (.ref _ :: _) => true
  | _ => false
theorem rec_ok {t : String} {c f : Str} {K : PySem.W.Frag} (h : recB t c f K = true) : ∃ rest, PySem.W.recIn K (ma K (ga K c) f) t = some (.ref (getW t c f K) :: rest) := by
  unfold recB at h
  unfold getW
  cases q : PySem.W.recIn K (ma K (ga K c) f) t with
  | none =>
    rw [q] at h
    cases h
  | some l =>
    rw [q] at h
    match l, h with
    | .ref g' :: rest, _ => exact ⟨rest, rfl⟩
/-! ### names -/
def namB (gs fs : List Str) (K : PySem.W.Frag) : Bool := (gs.all fun x => eqO (PySem.W.nsIn K mainGlobals x) (some (some (.ref (ga K x))))) && fs.all fun x => eqO (PySem.W.nsIn K mainGlobals x) (some none)
theorem nam_ok {gs fs : List Str} {K : PySem.W.Frag} {mg : Str → Option Value} {h : Heap} (c : namB gs fs K = true) (X : K.In h) (G : h.Ns mainGlobals mg) : Txt K mg gs fs := by
  obtain ⟨h1, h2⟩ := ba c
  exact ⟨fun x hx => PySem.W.mg_of X G (eqO_ok (List.all_eq_true.mp h1 x hx)), fun x hx => PySem.W.mg_none_of X G (eqO_ok (List.all_eq_true.mp h2 x hx))⟩
def bltB (x : Str) (b : String) (K : PySem.W.Frag) : Bool := eqO (PySem.W.nsIn K mainGlobals x) (some (some (.builtin b)))
theorem blt_ok {x : Str} {b : String} {K : PySem.W.Frag} {mg : Str → Option Value} {h : Heap} (c : bltB x b K = true) (X : K.In h) (G : h.Ns mainGlobals mg) : mg x = some (.builtin b) := PySem.W.mg_of X G (eqO_ok c)
def intB (x : Str) (n : Int) (K : PySem.W.Frag) : Bool := match PySem.W.nsIn K mainGlobals x with
  | some (some (.int m _)) => decide (m = n)
  | _ => false
theorem int_ok {x : Str} {n : Int} {K : PySem.W.Frag} {mg : Str → Option Value} {h : Heap} (c : intB x n K = true) (X : K.In h) (G : h.Ns mainGlobals mg) : ∃ tok, mg x = some (.int n tok) := by
  unfold intB at c
  split at c
  · rename_i m tok q
    have e : m = n := of_decide_eq_true c
    subst e
    exact ⟨tok, PySem.W.mg_of X G q⟩
  · cases c
def strB (x s : Str) (K : PySem.W.Frag) : Bool := match PySem.W.nsIn K mainGlobals x with
  | some (some (.str m _)) => decide (m = s)
  | _ => false
theorem str_ok {x s : Str} {K : PySem.W.Frag} {mg : Str → Option Value} {h : Heap} (c : strB x s K = true) (X : K.In h) (G : h.Ns mainGlobals mg) : ∃ tok, mg x = some (.str s tok) := by
  unfold strB at c
  split at c
  · rename_i m tok q
    have e : m = s := of_decide_eq_true c
    subst e
    exact ⟨tok, PySem.W.mg_of X G q⟩
  · cases c
/-! ### an own exception that keeps its one argument under f -/
structure ExcK (K : PySem.W.Frag) (x f : Str) : Prop where
  xc : ExcC K (ga K x)
  T : OexC K (ga K x)
  i : PySem.W.findIn K (.ref (ga K x)) "__init__" = some (some (.ref (ma K (ga K x) "__init__")))
  t : PySem.W.typeIn K (.ref (ma K (ga K x) "__init__")) = some (.type "function")
  no : PySem.W.findIn K (.ref (ga K x)) f = some none
  xf : XfC K (ga K x)
def excKB (x f : Str) (K : PySem.W.Frag) : Bool := (excB K (ga K x) && (oexB K (ga K x) && eqO (PySem.W.findIn K (.ref (ga K x)) "__init__") (some (some (.ref (ma K (ga K x) "__init__")))))) &&
  (decide (PySem.W.typeIn K (.ref (ma K (ga K x) "__init__")) = some (.type "function")) && (eqO (PySem.W.findIn K (.ref (ga K x)) f) (some none) && xfB K (ga K x)))
theorem excK_ok {x f : Str} {K : PySem.W.Frag} (h : excKB x f K = true) : ExcK K x f := by
  obtain ⟨h1, h2⟩ := ba h
  obtain ⟨a1, h1⟩ := ba h1
  obtain ⟨a2, a3⟩ := ba h1
  obtain ⟨a4, h2⟩ := ba h2
  obtain ⟨a5, a6⟩ := ba h2
  exact ⟨excB_ok a1, oexB_ok a2, eqO_ok a3, of_decide_eq_true a4, eqO_ok a5, xfB_ok a6⟩
theorem ExcK.excI {P : Program} {w : World} {K : PySem.W.Frag} {mg : Str → Option Value} {base : Heap} {x f q : Str} {gs fs : List Str} {pa : Arguments} {bd : List Stmt} {sc : Scope} {fd : FuncData} {q1 q2 q3 q4 : Pos} (e : ExcK K x f) (T : Txt K mg gs fs) (hx : x ∈ gs)
    (F : FunD K "__init__" q pa bd sc [] [] (ma K (ga K x) "__init__") fd) (hb : bd = bodyE f q1 q2 q3 q4) (S : FnScope ["self", f] ["self", f] sc)
    (hv0 : Vis sc "self") (hv1 : Vis sc f) (hd : (f == ("__debug__" : Str)) = false) (hcd : (f == ("__classdict__" : Str)) = false) (b : Binds K fd ["self", f] []) : ExcI P w K mg base x f :=
  ⟨e.T, ⟨_, fd, e.i, e.t, ok_exc (x := x) F hb S e.T e.no hv0 hv1 hd hcd, b⟩, T.gl x hx⟩
/-! ### which class is under which -/
def kitPB (ps : List (Str × Str × Bool)) (K : PySem.W.Frag) : Bool := ps.all fun p => decide (PySem.W.kitOne K (.ref (ga K p.1)) (.ref (ga K p.2.1)) = some p.2.2)
theorem kitP_ok {ps : List (Str × Str × Bool)} {K : PySem.W.Frag} (h : kitPB ps K = true) {x y : Str} {b : Bool} (m : (x, y, b) ∈ ps) : PySem.W.kitOne K (.ref (ga K x)) (.ref (ga K y)) = some b := of_decide_eq_true (List.all_eq_true.mp h _ m)
def exmPB (ps : List (Str × Str × Bool)) (K : PySem.W.Frag) : Bool := ps.all fun p => decide (PySem.W.exmOne K (.ref (ga K p.1)) (.ref (ga K p.2.1)) = some p.2.2)
theorem exmP_ok {ps : List (Str × Str × Bool)} {K : PySem.W.Frag} (h : exmPB ps K = true) {x y : Str} {b : Bool} (m : (x, y, b) ∈ ps) : PySem.W.exmOne K (.ref (ga K x)) (.ref (ga K y)) = some b := of_decide_eq_true (List.all_eq_true.mp h _ m)
/-! ### an own class -/
def clsB (c : Str) (K : PySem.W.Frag) : Bool := (PySem.W.plainGet K (ga K c) Str.empty && PySem.W.hasDictIn K (ga K c)) && (PySem.W.plainOver K (ga K c) && eqO (PySem.W.findIn K (.ref (ga K c)) "__setattr__") (some (some (.builtin "object.__setattr__"))))
theorem cls_ok {c : Str} {K : PySem.W.Frag} (h : clsB c K = true) : Cls K (ga K c) := by
  obtain ⟨h1, h2⟩ := ba h
  obtain ⟨a1, a2⟩ := ba h1
  obtain ⟨a3, a4⟩ := ba h2
  exact ⟨a1, a2, a3, eqO_ok a4⟩
def fldsB (c : Str) (fs : List Str) (K : PySem.W.Frag) : Bool := fs.all fun f => eqO (PySem.W.findIn K (.ref (ga K c)) f) (some none)
theorem flds_ok {c : Str} {fs : List Str} {K : PySem.W.Frag} (h : fldsB c fs K = true) {f : Str} (m : f ∈ fs) : PySem.W.findIn K (.ref (ga K c)) f = some none := eqO_ok (List.all_eq_true.mp h f m)
structure TyC (K : PySem.W.Frag) (C : Addr) : Prop where
  ac : PySem.W.findIn K (.ref C) "__class__" = some (some (.builtin "object.__class__"))
  ag : PySem.W.specialIn K (.builtin "object.__class__") "__get__" = some (some (.builtin "getset_descriptor.__get__"))
  at_ : PySem.W.takesIn K (.builtin "object.__class__") = some true
  am : PySem.W.mroIn K C (.type "object") = some true
  self : PySem.W.kitOne K (.ref C) (.ref C) = some true
  tup : PySem.W.kitOne K (.type "tuple") (.ref C) = some false
  int : PySem.W.kitOne K (.type "int") (.ref C) = some false
  non : PySem.W.kitOne K (.type "NoneType") (.ref C) = some false
def tyB (c : Str) (K : PySem.W.Frag) : Bool := ((eqO (PySem.W.findIn K (.ref (ga K c)) "__class__") (some (some (.builtin "object.__class__"))) && eqO (PySem.W.specialIn K (.builtin "object.__class__") "__get__") (some (some (.builtin "getset_descriptor.__get__")))) &&
  (decide (PySem.W.takesIn K (.builtin "object.__class__") = some true) && decide (PySem.W.mroIn K (ga K c) (.type "object") = some true))) &&
  ((decide (PySem.W.kitOne K (.ref (ga K c)) (.ref (ga K c)) = some true) && decide (PySem.W.kitOne K (.type "tuple") (.ref (ga K c)) = some false)) && (decide (PySem.W.kitOne K (.type "int") (.ref (ga K c)) = some false) && decide (PySem.W.kitOne K (.type "NoneType") (.ref (ga K c)) = some false)))
theorem ty_ok {c : Str} {K : PySem.W.Frag} (h : tyB c K = true) : TyC K (ga K c) := by
  obtain ⟨h1, h2⟩ := ba h
  obtain ⟨t1, t2⟩ := ba h1
  obtain ⟨t1, t3⟩ := ba t1
  obtain ⟨t2, t4⟩ := ba t2
  obtain ⟨k1, k2⟩ := ba h2
  obtain ⟨k1, k3⟩ := ba k1
  obtain ⟨k2, k4⟩ := ba k2
  exact ⟨eqO_ok t1, eqO_ok t3, of_decide_eq_true t2, of_decide_eq_true t4, of_decide_eq_true k1, of_decide_eq_true k3, of_decide_eq_true k2, of_decide_eq_true k4⟩
def nfB (c : Str) (ts : List String) (K : PySem.W.Frag) : Bool := ts.all fun t => PySem.W.notFirst K (ga K c) (.type t)
theorem nf_ok {c : Str} {ts : List String} {K : PySem.W.Frag} (h : nfB c ts K = true) {t : String} (m : t ∈ ts) : PySem.W.notFirst K (ga K c) (.type t) = true := List.all_eq_true.mp h t m
def mkB (c : Str) (K : PySem.W.Frag) : Bool := (PySem.W.makesIn K (ga K c) && eqO (PySem.W.findIn K (.ref (ga K c)) "__init__") (some (some (.ref (ma K (ga K c) "__init__"))))) && (PySem.W.isFn K (.ref (ma K (ga K c) "__init__")) && PySem.W.keepIn K (.ref (ga K c)))
theorem mk_ok {c : Str} {K : PySem.W.Frag} (h : mkB c K = true) : Mk K (ga K c) (ma K (ga K c) "__init__") := by
  obtain ⟨m1, m2⟩ := ba h
  obtain ⟨m1, m3⟩ := ba m1
  obtain ⟨m2, m4⟩ := ba m2
  exact ⟨m1, eqO_ok m3, m2, m4⟩
def callB (c : Str) (K : PySem.W.Frag) : Bool := eqO (PySem.W.findIn K (.ref (ga K c)) "__call__") (some (some (.ref (ma K (ga K c) "__call__")))) && (PySem.W.isFn K (.ref (ma K (ga K c) "__call__")) && PySem.W.fnIn K (ma K (ga K c) "__call__"))
theorem call_ok {c : Str} {K : PySem.W.Frag} (h : callB c K = true) : StX.CallO K (ga K c) (ma K (ga K c) "__call__") := by
  obtain ⟨g1, g2⟩ := ba h
  obtain ⟨g2, g3⟩ := ba g2
  exact ⟨eqO_ok g1, g2, g3⟩
structure EqM (K : PySem.W.Frag) (C : Addr) : Prop where
  e1 : PySem.W.findIn K (.ref C) "__eq__" = some (some (.ref (ma K C "__eq__")))
  e2 : PySem.W.isFn K (.ref (ma K C "__eq__")) = true
  e3 : plObjB K C (ma K C "__eq__") = true
def eqB (c : Str) (K : PySem.W.Frag) : Bool := (eqO (PySem.W.findIn K (.ref (ga K c)) "__eq__") (some (some (.ref (ma K (ga K c) "__eq__")))) && PySem.W.isFn K (.ref (ma K (ga K c) "__eq__"))) && plObjB K (ga K c) (ma K (ga K c) "__eq__")
theorem eq_ok {c : Str} {K : PySem.W.Frag} (h : eqB c K = true) : EqM K (ga K c) := by
  obtain ⟨e1, e2⟩ := ba h
  obtain ⟨e1, e3⟩ := ba e1
  exact ⟨eqO_ok e1, e3, e2⟩
def propB (c f : Str) (K : PySem.W.Frag) : Bool := (eqO (PySem.W.findIn K (.ref (ga K c)) f) (some (some (.ref (ma K (ga K c) f)))) && eqO (PySem.W.specialIn K (.ref (ma K (ga K c) f)) "__get__") (some (some (.builtin "property.__get__")))) &&
  (decide (PySem.W.takesIn K (.ref (ma K (ga K c) f)) = some true) && recB "property" c f K)
theorem prop_ok {c f : Str} {K : PySem.W.Frag} (h : propB c f K = true) : PropOf K (ga K c) f (ma K (ga K c) f) (getW "property" c f K) := by
  obtain ⟨h1, h2⟩ := ba h
  obtain ⟨h1, h3⟩ := ba h1
  obtain ⟨h2, h4⟩ := ba h2
  exact ⟨eqO_ok h1, eqO_ok h3, of_decide_eq_true h2, rec_ok h4⟩
def staB (c m : Str) (K : PySem.W.Frag) : Bool := (decide (PySem.W.typeIn K (.ref (ga K c)) = some (.type "type")) && (PySem.W.readsIn K (ga K c) (.type "type") && eqO (PySem.W.specialIn K (.ref (ga K c)) "__getattribute__") (some (some (.builtin "type.__getattribute__"))))) &&
  ((match PySem.W.findCls K (.ref (ga K c)) (.type "type") m with
    | some (.get g a o t) => decide (g = .builtin "staticmethod.__get__") && (decide (a = .ref (ma K (ga K c) m)) && (decide (o = .none) && decide (t = .ref (ga K c))))
    | _ => false) && (recB "staticmethod" c m K && PySem.W.keepIn K (.ref (getW "staticmethod" c m K))))
theorem sta_ok {c m : Str} {K : PySem.W.Frag} (h : staB c m K = true) : SMet K (ga K c) (.type "type") m (ma K (ga K c) m) (getW "staticmethod" c m K) := by
  obtain ⟨h1, h2⟩ := ba h
  obtain ⟨a1, h1⟩ := ba h1
  obtain ⟨a2, a3⟩ := ba h1
  obtain ⟨a4, h2⟩ := ba h2
  obtain ⟨a5, a6⟩ := ba h2
  refine ⟨of_decide_eq_true a1, a2, eqO_ok a3, ?_, rec_ok a5, a6⟩
  split at a4
  · rename_i g a o t q
    obtain ⟨b1, a4⟩ := ba a4
    obtain ⟨b2, a4⟩ := ba a4
    obtain ⟨b3, b4⟩ := ba a4
    rw [q, of_decide_eq_true b1, of_decide_eq_true b2, of_decide_eq_true b3, of_decide_eq_true b4]
  · cases a4
/-! ### a default that is an empty tuple -/
def e0B (e0 : PySem.W.Frag → Addr) (K : PySem.W.Frag) : Bool := match K.lookup (e0 K) with
  | some ⟨.type c, _, .seq its _, _⟩ => decide (c = "tuple") && decide (its.toList = [])
  | _ => false
theorem e0_ok {e0 : PySem.W.Frag → Addr} {K : PySem.W.Frag} (h : e0B e0 K = true) (H : Hp) : SqT K H (e0 K) [] := by
  unfold e0B at h
  split at h
  · rename_i c dd its n sl q
    obtain ⟨h1, h2⟩ := ba h
    have e : its.toList = [] := of_decide_eq_true h2
    refine .inr ⟨_, its, n, q, congrArg Value.type (of_decide_eq_true h1), rfl, ?_, ?_⟩
    · rw [← Array.length_toList, e]
      exact Nat.zero_le _
    · rw [e]
      exact .nil
  · cases h
/-! ### what the module's names reach, each address once (seen ones are bits of a number) -/
def newB : List Addr → Nat → List Addr → List Addr × Nat
  | [], seen, acc => (acc, seen)
  | a :: r, seen, acc => match Nat.beq (Nat.land (Nat.shiftRight seen a) 1) 0 with
    | true => newB r (Nat.lor seen (Nat.shiftLeft 1 a)) (a :: acc)
    | false => newB r seen acc
def asB (g : Addr → Option Obj) : Nat → List Addr → Nat → List Addr → List Addr
  | 0, fr, _, all => fr ++ all
  | n + 1, fr, seen, all => match newB (fr.flatMap fun a => match g a with
      | some o => refsD o
      | none => []) seen [] with
    | (fr', seen') => asB g n fr' seen' (fr ++ all)
/-! ### the hook, with the classes' statics beside -/
def obsQG (n : Nat) (ex : PySem.W.Frag → Bool) (fn : List Adr) (g : Addr → Option Obj) : AlD := obsP ex fn (frG g (asB g n [mainGlobals] (Nat.shiftLeft 1 mainGlobals) [] ++ [cStatics]))
def hookQ (n : Nat) (ex : PySem.W.Frag → Bool) (fn : List Adr) : PySem.W.Hook where
  α := AlD
  obs := fun s => obsQG n ex fn s.heap.get?
  val := fun _ => valP fn
  says := fun _ h => ∃ K : PySem.W.Frag, K.In h ∧ SaysP ex fn K
  of := fun _ _ e => ⟨_, frG_in, e⟩
  keeps := fun _ _ _ ⟨K, hK, c⟩ k => ⟨K, PySem.W.Frag.In.keeps hK k, c⟩
theorem obsQG_eq {n : Nat} {ex : PySem.W.Frag → Bool} {fn : List Adr} {g : Addr → Option Obj} {s : Shared} (h : ∀ a, g a = s.heap.get? a) : obsQG n ex fn g = (hookQ n ex fn).obs s := by
  have e : g = s.heap.get? := funext h
  rw [e] <;> rfl
end NF
set_option Elab.async false
set_option linter.all false
set_option maxRecDepth 100000
set_option maxHeartbeats 4000000
namespace NF
open PySem PySem.Spec PyProof.Rows L2 He RZ
/-- nearest first -/
def asR (g : Addr → Option Obj) : Nat → List Addr → Nat → List Addr → List Addr
  | 0, fr, _, all => all ++ fr
  | n + 1, fr, seen, all => match newB (fr.flatMap fun a => match g a with
      | some o => refsD o
      | none => []) seen [] with
    | (fr', seen') => asR g n fr' seen' (all ++ fr)
def obsRG (n : Nat) (ex : PySem.W.Frag → Bool) (fn : List Adr) (g : Addr → Option Obj) : AlD := obsP ex fn (frG g (cStatics :: asR g n [mainGlobals] (Nat.shiftLeft 1 mainGlobals) []))
def hookR (n : Nat) (ex : PySem.W.Frag → Bool) (fn : List Adr) : PySem.W.Hook where
  α := AlD
  obs := fun s => obsRG n ex fn s.heap.get?
  val := fun _ => valP fn
  says := fun _ h => ∃ K : PySem.W.Frag, K.In h ∧ SaysP ex fn K
  of := fun _ _ e => ⟨_, frG_in, e⟩
  keeps := fun _ _ _ ⟨K, hK, c⟩ k => ⟨K, PySem.W.Frag.In.keeps hK k, c⟩
theorem obsRG_eq {n : Nat} {ex : PySem.W.Frag → Bool} {fn : List Adr} {g : Addr → Option Obj} {s : Shared} (h : ∀ a, g a = s.heap.get? a) : obsRG n ex fn g = (hookR n ex fn).obs s := by
  have e : g = s.heap.get? := funext h
  rw [e] <;> rfl
end NF
set_option Elab.async false
set_option linter.all false
set_option maxRecDepth 100000
set_option maxHeartbeats 4000000
/-! Dicts that the top of the program wrote, with text keys: d[k], d.get(k), k in d. -/
namespace NF
open PySem PySem.Spec PyProof.Rows L2 He RZ
/-- what a list of pairs has at a key -/
def dkV (kvs : List (Str × V)) (z : Str) : Option V := (kvs.find? fun q => decide (q.1 = z)).map (·.2)
/-- at d stands a written dict with these entries -/
structure KTab (K : PySem.W.Frag) (w : World) (d : Addr) (kvs : List (Str × V)) : Prop where
  kd : ∃ es n, KDict K w d es n
  get : ∀ z, ∃ r : Option Value, PySem.W.nsIn K d z = some r ∧ (match dkV kvs z with
    | none => r = none
    | some v => ∃ u, r = some u ∧ RelV v u)
theorem key_isStr {e : DictEntry} {x : Str} {i : Int} (h : He.keyOf e = some (x, i)) (z : Str) : e.key.isStr z = decide (x = z) ∧ e.refKey = false := by
  unfold He.keyOf at h
  split at h
  · rename_i y t q
    have h4 := Option.some.inj h
    obtain ⟨h5, h6⟩ := Prod.mk.inj h4
    subst h5
    refine ⟨?_, ?_⟩
    · rw [q]
      show (y == z) = decide (y = z)
      by_cases c : y = z
      · rw [decide_eq_true c, c]
        exact beq_self_eq_true z
      · rw [decide_eq_false c]
        exact beq_eq_false_iff_ne.mpr c
    · unfold DictEntry.refKey
      rw [q]
  · cases h
theorem find_keys {P : Params} {z : Str} : ∀ {l : List DictEntry} {ks : List Str}, l.map He.keyOf = keysIn P ks → (z ∈ ks ↔ ∃ e, l.find? (·.key.isStr z) = some e) ∧ l.any (·.refKey) = false
  | [], [], _ => ⟨⟨fun h => (nomatch h), fun ⟨e, h⟩ => (nomatch h)⟩, rfl⟩
  | [], _ :: _, h => by cases h
  | _ :: _, [], h => by cases h
  | e :: r, k :: ks, h => by
    have h1 : He.keyOf e :: r.map He.keyOf = some (k, PyData.keyHash P k) :: keysIn P ks := h
    injection h1 with h2 h3
    obtain ⟨a, b⟩ := key_isStr h2 z
    obtain ⟨c, d⟩ := find_keys (z := z) h3
    refine ⟨?_, ?_⟩
    · rw [List.find?_cons, a]
      by_cases x : k = z
      · rw [decide_eq_true x]
        exact ⟨fun _ => ⟨e, rfl⟩, fun _ => List.mem_cons.mpr (.inl x.symm)⟩
      · rw [decide_eq_false x]
        exact ⟨fun m => c.mp ((List.mem_cons.mp m).elim (fun y => absurd y.symm x) id), fun m => List.mem_cons.mpr (.inr (c.mpr m))⟩
    · rw [List.any_cons, b, d]
      rfl
theorem dicW_es {K : PySem.W.Frag} {a : Addr} {l : List (Option (Str × Int))} (h : dicW K a = some l) : ∃ es n sl, K.lookup a = some ⟨.type "dict", none, .dict es n, sl⟩ ∧ es.toList.map He.keyOf = l := by
  unfold dicW at h
  split at h
  · rename_i c es n sl q
    split at h
    · rename_i z
      obtain ⟨z1, z2⟩ := ba z
      have e1 : c = "dict" := of_decide_eq_true z1
      subst e1
      exact ⟨es, n, sl, q, Option.some.inj h⟩
    · cases h
  · cases h
theorem ktab_of {K : PySem.W.Frag} {w : World} {d : Addr} {kvs : List (Str × Dv)} (h : dicW K d = some (keysIn w.params (kvs.map (·.1)))) (hv : valsB K d kvs = true) : KTab K w d (kvs.map fun q => (q.1, q.2.v K)) := by
  refine ⟨dicW_ok h, fun z => ?_⟩
  obtain ⟨es, n, sl, hl, he⟩ := dicW_es h
  obtain ⟨f1, f2⟩ := find_keys (z := z) he
  have hn : PySem.W.nsIn K d z = match es.toList.find? (·.key.isStr z) with
      | some e => some (some e.val)
      | none => if es.toList.any (·.refKey) then none else some none := by
    unfold PySem.W.nsIn
    rw [hl]
    rfl
  cases c : dkV (kvs.map fun q => (q.1, q.2.v K)) z with
  | none =>
    have nk : ¬ z ∈ kvs.map (·.1) := fun m => by
      obtain ⟨q, hq, e⟩ := List.mem_map.mp m
      unfold dkV at c
      rw [Option.map_eq_none_iff, List.find?_eq_none] at c
      exact absurd (c (q.1, q.2.v K) (List.mem_map.mpr ⟨q, hq, rfl⟩)) (by simpa using e)
    cases ef : es.toList.find? (·.key.isStr z) with
    | some e => exact absurd (f1.mpr ⟨e, ef⟩) nk
    | none =>
      rw [ef, f2] at hn
      exact ⟨none, hn, rfl⟩
  | some v =>
    unfold dkV at c
    obtain ⟨p, hp, rfl⟩ := Option.map_eq_some_iff.mp c
    obtain ⟨q, hq, rfl⟩ := List.mem_map.mp (List.mem_of_find?_eq_some hp)
    have ez : q.1 = z := by simpa using List.find?_some hp
    obtain ⟨u, hu, ru⟩ := valsB_ok hv hq
    rw [ez] at hu
    exact ⟨some u, hu, u, rfl, ru⟩
section
variable {X : Cx} {d : Addr} {kvs : List (Str × V)}
/-- d[k], the key is there -/
theorem ix_ktab (D : KTab X.K X.w d kvs) : IxR X (fun x y H Q => ∃ z v, x = .ref d ∧ y = .str z ∧ dkV kvs z = some v ∧ Q v H) := by
  intro value slice pins s σ H x y v u Q I rx ry h hs
  obtain ⟨z, v0, rfl, rfl, e, q⟩ := h
  obtain ⟨es, n, kd⟩ := D.kd
  obtain ⟨r, hr, hm⟩ := D.get z
  rw [e] at hm
  obtain ⟨u0, rfl, ru⟩ := hm
  exact ix_kdict value slice pins s σ H (.ref d) (.str z) v u Q I rx ry ⟨d, z, v0, rfl, rfl, ⟨es, n, u0, kd.at_, kd.lit, hr, ru⟩, q⟩ hs
theorem op_in_ktab (D : KTab X.K X.w d kvs) : OpR X (compareOp .In) (fun x y H Q => ∃ z : Str, x = .str z ∧ y = .ref d ∧ Q (.bl (dkV kvs z).isSome) H) := by
  intro pins s σ H x y v u Q I rx ry h
  obtain ⟨z, rfl, rfl, q⟩ := h
  obtain ⟨es, n, kd⟩ := D.kd
  obtain ⟨r, hr, hm⟩ := D.get z
  refine op_in_kd kd pins s σ H (.str z) (.ref d) v u Q I rx ry ⟨z, r, rfl, rfl, hr, ?_⟩
  cases e : dkV kvs z with
  | none =>
    rw [e] at hm q
    rw [hm]
    exact q
  | some v0 =>
    rw [e] at hm q
    obtain ⟨u0, rfl, _⟩ := hm
    exact q
/-- d.get(k) -/
def tKGet1 (d : Addr) (kvs : List (Str × V)) (td ty : TE) : TE := fun σ H Q => td σ H fun x H1 => x = .ref d ∧ ty σ H1 fun y H2 => ∃ z, y = .str z ∧ Q ((dkV kvs z).getD .non) H2
theorem pe_kget1 (D : KTab X.K X.w d kvs) {o e : Expr} {apos cpos : Pos} {td ty : TE} (ho : PE X o td) (he : PE X e ty) (m : M1 X o "get" apos e cpos) : PE X (.Call (.Attribute o "get" apos) [e] [] cpos) (tKGet1 d kvs td ty) := by
  refine ⟨fun pins s σ H Q I h => ?_⟩
  refine wpAny_Call_method m.base m.few m.line PySem.F.plainAttrs_dict PySem.F.slot_dict_get PySem.F.type_dict_get (thn (ho.run pins s σ H _ I h) fun u s1 ⟨x, H1, I1, rx, ex, q1⟩ => ?_)
  subst ex
  obtain rfl : u = Value.ref d := rx
  obtain ⟨es, n, kd⟩ := D.kd
  have ty1 := kd_type kd I1
  refine ⟨ty1, (fun b q => by cases q; exact ⟨_, I1.kIn _ _ kd.at_, rfl⟩), ?_⟩
  rw [m.trees]
  refine Calls.callWith_builtin rfl (Calls.evalArgs_plain (Calls.spliced_cons (thn (he.run pins s1 σ H1 _ I1 q1) fun iv s2 ⟨y, H2, I2, ry, z, ey, q2⟩ => Calls.spliced_nil ?_)))
  subst ey
  obtain ⟨t, rfl⟩ := ry
  obtain ⟨r, hr, hm⟩ := D.get z
  refine call_meetsIn PySem.F.slot_dict_get (kd_type kd I2) PySem.F.entry_dict_get (PySem.F.args_dict_get_2 _ _) (meets_dict_get (PySem.strKind X.prog X.w) d (PySem.strKind_is X.prog X.w z t) kd.low) ⟨_, PySem.W.mapOf_K (prog := X.prog) (w := X.w) I2.kIn kd.at_ kd.lit, ?_⟩
  rw [PySem.W.find_K kd.at_ hr]
  cases e : dkV kvs z with
  | none =>
    rw [e] at hm q2
    rw [hm]
    exact ⟨.non, H2, I2.tok _, rfl, q2⟩
  | some v0 =>
    rw [e] at hm q2
    obtain ⟨u0, rfl, ru⟩ := hm
    exact ⟨v0, H2, I2.tok _, ru, q2⟩
end
end NF
set_option Elab.async false
set_option linter.all false
set_option maxRecDepth 100000
set_option maxHeartbeats 4000000
/-! The head's hook with dicts of the top, and tuples that the top wrote. -/
namespace NF
open PySem PySem.Spec PyProof.Rows L2 He RZ
abbrev TabU : Type := (PySem.W.Frag → Addr) × List Str
abbrev AlU : Type := AlD × List (Option (List (Option (Str × Int))))
def obsU (ex : PySem.W.Frag → Bool) (fn : List Adr) (ts : List TabU) (K : PySem.W.Frag) : AlU := (obsP ex fn K, ts.map fun t => dicW K (t.1 K))
def valU (fn : List Adr) (ts : List TabU) (w : World) : AlU := (valP fn, ts.map fun t => some (keysIn w.params t.2))
def SaysU (ex : PySem.W.Frag → Bool) (fn : List Adr) (ts : List TabU) (w : World) (K : PySem.W.Frag) : Prop := obsU ex fn ts K = valU fn ts w
def obsUG (n : Nat) (ex : PySem.W.Frag → Bool) (fn : List Adr) (ts : List TabU) (g : Addr → Option Obj) : AlU := obsU ex fn ts (frG g (cStatics :: asR g n [mainGlobals] (Nat.shiftLeft 1 mainGlobals) []))
def hookU (n : Nat) (ex : PySem.W.Frag → Bool) (fn : List Adr) (ts : List TabU) : PySem.W.Hook where
  α := AlU
  obs := fun s => obsUG n ex fn ts s.heap.get?
  val := fun w => valU fn ts w
  says := fun w h => ∃ K : PySem.W.Frag, K.In h ∧ SaysU ex fn ts w K
  of := fun _ _ e => ⟨_, frG_in, e⟩
  keeps := fun _ _ _ ⟨K, hK, c⟩ k => ⟨K, PySem.W.Frag.In.keeps hK k, c⟩
theorem obsUG_eq {n : Nat} {ex : PySem.W.Frag → Bool} {fn : List Adr} {ts : List TabU} {g : Addr → Option Obj} {s : Shared} (h : ∀ a, g a = s.heap.get? a) : obsUG n ex fn ts g = (hookU n ex fn ts).obs s := by
  have e : g = s.heap.get? := funext h
  rw [e] <;> rfl
section
variable {ex : PySem.W.Frag → Bool} {fn : List Adr} {ts : List TabU} {w : World} {K : PySem.W.Frag}
theorem SaysU.p (c : SaysU ex fn ts w K) : SaysP ex fn K := congrArg (fun z : AlU => z.1) c
theorem SaysU.tab (c : SaysU ex fn ts w K) (i : Nat) {t : TabU} (h : ts[i]? = some t := by rfl) : dicW K (t.1 K) = some (keysIn w.params t.2) := by
  have e : ts.map (fun t => dicW K (t.1 K)) = ts.map fun t => some (keysIn w.params t.2) := congrArg (fun z : AlU => z.2) c
  have e2 : (ts.map fun t => dicW K (t.1 K))[i]? = (ts.map fun t => some (keysIn w.params t.2))[i]? := by rw [e]
  rw [List.getElem?_map, List.getElem?_map, h] at e2
  exact Option.some.inj e2
end
/-- a tuple that the top wrote -/
def relAll (K : PySem.W.Frag) : List Dv → List Value → Bool
  | [], [] => true
  | d :: ds, u :: us => relB (d.v K) u && relAll K ds us
  | _, _ => false
theorem relAll_ok {K : PySem.W.Frag} : ∀ {ds : List Dv} {us : List Value}, relAll K ds us = true → Vals (ds.map (Dv.v K)) us
  | [], [], _ => .nil
  | d :: ds, u :: us, h => by
    obtain ⟨h1, h2⟩ := ba h
    exact .cons (relB_ok h1) (relAll_ok h2)
  | [], _ :: _, h => by cases h
  | _ :: _, [], h => by cases h
def tupB (p : PySem.W.Frag → Addr) (ds : List Dv) (K : PySem.W.Frag) : Bool := match K.lookup (p K) with
  | some ⟨.type c, _, .seq its _, _⟩ => decide (c = "tuple") && relAll K ds its.toList
  | _ => false
theorem tup_ok {p : PySem.W.Frag → Addr} {ds : List Dv} {K : PySem.W.Frag} (h : tupB p ds K = true) (few : ds.length ≤ 1000) (H : Hp) : SqT K H (p K) (ds.map (Dv.v K)) := by
  unfold tupB at h
  split at h
  · rename_i c dd its n sl q
    obtain ⟨h1, h2⟩ := ba h
    have r := relAll_ok h2
    refine .inr ⟨_, its, n, q, congrArg Value.type (of_decide_eq_true h1), rfl, ?_, r⟩
    have := r.length
    rw [List.length_map] at this
    have e : its.size = ds.length := by rw [← Array.length_toList, this]
    rw [e]
    exact Nat.le_trans few (by decide)
  · cases h
/-- what stands at a key of a dict of the top -/
def da (d : Str) (k : Str) (K : PySem.W.Frag) : Addr := match PySem.W.nsIn K (ga K d) k with
  | some (some (.ref a)) => a
  | _ => 0
end NF
set_option Elab.async false
set_option linter.all false
set_option maxRecDepth 100000
set_option maxHeartbeats 4000000
/-! Own binary operators of a class: x * y, x & y, x | y, both instances of it. -/
namespace NF
open PySem PySem.Spec PyProof.Rows L2 He RZ NT
def rBinO (C : Addr) (sp : Sp) : R2 := fun x y H Q => ∃ a dx fs b dy gs, x = .ref a ∧ H a = some (.ins C dx fs) ∧ y = .ref b ∧ H b = some (.ins C dy gs) ∧ sp [.ref a, .ref b] H Q E0
structure OpM (K : PySem.W.Frag) (C f : Addr) (nm : Str) : Prop where
  o1 : PySem.W.findIn K (.ref C) nm = some (some (.ref f))
  o2 : PySem.W.isFn K (.ref f) = true
  o3 : PySem.W.selfFirst K C = true
/-- a class with an own operator, and how its instances' type is read -/
structure OpC (P : Program) (w : World) (K : PySem.W.Frag) (mg : Str → Option Value) (base : Heap) (k : Nat) (C : Addr) (nm : Str) (sp : Sp) : Prop where
  cl : Cls K C
  ac : PySem.W.findIn K (.ref C) "__class__" = some (some (.builtin "object.__class__"))
  ag : PySem.W.specialIn K (.builtin "object.__class__") "__get__" = some (some (.builtin "getset_descriptor.__get__"))
  at_ : PySem.W.takesIn K (.builtin "object.__class__") = some true
  am : PySem.W.mroIn K C (.type "object") = some true
  ex : ∃ (f : Addr) (fd : FuncData) (ps : List Str), FnOk P w K mg base CX0 k f fd ps sp ∧ OpM K C f nm ∧ Binds K fd ps []
theorem op_bin {X : Cx} {k j : Nat} {C : Addr} {sp : Sp} {op : Operator} {nm : Str} (c : OpC X.prog X.w X.K X.mg X.base k C nm sp) (hr : Room j X.A) (hk : k ≤ j) (hnm : PySem.dunder op.info.2 = nm := by rfl) : OpR X (binaryOp op) (rBinO C sp) := by
  obtain ⟨f, fd, ps, F, ⟨hs, hf, hc⟩, hb⟩ := c.ex
  intro pins s σ H x y v u Q I rx ry h
  obtain ⟨a, dx, fs, b, dy, gs, rfl, ha, rfl, hb2, q⟩ := h
  cases rx
  obtain ⟨mA, O, _⟩ := ins_get I.hok ha
  obtain ⟨od, J, _⟩ := O.look
  obtain ⟨m, hF⟩ := I.fr
  obtain ⟨P, Z, p, _⟩ := kit_of I ry (.base (.ins hb2 c.cl c.ac c.ag c.at_ c.am))
  cases ry
  show wpAny (model X.prog X.w) X.A (binaryOp op (.ref a) (.ref b)) (EP X pins σ Q) X.xe s
  refine PySem.W.binop_K hF I.ok.mod.kin J (Z.ty _ _ I.kIn p) hc (by rw [hnm]; exact hs) hf ?_
  have r2 : Vals [V.ref a, V.ref b] [Value.ref a, Value.ref b] := .cons rfl (.cons rfl .nil)
  refine wpAny_mono (run_fn (us := [.ref a, .ref b]) (vs := [.ref a, .ref b]) F (hr.mono hk) hb .nil pass0 I r2 q) (fun r s' z => ?_) fun _ _ e => e
  obtain ⟨z, H', I', rz, q'⟩ := z
  have hni : r ≠ .notImplemented := fun e => by
    subst e
    cases z with
    | int i => obtain ⟨t, e⟩ := (show ∃ t, Value.notImplemented = Value.int i t from rz); cases e
    | str i => obtain ⟨t, e⟩ := (show ∃ t, Value.notImplemented = Value.str i t from rz); cases e
    | byt i => obtain ⟨t, e⟩ := (show ∃ t, Value.notImplemented = Value.bytes i t from rz); cases e
    | flt i => obtain ⟨t, e⟩ := (show ∃ t, Value.notImplemented = Value.float i t from rz); cases e
    | _ => cases rz
  unfold PySem.W.CmpBack
  split
  · exact hni rfl
  · exact ⟨z, H', I', rz, q'⟩
end NF
set_option Elab.async false
set_option linter.all false
set_option maxRecDepth 100000
set_option maxHeartbeats 4000000
namespace NF
open PySem PySem.Spec PyProof.Rows L2 He RZ NT
def binB (c m : Str) (K : PySem.W.Frag) : Bool := eqO (PySem.W.findIn K (.ref (ga K c)) m) (some (some (.ref (ma K (ga K c) m)))) && (PySem.W.isFn K (.ref (ma K (ga K c) m)) && PySem.W.selfFirst K (ga K c))
theorem bin_ok {c m : Str} {K : PySem.W.Frag} (h : binB c m K = true) : OpM K (ga K c) (ma K (ga K c) m) m := by
  obtain ⟨h1, h2⟩ := ba h
  obtain ⟨h2, h3⟩ := ba h2
  exact ⟨eqO_ok h1, h2, h3⟩
end NF
set_option Elab.async false
set_option linter.all false
set_option maxRecDepth 100000
set_option maxHeartbeats 4000000
/-! o.m(..): a method of a class of one's own. -/
namespace NF
open PySem PySem.Spec PyProof.Rows L2 He RZ NT
structure MetC (P : Program) (w : World) (K : PySem.W.Frag) (mg : Str → Option Value) (base : Heap) (k : Nat) (C : Addr) (m : Str) (sp : Sp) : Prop where
  cl : Cls K C
  ex : ∃ (f : Addr) (fd : FuncData) (ps : List Str), Meth K C m f ∧ FnOk P w K mg base CX0 k f fd ps sp ∧ Binds K fd ps []
theorem pe_mt {X : Cx} {k j : Nat} {C : Addr} {m : Str} {sp : Sp} {o e : Expr} {es : List Expr} {ta : TE} {t : TA} {pl : Sem Bool} {pos apos : Pos} (he : PE X o ta) (c : MetC X.prog X.w X.K X.mg X.base k C m sp) (hr : Room j X.A) (hk : k ≤ j) (ha : PA X (e :: es) t)
    (hst : starEach (e :: es) X.env = (false, eval e X.env) :: starEach es X.env := by rfl) (hpl : (backTo pos (starEach es X.env)).any (·.1) = false := by rfl)
    (ht : eval (.Call (.Attribute o m apos) (e :: es) [] pos) X.env = (do
      let ov ← eval o X.env
      standAt apos.atName
      let (f, first) ← holding [ov] (getMethod ov m pl)
      callWith pos f first (backTo pos (starEach (e :: es) X.env)) (backToKw pos (keywordEach [] X.env))) := by rfl) :
    PE X (.Call (.Attribute o m apos) (e :: es) [] pos) (tMeth C m sp [] E0 ta t) := by
  obtain ⟨f, fd, ps, hm, F, b⟩ := c.ex
  exact pe_meth he c.cl hm F (hr.mono hk) b .nil pass0 ha hst hpl ht
/-- o.m() -/
theorem pe_mt0 {X : Cx} {k j : Nat} {C : Addr} {m : Str} {sp : Sp} {o : Expr} {ta : TE} {pl : Sem Bool} {pos apos : Pos} (he : PE X o ta) (c : MetC X.prog X.w X.K X.mg X.base k C m sp) (hr : Room j X.A) (hk : k ≤ j)
    (ht : eval (.Call (.Attribute o m apos) [] [] pos) X.env = (do
      let ov ← eval o X.env
      standAt apos.atName
      let (f, first) ← holding [ov] (getMethod ov m pl)
      callWith pos f first (backTo pos (starEach [] X.env)) (backToKw pos (keywordEach [] X.env))) := by rfl) :
    PE X (.Call (.Attribute o m apos) [] [] pos) (tMeth C m sp [] E0 ta tNil) := by
  obtain ⟨f, fd, ps, hm, F, b⟩ := c.ex
  exact pe_meth0 he c.cl hm F (hr.mono hk) b .nil pass0 ht
end NF
set_option linter.all false
namespace NF
open PySem PySem.Spec PyProof.Rows L2 He RZ
/-- o.m(..): a plain method, as the head's run finds it -/
def metB (c m : Str) (K : PySem.W.Frag) : Bool := eqO (PySem.W.findIn K (.ref (ga K c)) m) (some (some (.ref (ma K (ga K c) m)))) && (PySem.W.isFn K (.ref (ma K (ga K c) m)) && PySem.W.keepIn K (.ref (ma K (ga K c) m)))
theorem met_ok {c m : Str} {K : PySem.W.Frag} (h : metB c m K = true) : Meth K (ga K c) m (ma K (ga K c) m) := by
  obtain ⟨h1, h2⟩ := ba h
  obtain ⟨h2, h3⟩ := ba h2
  exact ⟨eqO_ok h1, h2, h3⟩
end NF
set_option Elab.async false
set_option linter.all false
set_option maxRecDepth 100000
set_option maxHeartbeats 0
namespace K13
open PySem PySem.Spec PyProof.Rows L2 He NF RZ
def top (i : Nat) : Stmt := PySem.Challenge.pw_needforth_k13_whole_bad_term_texts.main.body.getD i (.Pass ⟨0, 0, 0, 0⟩)
abbrev s_BadText_init : Stmt := inClass (top 3) 0
abbrev s_TooMany_init : Stmt := inClass (top 4) 0
abbrev s_BadTerm_init : Stmt := inClass (top 5) 0
abbrev s_shared_start : Stmt := top 14
abbrev s_Scanner_init : Stmt := inClass (top 15) 0
abbrev s_Scanner_scan : Stmt := inClass (top 15) 1
abbrev s_Scanner_sign_among : Stmt := inClass (top 15) 2
abbrev s_Scanner_take : Stmt := inClass (top 15) 3
abbrev s_Scanner_take_operand : Stmt := inClass (top 15) 4
abbrev s_Scanner_take_shift : Stmt := inClass (top 15) 5
abbrev s_Scanner_take_name : Stmt := inClass (top 15) 6
abbrev s_Scanner_joints : Stmt := inClass (top 15) 7
abbrev s_Scanner_take_joint : Stmt := inClass (top 15) 8
abbrev s_Scanner_note_joint : Stmt := inClass (top 15) 9
abbrev s_pieces_of : Stmt := top 16
abbrev s_join : Stmt := top 20
abbrev s_join_closer : Stmt := top 21
abbrev s_leaf_of : Stmt := top 22
abbrev s_term_of : Stmt := top 23
abbrev s_check_parts : Stmt := top 24
abbrev s_read_term : Stmt := top 25
abbrev s_read_saying : Stmt := top 26
abbrev s__law_source : Stmt := top 28
abbrev s__law_pick : Stmt := top 29
abbrev s__law_is_integer : Stmt := top 30
abbrev s__law_term : Stmt := top 31
abbrev s__law_rank : Stmt := top 32
abbrev s__law_written : Stmt := top 33
abbrev s__law_fold : Stmt := top 34
abbrev s__law_take : Stmt := top 35
abbrev s__law_operand : Stmt := top 36
abbrev s__law_link : Stmt := top 37
abbrev s__law_parsed : Stmt := top 38
abbrev s__law_parts : Stmt := top 39
abbrev s__law_words_menu : Stmt := top 40
abbrev s__law_changed : Stmt := top 41
abbrev s__law_pieces : Stmt := top 42
abbrev s__law_seen : Stmt := top 43
abbrev s__law_right : Stmt := top 44
abbrev s_law : Stmt := top 45
def FS : List Str := ["len", "int", "abs", "range", "isinstance", "all", "bool", "tuple", "list", "zip", "divmod", "max", "min", "enumerate", "str", "sum", "sorted", "dict", "set"]
end K13
set_option Elab.async false
set_option linter.all false
set_option maxRecDepth 100000
set_option maxHeartbeats 0
namespace K13
open PySem PySem.Spec PyProof.Rows L2 He NF RZ
def woT : List (Str × Dv) := [("~", .str "turn"), ("*", .str "behind"), ("under", .str "under"), ("over", .str "over"), ("&", .str "both"), ("|", .str "either")]
def biT : List (Str × Dv) := [("~", .int 4), ("*", .int 3), ("under", .int 2), ("over", .int 2), ("&", .int 1), ("|", .int 0)]
def ts : List TabU := [(fun K => ga K "WORDS", woT.map (·.1)), (fun K => ga K "BINDING", biT.map (·.1))]
def kits : List (Str × Str × Bool) := [("BadText", "Unreadable", true), ("BadText", "BadTerm", false)]
def exms : List (Str × Str × Bool) := [("BadText", "BadText", true), ("TooMany", "BadText", false), ("TooMany", "TooMany", true)]
def fn : List Adr := ([dM "Scanner" "take" "Scanner.take" s_Scanner_take [], dM "Scanner" "sign_among" "Scanner.sign_among" s_Scanner_sign_among [], dM "Scanner" "take_shift" "Scanner.take_shift" s_Scanner_take_shift [], dM "Scanner" "take_name" "Scanner.take_name" s_Scanner_take_name [], dG "shared_start" s_shared_start, dM "Scanner" "joints" "Scanner.joints" s_Scanner_joints [], dM "Scanner" "note_joint" "Scanner.note_joint" s_Scanner_note_joint [], dM "Scanner" "take_joint" "Scanner.take_joint" s_Scanner_take_joint [], dM "Scanner" "take_operand" "Scanner.take_operand" s_Scanner_take_operand [], dM "Scanner" "scan" "Scanner.scan" s_Scanner_scan [], dM "Scanner" "__init__" "Scanner.__init__" s_Scanner_init [], dG "pieces_of" s_pieces_of, dG "leaf_of" s_leaf_of, dG "join" s_join, dG "join_closer" s_join_closer, dG "check_parts" s_check_parts, dG "term_of" s_term_of, dG "read_term" s_read_term, dG "read_saying" s_read_saying, dG "_law_pick" s__law_pick] : List Adr) ++ ([dG "_law_source" s__law_source, dG "_law_is_integer" s__law_is_integer, dG "_law_rank" s__law_rank, dG "_law_written" s__law_written, dG "_law_term" s__law_term, dG "_law_fold" s__law_fold, dG "_law_take" s__law_take, dG "_law_operand" s__law_operand, dG "_law_link" s__law_link, dG "_law_parsed" s__law_parsed, dG "_law_parts" s__law_parts, dG "_law_changed" s__law_changed, dG "_law_pieces" s__law_pieces, dG "_law_seen" s__law_seen, dG "_law_right" s__law_right, dG "_law_words_menu" s__law_words_menu, dG "law" s_law, dM "BadText" "__init__" "BadText.__init__" s_BadText_init [], dM "TooMany" "__init__" "TooMany.__init__" s_TooMany_init []] : List Adr)
def gs : List Str := (["shared_start", "pieces_of", "leaf_of", "join", "join_closer", "check_parts", "term_of", "read_term", "read_saying", "_law_pick", "_law_source", "_law_is_integer", "_law_rank", "_law_written", "_law_term", "_law_fold", "_law_take", "_law_operand", "_law_link", "_law_parsed", "_law_parts", "_law_changed", "_law_pieces", "_law_seen", "_law_right"] : List Str) ++ (["_law_words_menu", "law", "NeedforthError", "Unreadable", "BadText", "TooMany", "BadTerm", "Scanner", "WORDS", "BINDING", "ALWAYS", "RESIDUES"] : List Str)
def exL : List (PySem.W.Frag → Bool) := [namB gs FS, intB "MOST_PARTS" 60, intB "LONGEST_NAME" 3, strB "LETTERS" "abcdefghijklmnopqrstuvwxyz", strB "FIGURES" "0123456789", strB "BELOW" "<=", excKB "BadText" "place", excKB "TooMany" "word", kitPB kits, exmPB exms, clsB "Scanner", fldsB "Scanner" ["text", "at", "pieces", "residues", "halved"], mkB "Scanner", metB "Scanner" "take", metB "Scanner" "sign_among", metB "Scanner" "take_shift", metB "Scanner" "take_name", metB "Scanner" "joints", metB "Scanner" "note_joint", metB "Scanner" "take_joint", metB "Scanner" "take_operand", metB "Scanner" "scan", fun K => valsB K (ga K "WORDS") woT, fun K => valsB K (ga K "BINDING") biT, tupB (fun K => ga K "ALWAYS") [.str "*", .str "&", .str "|"], tupB (fun K => ga K "RESIDUES") [.str "under", .str "over"]]
def exB (K : PySem.W.Frag) : Bool := exL.all fun f => f K
end K13
set_option Elab.async false
set_option linter.all false
set_option maxRecDepth 100000
set_option maxHeartbeats 0
namespace K13
open PySem PySem.Spec PyProof.Rows L2 He NF
abbrev R : PySem.W.OpenRow := PySem.W.OpenLaw.row PySem.Challenge.rw_needforth_k13_whole_bad_term_texts
abbrev hk : PySem.W.Hook := hookU 5 exB fn ts
def ob (s : PySem.W.SharedT) : AlU := obsUG 5 exB fn ts (HandSHeadRun.getT s)
theorem ob_eq (s : PySem.W.SharedT) : ob s = hk.obs s.abs := obsUG_eq (HandSHeadRun.getT_eq s)
def loose : List Str := (["__name__", "NeedforthError", "Unreadable", "BadText", "TooMany", "BadTerm", "LETTERS", "FIGURES", "MOST_PARTS", "LONGEST_NAME", "ALWAYS", "RESIDUES", "BELOW", "shared_start", "Scanner", "pieces_of", "WORDS", "BINDING", "join", "join_closer", "leaf_of", "term_of", "check_parts", "read_term", "read_saying"] : List Str) ++ (["_law_source", "_law_pick", "_law_is_integer", "_law_term", "_law_rank", "_law_written", "_law_fold", "_law_take", "_law_operand", "_law_link", "_law_parsed", "_law_parts", "_law_words_menu", "_law_changed", "_law_pieces", "_law_seen", "_law_right"] : List Str)
theorem run_false (w : World) : HandSHeadRun.RunEq R (PySem.W.view R.prog [45]) hk ob 12000 loose (w.withFollow "special-get-raises" false) := by
  intro os
  kernel_rfl
theorem run_true (w : World) : HandSHeadRun.RunEq R (PySem.W.view R.prog [45]) hk ob 12000 loose (w.withFollow "special-get-raises" true) := by
  intro os
  kernel_rfl
theorem run (w : World) : HandSHeadRun.RunEq R (PySem.W.view R.prog [45]) hk ob 12000 loose w := by
  have e := World.withFollow_self w "special-get-raises"
  cases h : w.params.followText "special-get-raises" with
  | false => (have r := run_false w; rw [h] at e; rw [e] at r; exact r)
  | true => (have r := run_true w; rw [h] at e; rw [e] at r; exact r)
end K13
set_option linter.all false
set_option maxHeartbeats 4000000
/-! Terms: their texts, pieces, what a scanner lets, how pieces are put together. Plain Lean. -/
namespace TT
abbrev Tx := List Nat
inductive Trm where
  | nm (s : Tx) | sh (k : Int) | tn (a : Trm) | bi (w : Nat) (a b : Trm)
/-- binding of the two-sided ones: either, both, under, over, behind -/
def rk (w : Nat) : Nat := [0, 1, 2, 2, 3].getD w 0
def lft (w : Nat) : Nat := if rk w = 2 then 3 else rk w
/-- their signs -/
def sg (w : Nat) : Tx := [[124], [38], [117, 110, 100, 101, 114], [111, 118, 101, 114], [42]].getD w []
def tilde : Tx := [126]
def opn : Tx := [40]
def cls : Tx := [41]
def blw : Tx := [60, 61]
def isLet (c : Nat) : Bool := decide (97 ≤ c) && decide (c ≤ 122)
def isFig (c : Nat) : Bool := decide (48 ≤ c) && decide (c ≤ 57)
def NmOk (s : Tx) : Prop := ∃ c r, s = c :: r ∧ isLet c = true ∧ r.length ≤ 2 ∧ ∀ d ∈ r, isLet d = true ∨ isFig d = true
def shT (k : Int) : Tx := [if k < 0 then 45 else 43, 48 + k.natAbs]
def ShOk (k : Int) : Prop := -9 ≤ k ∧ k ≤ 9
def TmOk : Trm → Prop
  | .nm s => NmOk s
  | .sh k => ShOk k
  | .tn a => TmOk a
  | .bi w a b => w < 5 ∧ TmOk a ∧ TmOk b
def parts : Trm → Nat
  | .nm _ => 1
  | .sh _ => 1
  | .tn a => parts a + 1
  | .bi _ a b => parts a + parts b + 1
def depth : Trm → Nat
  | .nm _ => 1
  | .sh _ => 1
  | .tn a => depth a + 1
  | .bi _ a b => max (depth a) (depth b) + 1
theorem depth_pos : ∀ t, 1 ≤ depth t
  | .nm _ => Nat.le_refl _
  | .sh _ => Nat.le_refl _
  | .tn a => by show 1 ≤ depth a + 1; omega
  | .bi _ a b => by show 1 ≤ max (depth a) (depth b) + 1; omega
/-- the text with the fewest brackets -/
def wr : Trm → Nat → Tx
  | .nm s, _ => s
  | .sh k, _ => shT k
  | .tn a, _ => 126 :: wr a 4
  | .bi w a b, l =>
    let x := wr a (lft w) ++ (32 :: sg w ++ [32]) ++ wr b (rk w + 1)
    if rk w < l then 40 :: x ++ [41] else x
/-- the text of pieces -/
def isBin (p : Tx) : Bool := p == blw || (p == sg 0 || (p == sg 1 || (p == sg 2 || (p == sg 3 || p == sg 4))))
def isRes (p : Tx) : Bool := p == sg 2 || p == sg 3
def fl1 (p : Tx) : Tx := if isBin p then 32 :: p ++ [32] else p
def fl (ps : List Tx) : Tx := ps.flatMap fl1
theorem fl_app (a b : List Tx) : fl (a ++ b) = fl a ++ fl b := List.flatMap_append ..
theorem fl_cons (p : Tx) (b : List Tx) : fl (p :: b) = fl1 p ++ fl b := by
  unfold fl
  rw [List.flatMap_cons]
/-- pieces of a term that stands where the binding is at least l, with brackets around parts -/
inductive Br : Trm → Nat → List Tx → Prop
  | nm {s l} : NmOk s → Br (.nm s) l [s]
  | sh {k l} : ShOk k → Br (.sh k) l [shT k]
  | tn {a l p} : Br a 4 p → Br (.tn a) l (tilde :: p)
  | bi {w a b l p q} : w < 5 → Br a (lft w) p → Br b (rk w + 1) q → l ≤ rk w → Br (.bi w a b) l (p ++ sg w :: q)
  | br {t l p} : Br t 0 p → Br t l (opn :: (p ++ [cls]))
theorem sg_cases {w : Nat} (h : w < 5) : w = 0 ∨ w = 1 ∨ w = 2 ∨ w = 3 ∨ w = 4 := by omega
theorem sg_bin {w : Nat} (h : w < 5) : isBin (sg w) = true := by
  rcases sg_cases h with rfl | rfl | rfl | rfl | rfl <;> decide
theorem shT_not {k : Int} : isBin (shT k) = false ∧ shT k ≠ tilde ∧ shT k ≠ opn ∧ shT k ≠ cls := by
  have : (if k < 0 then (45 : Nat) else 43) = 45 ∨ (if k < 0 then (45 : Nat) else 43) = 43 := by
    split
    · exact .inl rfl
    · exact .inr rfl
  unfold shT
  generalize (if k < 0 then (45 : Nat) else 43) = c at this
  generalize 48 + k.natAbs = d
  refine ⟨?_, fun z => ?_, fun z => ?_, fun z => ?_⟩
  · rcases this with rfl | rfl <;> (unfold isBin blw sg; simp)
  all_goals (injection z with _ z; cases z)
theorem nm_not {s : Tx} (h : NmOk s) : isBin s = false ∧ s ≠ tilde ∧ s ≠ opn ∧ s ≠ cls := by
  obtain ⟨c, r, rfl, hc, hr, _⟩ := h
  have c1 : 97 ≤ c ∧ c ≤ 122 := by
    unfold isLet at hc
    simpa using hc
  refine ⟨?_, fun z => ?_, fun z => ?_, fun z => ?_⟩
  · unfold isBin blw sg
    simp only [List.getD_cons_zero, List.getD_cons_succ, Bool.or_eq_false_iff, beq_eq_false_iff_ne]
    refine ⟨fun z => ?_, fun z => ?_, fun z => ?_, fun z => ?_, fun z => ?_, fun z => ?_⟩
    all_goals (injection z with z1 z2)
    · omega
    · omega
    · omega
    · rw [z2] at hr
      exact absurd hr (by decide)
    · rw [z2] at hr
      exact absurd hr (by decide)
    · omega
  all_goals (injection z with z1 z2; omega)
theorem wr_bi {w : Nat} {a b : Trm} {l : Nat} : wr (.bi w a b) l = if rk w < l then 40 :: (wr a (lft w) ++ (32 :: sg w ++ [32]) ++ wr b (rk w + 1)) ++ [41] else wr a (lft w) ++ (32 :: sg w ++ [32]) ++ wr b (rk w + 1) := by
  rw [wr]
theorem br_wr : ∀ {t : Trm}, TmOk t → ∀ l, ∃ p, Br t l p ∧ fl p = wr t l
  | .nm s, h, l => ⟨_, .nm h, by
    show fl [s] = s
    rw [fl_cons]
    unfold fl1 fl
    rw [(nm_not h).1]
    simp⟩
  | .sh k, h, l => ⟨_, .sh h, by
    show fl [shT k] = shT k
    rw [fl_cons]
    unfold fl1 fl
    rw [shT_not.1]
    simp⟩
  | .tn a, h, l => by
    obtain ⟨p, hp, e⟩ := br_wr (t := a) h 4
    refine ⟨_, .tn hp, ?_⟩
    rw [fl_cons, e]
    rfl
  | .bi w a b, h, l => by
    obtain ⟨hw, ha, hb⟩ := h
    obtain ⟨p, hp, e1⟩ := br_wr ha (lft w)
    obtain ⟨q, hq, e2⟩ := br_wr hb (rk w + 1)
    have ex : fl (p ++ sg w :: q) = wr a (lft w) ++ (32 :: sg w ++ [32]) ++ wr b (rk w + 1) := by
      rw [fl_app, fl_cons, e1, e2, fl1, sg_bin hw, if_pos rfl]
      simp
    by_cases c : rk w < l
    · refine ⟨_, .br (.bi hw hp hq (Nat.zero_le _)), ?_⟩
      rw [fl_cons, fl_app, ex, wr_bi, if_pos c]
      rfl
    · refine ⟨_, .bi hw hp hq (Nat.le_of_not_lt c), ?_⟩
      rw [ex, wr_bi, if_neg c]
theorem Br.ok {t : Trm} {l : Nat} {p : List Tx} (h : Br t l p) : TmOk t := by
  induction h with
  | nm h => exact h
  | sh h => exact h
  | tn _ ih => exact ih
  | bi hw _ _ _ i1 i2 => exact ⟨hw, i1, i2⟩
  | br _ ih => exact ih
/-- how many pieces are no brackets -/
def notBr (p : Tx) : Bool := !(p == opn || p == cls)
theorem Br.count {t : Trm} {l : Nat} {p : List Tx} (h : Br t l p) : p.countP notBr = parts t := by
  induction h with
  | @nm s l h =>
    have n := nm_not h
    rw [List.countP_cons, List.countP_nil]
    have : notBr s = true := by
      unfold notBr
      rw [beq_eq_false_iff_ne.mpr n.2.2.1, beq_eq_false_iff_ne.mpr n.2.2.2]
      rfl
    rw [this]
    rfl
  | @sh k l h =>
    have n := shT_not (k := k)
    rw [List.countP_cons, List.countP_nil]
    have : notBr (shT k) = true := by
      unfold notBr
      rw [beq_eq_false_iff_ne.mpr n.2.2.1, beq_eq_false_iff_ne.mpr n.2.2.2]
      rfl
    rw [this]
    rfl
  | tn _ ih =>
    rw [List.countP_cons, ih]
    rfl
  | @bi w a b l p q hw _ _ _ i1 i2 =>
    rw [List.countP_append, List.countP_cons, i1, i2]
    have : notBr (sg w) = true := by rcases sg_cases hw with rfl | rfl | rfl | rfl | rfl <;> decide
    rw [this]
    show _ = parts a + parts b + 1
    simp
    omega
  | br _ ih =>
    rw [List.countP_cons, List.countP_append, ih]
    rfl
/-! ### what the scanner lets -/
def Leaf (p : Tx) : Prop := NmOk p ∨ ∃ k, ShOk k ∧ p = shT k
/-- the flag of residues behind a sign -/
def flagB (p : Tx) (f : Bool) : Bool := if isRes p then true else if p == sg 4 then f else false
/-- e: an operand is due; hv: no '<=' may come any more; st: flags of the open brackets, innermost first -/
def scanOk : Bool → Bool → List Bool → List Tx → Prop
  | e, hv, st, [] => e = false ∧ hv = true ∧ st.length = 1
  | true, hv, st, p :: r => (p = tilde ∧ scanOk true hv st r) ∨ (p = opn ∧ scanOk true hv (false :: st) r) ∨ (Leaf p ∧ scanOk false hv st r)
  | false, hv, st, p :: r => (p = cls ∧ 1 < st.length ∧ scanOk false hv st.tail r) ∨
      (isBin p = true ∧ (isRes p = true → st.head? = some false) ∧ (p = blw → hv = false ∧ st.length = 1) ∧ ∃ f tl, st = f :: tl ∧ scanOk true (hv || p == blw) (flagB p f :: tl) r)
theorem Br.scan {t : Trm} {l : Nat} {p : List Tx} (h : Br t l p) : ∀ {r : List Tx} {hv f : Bool} {tl : List Bool}, (l ≤ 2 → f = false) → (∀ f', (3 ≤ l → f' = f) → scanOk false hv (f' :: tl) r) → scanOk true hv (f :: tl) (p ++ r) := by
  induction h with
  | nm h => exact fun _ k => .inr (.inr ⟨.inl h, k _ fun _ => rfl⟩)
  | sh h => exact fun _ k => .inr (.inr ⟨.inr ⟨_, h, rfl⟩, k _ fun _ => rfl⟩)
  | @tn a l p _ ih =>
    intro r hv f tl _ k
    refine .inl ⟨rfl, ih (fun h => absurd h (by omega)) fun f' e => ?_⟩
    rw [e (by omega)]
    exact k _ fun _ => rfl
  | @bi w a b l p q hw _ _ hl i1 i2 =>
    intro r hv f tl hf k
    rw [List.append_assoc]
    have bw := sg_bin hw
    have nb : sg w ≠ blw := by rcases sg_cases hw with rfl | rfl | rfl | rfl | rfl <;> decide
    have nb' : (sg w == blw) = false := beq_eq_false_iff_ne.mpr nb
    refine i1 (fun h => hf ?_) fun f1 e1 => .inr ⟨bw, fun hres => ?_, fun z => absurd z nb, f1, tl, rfl, ?_⟩
    · unfold lft at h
      split at h <;> omega
    · -- a residue: its left side is closer
      have r2 : rk w = 2 := by rcases sg_cases hw with rfl | rfl | rfl | rfl | rfl <;> first | rfl | exact absurd hres (by decide)
      have : lft w = 3 := if_pos r2
      show some f1 = some false
      rw [e1 (by omega), hf (by omega)]
    · rw [nb', Bool.or_false]
      refine i2 (fun h => ?_) fun f2 e2 => k f2 fun h3 => ?_
      · -- the right side may hold a residue: the sign has set the flag to false
        rcases sg_cases hw with rfl | rfl | rfl | rfl | rfl
        · rfl
        · rfl
        · exact absurd h (by decide)
        · exact absurd h (by decide)
        · exact absurd h (by decide)
      · have w4 : w = 4 := by
          rcases sg_cases hw with rfl | rfl | rfl | rfl | rfl
          · exact absurd (Nat.le_trans h3 hl) (by decide)
          · exact absurd (Nat.le_trans h3 hl) (by decide)
          · exact absurd (Nat.le_trans h3 hl) (by decide)
          · exact absurd (Nat.le_trans h3 hl) (by decide)
          · rfl
        subst w4
        rw [e2 (by decide)]
        show f1 = f
        exact e1 (by decide)
  | @br t l p _ ih =>
    intro r hv f tl _ k
    refine .inr (.inl ⟨rfl, ?_⟩)
    show scanOk true hv (false :: f :: tl) ((p ++ [cls]) ++ r)
    rw [List.append_assoc]
    refine ih (fun _ => rfl) fun f' _ => .inl ⟨rfl, by simp, ?_⟩
    exact k f fun _ => rfl
/-- a term's pieces, and a saying's -/
theorem Br.term {t : Trm} {p : List Tx} (h : Br t 0 p) : scanOk true true [false] p := by
  have := h.scan (r := []) (hv := true) (f := false) (tl := []) (fun _ => rfl) fun f' _ => ⟨rfl, rfl, rfl⟩
  rwa [List.append_nil] at this
theorem Br.saying {t u : Trm} {p q : List Tx} (h : Br t 0 p) (k : Br u 0 q) : scanOk true false [false] (p ++ blw :: q) := by
  refine h.scan (fun _ => rfl) fun f' _ => .inr ⟨by decide, fun z => absurd z (by decide), fun _ => ⟨rfl, rfl⟩, f', [], rfl, ?_⟩
  show scanOk true true [false] q
  exact k.term
/-! ### the two stacks -/
/-- binding of a waiting sign -/
def bnd (p : Tx) : Nat := if p = tilde then 4 else if p = sg 4 then 3 else if p = sg 2 then 2 else if p = sg 3 then 2 else if p = sg 1 then 1 else 0
def wix (p : Tx) : Nat := if p = sg 4 then 4 else if p = sg 2 then 2 else if p = sg 3 then 3 else if p = sg 1 then 1 else 0
theorem bnd_sg {w : Nat} (h : w < 5) : bnd (sg w) = rk w ∧ wix (sg w) = w ∧ sg w ≠ opn ∧ sg w ≠ tilde ∧ sg w ≠ cls := by
  rcases sg_cases h with rfl | rfl | rfl | rfl | rfl <;> decide
/-- one waiting sign done; stacks top first -/
def joinT (w : Tx) : List Trm → List Trm
  | a :: T => if w = tilde then .tn a :: T else match T with
    | b :: T' => .bi (wix w) b a :: T'
    | [] => a :: T
  | [] => []
def joinCl (c : Nat) : List Trm → List Tx → List Trm × List Tx
  | T, [] => (T, [])
  | T, w :: W => if w = opn ∨ bnd w < c then (T, w :: W) else joinCl c (joinT w T) W
def leafT (p : Tx) : Trm := match p with
  | [43, d] => .sh ((d : Int) - 48)
  | [45, d] => .sh (48 - (d : Int))
  | _ => .nm p
def stepM (S : List Trm × List Tx) (p : Tx) : List Trm × List Tx :=
  if p = opn ∨ p = tilde then (S.1, p :: S.2) else
  if p = cls then ((joinCl 0 S.1 S.2).1, (joinCl 0 S.1 S.2).2.tail) else
  if isBin p then ((joinCl (bnd p) S.1 S.2).1, p :: (joinCl (bnd p) S.1 S.2).2) else (leafT p :: S.1, S.2)
theorem leaf_nm {s : Tx} (h : NmOk s) : leafT s = .nm s := by
  obtain ⟨c, r, rfl, hc, _⟩ := h
  have c1 : 97 ≤ c ∧ c ≤ 122 := by
    unfold isLet at hc
    simpa using hc
  unfold leafT
  split
  · rename_i d e
    injection e with e
    omega
  · rename_i d e
    injection e with e
    omega
  · rfl
theorem leaf_sh {k : Int} : leafT (shT k) = .sh k := by
  unfold shT
  by_cases c : k < 0
  · rw [if_pos c]
    show Trm.sh (48 - ((48 + k.natAbs : Nat) : Int)) = .sh k
    congr 1
    omega
  · rw [if_neg c]
    show Trm.sh (((48 + k.natAbs : Nat) : Int) - 48) = .sh k
    congr 1
    omega
/-- nothing that waits below is touched -/
def Quiet (W : List Tx) (l : Nat) : Prop := l = 4 ∨ ∀ w W', W = w :: W' → w = opn ∨ bnd w < l
theorem quiet_stop {W : List Tx} {T : List Trm} {c l : Nat} (q : Quiet W l) (h : l ≤ c) (n : l ≠ 4) : joinCl c T W = (T, W) := by
  cases W with
  | nil => rfl
  | cons w W =>
    rcases q with q | q
    · exact absurd q n
    · show (if w = opn ∨ bnd w < c then _ else _) = _
      rw [if_pos ((q w W rfl).imp id fun z => by omega)]
theorem Br.stacks {t : Trm} {l : Nat} {p : List Tx} (h : Br t l p) : l ≤ 4 → ∀ {T : List Trm} {W : List Tx}, Quiet W l → ∃ ts ws, p.foldl stepM (T, W) = (ts ++ T, ws ++ W) ∧ ∀ (T' : List Trm) (W' : List Tx) (c : Nat), c ≤ l → joinCl c (ts ++ T') (ws ++ W') = joinCl c (t :: T') W' := by
  induction h with
  | @nm s l h =>
    intro _ T W _
    have n := nm_not h
    refine ⟨[.nm s], [], ?_, fun T' W' c _ => rfl⟩
    show stepM (T, W) s = _
    unfold stepM
    rw [if_neg (fun z => z.elim n.2.2.1 n.2.1), if_neg n.2.2.2, if_neg (by rw [n.1]; decide), leaf_nm h]
    rfl
  | @sh k l h =>
    intro _ T W _
    have n := shT_not (k := k)
    refine ⟨[.sh k], [], ?_, fun T' W' c _ => rfl⟩
    show stepM (T, W) (shT k) = _
    unfold stepM
    rw [if_neg (fun z => z.elim n.2.2.1 n.2.1), if_neg n.2.2.2, if_neg (by rw [n.1]; decide), leaf_sh]
    rfl
  | @tn a l p _ ih =>
    intro l4 T W _
    obtain ⟨ts, ws, e, k⟩ := ih (Nat.le_refl _) (T := T) (W := tilde :: W) (.inl rfl)
    refine ⟨ts, ws ++ [tilde], ?_, fun T' W' c hc => ?_⟩
    · rw [List.foldl_cons]
      show p.foldl stepM (T, tilde :: W) = _
      rw [e, List.append_assoc]
      rfl
    · rw [List.append_assoc, k T' ([tilde] ++ W') c (by omega)]
      show (if tilde = opn ∨ bnd tilde < c then _ else _) = _
      rw [if_neg (fun z => z.elim (by decide) fun z => by
        have : bnd tilde = 4 := by decide
        omega)]
      rfl
  | @bi w a b l p q hw _ _ hl i1 i2 =>
    intro l4 T W qw
    obtain ⟨b1, b2, b3, b4, b5⟩ := bnd_sg hw
    have r3 : rk w ≤ 3 := by rcases sg_cases hw with rfl | rfl | rfl | rfl | rfl <;> decide
    have lf : lft w ≤ 4 ∧ rk w ≤ lft w ∧ (lft w ≠ 4) := by
      unfold lft
      split <;> omega
    have ql : Quiet W (lft w) := by
      rcases qw with z | z
      · exact absurd z (by omega)
      · exact .inr fun x X e => (z x X e).imp id fun y => by omega
    obtain ⟨ts, ws, e1, k1⟩ := i1 lf.1 (T := T) (W := W) ql
    obtain ⟨us, vs, e2, k2⟩ := i2 (by omega) (T := a :: T) (W := sg w :: W) (.inr fun x X e => by
      injection e with e _
      rw [← e, b1]
      exact .inr (Nat.lt_succ_self _))
    refine ⟨us ++ [a], vs ++ [sg w], ?_, fun T' W' c hc => ?_⟩
    · rw [List.foldl_append, List.foldl_cons, e1]
      have st : stepM (ts ++ T, ws ++ W) (sg w) = (a :: T, sg w :: W) := by
        unfold stepM
        rw [if_neg (fun z => z.elim b3 b4), if_neg b5, if_pos (sg_bin hw), b1, k1 T W (rk w) lf.2.1, quiet_stop qw hl (by omega)]
      rw [st, e2, List.append_assoc, List.append_assoc]
      rfl
    · rw [List.append_assoc, List.append_assoc]
      show joinCl c (us ++ (a :: T')) (vs ++ (sg w :: W')) = _
      rw [k2 (a :: T') (sg w :: W') c (by omega)]
      show (if sg w = opn ∨ bnd (sg w) < c then _ else _) = _
      rw [if_neg (fun z => z.elim b3 fun z => by rw [b1] at z; omega)]
      show joinCl c (if sg w = tilde then _ else _) W' = _
      rw [if_neg b4, b2]
  | @br t l p _ ih =>
    intro _ T W _
    obtain ⟨ts, ws, e, k⟩ := ih (Nat.zero_le _) (T := T) (W := opn :: W) (.inr fun x X e => by
      injection e with e _
      exact .inl e.symm)
    refine ⟨[t], [], ?_, fun T' W' c _ => rfl⟩
    rw [List.foldl_cons, List.foldl_append]
    have e0 : stepM (T, W) opn = (T, opn :: W) := rfl
    rw [e0, e]
    show stepM (ts ++ T, ws ++ opn :: W) cls = _
    unfold stepM
    rw [if_neg (by decide), if_pos rfl, k T (opn :: W) 0 (Nat.le_refl _)]
    show ((joinCl 0 (t :: T) (opn :: W)).1, (joinCl 0 (t :: T) (opn :: W)).2.tail) = _
    rw [show joinCl 0 (t :: T) (opn :: W) = (t :: T, opn :: W) from rfl]
    rfl
theorem Br.read {t : Trm} {p : List Tx} (h : Br t 0 p) : joinCl 0 (p.foldl stepM ([], [])).1 (p.foldl stepM ([], [])).2 = ([t], []) := by
  obtain ⟨ts, ws, e, k⟩ := h.stacks (Nat.zero_le _) (T := []) (W := []) (.inr fun x X e => nomatch e)
  rw [e]
  exact k [] [] 0 (Nat.le_refl _)
end TT
/-! Any text, scanned: plain. -/
namespace TT
theorem tw_in {p : Nat → Bool} : ∀ {l : List Nat} {c : Nat}, c ∈ l.takeWhile p → p c = true
  | [], c, h => by cases h
  | a :: l, c, h => by
    rw [List.takeWhile_cons] at h
    split at h
    · rename_i e
      rcases List.mem_cons.mp h with rfl | h
      · exact e
      · exact tw_in h
    · cases h
def isPre (c : Nat) : Bool := c == 126 || c == 40
def isLF (c : Nat) : Bool := isLet c || isFig c
def pre (r : Tx) : Tx := r.takeWhile isPre
def aft (r : Tx) : Tx := r.dropWhile isPre
/-- length of the name at the head -/
def nmN (r : Tx) : Nat := 1 + (((r.drop 1).take 2).takeWhile isLF).length
/-- the operand's own piece: its length; or where the text breaks -/
def leafN : Tx → Nat ⊕ Nat
  | [] => .inl 0
  | c :: s => if c = 43 ∨ c = 45 then (match s with
      | f :: _ => if isFig f = true ∧ ¬ (c = 45 ∧ f = 48) then .inr 2 else .inl 1
      | [] => .inl 1)
    else if isLet c = true then .inr (nmN (c :: s)) else .inl 0
/-- how far two texts agree -/
def lcp : Tx → Tx → Nat
  | a :: x, b :: y => if a = b then lcp x y + 1 else 0
  | _, _ => 0
theorem lcp_nil (x : Tx) : lcp x [] = 0 := by
  cases x <;> rfl
theorem lcp_app : ∀ (s r : Tx), lcp (s ++ r) s = s.length
  | [], r => by rw [lcp_nil]; rfl
  | c :: s, r => by
    show (if c = c then _ else _) = _
    rw [if_pos rfl]
    show lcp (s ++ r) s + 1 = _
    rw [lcp_app s r]
    rfl
theorem lcp_le : ∀ (x y : Tx), lcp x y ≤ y.length
  | [], y => Nat.zero_le _
  | _ :: _, [] => Nat.zero_le _
  | a :: x, b :: y => by
    show (if a = b then lcp x y + 1 else 0) ≤ _
    split
    · exact Nat.succ_le_succ (lcp_le x y)
    · exact Nat.zero_le _
theorem lcp_le' : ∀ (x y : Tx), lcp x y ≤ x.length
  | [], y => Nat.zero_le _
  | _ :: _, [] => Nat.zero_le _
  | a :: x, b :: y => by
    show (if a = b then lcp x y + 1 else 0) ≤ _
    split
    · exact Nat.succ_le_succ (lcp_le' x y)
    · exact Nat.zero_le _
/-- all of it agrees -/
theorem lcp_full : ∀ {x y : Tx}, lcp x y = y.length → ∃ r, x = y ++ r
  | x, [], _ => ⟨x, rfl⟩
  | [], b :: y, h => absurd h (by show ¬ 0 = y.length + 1; omega)
  | a :: x, b :: y, h => by
    have h : (if a = b then lcp x y + 1 else 0) = y.length + 1 := h
    split at h
    · rename_i e
      obtain ⟨r, hr⟩ := lcp_full (x := x) (y := y) (by omega)
      exact ⟨r, by rw [e, hr]; rfl⟩
    · omega
def jns (st : List Bool) (hv : Bool) : List Tx := [sg 4, sg 1, sg 0] ++ (if st.head? = some false then [sg 2, sg 3] else []) ++ (if hv = false ∧ st.length = 1 then [blw] else [])
theorem bin_in {p : Tx} (h : isBin p = true) : p = blw ∨ p = sg 0 ∨ p = sg 1 ∨ p = sg 2 ∨ p = sg 3 ∨ p = sg 4 := by
  unfold isBin at h
  simpa only [Bool.or_eq_true, beq_iff_eq] using h
theorem jns_in {st : List Bool} {hv : Bool} {p : Tx} (h : p ∈ jns st hv) : isBin p = true ∧ (isRes p = true → st.head? = some false) ∧ (p = blw → hv = false ∧ st.length = 1) := by
  unfold jns at h
  rcases List.mem_append.mp h with h | h
  · rcases List.mem_append.mp h with h | h
    · simp only [List.mem_cons, List.not_mem_nil, or_false] at h
      rcases h with rfl | rfl | rfl <;> exact ⟨by decide, fun z => absurd z (by decide), fun z => absurd z (by decide)⟩
    · split at h
      · rename_i e
        simp only [List.mem_cons, List.not_mem_nil, or_false] at h
        rcases h with rfl | rfl <;> exact ⟨by decide, fun _ => e, fun z => absurd z (by decide)⟩
      · cases h
  · split at h
    · rename_i e
      rw [List.mem_singleton.mp h]
      exact ⟨by decide, fun z => absurd z (by decide), fun _ => e⟩
    · cases h
theorem in_jns {st : List Bool} {hv : Bool} {p : Tx} (hb : isBin p = true) (h1 : isRes p = true → st.head? = some false) (h2 : p = blw → hv = false ∧ st.length = 1) : p ∈ jns st hv := by
  unfold jns
  rcases bin_in hb with rfl | rfl | rfl | rfl | rfl | rfl
  · rw [if_pos (h2 rfl)]
    exact List.mem_append_right _ (List.mem_singleton.mpr rfl)
  · exact List.mem_append_left _ (List.mem_append_left _ (by simp))
  · exact List.mem_append_left _ (List.mem_append_left _ (by simp))
  · rw [if_pos (h1 (by decide))]
    exact List.mem_append_left _ (List.mem_append_right _ (by simp))
  · rw [if_pos (h1 (by decide))]
    exact List.mem_append_left _ (List.mem_append_right _ (by simp))
  · exact List.mem_append_left _ (List.mem_append_left _ (by simp))
/-- the first letters tell the joints apart -/
def hd1 (p : Tx) : Nat := p.headD 0
theorem hd_inj {p j : Tx} (hp : isBin p = true) (hj : isBin j = true) (h : hd1 p = hd1 j) : p = j := by
  rcases bin_in hp with rfl | rfl | rfl | rfl | rfl | rfl <;> rcases bin_in hj with rfl | rfl | rfl | rfl | rfl | rfl <;> first | rfl | exact absurd h (by decide)
theorem lcp_hd {p s : Tx} {c : Nat} (hp : isBin p = true) (h : c ≠ hd1 p) : lcp (c :: s) (p ++ [32]) = 0 := by
  rcases bin_in hp with rfl | rfl | rfl | rfl | rfl | rfl <;> exact if_neg h
/-- the joint that stands there; or where the text breaks -/
def jntS (js : List Tx) (s : Tx) : Nat ⊕ Tx := match js.find? fun j => decide (j.length < lcp s (j ++ [32])) with
  | some j => .inr j
  | none => .inl (1 + js.foldl (fun m j => max m (lcp s (j ++ [32]))) 0)
def jntN (js : List Tx) : Tx → Nat ⊕ Tx
  | [] => .inl 0
  | c :: s => if c = 32 then jntS js s else .inl 0
theorem jntN_32 {js : List Tx} {s : Tx} : jntN js (32 :: s) = jntS js s := by
  show (if (32 : Nat) = 32 then jntS js s else .inl 0) = _
  exact if_pos rfl
theorem jntS_none {js : List Tx} {s : Tx} (h : ∀ v ∈ js, ¬ v.length < lcp s (v ++ [32])) : jntS js s = .inl (1 + js.foldl (fun m j => max m (lcp s (j ++ [32]))) 0) := by
  have hn : js.find? (fun j => decide (j.length < lcp s (j ++ [32]))) = none := by
    rw [List.find?_eq_none]
    intro v hv
    exact fun z => h v hv (of_decide_eq_true z)
  unfold jntS
  rw [hn]
theorem jntS_some {js : List Tx} {s u : Tx} (h : js.find? (fun j => decide (j.length < lcp s (j ++ [32]))) = some u) : jntS js s = .inr u := by
  unfold jntS
  rw [h]
/-- e: an operand is due. The pieces; or where the text breaks -/
def scanG : Nat → Bool → Tx → Nat → List Tx → List Bool → Bool → Nat ⊕ List Tx
  | 0, _, _, i, _, _, _ => .inl i
  | n + 1, true, r, i, ps, st, hv => match leafN (aft r) with
    | .inl k => .inl (i + (pre r).length + k)
    | .inr m => scanG n false ((aft r).drop m) (i + (pre r).length + m) (ps ++ (pre r).map (fun c => [c]) ++ [(aft r).take m]) (List.replicate ((pre r).count 40) false ++ st) hv
  | _ + 1, false, [], i, ps, st, hv => if 1 < st.length ∨ hv = false then .inl i else .inr ps
  | n + 1, false, c :: r, i, ps, st, hv => if c = 41 ∧ 1 < st.length then scanG n false r (i + 1) (ps ++ [cls]) st.tail hv else
    match jntN (jns st hv) (c :: r) with
    | .inl k => .inl (i + k)
    | .inr j => scanG n true (r.drop (j.length + 1)) (i + j.length + 2) (ps ++ [j]) (flagB j (st.headD false) :: st.tail) (hv || j == blw)
theorem pre_aft (r : Tx) : r = pre r ++ aft r := (List.takeWhile_append_dropWhile).symm
theorem aft_eq : ∀ (r : Tx), aft r = r.drop (pre r).length
  | [] => rfl
  | c :: r => by
    unfold aft pre
    rw [List.dropWhile_cons, List.takeWhile_cons]
    split
    · exact aft_eq r
    · rfl
theorem pre_in {r : Tx} {c : Nat} (h : c ∈ pre r) : c = 126 ∨ c = 40 := by
  have : isPre c = true := tw_in h
  unfold isPre at this
  simpa using this
theorem aft_hd {r : Tx} {c : Nat} {s : Tx} (h : aft r = c :: s) : c ≠ 126 ∧ c ≠ 40 := by
  have : isPre c ≠ true := by
    unfold aft at h
    have := List.head_dropWhile_not isPre (l := r) (by rw [h]; exact List.cons_ne_nil _ _)
    simp only [h, List.head_cons] at this
    rw [this]
    decide
  unfold isPre at this
  constructor
  · intro e
    exact this (by rw [e]; rfl)
  · intro e
    exact this (by rw [e]; rfl)
/-- an operand's own piece is a leaf -/
theorem leafN_ok {r : Tx} {m : Nat} (h : leafN r = .inr m) : Leaf (r.take m) ∧ 1 ≤ m ∧ m ≤ r.length ∧ (r.take m).length = m := by
  cases r with
  | nil => cases h
  | cons c s =>
    have h : (if c = 43 ∨ c = 45 then _ else _) = _ := h
    by_cases hc : c = 43 ∨ c = 45
    · rw [if_pos hc] at h
      cases s with
      | nil => cases h
      | cons f s =>
        have h : (if isFig f = true ∧ ¬ (c = 45 ∧ f = 48) then Sum.inr 2 else Sum.inl 1) = (Sum.inr m : Nat ⊕ Nat) := h
        by_cases hf : isFig f = true ∧ ¬ (c = 45 ∧ f = 48)
        · rw [if_pos hf] at h
          cases h
          refine ⟨.inr ?_, by decide, by show 2 ≤ s.length + 1 + 1; omega, rfl⟩
          obtain ⟨h1, h2⟩ := hf
          have hf : 48 ≤ f ∧ f ≤ 57 := by
            unfold isFig at h1
            simpa using h1
          rcases hc with rfl | rfl
          · refine ⟨(f : Int) - 48, ⟨by omega, by omega⟩, ?_⟩
            show [43, f] = [if (f : Int) - 48 < 0 then 45 else 43, 48 + ((f : Int) - 48).natAbs]
            rw [if_neg (by omega), show 48 + ((f : Int) - 48).natAbs = f by omega]
          · have : f ≠ 48 := fun e => h2 ⟨rfl, e⟩
            refine ⟨48 - (f : Int), ⟨by omega, by omega⟩, ?_⟩
            show [45, f] = [if 48 - (f : Int) < 0 then 45 else 43, 48 + (48 - (f : Int)).natAbs]
            rw [if_pos (by omega), show 48 + (48 - (f : Int)).natAbs = f by omega]
        · rw [if_neg hf] at h
          cases h
    · rw [if_neg hc] at h
      by_cases hl : isLet c = true
      · rw [if_pos hl] at h
        obtain rfl : nmN (c :: s) = m := Sum.inr.inj h
        have e : (s.take 2).takeWhile isLF = s.take ((s.take 2).takeWhile isLF).length := by
          have p : (s.take 2).takeWhile isLF <+: s := (List.takeWhile_prefix _).trans (List.take_prefix 2 s)
          exact List.prefix_iff_eq_take.mp p
        have l2 : ((s.take 2).takeWhile isLF).length ≤ 2 := Nat.le_trans (List.takeWhile_prefix _).length_le (by rw [List.length_take]; omega)
        have ls : ((s.take 2).takeWhile isLF).length ≤ s.length := Nat.le_trans (List.takeWhile_prefix _).length_le (by rw [List.length_take]; omega)
        have en : nmN (c :: s) = ((s.take 2).takeWhile isLF).length + 1 := Nat.add_comm _ _
        have et : (c :: s).take (nmN (c :: s)) = c :: (s.take 2).takeWhile isLF := by
          rw [en]
          show c :: s.take _ = _
          rw [← e]
        refine ⟨.inl ⟨c, (s.take 2).takeWhile isLF, et, hl, l2, fun d hd => ?_⟩, by omega, by rw [en, List.length_cons]; omega, by rw [et, en, List.length_cons]⟩
        have := tw_in hd
        unfold isLF at this
        simpa using this
      · rw [if_neg hl] at h
        cases h
/-- a joint that stands there -/
theorem jntN_ok {st : List Bool} {hv : Bool} {c : Nat} {s j : Tx} (h : jntN (jns st hv) (c :: s) = .inr j) : c = 32 ∧ j ∈ jns st hv ∧ ∃ r, s = j ++ 32 :: r := by
  have h : (if c = 32 then _ else _) = _ := h
  by_cases hc : c = 32
  · rw [if_pos hc] at h
    refine ⟨hc, ?_⟩
    unfold jntS at h
    split at h
    · rename_i j' e
      obtain rfl : j' = j := Sum.inr.inj h
      refine ⟨List.mem_of_find?_eq_some e, ?_⟩
      have e : j'.length < lcp s (j' ++ [32]) := of_decide_eq_true (List.find?_some (p := fun j => decide (List.length j < lcp s (j ++ [32]))) e)
      have l := lcp_le s (j' ++ [32])
      obtain ⟨r, hr⟩ := lcp_full (x := s) (y := j' ++ [32]) (by rw [List.length_append] at l ⊢; show _ = j'.length + 1; have l : _ ≤ j'.length + 1 := l; omega)
      exact ⟨r, by rw [hr, List.append_assoc]; rfl⟩
    · cases h
  · rw [if_neg hc] at h
    cases h
theorem scan_pre {hv : Bool} {r : List Tx} : ∀ {q : Tx} {st : List Bool}, (∀ c ∈ q, c = 126 ∨ c = 40) → scanOk true hv (List.replicate (q.count 40) false ++ st) r → scanOk true hv st (q.map (fun c => [c]) ++ r)
  | [], st, _, h => h
  | c :: q, st, hq, h => by
    rcases hq c (List.mem_cons_self ..) with rfl | rfl
    · refine .inl ⟨rfl, scan_pre (fun d hd => hq d (List.mem_cons_of_mem _ hd)) ?_⟩
      rwa [List.count_cons_of_ne (by decide)] at h
    · refine .inr (.inl ⟨rfl, scan_pre (fun d hd => hq d (List.mem_cons_of_mem _ hd)) ?_⟩)
      rw [List.count_cons_self, List.replicate_succ'] at h
      rwa [List.append_assoc] at h
theorem jnt_len {j : Tx} (h : isBin j = true) : 1 ≤ j.length ∧ j.length ≤ 5 := by
  rcases bin_in h with rfl | rfl | rfl | rfl | rfl | rfl <;> decide
/-- what was scanned keeps the grammar -/
theorem scanG_ok : ∀ {n : Nat} {e : Bool} {r : Tx} {i : Nat} {ps : List Tx} {st : List Bool} {hv : Bool} {all : List Tx}, st ≠ [] → scanG n e r i ps st hv = .inr all → ∃ q, all = ps ++ q ∧ scanOk e hv st q
  | 0, e, r, i, ps, st, hv, all, _, h => by cases h
  | n + 1, true, r, i, ps, st, hv, all, hs, h => by
    have h : (match leafN (aft r) with
      | .inl k => (Sum.inl (i + (pre r).length + k) : Nat ⊕ List Tx)
      | .inr m => scanG n false ((aft r).drop m) (i + (pre r).length + m) (ps ++ (pre r).map (fun c => [c]) ++ [(aft r).take m]) (List.replicate ((pre r).count 40) false ++ st) hv) = .inr all := h
    cases hm : leafN (aft r) with
    | inl k =>
      rw [hm] at h
      cases h
    | inr m =>
      rw [hm] at h
      obtain ⟨q, e, hq⟩ := scanG_ok (by simp [hs]) h
      refine ⟨(pre r).map (fun c => [c]) ++ (aft r).take m :: q, ?_, ?_⟩
      · rw [e, List.append_assoc, List.append_assoc]
        rfl
      · exact scan_pre (fun c hc => pre_in hc) (.inr (.inr ⟨(leafN_ok hm).1, hq⟩))
  | n + 1, false, [], i, ps, st, hv, all, hs, h => by
    have h : (if 1 < st.length ∨ hv = false then Sum.inl i else Sum.inr ps) = (Sum.inr all : Nat ⊕ List Tx) := h
    split at h
    · cases h
    · rename_i c
      obtain rfl : ps = all := Sum.inr.inj h
      refine ⟨[], (List.append_nil _).symm, rfl, ?_, ?_⟩
      · cases hv with
        | true => rfl
        | false => exact absurd (.inr rfl) c
      · have : st.length ≠ 0 := fun z => hs (List.eq_nil_of_length_eq_zero z)
        have : ¬ 1 < st.length := fun z => c (.inl z)
        omega
  | n + 1, false, c :: r, i, ps, st, hv, all, hs, h => by
    have h : (if c = 41 ∧ 1 < st.length then scanG n false r (i + 1) (ps ++ [cls]) st.tail hv else
      match jntN (jns st hv) (c :: r) with
      | .inl k => (Sum.inl (i + k) : Nat ⊕ List Tx)
      | .inr j => scanG n true (r.drop (j.length + 1)) (i + j.length + 2) (ps ++ [j]) (flagB j (st.headD false) :: st.tail) (hv || j == blw)) = .inr all := h
    obtain ⟨f, tl, rfl⟩ : ∃ f tl, st = f :: tl := by
      cases st with
      | nil => exact absurd rfl hs
      | cons a b => exact ⟨a, b, rfl⟩
    by_cases hc : c = 41 ∧ 1 < (f :: tl).length
    · rw [if_pos hc] at h
      obtain ⟨q, e, hq⟩ := scanG_ok (by
        intro z
        have := hc.2
        rw [List.length_cons, show tl = [] from z] at this
        exact absurd this (by decide)) h
      refine ⟨cls :: q, by rw [e, List.append_assoc]; rfl, .inl ⟨rfl, hc.2, hq⟩⟩
    · rw [if_neg hc] at h
      cases hj : jntN (jns (f :: tl) hv) (c :: r) with
      | inl k =>
        rw [hj] at h
        cases h
      | inr j =>
        rw [hj] at h
        obtain ⟨_, hj2, _⟩ := jntN_ok hj
        obtain ⟨j1, j2, j3⟩ := jns_in hj2
        obtain ⟨q, e, hq⟩ := scanG_ok (List.cons_ne_nil _ _) h
        exact ⟨j :: q, by rw [e, List.append_assoc]; rfl, .inr ⟨j1, j2, j3, f, tl, rfl, hq⟩⟩
/-- no more pieces than letters -/
theorem scanG_len : ∀ {n : Nat} {e : Bool} {r : Tx} {i : Nat} {ps : List Tx} {st : List Bool} {hv : Bool} {all : List Tx}, scanG n e r i ps st hv = .inr all → all.length ≤ ps.length + r.length
  | 0, e, r, i, ps, st, hv, all, h => by cases h
  | n + 1, true, r, i, ps, st, hv, all, h => by
    have h : (match leafN (aft r) with
      | .inl k => (Sum.inl (i + (pre r).length + k) : Nat ⊕ List Tx)
      | .inr m => scanG n false ((aft r).drop m) (i + (pre r).length + m) (ps ++ (pre r).map (fun c => [c]) ++ [(aft r).take m]) (List.replicate ((pre r).count 40) false ++ st) hv) = .inr all := h
    cases hm : leafN (aft r) with
    | inl k =>
      rw [hm] at h
      cases h
    | inr m =>
      rw [hm] at h
      have l := scanG_len h
      obtain ⟨_, m1, m2, _⟩ := leafN_ok hm
      have e := congrArg List.length (pre_aft r)
      rw [List.length_append] at e
      rw [List.length_append, List.length_append, List.length_map, List.length_singleton, List.length_drop] at l
      omega
  | n + 1, false, [], i, ps, st, hv, all, h => by
    have h : (if 1 < st.length ∨ hv = false then Sum.inl i else Sum.inr ps) = (Sum.inr all : Nat ⊕ List Tx) := h
    split at h
    · cases h
    · obtain rfl : ps = all := Sum.inr.inj h
      exact Nat.le_add_right _ _
  | n + 1, false, c :: r, i, ps, st, hv, all, h => by
    have h : (if c = 41 ∧ 1 < st.length then scanG n false r (i + 1) (ps ++ [cls]) st.tail hv else
      match jntN (jns st hv) (c :: r) with
      | .inl k => (Sum.inl (i + k) : Nat ⊕ List Tx)
      | .inr j => scanG n true (r.drop (j.length + 1)) (i + j.length + 2) (ps ++ [j]) (flagB j (st.headD false) :: st.tail) (hv || j == blw)) = .inr all := h
    rw [List.length_cons]
    by_cases hc : c = 41 ∧ 1 < st.length
    · rw [if_pos hc] at h
      have l := scanG_len h
      rw [List.length_append, List.length_singleton] at l
      omega
    · rw [if_neg hc] at h
      cases hj : jntN (jns st hv) (c :: r) with
      | inl k =>
        rw [hj] at h
        cases h
      | inr j =>
        rw [hj] at h
        have l := scanG_len h
        rw [List.length_append, List.length_singleton, List.length_drop] at l
        omega
/-- a saying's pieces -/
theorem scan_split : ∀ {ps : List Tx} {e : Bool} {st : List Bool}, scanOk e false st ps → ∃ a b, ps = a ++ blw :: b ∧ scanOk e true st a ∧ scanOk true true [false] b ∧ ¬ blw ∈ a
  | [], e, st, h => by
    have h : e = false ∧ false = true ∧ st.length = 1 := by
      cases e <;> exact h
    exact absurd h.2.1 (by decide)
  | p :: ps, true, st, h => by
    rcases h with ⟨rfl, h⟩ | ⟨rfl, h⟩ | ⟨hl, h⟩
    · obtain ⟨a, b, rfl, ha, hb, hn⟩ := scan_split h
      exact ⟨tilde :: a, b, rfl, .inl ⟨rfl, ha⟩, hb, fun z => (List.mem_cons.mp z).elim (fun z => absurd z (by decide)) hn⟩
    · obtain ⟨a, b, rfl, ha, hb, hn⟩ := scan_split h
      exact ⟨opn :: a, b, rfl, .inr (.inl ⟨rfl, ha⟩), hb, fun z => (List.mem_cons.mp z).elim (fun z => absurd z (by decide)) hn⟩
    · obtain ⟨a, b, rfl, ha, hb, hn⟩ := scan_split h
      refine ⟨p :: a, b, rfl, .inr (.inr ⟨hl, ha⟩), hb, fun z => (List.mem_cons.mp z).elim (fun z => ?_) hn⟩
      have : isBin p = false := by
        rcases hl with hn | ⟨k, _, rfl⟩
        · exact (nm_not hn).1
        · exact shT_not.1
      rw [← z] at this
      exact absurd this (by decide)
  | p :: ps, false, st, h => by
    rcases h with ⟨rfl, h1, h⟩ | ⟨hb, h1, h2, f, tl, rfl, h⟩
    · obtain ⟨a, b, rfl, ha, hb, hn⟩ := scan_split h
      exact ⟨cls :: a, b, rfl, .inl ⟨rfl, h1, ha⟩, hb, fun z => (List.mem_cons.mp z).elim (fun z => absurd z (by decide)) hn⟩
    · by_cases hp : p = blw
      · subst hp
        obtain ⟨_, h3⟩ := h2 rfl
        obtain rfl : tl = [] := List.eq_nil_of_length_eq_zero (by rw [List.length_cons] at h3; omega)
        exact ⟨[], ps, rfl, ⟨rfl, rfl, rfl⟩, h, fun z => nomatch z⟩
      · have hq : (p == blw) = false := beq_eq_false_iff_ne.mpr hp
        rw [hq] at h
        obtain ⟨a, b, rfl, ha, hb', hn⟩ := scan_split h
        exact ⟨p :: a, b, rfl, .inr ⟨hb, h1, fun z => absurd z hp, f, tl, rfl, by rw [Bool.true_or]; exact ha⟩, hb', fun z => (List.mem_cons.mp z).elim (fun z => hp z.symm) hn⟩
/-- the term that pieces tell -/
def rdT (ps : List Tx) : Trm := (joinCl 0 (ps.foldl stepM ([], [])).1 (ps.foldl stepM ([], [])).2).1.headD (.nm [])
def fstB (ps : List Tx) : List Tx := ps.takeWhile fun p => !(p == blw)
def sndB (ps : List Tx) : List Tx := (ps.dropWhile fun p => !(p == blw)).drop 1
theorem split_eq : ∀ {a b : List Tx}, ¬ blw ∈ a → fstB (a ++ blw :: b) = a ∧ sndB (a ++ blw :: b) = b
  | [], b, _ => by
    constructor
    · show (blw :: b).takeWhile _ = []
      rw [List.takeWhile_cons]
      rfl
    · show ((blw :: b).dropWhile _).drop 1 = b
      rw [List.dropWhile_cons]
      rfl
  | p :: a, b, h => by
    have hp : (p == blw) = false := beq_eq_false_iff_ne.mpr fun e => h (by rw [e]; exact List.mem_cons_self ..)
    obtain ⟨h1, h2⟩ := split_eq (a := a) (b := b) fun z => h (List.mem_cons_of_mem _ z)
    unfold fstB sndB at *
    rw [List.cons_append, List.takeWhile_cons, List.dropWhile_cons, hp]
    exact ⟨congrArg _ h1, h2⟩
end TT
set_option Elab.async false
set_option linter.all false
set_option maxHeartbeats 4000000
namespace NT
variable {h l : List Int} {r : Int}
theorem climbs_lo : ∀ {l : List Int} {lo : Int} {i : Nat}, climbs lo l → i < l.length → lo ≤ l.getD i 0
  | [], _, _, _, h => by simp at h
  | x :: l, lo, 0, c, _ => c.1
  | x :: l, lo, i + 1, c, h => by
    have := climbs_lo (i := i) c.2 (by simpa using h)
    have := c.1
    show lo ≤ l.getD i 0
    omega
theorem climbs_up : ∀ {l : List Int} {lo : Int} {i : Nat}, climbs lo l → i + 1 < l.length → l.getD i 0 ≤ l.getD (i + 1) 0
  | [], _, _, _, h => by simp at h
  | x :: l, lo, 0, c, h => climbs_lo (i := 0) c.2 (by simpa using h)
  | x :: l, lo, i + 1, c, h => climbs_up (i := i) c.2 (by simpa using h)
theorem climbs_of : ∀ {l : List Int} {lo : Int}, (∀ i, i < l.length → lo ≤ l.getD i 0) → (∀ i, i + 1 < l.length → l.getD i 0 ≤ l.getD (i + 1) 0) → climbs lo l
  | [], _, _, _ => trivial
  | x :: l, lo, h1, h2 => by
    refine ⟨h1 0 (by simp), climbs_of (fun i hi => ?_) fun i hi => h2 (i + 1) (by simpa using hi)⟩
    induction i with
    | zero => exact h2 0 (by simpa using hi)
    | succ i ih => exact Int.le_trans (ih (by omega)) (h2 (i + 1) (by simpa using hi))
/-- the value at n as a number -/
def num (h l : List Int) (r : Int) (n : Nat) : Int := (at_ h l r n).getD 0
theorem walk_up (g : Good h l r) (hl : l ≠ []) (k : Nat) : walk l r k ≤ walk l r (k + 1) := by
  have hp := len_pos hl
  have e : k = k % l.length + l.length * (k / l.length) := (Nat.mod_add_div k _).symm
  have hi : k % l.length < l.length := Nat.mod_lt _ hp
  generalize k % l.length = a at e hi
  generalize k / l.length = b at e
  subst e
  rw [walk_add_mul hp, show a + l.length * b + 1 = (a + 1) + l.length * b by omega, walk_add_mul hp, walk_lt hi]
  by_cases c : a + 1 < l.length
  · rw [walk_lt c]
    have := climbs_up g.lp c
    omega
  · have : a + 1 = 0 + l.length := by omega
    rw [this, walk_add hp, walk_lt hp]
    have := g.last hl
    have e : l.length - 1 = a := by omega
    rw [e] at this
    omega
theorem at_some (n : Nat) (hn : n ≤ h.length ∨ l ≠ []) : at_ h l r n = some (num h l r n) := by
  unfold num at_
  by_cases c : n ≤ h.length
  · rw [if_pos c]; rfl
  · rw [if_neg c, if_neg (hn.resolve_left c)]; rfl
theorem num_up (g : Good h l r) (n : Nat) (hn : 1 ≤ n) (hs : n + 1 ≤ h.length ∨ l ≠ []) : num h l r n ≤ num h l r (n + 1) := by
  unfold num at_
  by_cases c : n + 1 ≤ h.length
  · rw [if_pos c, if_pos (by omega)]
    show h.getD (n - 1) 0 ≤ h.getD (n + 1 - 1) 0
    have := climbs_up (i := n - 1) g.hd (by omega)
    rw [show n - 1 + 1 = n + 1 - 1 by omega] at this
    exact this
  · have hl := hs.resolve_left c
    have e1 : (if n + 1 ≤ h.length then some (h.getD (n + 1 - 1) 0) else if l = [] then none else some (walk l r (n + 1 - h.length - 1))).getD 0 = walk l r (n + 1 - h.length - 1) := by rw [if_neg c, if_neg hl]; rfl
    rw [e1]
    by_cases c2 : n ≤ h.length
    · rw [if_pos c2]
      have e : n = h.length := by omega
      subst e
      show h.getD (h.length - 1) 0 ≤ walk l r (h.length + 1 - h.length - 1)
      rw [show h.length + 1 - h.length - 1 = 0 by omega, walk_lt (len_pos hl)]
      exact g.join (fun z => by rw [z] at hn; simp at hn) hl
    · rw [if_neg c2, if_neg hl]
      show walk l r (n - h.length - 1) ≤ walk l r (n + 1 - h.length - 1)
      rw [show n + 1 - h.length - 1 = (n - h.length - 1) + 1 by omega]
      exact walk_up g hl _
theorem walk_ge (g : Good h l r) (hl : l ≠ []) (k : Nat) : 0 ≤ walk l r k := by
  induction k with
  | zero =>
    rw [walk_lt (len_pos hl)]
    exact climbs_lo g.lp (len_pos hl)
  | succ k ih => exact Int.le_trans ih (walk_up g hl k)
theorem num_ge (g : Good h l r) (n : Nat) (hn : 1 ≤ n) : 0 ≤ num h l r n := by
  unfold num at_
  by_cases c : n ≤ h.length
  · rw [if_pos c]
    exact climbs_lo (i := n - 1) g.hd (by omega)
  · rw [if_neg c]
    by_cases hl : l = []
    · rw [if_pos hl]; exact Int.le_refl _
    · rw [if_neg hl]; exact walk_ge g hl _
theorem walk_mono (g : Good h l r) (hl : l ≠ []) (k d : Nat) : walk l r k ≤ walk l r (k + d) := by
  induction d with
  | zero => exact Int.le_refl _
  | succ d ih => exact Int.le_trans ih (walk_up g hl (k + d))
/-- the plain form is made of counts -/
theorem plain_counts (g : Good h l r) {x : List Int × List Int × Int} (hx : IsPlain h l r x) : (∀ i, i ∈ x.1 ++ x.2.1 → 0 ≤ i) ∧ 0 ≤ x.2.2 := by
  have hz := plain_size hx
  refine ⟨fun i hi => ?_, (hz.2.2.2.2.1 g.r0).1⟩
  have all : ∀ n, 1 ≤ n → ∀ v, at_ x.1 x.2.1 x.2.2 n = some v → 0 ≤ v := by
    rcases hx with ⟨rfl, rfl⟩ | ⟨_, _, _, _, e⟩
    · intro n hn v hv
      unfold at_ at hv
      by_cases c : n ≤ h.length
      · rw [if_pos c] at hv
        injection hv with hv
        rw [← hv]
        exact climbs_lo (l := h) (i := n - 1) g.hd (by omega)
      · rw [if_neg c, if_pos rfl] at hv
        cases hv
    · intro n hn v hv
      rw [e n hn] at hv
      have := num_ge g n hn
      unfold num at this
      rw [hv] at this
      exact this
  rcases List.mem_append.mp hi with h1 | h1
  · obtain ⟨k, hk, rfl⟩ := List.getElem_of_mem h1
    refine all (k + 1) (by omega) _ ?_
    unfold at_
    rw [if_pos (by omega), Nat.add_sub_cancel, List.getD_eq_getElem?_getD, List.getElem?_eq_getElem hk]
    rfl
  · obtain ⟨k, hk, rfl⟩ := List.getElem_of_mem h1
    have hne : x.2.1 ≠ [] := fun z => by rw [z] at hk; simp at hk
    refine all (x.1.length + k + 1) (by omega) _ ?_
    rw [at_loop hne (by omega), show x.1.length + k + 1 - x.1.length - 1 = k by omega, walk_lt hk, List.getD_eq_getElem?_getD, List.getElem?_eq_getElem hk]
    rfl
/-! ### the same table with more values in the head and a longer loop -/
def tell (h l : List Int) (r : Int) (n : Nat) : List Int := (List.range n).map fun k => num h l r (k + 1)
theorem tell_len (n : Nat) : (tell h l r n).length = n := by unfold tell; rw [List.length_map, List.length_range]
theorem tell_get {n k : Nat} (hk : k < n) : (tell h l r n).getD k 0 = num h l r (k + 1) := by
  unfold tell
  rw [List.getD_eq_getElem?_getD, List.getElem?_map, List.getElem?_range hk]
  rfl
theorem getD_take' {l : List Int} {m i : Nat} (h : i < m) : (l.take m).getD i 0 = l.getD i 0 := getD_take h
theorem tell_good (g : Good h l r) {more t : Nat} (hm : l = [] → more = 0) (ht : 0 < t) :
    Good ((tell h l r (h.length + more + l.length * t)).take (h.length + more)) ((tell h l r (h.length + more + l.length * t)).drop (h.length + more)) (r * (t : Int)) := by
  generalize hN : h.length + more + l.length * t = N
  generalize hc : h.length + more = c
  have some_ : ∀ n, n ≤ N → n ≤ h.length ∨ l ≠ [] := fun n hn => by
    by_cases hl : l = []
    · left
      have := hm hl
      have : l.length = 0 := by rw [hl]; rfl
      rw [this, Nat.zero_mul] at hN
      omega
    · exact .inr hl
  have cle : c ≤ N := by omega
  have hlt : ((tell h l r N).take c).length = c := by rw [List.length_take, tell_len]; omega
  have hld : ((tell h l r N).drop c).length = N - c := by rw [List.length_drop, tell_len]
  refine ⟨climbs_of (fun i hi => ?_) (fun i hi => ?_), climbs_of (fun i hi => ?_) (fun i hi => ?_), fun h1 h2 => ?_, ?_, fun hl => ?_, fun hl => ?_⟩
  · rw [hlt] at hi
    rw [getD_take hi, tell_get (by omega)]
    exact num_ge g _ (by omega)
  · rw [hlt] at hi
    rw [getD_take (by omega), getD_take hi, tell_get (by omega), tell_get (by omega)]
    exact num_up g _ (by omega) (some_ _ (by omega))
  · rw [hld] at hi
    rw [getD_drop, tell_get (by omega)]
    exact num_ge g _ (by omega)
  · rw [hld] at hi
    rw [getD_drop, getD_drop, tell_get (by omega), tell_get (by omega)]
    have := num_up g (c + i + 1) (by omega) (some_ _ (by omega))
    exact this
  · have c0 : 0 < c := by
      rcases Nat.eq_zero_or_pos c with z | z
      · rw [z] at h1; exact absurd rfl h1
      · exact z
    have d0 : 0 < N - c := by rw [← hld]; exact len_pos h2
    rw [hlt, getD_take (by omega), getD_drop, tell_get (by omega), tell_get (by omega)]
    have := num_up g c (by omega) (some_ _ (by omega))
    rw [show c - 1 + 1 = c by omega, show c + 0 + 1 = c + 1 by omega]
    exact this
  · exact Int.mul_nonneg g.r0 (by omega)
  · have z : N - c = 0 := by rw [← hld, hl]; rfl
    have z2 : l.length * t = 0 := by omega
    have z3 : l.length = 0 := by
      rcases Nat.mul_eq_zero.mp z2 with q | q
      · exact q
      · omega
    rw [g.rl (List.eq_nil_of_length_eq_zero z3), Int.zero_mul]
  · have d0 : 0 < N - c := by rw [← hld]; exact len_pos hl
    have hl2 : l ≠ [] := fun z => by
      have : l.length = 0 := by rw [z]; rfl
      rw [this, Nat.zero_mul] at hN
      omega
    rw [hld, getD_drop, getD_drop, tell_get (by omega), tell_get (by omega)]
    have w : ∀ j, num h l r (c + j + 1) = walk l r (more + j) := fun j => by
      unfold num
      rw [at_loop hl2 (by omega), show c + j + 1 - h.length - 1 = more + j by omega]
      rfl
    rw [w (N - c - 1), w 0, ← walk_add_mul (len_pos hl2)]
    have e : more + 0 + l.length * t = (more + (N - c - 1)) + 1 := by omega
    rw [e]
    exact walk_mono g hl2 _ 1
theorem tell_at {more t : Nat} (hm : l = [] → more = 0) (ht : 0 < t) (n : Nat) (hn : 1 ≤ n) :
    at_ ((tell h l r (h.length + more + l.length * t)).take (h.length + more)) ((tell h l r (h.length + more + l.length * t)).drop (h.length + more)) (r * (t : Int)) n = at_ h l r n := by
  by_cases hl : l = []
  · subst hl
    have hm := hm rfl
    subst hm
    have e : h.length + 0 + ([] : List Int).length * t = h.length := by simp
    rw [e, Nat.add_zero]
    unfold at_
    have e1 : ((tell h [] r h.length).take h.length).length = h.length := by rw [List.length_take, tell_len]; omega
    have e2 : (tell h [] r h.length).drop h.length = [] := List.drop_of_length_le (by rw [tell_len]; exact Nat.le_refl _)
    rw [e1, e2]
    by_cases c : n ≤ h.length
    · rw [if_pos c, if_pos c, getD_take (by omega), tell_get (by omega)]
      unfold num at_
      rw [show n - 1 + 1 = n by omega, if_pos c]
      rfl
    · rw [if_neg c, if_neg c, if_pos rfl, if_pos rfl]
  · have hp := len_pos hl
    generalize hN : h.length + more + l.length * t = N
    generalize hc : h.length + more = c
    have lt0 : 0 < l.length * t := Nat.mul_pos hp ht
    have hlt : ((tell h l r N).take c).length = c := by rw [List.length_take, tell_len]; omega
    have hld : ((tell h l r N).drop c).length = l.length * t := by rw [List.length_drop, tell_len]; omega
    have hne : (tell h l r N).drop c ≠ [] := fun z => by rw [z] at hld; simp at hld; omega
    by_cases q : n ≤ c
    · have : at_ h l r n = some (num h l r n) := at_some n (.inr hl)
      rw [this]
      unfold at_
      rw [hlt, if_pos q, getD_take (by omega), tell_get (by omega), show n - 1 + 1 = n by omega]
    · rw [at_loop hne (by rw [hlt]; omega), hlt, at_loop hl (by omega)]
      congr 1
      unfold walk
      rw [hld]
      generalize hk : n - c - 1 = k
      have hi : k % (l.length * t) < l.length * t := Nat.mod_lt _ lt0
      have w : ∀ j, num h l r (c + j + 1) = walk l r (more + j) := fun j => by
        unfold num
        rw [at_loop hl (by omega), show c + j + 1 - h.length - 1 = more + j by omega]
        rfl
      rw [getD_drop, tell_get (by omega), w]
      have e : n - h.length - 1 = (more + k % (l.length * t)) + l.length * (t * (k / (l.length * t))) := by
        have := Nat.mod_add_div k (l.length * t)
        rw [← Nat.mul_assoc]
        omega
      have e2 : walk l r (n - h.length - 1) = walk l r (more + k % (l.length * t)) + r * ((t * (k / (l.length * t)) : Nat) : Int) := by rw [e, walk_add_mul hp]
      have e3 : walk l r (n - h.length - 1) = l.getD ((n - h.length - 1) % l.length) 0 + r * (((n - h.length - 1) / l.length : Nat) : Int) := rfl
      rw [← e3, e2, Int.natCast_mul, Int.mul_assoc]
end NT
set_option Elab.async false
set_option linter.all false
set_option maxHeartbeats 4000000
/-! Rows of values that climb and may come to never: their tellings; the values of one table at the values of another one. -/
namespace NT
structure Asc (F : Nat → Option Int) : Prop where
  ge : ∀ n v, 1 ≤ n → F n = some v → 0 ≤ v
  up : ∀ n v, 1 ≤ n → F (n + 1) = some v → ∃ u, F n = some u ∧ u ≤ v
def numF (F : Nat → Option Int) (n : Nat) : Int := (F n).getD 0
def seg (F : Nat → Option Int) (a m : Nat) : List (Option Int) := (List.range m).map fun k => F (a + k + 1)
def segN (F : Nat → Option Int) (a m : Nat) : List Int := (List.range m).map fun k => numF F (a + k + 1)
variable {F : Nat → Option Int}
theorem seg_succ {a m : Nat} : seg F a (m + 1) = seg F a m ++ [F (a + m + 1)] := by
  unfold seg
  rw [List.range_succ, List.map_append]
  rfl
theorem segN_succ {a m : Nat} : segN F a (m + 1) = segN F a m ++ [numF F (a + m + 1)] := by
  unfold segN
  rw [List.range_succ, List.map_append]
  rfl
theorem seg_len {a m : Nat} : (seg F a m).length = m := by unfold seg; rw [List.length_map, List.length_range]
theorem segN_len {a m : Nat} : (segN F a m).length = m := by unfold segN; rw [List.length_map, List.length_range]
theorem segN_get {a m k : Nat} (hk : k < m) : (segN F a m).getD k 0 = numF F (a + k + 1) := by
  unfold segN
  rw [List.getD_eq_getElem?_getD, List.getElem?_map, List.getElem?_range hk]
  rfl
theorem Asc.below (A : Asc F) {m d : Nat} (hm : 1 ≤ m) : ∀ {v : Int}, F (m + d) = some v → ∃ u, F m = some u ∧ u ≤ v := by
  induction d with
  | zero => exact fun {v} h => ⟨v, h, Int.le_refl _⟩
  | succ d ih =>
    intro v h
    obtain ⟨u, hu, le⟩ := A.up (m + d) v (by omega) h
    obtain ⟨u2, h2, le2⟩ := ih hu
    exact ⟨u2, h2, Int.le_trans le2 le⟩
theorem Asc.none_up (A : Asc F) {m n : Nat} (hm : 1 ≤ m) (h : F m = none) (le : m ≤ n) : F n = none := by
  cases e : F n with
  | none => rfl
  | some v =>
    obtain ⟨d, rfl⟩ : ∃ d, n = m + d := ⟨n - m, by omega⟩
    obtain ⟨u, hu, _⟩ := A.below hm e
    rw [h] at hu
    cases hu
theorem numF_some {n : Nat} (h : F n ≠ none) : F n = some (numF F n) := by
  unfold numF
  cases e : F n with
  | none => exact absurd e h
  | some v => rfl
theorem Asc.mono (A : Asc F) {m n : Nat} (hm : 1 ≤ m) (le : m ≤ n) (h : F n ≠ none) : numF F m ≤ numF F n := by
  obtain ⟨d, rfl⟩ : ∃ d, n = m + d := ⟨n - m, by omega⟩
  obtain ⟨u, hu, le2⟩ := A.below hm (numF_some h)
  have : numF F m = u := by unfold numF; rw [hu]; rfl
  rw [this]
  exact le2
theorem Asc.nonneg (A : Asc F) {n : Nat} (hn : 1 ≤ n) (h : F n ≠ none) : 0 ≤ numF F n := A.ge n _ hn (numF_some h)
/-- those that are counts -/
theorem cnt_ex (A : Asc F) (N : Nat) : ∃ M, M ≤ N ∧ (seg F 0 N).filterMap id = segN F 0 M ∧ (∀ n, 1 ≤ n → n ≤ M → F n ≠ none) ∧ (∀ n, M < n → n ≤ N → F n = none) := by
  induction N with
  | zero => exact ⟨0, Nat.le_refl _, rfl, fun n h1 h2 => by omega, fun n h1 h2 => by omega⟩
  | succ N ih =>
    obtain ⟨M, hM, e, s, z⟩ := ih
    cases h : F (N + 1) with
    | none =>
      refine ⟨M, by omega, ?_, s, fun n h1 h2 => ?_⟩
      · rw [seg_succ, List.filterMap_append, e, show 0 + N + 1 = N + 1 by omega, h]
        simp
      · by_cases c : n ≤ N
        · exact z n h1 c
        · rw [show n = N + 1 by omega, h]
    | some v =>
      have hall : M = N := by
        rcases Nat.lt_or_ge M N with c | c
        · have := z (M + 1) (by omega) (by omega)
          have := A.none_up (by omega) this (show M + 1 ≤ N + 1 by omega)
          rw [h] at this
          cases this
        · omega
      subst hall
      refine ⟨M + 1, Nat.le_refl _, ?_, fun n h1 h2 => ?_, fun n h1 h2 => by omega⟩
      · rw [seg_succ, List.filterMap_append, e, segN_succ, show 0 + M + 1 = M + 1 by omega, h]
        unfold numF
        rw [h]
        rfl
      · by_cases c : n ≤ M
        · exact s n h1 c
        · rw [show n = M + 1 by omega, h]
          exact fun y => by cases y
theorem ended (A : Asc F) {M : Nat} (s : ∀ n, 1 ≤ n → n ≤ M → F n ≠ none) : Good (segN F 0 M) [] 0 := by
  refine ⟨climbs_of (fun i hi => ?_) (fun i hi => ?_), trivial, fun _ z => absurd rfl z, Int.le_refl _, fun _ => rfl, fun z => absurd rfl z⟩
  · rw [segN_len] at hi
    rw [segN_get hi]
    exact A.nonneg (by omega) (s _ (by omega) (by omega))
  · rw [segN_len] at hi
    rw [segN_get (by omega), segN_get hi]
    exact A.mono (by omega) (by omega) (s _ (by omega) (by omega))
theorem at_ended {M : Nat} (s : ∀ n, 1 ≤ n → n ≤ M → F n ≠ none) (z : ∀ n, M < n → F n = none) {n : Nat} (hn : 1 ≤ n) : at_ (segN F 0 M) [] 0 n = F n := by
  unfold at_
  rw [segN_len]
  by_cases c : n ≤ M
  · rw [if_pos c, segN_get (by omega), show 0 + (n - 1) + 1 = n by omega]
    exact (numF_some (s n hn c)).symm
  · rw [if_neg c, if_pos rfl]
    exact (z n (by omega)).symm
theorem per_num {N m : Nat} {c : Int} (p : ∀ n, N < n → numF F (n + m) = numF F n + c) (i j : Nat) : numF F (N + 1 + i + m * j) = numF F (N + 1 + i) + c * (j : Int) := by
  induction j with
  | zero => simp
  | succ j ih =>
    have e : N + 1 + i + m * (j + 1) = (N + 1 + i + m * j) + m := by rw [Nat.mul_succ]; omega
    rw [e, p _ (by omega), ih, Int.natCast_succ, Int.mul_add]
    omega
theorem looped (A : Asc F) {N m : Nat} {c : Int} (hm : 0 < m) (s : ∀ n, 1 ≤ n → F n ≠ none) (p : ∀ n, N < n → numF F (n + m) = numF F n + c) :
    Good (segN F 0 N) (segN F N m) c ∧ ∀ n, 1 ≤ n → at_ (segN F 0 N) (segN F N m) c n = F n := by
  have hl : segN F N m ≠ [] := fun z => by
    have := congrArg List.length z
    rw [segN_len] at this
    simp at this
    omega
  refine ⟨⟨climbs_of (fun i hi => ?_) (fun i hi => ?_), climbs_of (fun i hi => ?_) (fun i hi => ?_), fun h1 _ => ?_, ?_, fun z => absurd z hl, fun _ => ?_⟩, fun n hn => ?_⟩
  · rw [segN_len] at hi
    rw [segN_get hi]
    exact A.nonneg (by omega) (s _ (by omega))
  · rw [segN_len] at hi
    rw [segN_get (by omega), segN_get hi]
    exact A.mono (by omega) (by omega) (s _ (by omega))
  · rw [segN_len] at hi
    rw [segN_get hi]
    exact A.nonneg (by omega) (s _ (by omega))
  · rw [segN_len] at hi
    rw [segN_get (by omega), segN_get hi]
    exact A.mono (by omega) (by omega) (s _ (by omega))
  · have : 0 < N := by
      rcases Nat.eq_zero_or_pos N with z | z
      · subst z; exact absurd rfl h1
      · exact z
    rw [segN_len, segN_get (by omega), segN_get hm]
    exact A.mono (by omega) (by omega) (s _ (by omega))
  · have e := p (N + 1) (by omega)
    have := A.mono (m := N + 1) (n := N + 1 + m) (by omega) (by omega) (s _ (by omega))
    omega
  · rw [segN_len, segN_get (by omega), segN_get hm]
    have e := p (N + 0 + 1) (by omega)
    have := A.mono (m := N + (m - 1) + 1) (n := N + 0 + 1 + m) (by omega) (by omega) (s _ (by omega))
    omega
  · by_cases q : n ≤ N
    · unfold at_
      rw [segN_len, if_pos q, segN_get (by omega), show 0 + (n - 1) + 1 = n by omega]
      exact (numF_some (s n hn)).symm
    · rw [at_loop hl (by rw [segN_len]; omega), segN_len, numF_some (s n hn)]
      congr 1
      unfold walk
      rw [segN_len, segN_get (Nat.mod_lt _ hm)]
      have e := per_num p ((n - N - 1) % m) ((n - N - 1) / m)
      have e2 : N + 1 + (n - N - 1) % m + m * ((n - N - 1) / m) = n := by
        have := Nat.mod_add_div (n - N - 1) m
        omega
      rw [e2] at e
      rw [e, show N + (n - N - 1) % m + 1 = N + 1 + (n - N - 1) % m by omega]
/-- how the program tells a table that comes to an end -/
def settled (vs : List (Option Int)) : Option Int → List Int × List Int × Int
  | none => (vs.filterMap id, [], 0)
  | some v => if (vs.filterMap id).length < vs.length then (vs.filterMap id, [], 0) else (vs.filterMap id, [v], 0)
theorem settled_ok (A : Asc F) {N : Nat} {t : Option Int} (ht : ∀ n, N < n → F n = t) :
    Good (settled (seg F 0 N) t).1 (settled (seg F 0 N) t).2.1 (settled (seg F 0 N) t).2.2 ∧ (∀ n, 1 ≤ n → at_ (settled (seg F 0 N) t).1 (settled (seg F 0 N) t).2.1 (settled (seg F 0 N) t).2.2 n = F n) ∧
      (settled (seg F 0 N) t).1.length ≤ N ∧ (settled (seg F 0 N) t).2.1.length ≤ 1 := by
  obtain ⟨M, hM, e, s, z⟩ := cnt_ex A N
  have short : M < N ∨ t = none → Good (segN F 0 M) [] 0 ∧ (∀ n, 1 ≤ n → at_ (segN F 0 M) [] 0 n = F n) ∧ (segN F 0 M).length ≤ N ∧ ([] : List Int).length ≤ 1 := fun h => by
    refine ⟨ended A s, fun n hn => at_ended s (fun k hk => ?_) hn, by rw [segN_len]; exact hM, Nat.zero_le _⟩
    rcases h with h | h
    · exact A.none_up (m := M + 1) (by omega) (z (M + 1) (by omega) (by omega)) (by omega)
    · by_cases c : k ≤ N
      · exact z k hk c
      · rw [ht k (by omega), h]
  unfold settled
  cases t with
  | none =>
    dsimp only
    rw [e]
    exact short (.inr rfl)
  | some v =>
    dsimp only
    rw [e, seg_len, segN_len]
    by_cases c : M < N
    · rw [if_pos c]
      exact short (.inl c)
    · rw [if_neg c]
      have hMN : M = N := by omega
      subst hMN
      have sall : ∀ n, 1 ≤ n → F n ≠ none := fun n hn => by
        by_cases q : n ≤ M
        · exact s n hn q
        · rw [ht n (by omega)]
          exact fun y => by cases y
      have el : segN F M 1 = [v] := by
        unfold segN
        show [numF F (M + 0 + 1)] = [v]
        unfold numF
        rw [ht _ (by omega)]
        rfl
      have g := looped A (N := M) (m := 1) (c := 0) (by decide) sall (fun n hn => by
        unfold numF
        rw [ht n hn, ht (n + 1) (by omega)]
        simp)
      rw [el] at g
      exact ⟨g.1, g.2, by rw [segN_len]; exact Nat.le_refl _, Nat.le_refl _⟩
/-! ### a table's own values -/
section
variable {h l : List Int} {r : Int}
theorem asc_at (g : Good h l r) : Asc (at_ h l r) := by
  have some_of : ∀ n v, at_ h l r n = some v → n ≤ h.length ∨ l ≠ [] := fun n v e => by
    by_cases c : n ≤ h.length
    · exact .inl c
    · refine .inr fun z => ?_
      unfold at_ at e
      rw [if_neg c, if_pos z] at e
      cases e
  refine ⟨fun n v hn e => ?_, fun n v hn e => ?_⟩
  · have := num_ge g n hn
    unfold num at this
    rw [e] at this
    exact this
  · have c := some_of _ _ e
    have e1 := at_some (h := h) (l := l) (r := r) n (c.imp (fun q => by omega) id)
    refine ⟨_, e1, ?_⟩
    have := num_up g n hn c
    have e2 : num h l r (n + 1) = v := by unfold num; rw [e]; rfl
    omega
theorem good_of (A : Asc (at_ h l r)) (r0 : 0 ≤ r) (rl : l = [] → r = 0) : Good h l r := by
  have ah : ∀ i, i < h.length → at_ h l r (i + 1) = some (h.getD i 0) := fun i hi => by
    unfold at_
    rw [if_pos (by omega), Nat.add_sub_cancel]
  have al : ∀ i, i < l.length → at_ h l r (h.length + i + 1) = some (l.getD i 0) := fun i hi => by
    have hl : l ≠ [] := fun z => by rw [z] at hi; simp at hi
    rw [at_loop hl (by omega), show h.length + i + 1 - h.length - 1 = i by omega, walk_lt hi]
  refine ⟨climbs_of (fun i hi => A.ge _ _ (by omega) (ah i hi)) (fun i hi => ?_), climbs_of (fun i hi => A.ge _ _ (by omega) (al i hi)) (fun i hi => ?_), fun h1 h2 => ?_, r0, rl, fun hl => ?_⟩
  · obtain ⟨u, hu, le⟩ := A.up _ _ (by omega) (ah (i + 1) hi)
    rw [ah i (by omega)] at hu
    injection hu with hu
    omega
  · obtain ⟨u, hu, le⟩ := A.up _ _ (by omega) (al (i + 1) hi)
    rw [show h.length + (i + 1) = h.length + i + 1 by omega, al i (by omega)] at hu
    injection hu with hu
    omega
  · have h0 := len_pos h1
    obtain ⟨u, hu, le⟩ := A.up _ _ (by omega) (al 0 (len_pos h2))
    have := ah (h.length - 1) (by omega)
    rw [show h.length - 1 + 1 = h.length by omega] at this
    rw [this] at hu
    injection hu with hu
    omega
  · have l0 := len_pos hl
    have e : at_ h l r (h.length + (l.length - 1) + 1 + 1) = some (l.getD 0 0 + r) := by
      rw [at_loop hl (by omega), show h.length + (l.length - 1) + 1 + 1 - h.length - 1 = 0 + l.length by omega, walk_add l0, walk_lt l0]
    obtain ⟨u, hu, le⟩ := A.up _ _ (by omega) e
    rw [al (l.length - 1) (by omega)] at hu
    injection hu with hu
    omega
theorem at_fin (g : Good h l r) (c : l = [] ∨ r = 0) {n : Nat} (hn : h.length < n) : at_ h l r n = fin_ l r := by
  unfold fin_
  by_cases hl : l = []
  · rw [if_pos (.inl hl)]
    unfold at_
    rw [if_neg (by omega), if_pos hl]
  · have hr := c.resolve_left hl
    rw [if_neg (fun z => z.elim hl fun z => by omega), at_loop hl hn]
    have l0 := len_pos hl
    congr 1
    unfold walk
    rw [hr, Int.zero_mul, Int.add_zero]
    have hi := Nat.mod_lt (n - h.length - 1) l0
    generalize (n - h.length - 1) % l.length = i at hi
    have up : ∀ i d, i + d < l.length → l.getD i 0 ≤ l.getD (i + d) 0 := fun i d => by
      induction d with
      | zero => exact fun _ => Int.le_refl _
      | succ d ih => exact fun q => Int.le_trans (ih (by omega)) (climbs_up g.lp q)
    have e1 := up 0 i (by omega)
    have e2 := up i (l.length - 1 - i) (by omega)
    rw [Nat.zero_add] at e1
    rw [show i + (l.length - 1 - i) = l.length - 1 by omega] at e2
    have := g.last hl
    omega
theorem val_mono (g : Good h l r) {a b : Nat} (le : a ≤ b) {v : Int} (e : val_ h l r (some b) = some v) : ∃ u, val_ h l r (some a) = some u ∧ u ≤ v ∧ 0 ≤ u := by
  have A := asc_at g
  unfold val_ at e ⊢
  dsimp only at e ⊢
  by_cases ha : a = 0
  · rw [if_pos ha]
    refine ⟨0, rfl, ?_, Int.le_refl _⟩
    by_cases hb : b = 0
    · rw [if_pos hb] at e
      injection e with e
      omega
    · rw [if_neg hb] at e
      exact A.ge _ _ (by omega) e
  · rw [if_neg ha]
    rw [if_neg (by omega)] at e
    obtain ⟨d, rfl⟩ : ∃ d, b = a + d := ⟨b - a, by omega⟩
    obtain ⟨u, hu, le2⟩ := A.below (by omega) e
    exact ⟨u, hu, le2, A.ge _ _ (by omega) hu⟩
theorem val_fin (g : Good h l r) {v : Int} (e : fin_ l r = some v) (a : Nat) : ∃ u, val_ h l r (some a) = some u ∧ u ≤ v ∧ 0 ≤ u := by
  have c : l = [] ∨ r = 0 := by
    unfold fin_ at e
    by_cases q : l = [] ∨ 0 < r
    · rw [if_pos q] at e
      cases e
    · have := g.r0
      right
      have : ¬ 0 < r := fun z => q (.inr z)
      omega
  refine val_mono g (b := a + h.length + 1) (by omega) ?_
  unfold val_
  dsimp only
  rw [if_neg (by omega), at_fin g c (by omega), e]
end
/-! ### the values of one table at the values of another one -/
section
variable {h1 l1 h2 l2 : List Int} {r1 r2 : Int}
def beh (h1 l1 : List Int) (r1 : Int) (h2 l2 : List Int) (r2 : Int) (n : Nat) : Option Int := val_ h1 l1 r1 ((at_ h2 l2 r2 n).map Int.toNat)
theorem beh_asc (g1 : Good h1 l1 r1) (g2 : Good h2 l2 r2) : Asc (beh h1 l1 r1 h2 l2 r2) := by
  have A := asc_at g2
  refine ⟨fun n v hn e => ?_, fun n v hn e => ?_⟩
  · unfold beh at e
    cases q : at_ h2 l2 r2 n with
    | none =>
      rw [q] at e
      obtain ⟨u, _, h, h'⟩ := val_fin g1 e 0
      omega
    | some k =>
      rw [q] at e
      obtain ⟨u, h0, _, h⟩ := val_mono g1 (Nat.le_refl _) e
      have : some u = some v := h0.symm.trans e
      injection this with this
      omega
  · unfold beh at e ⊢
    cases q : at_ h2 l2 r2 (n + 1) with
    | none =>
      rw [q] at e
      cases q2 : at_ h2 l2 r2 n with
      | none => exact ⟨v, e, Int.le_refl _⟩
      | some k =>
        obtain ⟨u, h0, h, _⟩ := val_fin g1 e k.toNat
        exact ⟨u, h0, h⟩
    | some k =>
      rw [q] at e
      obtain ⟨j, hj, le⟩ := A.up n k hn q
      rw [hj]
      obtain ⟨u, h0, h, _⟩ := val_mono g1 (show j.toNat ≤ k.toNat by omega) e
      exact ⟨u, h0, h⟩
theorem beh_end (g2 : Good h2 l2 r2) (c : l2 = [] ∨ r2 = 0) {n : Nat} (hn : h2.length < n) : beh h1 l1 r1 h2 l2 r2 n = val_ h1 l1 r1 ((fin_ l2 r2).map Int.toNat) := by
  unfold beh
  rw [at_fin g2 c hn]
theorem beh_far {n : Nat} {v : Int} (e : at_ h2 l2 r2 n = some v) (hv : (h1.length : Int) < v) : beh h1 l1 r1 h2 l2 r2 n = at_ h1 l1 r1 v.toNat := by
  unfold beh
  rw [e]
  show val_ h1 l1 r1 (some v.toNat) = _
  unfold val_
  dsimp only
  rw [if_neg (by omega)]
theorem beh_flat (g1 : Good h1 l1 r1) (c : l1 = [] ∨ r1 = 0) {n : Nat} {v : Int} (e : at_ h2 l2 r2 n = some v) (hv : (h1.length : Int) < v) : beh h1 l1 r1 h2 l2 r2 n = fin_ l1 r1 := by
  rw [beh_far e hv, at_fin g1 c (by omega)]
theorem beh_some (n1 : l1 ≠ []) (n2 : l2 ≠ []) (n : Nat) : beh h1 l1 r1 h2 l2 r2 n ≠ none := by
  unfold beh
  rw [at_some n (.inr n2)]
  show val_ h1 l1 r1 (some _) ≠ none
  unfold val_
  dsimp only
  by_cases c : (num h2 l2 r2 n).toNat = 0
  · rw [if_pos c]
    exact fun z => by cases z
  · rw [if_neg c, at_some _ (.inr n1)]
    exact fun z => by cases z
theorem beh_per (n1 : l1 ≠ []) (n2 : l2 ≠ []) {lead q : Nat} {rq gg : Nat} (hq : l1.length = gg * q) (hr : r2 = ((gg * rq : Nat) : Int)) (hl : h2.length ≤ lead) (far : ∀ n, lead < n → ∃ v, at_ h2 l2 r2 n = some v ∧ (h1.length : Int) < v) (n : Nat) (hn : lead < n) :
    numF (beh h1 l1 r1 h2 l2 r2) (n + l2.length * q) = numF (beh h1 l1 r1 h2 l2 r2) n + r1 * (rq : Int) := by
  obtain ⟨v, hv, lv⟩ := far n hn
  obtain ⟨v', hv', lv'⟩ := far (n + l2.length * q) (by omega)
  have e : v' = v + (l1.length : Int) * (rq : Int) := by
    have a := at_loop n2 (r := r2) (h := h2) (n := n) (by omega)
    have b := at_loop n2 (r := r2) (h := h2) (n := n + l2.length * q) (by omega)
    rw [hv] at a
    rw [hv', show n + l2.length * q - h2.length - 1 = (n - h2.length - 1) + l2.length * q by omega, walk_add_mul (len_pos n2)] at b
    injection a with a
    injection b with b
    rw [b, a, hr, hq, Int.natCast_mul, Int.natCast_mul, Int.mul_assoc, Int.mul_assoc, Int.mul_comm (rq : Int) (q : Int)]
  unfold numF
  rw [beh_far hv lv, beh_far hv' lv', at_loop n1 (by omega), at_loop n1 (by omega)]
  show walk l1 r1 _ = walk l1 r1 _ + _
  have e3 : v'.toNat - h1.length - 1 = (v.toNat - h1.length - 1) + l1.length * rq := by
    have : (l1.length : Int) * (rq : Int) = ((l1.length * rq : Nat) : Int) := (Int.natCast_mul _ _).symm
    omega
  rw [e3, walk_add_mul (len_pos n1)]
end
end NT
namespace NT
section
variable {h l : List Int} {r : Int}
theorem at_bound {B R : Int} (hh : ∀ i, i < h.length → h.getD i 0 ≤ B) (hl : ∀ i, i < l.length → l.getD i 0 ≤ B) (r0 : 0 ≤ r) (hr : r ≤ R) (R0 : 0 ≤ R) {n : Nat} (hn : 1 ≤ n) {v : Int} (e : at_ h l r n = some v) : v ≤ B + R * (n : Int) := by
  have Rn : 0 ≤ R * (n : Int) := Int.mul_nonneg R0 (by omega)
  unfold at_ at e
  by_cases c : n ≤ h.length
  · rw [if_pos c] at e
    injection e with e
    have := hh (n - 1) (by omega)
    omega
  · rw [if_neg c] at e
    by_cases z : l = []
    · rw [if_pos z] at e
      cases e
    · rw [if_neg z] at e
      injection e with e
      unfold walk at e
      have a := hl ((n - h.length - 1) % l.length) (Nat.mod_lt _ (len_pos z))
      have b : (n - h.length - 1) / l.length ≤ n := Nat.le_trans (Nat.div_le_self _ _) (by omega)
      have c1 : r * (((n - h.length - 1) / l.length : Nat) : Int) ≤ R * (n : Int) := Int.mul_le_mul hr (Int.ofNat_le.mpr b) (Int.natCast_nonneg _) R0
      omega
/-- all that a form names is less than a bound -/
structure Few (x : List Int × List Int × Int) (B : Int) : Prop where
  v : ∀ n v, 1 ≤ n → n ≤ x.1.length + x.2.1.length → at_ x.1 x.2.1 x.2.2 n = some v → 0 ≤ v ∧ v < B
  r0 : 0 ≤ x.2.2
  r1 : x.2.2 < B
theorem plain_at {x : List Int × List Int × Int} (p : IsPlain h l r x) (n : Nat) (hn : 1 ≤ n) : at_ x.1 x.2.1 x.2.2 n = at_ h l r n := by
  rcases p with ⟨rfl, rfl⟩ | ⟨_, _, _, _, e⟩
  · rfl
  · exact e n hn
theorem plain_few {x : List Int × List Int × Int} {B : Int} (p : IsPlain h l r x) (f : Few (h, l, r) B) : Few x B := by
  have z := plain_size p
  refine ⟨fun n v hn h2 e => f.v n v hn ?_ ((plain_at p n hn).symm.trans e), (z.2.2.2.2.1 f.r0).1, Int.lt_of_le_of_lt (z.2.2.2.2.1 f.r0).2 f.r1⟩
  have := z.1
  have := z.2.1
  dsimp only
  omega
theorem few_head {x : List Int × List Int × Int} {B : Int} (f : Few x B) {i : Nat} (hi : i < x.1.length) : 0 ≤ x.1.getD i 0 ∧ x.1.getD i 0 < B := by
  refine f.v (i + 1) _ (by omega) (by omega) ?_
  unfold at_
  rw [if_pos (by omega), Nat.add_sub_cancel]
theorem few_loop {x : List Int × List Int × Int} {B : Int} (f : Few x B) {i : Nat} (hi : i < x.2.1.length) : 0 ≤ x.2.1.getD i 0 ∧ x.2.1.getD i 0 < B := by
  refine f.v (x.1.length + i + 1) _ (by omega) (by omega) ?_
  rw [at_loop (fun z => by rw [z] at hi; simp at hi) (by omega), show x.1.length + i + 1 - x.1.length - 1 = i by omega, walk_lt hi]
theorem plain_fin {x : List Int × List Int × Int} (g : Good h l r) (p : IsPlain h l r x) : Good x.1 x.2.1 x.2.2 ∧ fin_ x.2.1 x.2.2 = fin_ l r := by
  have z := plain_size p
  have gx : Good x.1 x.2.1 x.2.2 := by
    refine good_of ?_ (z.2.2.2.2.1 g.r0).1 fun hl => ?_
    · have A := asc_at g
      refine ⟨fun n v hn e => A.ge n v hn ((plain_at p n hn).symm.trans e), fun n v hn e => ?_⟩
      obtain ⟨u, hu, le⟩ := A.up n v hn ((plain_at p (n + 1) (by omega)).symm.trans e)
      exact ⟨u, (plain_at p n hn).trans hu, le⟩
    · by_cases q : l = []
      · rw [z.2.2.2.2.2.2 q]
      · exact absurd hl (z.2.2.1 q)
  refine ⟨gx, ?_⟩
  by_cases q : l = []
  · have hx := z.2.2.2.1 q
    unfold fin_
    rw [if_pos (.inl hx), if_pos (.inl q)]
  · have hx := z.2.2.1 q
    have hr := z.2.2.2.2.2.1 q
    by_cases q2 : 0 < r
    · unfold fin_
      rw [if_pos (.inr (hr.mp q2)), if_pos (.inr q2)]
    · have r0 : r = 0 := by have := g.r0; omega
      have rx : x.2.2 = 0 := by
        have := gx.r0
        have : ¬ 0 < x.2.2 := fun y => q2 (hr.mpr y)
        omega
      rw [← at_fin gx (.inr rx) (n := x.1.length + h.length + 1) (by omega), ← at_fin g (.inr r0) (n := x.1.length + h.length + 1) (by omega)]
      exact plain_at p _ (by omega)
theorem val_plain {x : List Int × List Int × Int} (g : Good h l r) (p : IsPlain h l r x) (n : Option Nat) : val_ x.1 x.2.1 x.2.2 n = val_ h l r n := by
  unfold val_
  cases n with
  | none => exact (plain_fin g p).2
  | some n =>
    dsimp only
    by_cases c : n = 0
    · rw [if_pos c, if_pos c]
    · rw [if_neg c, if_neg c]
      exact plain_at p n (by omega)
end
theorem beh_plain {h1 l1 h2 l2 : List Int} {r1 r2 : Int} {x y : List Int × List Int × Int} (g1 : Good h1 l1 r1) (p1 : IsPlain h1 l1 r1 x) (p2 : IsPlain h2 l2 r2 y) (n : Nat) (hn : 1 ≤ n) : beh x.1 x.2.1 x.2.2 y.1 y.2.1 y.2.2 n = beh h1 l1 r1 h2 l2 r2 n := by
  unfold beh
  rw [plain_at p2 n hn, val_plain g1 p1]
/-- what is not after a place at which a bound is passed -/
theorem far_of {h l : List Int} {r : Int} (g : Good h l r) (hl : l ≠ []) {lead : Nat} {lim : Int} (e : lim < num h l r (lead + 1)) (n : Nat) (hn : lead < n) : ∃ v, at_ h l r n = some v ∧ lim < v := by
  refine ⟨_, at_some n (.inr hl), ?_⟩
  have := (asc_at g).mono (m := lead + 1) (n := n) (by omega) (by omega) (by rw [at_some n (.inr hl)]; exact fun z => by cases z)
  exact Int.lt_of_lt_of_le e this
end NT
set_option linter.all false
set_option maxHeartbeats 4000000
/-! Deeds of makers: none gives a piece, some i takes one at inlet i. Plain Lean. -/
namespace NT
abbrev Deed := Option Nat
/-- how many pieces are taken at inlet i -/
def took (i : Nat) : List Deed → Nat
  | [] => 0
  | none :: ds => took i ds
  | some j :: ds => (if j = i then 1 else 0) + took i ds
/-- for each give how many pieces are taken at inlet i ahead of it, t of them before -/
def ahead (i : Nat) : List Deed → Int → List Int
  | [], _ => []
  | none :: ds, t => t :: ahead i ds t
  | some j :: ds, t => ahead i ds (if j = i then t + 1 else t)
theorem took_app {i : Nat} : ∀ {a b : List Deed}, took i (a ++ b) = took i a + took i b
  | [], b => by simp [took]
  | none :: a, b => by simp only [List.cons_append, took]; exact took_app
  | some j :: a, b => by simp only [List.cons_append, took]; rw [took_app]; omega
theorem ahead_app {i : Nat} : ∀ {a b : List Deed} {t : Int}, ahead i (a ++ b) t = ahead i a t ++ ahead i b (t + (took i a : Int))
  | [], b, t => by simp [took, ahead]
  | none :: a, b, t => by simp only [List.cons_append, took, ahead]; rw [ahead_app]
  | some j :: a, b, t => by
    simp only [List.cons_append, took, ahead]
    rw [ahead_app]
    congr 2
    by_cases h : j = i
    · rw [if_pos h, if_pos h]; omega
    · rw [if_neg h, if_neg h]; omega
theorem ahead_add {i : Nat} : ∀ {a : List Deed} {t c : Int}, ahead i a (t + c) = (ahead i a t).map (· + c)
  | [], _, _ => rfl
  | none :: a, t, c => by simp only [ahead, List.map_cons]; rw [ahead_add]
  | some j :: a, t, c => by
    simp only [ahead]
    by_cases h : j = i
    · rw [if_pos h, if_pos h, show t + c + 1 = t + 1 + c by omega, ahead_add]
    · rw [if_neg h, if_neg h, ahead_add]
theorem ahead_off {i : Nat} {a : List Deed} {t : Int} : ahead i a t = (ahead i a 0).map (t + ·) := by
  have := ahead_add (i := i) (a := a) (t := 0) (c := t)
  rw [Int.zero_add] at this
  rw [this]
  exact List.map_congr_left fun x _ => Int.add_comm _ _
theorem ahead_len {i : Nat} : ∀ {a : List Deed} {t : Int}, (ahead i a t).length ≤ a.length
  | [], _ => Nat.le_refl _
  | none :: a, t => by simp only [ahead, List.length_cons]; exact Nat.succ_le_succ ahead_len
  | some j :: a, t => by simp only [ahead, List.length_cons]; exact Nat.le_succ_of_le ahead_len
theorem took_len {i : Nat} : ∀ {a : List Deed}, took i a ≤ a.length
  | [] => Nat.le_refl _
  | none :: a => by simp only [took, List.length_cons]; exact Nat.le_succ_of_le took_len
  | some j :: a => by
    have := took_len (i := i) (a := a)
    simp only [took, List.length_cons]
    by_cases h : j = i
    · rw [if_pos h]; omega
    · rw [if_neg h]; omega
theorem ahead_climbs {i : Nat} : ∀ {a : List Deed} {lo t : Int}, lo ≤ t → climbs lo (ahead i a t)
  | [], _, _, _ => trivial
  | none :: a, lo, t, h => ⟨h, ahead_climbs (Int.le_refl t)⟩
  | some j :: a, lo, t, h => by
    simp only [ahead]
    by_cases e : j = i
    · rw [if_pos e]; exact ahead_climbs (by omega)
    · rw [if_neg e]; exact ahead_climbs h
theorem ahead_le {i : Nat} : ∀ {a : List Deed} {t : Int}, ∀ x ∈ ahead i a t, t ≤ x ∧ x ≤ t + (took i a : Int)
  | [], _, x, h => nomatch h
  | none :: a, t, x, h => by
    simp only [ahead, took] at h ⊢
    rcases List.mem_cons.mp h with rfl | h
    · omega
    · exact ahead_le x h
  | some j :: a, t, x, h => by
    simp only [ahead, took] at h ⊢
    by_cases e : j = i
    · rw [if_pos e] at h ⊢
      have := ahead_le x h
      omega
    · rw [if_neg e] at h ⊢
      have := ahead_le x h
      omega
theorem ahead_nil {i : Nat} : ∀ {a : List Deed} {t : Int}, ahead i a t = [] ↔ none ∉ a
  | [], _ => by simp [ahead]
  | none :: a, t => by simp [ahead]
  | some j :: a, t => by simp only [ahead]; rw [ahead_nil]; simp
theorem took_snoc {i : Nat} {a : List Deed} {d : Deed} : took i (a ++ [d]) = match d with
  | none => took i a
  | some j => if j = i then took i a + 1 else took i a := by
  rw [took_app]
  cases d with
  | none => rfl
  | some j =>
    show took i a + ((if j = i then 1 else 0) + 0) = if j = i then took i a + 1 else took i a
    split <;> omega
theorem ahead_snoc {i : Nat} {a : List Deed} {d : Deed} : ahead i (a ++ [d]) 0 = match d with
  | none => ahead i a 0 ++ [(took i a : Int)]
  | some _ => ahead i a 0 := by
  rw [ahead_app, Int.zero_add]
  cases d with
  | none => rfl
  | some j => exact List.append_nil _
/-- the need at inlet i: first these deeds, then those for ever -/
def needT (i : Nat) (b c : List Deed) : List Int × List Int × Int :=
  (ahead i b 0, ahead i c (took i b : Int), if ahead i c (took i b : Int) = [] then 0 else (took i c : Int))
theorem getD_mem {l : List Int} {k : Nat} (h : k < l.length) : l.getD k 0 ∈ l := by
  rw [List.getD_eq_getElem?_getD, List.getElem?_eq_getElem h]
  exact List.getElem_mem h
theorem needT_good (i : Nat) (b c : List Deed) : Good (needT i b c).1 (needT i b c).2.1 (needT i b c).2.2 := by
  unfold needT
  refine ⟨ahead_climbs (Int.le_refl 0), ahead_climbs (by omega), fun h1 h2 => ?_, ?_, fun h => if_pos h, fun h => ?_⟩
  · dsimp only at h1 h2
    have p1 := List.length_pos_iff.mpr h1
    have p2 := List.length_pos_iff.mpr h2
    have q1 := ahead_le _ (getD_mem (l := ahead i b 0) (k := (ahead i b 0).length - 1) (by omega))
    have q2 := ahead_le _ (getD_mem (l := ahead i c (took i b : Int)) (k := 0) p2)
    dsimp only
    omega
  · dsimp only
    split <;> omega
  · dsimp only at h ⊢
    rw [if_neg h]
    have p2 := List.length_pos_iff.mpr h
    have q1 := ahead_le _ (getD_mem (l := ahead i c (took i b : Int)) (k := 0) p2)
    have q2 := ahead_le _ (getD_mem (l := ahead i c (took i b : Int)) (k := (ahead i c (took i b : Int)).length - 1) (by omega))
    omega
/-- so often -/
def rep (c : List Deed) : Nat → List Deed
  | 0 => []
  | k + 1 => c ++ rep c k
theorem walk_shift {l : List Int} {r c : Int} {q : Nat} (h : 0 < l.length) : walk (l.map (· + c)) r q = walk l r q + c := by
  unfold walk
  rw [List.length_map, List.getD_eq_getElem?_getD, List.getD_eq_getElem?_getD, List.getElem?_map, List.getElem?_eq_getElem (Nat.mod_lt _ h)]
  show _ + c + _ = _
  show l[q % l.length]'(Nat.mod_lt _ h) + c + _ = l[q % l.length]'(Nat.mod_lt _ h) + _ + c
  omega
theorem rep_walk {i : Nat} {c : List Deed} : ∀ {k : Nat} {t : Int} {q : Nat}, q < k * (ahead i c t).length → q < (ahead i (rep c k) t).length ∧ (ahead i (rep c k) t).getD q 0 = walk (ahead i c t) (took i c : Int) q
  | 0, _, _, h => by omega
  | k + 1, t, q, h => by
    have l0 : 0 < (ahead i c t).length := by
      rcases Nat.eq_zero_or_pos (ahead i c t).length with z | z
      · rw [z] at h; omega
      · exact z
    have e : (ahead i c (t + (took i c : Int))) = (ahead i c t).map (· + (took i c : Int)) := ahead_add
    have el : (ahead i c (t + (took i c : Int))).length = (ahead i c t).length := by rw [e, List.length_map]
    simp only [rep]
    rw [ahead_app, List.length_append]
    by_cases z : q < (ahead i c t).length
    · refine ⟨by omega, ?_⟩
      rw [List.getD_eq_getElem?_getD, List.getElem?_append_left z, ← List.getD_eq_getElem?_getD, walk_lt z]
    · have h2 : q - (ahead i c t).length < k * (ahead i c (t + (took i c : Int))).length := by
        rw [el]
        rw [Nat.succ_mul] at h
        omega
      obtain ⟨r1, r2⟩ := rep_walk h2
      refine ⟨by omega, ?_⟩
      rw [List.getD_eq_getElem?_getD, List.getElem?_append_right (by omega), ← List.getD_eq_getElem?_getD, r2, e, walk_shift l0]
      have := walk_add (l := ahead i c t) (r := (took i c : Int)) l0 (q - (ahead i c t).length)
      rw [show q - (ahead i c t).length + (ahead i c t).length = q by omega] at this
      exact this.symm
theorem rep_none {i : Nat} {c : List Deed} (h : ∀ t, ahead i c t = []) : ∀ {k : Nat} {t : Int}, ahead i (rep c k) t = []
  | 0, _ => rfl
  | k + 1, t => by simp only [rep]; rw [ahead_app, h, rep_none h]; rfl
/-- the need, place by place, as it comes by walking -/
theorem needT_at {i : Nat} {b c : List Deed} {k n : Nat} (hn : 1 ≤ n) (hk : n ≤ k) : at_ (needT i b c).1 (needT i b c).2.1 (needT i b c).2.2 n = (ahead i (b ++ rep c k) 0)[n - 1]? := by
  unfold needT
  dsimp only
  rw [ahead_app, Int.zero_add]
  by_cases h : n ≤ (ahead i b 0).length
  · unfold at_
    rw [if_pos h, List.getElem?_append_left (by omega), List.getD_eq_getElem?_getD, List.getElem?_eq_getElem (by omega)]
    rfl
  · rw [List.getElem?_append_right (by omega)]
    by_cases z : ahead i c (took i b : Int) = []
    · unfold at_
      rw [if_neg h, if_pos z, rep_none fun t => ahead_nil.mpr (ahead_nil.mp z)]
      rfl
    · have l0 := List.length_pos_iff.mpr z
      rw [at_loop z (by omega), if_neg z]
      have lt : n - 1 - (ahead i b 0).length < k * (ahead i c (took i b : Int)).length := Nat.lt_of_lt_of_le (show n - 1 - (ahead i b 0).length < k by omega) (Nat.le_mul_of_pos_right _ l0)
      obtain ⟨r1, r2⟩ := rep_walk lt
      rw [List.getElem?_eq_getElem r1]
      rw [List.getD_eq_getElem?_getD, List.getElem?_eq_getElem r1] at r2
      rw [show n - (ahead i b 0).length - 1 = n - 1 - (ahead i b 0).length by omega, ← r2]
      rfl
end NT
set_option Elab.async false
set_option linter.all false
set_option maxRecDepth 100000
set_option maxHeartbeats 4000000
/-! A comprehension over a list or a tuple; rows of deeds. -/
namespace NF
open PySem PySem.Spec PyProof.Rows L2 He RZ NT
theorem lc_row {K : PySem.W.Frag} {a : Addr} {xs : List V} {g : TG} {tt : TT} {te : TE} {vs : List Nat} {σ : L2.St} {H1 : Hp} {Qd : Addr → Hp → Prop} (hr : Row K H1 a xs) (Pv : Addr → Nat → Hp → Prop) (h0 : ∀ D, H1 D = none → Pv D 0 (upd H1 D (.lst [])))
    (hl : ∀ D i H, H1 D = none → Pv D i H → Same H1 H)
    (hs : ∀ D, H1 D = none → ∀ i x H, xs[i]? = some x → Pv D i H → g x (wipe σ vs) H fun σ2 H2 => wipe σ2 vs = wipe σ vs ∧ tt σ2 H2 fun b H3 =>
      if b = true then te σ2 H3 fun y H4 => ∃ acc, H4 D = some (.lst acc) ∧ acc.length < sizeLine ∧ Pv D (i + 1) (upd H4 D (.lst (acc ++ [y]))) else Pv D (i + 1) H3) (hd : ∀ D, H1 D = none → ∀ H, Pv D xs.length H → Qd D H) :
    ((∃ xs, SqL K H1 a xs) ∧ ∀ D, H1 D = none → ∃ W : Nat → Nat → Hp → Prop, (∃ m, W 0 m (upd H1 D (.lst []))) ∧ ∀ i m H, W i m H →
      ((Itl K a).stop i H ∧ Qd D H) ∨ ((Itl K a).go i H ∧ ∃ Nx : Hp → Prop, (∀ H', Nx H' → ∃ m', m' < m ∧ W (i + 1) m' H') ∧ ∀ x H', (Itl K a).yld i H x H' → g x (wipe σ vs) H' fun σ2 H2 => wipe σ2 vs = wipe σ vs ∧ tt σ2 H2 fun b H3 =>
        if b = true then te σ2 H3 fun y H4 => ∃ acc, H4 D = some (.lst acc) ∧ acc.length < sizeLine ∧ Nx (upd H4 D (.lst (acc ++ [y]))) else Nx H3)) ∨
    ((∃ xs, SqT K H1 a xs) ∧ ∀ D, H1 D = none → ∃ W : Nat → Nat → Hp → Prop, (∃ m, W 0 m (upd H1 D (.lst []))) ∧ ∀ i m H, W i m H →
      ((Itt K a).stop i H ∧ Qd D H) ∨ ((Itt K a).go i H ∧ ∃ Nx : Hp → Prop, (∀ H', Nx H' → ∃ m', m' < m ∧ W (i + 1) m' H') ∧ ∀ x H', (Itt K a).yld i H x H' → g x (wipe σ vs) H' fun σ2 H2 => wipe σ2 vs = wipe σ vs ∧ tt σ2 H2 fun b H3 =>
        if b = true then te σ2 H3 fun y H4 => ∃ acc, H4 D = some (.lst acc) ∧ acc.length < sizeLine ∧ Nx (upd H4 D (.lst (acc ++ [y]))) else Nx H3)) := by
  rcases hr with hr | hr
  · exact .inl ⟨⟨_, hr⟩, fun D hD => lc_list (Pv D) (h0 D hD) (fun i H _ p => L2.Same.seq (hl D i H hD p) hr) (hs D hD) (hd D hD)⟩
  · exact .inr ⟨⟨_, hr⟩, fun D hD => lc_tup (Pv D) (h0 D hD) (fun i H _ p => NF.Same.tup (hl D i H hD p) hr) (hs D hD) (hd D hD)⟩
theorem for_rowM {K : PySem.W.Frag} {a : Addr} {xs : List V} {g : TG} {tb : TS} {D : Ends} {σ : L2.St} {H H0 : Hp} (hr : Row K H0 a xs) (Pv : Nat → L2.St → Hp → Prop) (h0 : Pv 0 σ H) (hm : ∀ i σ H', Pv i σ H' → Same H0 H')
    (hs : ∀ i x σ H, xs[i]? = some x → Pv i σ H → g x σ H fun σ2 H2 => tb { D with nx := Pv (i + 1), ct := Pv (i + 1), bk := D.nx } σ2 H2) (hd : ∀ σ H, Pv xs.length σ H → D.nx σ H) :
    ((∃ xs, SqL K H a xs) ∧ (∃ W : Nat → Nat → L2.St → Hp → Prop, (∃ m, W 0 m σ H) ∧ ∀ i m σ H, W i m σ H →
      ((Itl K a).stop i H ∧ D.nx σ H) ∨ ((Itl K a).go i H ∧ ∃ N : L2.St → Hp → Prop, (∀ σ' H', N σ' H' → ∃ m', m' < m ∧ W (i + 1) m' σ' H') ∧ ∀ x H', (Itl K a).yld i H x H' → g x σ H' fun σ2 H2 => tb { D with nx := N, ct := N, bk := D.nx } σ2 H2))) ∨
    ((∃ xs, SqT K H a xs) ∧ (∃ W : Nat → Nat → L2.St → Hp → Prop, (∃ m, W 0 m σ H) ∧ ∀ i m σ H, W i m σ H →
      ((Itt K a).stop i H ∧ D.nx σ H) ∨ ((Itt K a).go i H ∧ ∃ N : L2.St → Hp → Prop, (∀ σ' H', N σ' H' → ∃ m', m' < m ∧ W (i + 1) m' σ' H') ∧ ∀ x H', (Itt K a).yld i H x H' → g x σ H' fun σ2 H2 => tb { D with nx := N, ct := N, bk := D.nx } σ2 H2))) := by
  rcases hr with hr | hr
  · exact .inl ⟨⟨_, L2.Same.seq (hm 0 σ H h0) hr⟩, for_list Pv h0 (fun i σ H' _ p => L2.Same.seq (hm i σ H' p) hr) hs hd⟩
  · exact .inr ⟨⟨_, NF.Same.tup (hm 0 σ H h0) hr⟩, for_tup Pv h0 (fun i σ H' _ p => NF.Same.tup (hm i σ H' p) hr) hs hd⟩
theorem cr_tupK {X : Cx} {K : PySem.W.Frag} (h : X.K = K := by rfl) : CallR X (.type "tuple") (rTupOf K) := h ▸ cr_tup
theorem call_list_ofK {X : Cx} {K : PySem.W.Frag} (h : X.K = K := by rfl) : CallR X (.type "list") (fun xs H Q => ∃ p ys, xs = [.ref p] ∧ (SqL K H p ys ∨ SqT K H p ys) ∧ ∀ l, H l = none → Q (.ref l) (upd H l (.lst ys))) := h ▸ call_list_of
theorem call_isiK {X : Cx} {K : PySem.W.Frag} (h : X.K = K := by rfl) : CallR X (.builtin "isinstance") (rIsi K) := h ▸ call_isi
/-- a deed -/
def dV : Deed → V
  | none => .str "give"
  | some i => .int (i : Int)
theorem dV_give {d : Deed} : decide (dV d = V.str "give") = d.isNone := by
  cases d with
  | none => exact decide_eq_true rfl
  | some i => exact decide_eq_false fun z => by cases z
theorem dV_int {j i : Nat} : decide (dV (some j) = V.int (i : Int)) = decide (j = i) := by
  by_cases h : j = i
  · subst h
    rw [decide_eq_true rfl]
    exact decide_eq_true rfl
  · rw [decide_eq_false h]
    exact decide_eq_false fun z => h (by injection z with z; omega)
theorem dV_scal {d : Deed} {s : Str} : scal (dV d) (.str s) = true := by cases d <;> rfl
theorem dV_scalI {d : Deed} {i : Int} : scal (dV d) (.int i) = true := by cases d <;> rfl
/-- rows of deeds, each one at its own address -/
def WaysR (K : PySem.W.Frag) (H : Hp) (pw : Addr) (ws : List (List Deed)) : Prop := ∃ as : List Addr, Row K H pw (as.map V.ref) ∧ as.length = ws.length ∧ ∀ (j : Nat) (a : Addr) (w : List Deed), as[j]? = some a → ws[j]? = some w → Row K H a (w.map dV)
def WaysT (K : PySem.W.Frag) (H : Hp) (pw : Addr) (ws : List (List Deed)) : Prop := ∃ as : List Addr, SqT K H pw (as.map V.ref) ∧ as.length = ws.length ∧ ∀ (j : Nat) (a : Addr) (w : List Deed), as[j]? = some a → ws[j]? = some w → SqT K H a (w.map dV)
theorem WaysT.r {K : PySem.W.Frag} {H : Hp} {pw : Addr} {ws : List (List Deed)} (h : WaysT K H pw ws) : WaysR K H pw ws := by
  obtain ⟨as, h1, h2, h3⟩ := h
  exact ⟨as, .inr h1, h2, fun j a w e1 e2 => .inr (h3 j a w e1 e2)⟩
theorem WaysR.mono {K : PySem.W.Frag} {H H' : Hp} {pw : Addr} {ws : List (List Deed)} (h : WaysR K H pw ws) (s : Same H H') : WaysR K H' pw ws := by
  obtain ⟨as, h1, h2, h3⟩ := h
  exact ⟨as, h1.mono s, h2, fun j a w e1 e2 => (h3 j a w e1 e2).mono s⟩
theorem WaysT.mono {K : PySem.W.Frag} {H H' : Hp} {pw : Addr} {ws : List (List Deed)} (h : WaysT K H pw ws) (s : Same H H') : WaysT K H' pw ws := by
  obtain ⟨as, h1, h2, h3⟩ := h
  exact ⟨as, NF.Same.tup s h1, h2, fun j a w e1 e2 => NF.Same.tup s (h3 j a w e1 e2)⟩
end NF
set_option Elab.async false
set_option linter.all false
set_option maxRecDepth 100000
set_option maxHeartbeats 4000000
/-! Deep == of rows of anything that is equal only to itself. -/
namespace NF
open PySem PySem.Spec PyProof.Rows L2 He RZ NT
theorem iteT' {b : Bool} {A B : Prop} (e : b = true) (h : A) : if b = true then A else B := by rw [e]; exact iteT h
theorem iteF' {b : Bool} {A B : Prop} (e : b = false) (h : B) : if b = true then A else B := by rw [e]; exact iteF h
theorem eqv_map {α : Type} [DecidableEq α] {f : α → PyData} (h : ∀ a b, PyData.eqv (f a) (f b) = decide (a = b)) : ∀ a b : List α, PyData.eqvAll (a.map f) (b.map f) = decide (a = b)
  | [], [] => rfl
  | [], _ :: _ => rfl
  | _ :: _, [] => rfl
  | x :: a, y :: b => by
    show (PyData.eqv (f x) (f y) && PyData.eqvAll (a.map f) (b.map f)) = _
    rw [eqv_map h a b, h]
    by_cases h1 : x = y <;> by_cases h2 : a = b <;> simp [h1, h2]
theorem lay_map {α : Type} {f : α → PyData} : ∀ (l : List α), (∀ a ∈ l, PyData.canLay0 (f a) = true) → PyData.canLayAll0 (l.map f) = true
  | [], _ => rfl
  | a :: l, h => by
    show (PyData.canLay0 (f a) && PyData.canLayAll0 (l.map f)) = true
    rw [h a List.mem_cons_self, lay_map l fun b hb => h b (List.mem_cons_of_mem _ hb)]
    rfl
theorem depth_map {α : Type} {f : α → PyData} {n : Nat} : ∀ (l : List α), (∀ a ∈ l, PyData.depth (f a) ≤ n) → PyData.depthAll (l.map f) ≤ n
  | [], _ => Nat.zero_le _
  | a :: l, h => by
    show max (PyData.depth (f a)) (PyData.depthAll (l.map f)) ≤ n
    have := h a List.mem_cons_self
    have := depth_map l fun b hb => h b (List.mem_cons_of_mem _ hb)
    omega
theorem shaped_map {α : Type} {f : α → PyData} {n : Nat} (l : List α) (h1 : ∀ a ∈ l, PyData.canLay0 (f a) = true) (h2 : ∀ a ∈ l, PyData.depth (f a) ≤ n) (h3 : n ≤ 60) : SeqAt.shaped (.tuple (l.map f)) = true := by
  show (PyData.canLayAll0 (l.map f) && decide (PyData.depthAll (l.map f) + 1 ≤ 64)) = true
  rw [lay_map l h1, decide_eq_true (by have := depth_map l h2; omega)]
  rfl
/-- a deed as data -/
def dataD : Deed → PyData
  | none => .str "give"
  | some i => .int (i : Int)
theorem eqv_dP : ∀ a b : Deed, PyData.eqv (dataD a) (dataD b) = decide (a = b)
  | none, none => by decide
  | none, some _ => rfl
  | some _, none => rfl
  | some i, some j => by
    show ((i : Int) == (j : Int)) = _
    by_cases h : i = j
    · subst h
      simp
    · rw [decide_eq_false (fun z => h (by injection z))]
      exact beq_eq_false_iff_ne.mpr fun z => h (by omega)
theorem lay_dP (a : Deed) : PyData.canLay0 (dataD a) = true := by
  cases a with
  | none => decide +kernel
  | some i => rfl
theorem depth_dP (a : Deed) : PyData.depth (dataD a) ≤ 0 := by cases a <;> exact Nat.le_refl _
theorem dp_deeds {K : PySem.W.Frag} {H : Hp} : ∀ l : List Deed, DpAll K H (l.map dV) (l.map dataD)
  | [] => .nil
  | none :: l => .cons (.str _) (dp_deeds l)
  | some i :: l => .cons (.int _) (dp_deeds l)
def dataW (w : List Deed) : PyData := .tuple (w.map dataD)
theorem eqv_wP (a b : List Deed) : PyData.eqv (dataW a) (dataW b) = decide (a = b) := eqv_map eqv_dP a b
theorem lay_wP (a : List Deed) : PyData.canLay0 (dataW a) = true := lay_map a fun d _ => lay_dP d
theorem depth_wP (a : List Deed) : PyData.depth (dataW a) ≤ 1 := by
  show PyData.depthAll (a.map dataD) + 1 ≤ 1
  have := depth_map a fun d _ => depth_dP d
  omega
theorem shaped_wP (a : List Deed) : SeqAt.shaped (dataW a) = true := shaped_map a (fun d _ => lay_dP d) (fun d _ => depth_dP d) (by decide)
theorem dp_way {K : PySem.W.Frag} {H : Hp} {a : Addr} {w : List Deed} (h : SqT K H a (w.map dV)) : Dp K H (.ref a) (dataW w) := .tup h (dp_deeds w)
theorem dp_waysL {K : PySem.W.Frag} {H : Hp} : ∀ (as : List Addr) (ws : List (List Deed)), as.length = ws.length → (∀ (j : Nat) (a : Addr) (w : List Deed), as[j]? = some a → ws[j]? = some w → SqT K H a (w.map dV)) → DpAll K H (as.map V.ref) (ws.map dataW)
  | [], [], _, _ => .nil
  | [], _ :: _, h, _ => nomatch h
  | _ :: _, [], h, _ => nomatch h
  | a :: as, w :: ws, h, q => .cons (dp_way (q 0 a w rfl rfl)) (dp_waysL as ws (by simpa using h) fun j a' w' e1 e2 => q (j + 1) a' w' (by simpa using e1) (by simpa using e2))
def dataWs (ws : List (List Deed)) : PyData := .tuple (ws.map dataW)
theorem eqv_wsP (a b : List (List Deed)) : PyData.eqv (dataWs a) (dataWs b) = decide (a = b) := eqv_map eqv_wP a b
theorem shaped_wsP (a : List (List Deed)) : SeqAt.shaped (dataWs a) = true := shaped_map a (fun w _ => lay_wP w) (fun w _ => depth_wP w) (by decide)
theorem dp_ways {K : PySem.W.Frag} {H : Hp} {pw : Addr} {ws : List (List Deed)} (h : WaysT K H pw ws) : Dp K H (.ref pw) (dataWs ws) := by
  obtain ⟨as, h1, h2, h3⟩ := h
  exact .tup h1 (dp_waysL as ws h2 h3)
theorem eqD_deeds {K : PySem.W.Frag} {H : Hp} {a b : Addr} {x y : List Deed} {Q : VK} (hx : SqT K H a (x.map dV)) (hy : SqT K H b (y.map dV)) (q : Q (.bl (decide (x = y))) H) : rEqD K (.ref a) (.ref b) H Q :=
  ⟨_, _, dp_way hx, dp_way hy, shaped_wP x, shaped_wP y, by rw [eqv_wP]; exact q⟩
theorem eqD_ways {K : PySem.W.Frag} {H : Hp} {a b : Addr} {x y : List (List Deed)} {Q : VK} (hx : WaysT K H a x) (hy : WaysT K H b y) (q : Q (.bl (decide (x = y))) H) : rEqD K (.ref a) (.ref b) H Q :=
  ⟨_, _, dp_ways hx, dp_ways hy, shaped_wsP x, shaped_wsP y, by rw [eqv_wsP]; exact q⟩
end NF
set_option Elab.async false
set_option linter.all false
set_option maxRecDepth 100000
set_option maxHeartbeats 4000000
/-! Things of any kind as data: what a maker, a course, a number of an inlet may be. -/
namespace NF
open PySem PySem.Spec PyProof.Rows L2 He RZ NT
section
variable {K : PySem.W.Frag} {H H' : Hp}
mutual
theorem dp_mono (s : Same H H') : ∀ (d : PyData) {v : V}, Dp K H v d → Dp K H' v d
  | .none, _, .non => .non
  | .bool _, _, .bl _ => .bl _
  | .int _, _, .int _ => .int _
  | .str _, _, .str _ => .str _
  | .list ds, _, .lst h a => .lst (L2.Same.seq s h) (dpall_mono s ds a)
  | .tuple ds, _, .tup h a => .tup (NF.Same.tup s h) (dpall_mono s ds a)
theorem dpall_mono (s : Same H H') : ∀ (ds : List PyData) {xs : List V}, DpAll K H xs ds → DpAll K H' xs ds
  | [], _, .nil => .nil
  | d :: ds, _, .cons h a => .cons (dp_mono s d h) (dpall_mono s ds a)
end
theorem dpall_len : ∀ {xs : List V} {ds : List PyData}, DpAll K H xs ds → xs.length = ds.length
  | _, _, .nil => rfl
  | _, _, .cons _ a => congrArg (· + 1) (dpall_len a)
theorem dpall_get : ∀ {xs : List V} {ds : List PyData}, DpAll K H xs ds → ∀ {j : Nat} {v : V} {d : PyData}, xs[j]? = some v → ds[j]? = some d → Dp K H v d
  | _, _, .cons h _, 0, _, _, e1, e2 => by
    cases e1
    cases e2
    exact h
  | _, _, .cons _ a, j + 1, _, _, e1, e2 => dpall_get a (j := j) (by simpa using e1) (by simpa using e2)
theorem dpall_app : ∀ {xs ys : List V} {ds es : List PyData}, DpAll K H xs ds → DpAll K H ys es → DpAll K H (xs ++ ys) (ds ++ es)
  | _, _, _, _, .nil, b => b
  | _, _, _, _, .cons h a, b => .cons h (dpall_app a b)
def isIntP : PyData → Bool
  | .int _ => true
  | _ => false
def isCntP : PyData → Bool
  | .int i => decide (0 ≤ i)
  | _ => false
def rowP : PyData → Option (List PyData)
  | .list l => some l
  | .tuple l => some l
  | _ => none
def itemsP (d : PyData) : List PyData := (rowP d).getD []
/-- a deed of a maker with n inlets -/
def okDP (n : Int) : PyData → Bool
  | .str s => decide (V.str s = V.str "give")
  | .int i => decide (0 ≤ i) && decide (i < n)
  | _ => false
def okDsP (n : Int) (d : PyData) : Bool := (rowP d).isSome && (itemsP d).all (okDP n)
def okWP (n : Int) (w : PyData) : Bool := okDsP n w && decide (0 < (itemsP w).length)
def okWsP (n : Int) (d : PyData) : Bool := (rowP d).isSome && (decide (1 ≤ (itemsP d).length) && decide ((itemsP d).length ≤ 4)) && (itemsP d).all (okWP n)
def mostP (dw : PyData) : Nat := if (itemsP dw).length = 1 then 600 else 24
def tooP (db dw : PyData) : Bool := decide (600 < (itemsP db).length) || (itemsP dw).any fun w => decide (mostP dw < (itemsP w).length)
def okNP : PyData → Bool
  | .int n => decide (1 ≤ n) && decide (n ≤ 3)
  | _ => false
def numP : PyData → Int
  | .int n => n
  | _ => 0
/-- the word that is due for a maker -/
def dueM (di db dw : PyData) : Option Str :=
  if okNP di = false then some "inlets" else if okDsP (numP di) db = false then some "begin" else if okWsP (numP di) dw = false then some "ways" else if tooP db dw = true then some "deed" else none
def wordO : Option Str → V
  | none => .non
  | some x => .str x
theorem dp_row {v : V} {d : PyData} {l : List PyData} (h : Dp K H v d) (e : rowP d = some l) : ∃ a xs, v = .ref a ∧ Row K H a xs ∧ DpAll K H xs l ∧ itemsP d = l := by
  cases h with
  | lst h a =>
    cases e
    exact ⟨_, _, rfl, .inl h, a, rfl⟩
  | tup h a =>
    cases e
    exact ⟨_, _, rfl, .inr h, a, rfl⟩
  | _ => cases e
/-- how big rows within rows are -/
def Few2 (d : PyData) : Prop := (itemsP d).length ≤ 10000 ∧ ∀ w ∈ itemsP d, (itemsP w).length ≤ 10000
def spIntP (K : PySem.W.Frag) : Sp := fun vs H Q _ => ∃ v d, vs = [v] ∧ Dp K H v d ∧ Q (.bl (isIntP d)) H
def spCntP (K : PySem.W.Frag) : Sp := fun vs H Q _ => ∃ v d, vs = [v] ∧ Dp K H v d ∧ Q (.bl (isCntP d)) H
def spRowP (K : PySem.W.Frag) : Sp := fun vs H Q _ => ∃ v d, vs = [v] ∧ Dp K H v d ∧ ∀ H', Same H H' → Q (.bl (rowP d).isSome) H'
def spDeedP (K : PySem.W.Frag) : Sp := fun vs H Q _ => ∃ v d n, vs = [v, .int n] ∧ Dp K H v d ∧ Q (.bl (okDP n d)) H
def spDeedsP (K : PySem.W.Frag) : Sp := fun vs H Q _ => ∃ v d n, vs = [v, .int n] ∧ Dp K H v d ∧ (itemsP d).length ≤ 10000 ∧ ∀ H', Same H H' → Q (.bl (okDsP n d)) H'
def spWaysP (K : PySem.W.Frag) : Sp := fun vs H Q _ => ∃ v d n, vs = [v, .int n] ∧ Dp K H v d ∧ Few2 d ∧ ∀ H', Same H H' → Q (.bl (okWsP n d)) H'
theorem kit_tu_s (K : PySem.W.Frag) : PySem.W.kitOne K (.type "tuple") (.type "str") = some false := by kernel_rfl
theorem kit_li_s (K : PySem.W.Frag) : PySem.W.kitOne K (.type "list") (.type "str") = some false := by kernel_rfl
/-- the type of a thing -/
def tyP : PyData → String
  | .none => "NoneType"
  | .bool _ => "bool"
  | .int _ => "int"
  | .str _ => "str"
  | .list _ => "list"
  | .tuple _ => "tuple"
  | .dict _ => "dict"
theorem dp_ty {v : V} {d : PyData} (h : Dp K H v d) : TyX K H v (.type (tyP d)) := by
  cases h with
  | non => exact .base .non
  | bl b => exact .base (.bl b)
  | int i => exact .base (.int i)
  | str x => exact .base (.str x)
  | lst h _ => exact tyx_lst h
  | tup h _ => exact tyx_tup h
theorem kit_p_int (K : PySem.W.Frag) (d : PyData) : PySem.W.kitOne K (.type (tyP d)) (.type "int") = some (match d with | .int _ => true | .bool _ => true | _ => false) := by
  cases d <;> first | exact if_pos (by decide +kernel) | kernel_rfl
theorem kit_p_bool (K : PySem.W.Frag) (d : PyData) : PySem.W.kitOne K (.type (tyP d)) (.type "bool") = some (match d with | .bool _ => true | _ => false) := by
  cases d <;> first | exact if_pos (by decide +kernel) | kernel_rfl
theorem kit_p_str (K : PySem.W.Frag) (d : PyData) : PySem.W.kitOne K (.type (tyP d)) (.type "str") = some (match d with | .str _ => true | _ => false) := by
  cases d <;> first | exact if_pos (by decide +kernel) | kernel_rfl
theorem kit_p_row (K : PySem.W.Frag) (d : PyData) : PySem.W.kitAny K (.type (tyP d)) [.type "tuple", .type "list"] = some (rowP d).isSome := by
  cases d <;> kernel_rfl
end
/-- two promises of one def: what the one lets, or what the other refuses -/
def spOr (a b : Sp) : Sp := fun vs H Q E => a vs H Q E ∨ b vs H Q E
theorem FnOk.or {P : Program} {w : World} {K : PySem.W.Frag} {mg : Str → Option Value} {base : Heap} {k1 k2 k : Nat} {f : Addr} {fd : FuncData} {ps : List Str} {sp1 sp2 : Sp} (F1 : FnOk P w K mg base CX0 k1 f fd ps sp1) (F2 : FnOk P w K mg base (L2.CX P w) k2 f fd ps sp2) (h1 : k1 ≤ k) (h2 : k2 ≤ k) : FnOk P w K mg base (L2.CX P w) k f fd ps (spOr sp1 sp2) := by
  refine ⟨fun vs H Q E h => h.elim (F1.len vs H Q E) (F2.len vs H Q E), fun A outer s H args us vs Q E hr e b v h => ?_⟩
  rcases h with h | h
  · refine codeAny_mono (F1.run A outer s H args us vs Q E (hr.mono h1) e b v h) fun r s' hq => ?_
    cases r with
    | error e => exact hq.elim
    | ok fl => cases fl <;> exact hq
  · exact F2.run A outer s H args us vs Q E (hr.mono h2) e b v h
end NF
set_option Elab.async false
set_option linter.all false
set_option maxRecDepth 100000
set_option maxHeartbeats 4000000
/-! list.extend of a tuple, t[::-1] of a list or a tuple, list.count of flat things, tuple(dict), f'{i:+d}'. -/
namespace NF
open PySem PySem.Spec PyProof.Rows L2 He RZ
theorem ext_tup (l : Addr) (xs : Array Value) (n : Nat) (b : Addr) (ys : Array Value) (n2 : Nat) (dd : Option Addr) (sl : Array (Option Value))
    (door : ¬(!xs.isEmpty && Builtin.List.listTooLong (xs.size + ys.size)) = true) (h1 : xs.size ≤ sizeLine) (h2 : xs.size + ys.size ≤ sizeLine + 1) :
    Meets (Builtin.«list.extend» ⟨[.ref l, .ref b], []⟩) (fun _ R s => s.heap.get? l = some { cls := .type "list", dict := none, data := .seq xs n, slots := #[] } ∧ s.heap.get? b = some { cls := .type "tuple", dict := dd, data := .seq ys n2, slots := sl } ∧
      R (.ok (.ret Value.none)) { s with heap := s.heap.update l (Obj.mapSeq fun x => x ++ ys), toks := s.toks }) :=
  .of_wp fun prog w A R s h => by
    obtain ⟨hp, g, d, tk, os⟩ := s
    obtain ⟨hl, hb, h⟩ := h
    have f1 := AutoSeq1.idx_int
    have f2 := AutoSeq1.sub_tuple_tuple
    have f3 := AutoSeq1.sub_list_list
    have f4 := AutoSeq1.sub_tuple_list
    have f5 := AutoSeq1.sub_list_tuple
    have hz : (xs ++ ys).size ≤ sizeLine + 1 := by
      rw [Array.size_append]
      exact h2
    wp_walk using (wpAny_updateSeq hl rfl (hz := h1) (_hz' := hz)), wpAny_loadPart' hl, wpAny_loadPart' hb
    exact ⟨_, rfl, h⟩
theorem ext_lst (l : Addr) (xs : Array Value) (n : Nat) (b : Addr) (ys : Array Value) (n2 : Nat) (dd : Option Addr) (sl : Array (Option Value))
    (door : ¬(!xs.isEmpty && Builtin.List.listTooLong (xs.size + ys.size)) = true) (h1 : xs.size ≤ sizeLine) (h2 : xs.size + ys.size ≤ sizeLine + 1) :
    Meets (Builtin.«list.extend» ⟨[.ref l, .ref b], []⟩) (fun _ R s => s.heap.get? l = some { cls := .type "list", dict := none, data := .seq xs n, slots := #[] } ∧ s.heap.get? b = some { cls := .type "list", dict := dd, data := .seq ys n2, slots := sl } ∧
      R (.ok (.ret Value.none)) { s with heap := s.heap.update l (Obj.mapSeq fun x => x ++ ys), toks := s.toks }) :=
  .of_wp fun prog w A R s h => by
    obtain ⟨hp, g, d, tk, os⟩ := s
    obtain ⟨hl, hb, h⟩ := h
    have f1 := AutoSeq1.idx_int
    have f2 := AutoSeq1.sub_tuple_tuple
    have f3 := AutoSeq1.sub_list_list
    have f4 := AutoSeq1.sub_tuple_list
    have f5 := AutoSeq1.sub_list_tuple
    have hz : (xs ++ ys).size ≤ sizeLine + 1 := by
      rw [Array.size_append]
      exact h2
    wp_walk using (wpAny_updateSeq hl rfl (hz := h1) (_hz' := hz)), wpAny_loadPart' hl, wpAny_loadPart' hb
    exact ⟨_, rfl, h⟩
section
variable {prog : Program} {w : World} {A : Around} {E : Value → Shared → Prop} {s : Shared}
theorem applied_rev {sl : Addr} {u : Tok} {n : Nat} {Q : Int × Int × Nat → Shared → Prop} (hs : s.heap.IsSliceOf sl .none .none (.int (-1) u)) (h : Q ((n : Int) - 1, -1, n) s) :
    wpAny (model prog w) A (Builtin.Slice.sliceApplied (.ref sl) (pure (n : Int))) Q E s := by
  obtain ⟨os, hos, hcs, hds⟩ := id hs
  unfold Builtin.Slice.sliceApplied Builtin.Slice.sliceFields
  refine wpAny_bind (wpAny_bind (wpAny_field hos hds (x := .none) rfl (wpAny_bind (wpAny_field hos hds (x := .none) rfl (wpAny_bind (wpAny_field hos hds (x := .int (-1) u) rfl
    (wpAny_pure ?_)))))))
  refine wpAny_bind (slicePart_int ?_)
  show wpAny _ _ (if ((-1 : Int) == 0) = true then _ else _) _ _ s
  rw [if_neg (by decide)]
  refine wpAny_bind (slicePart_none (wpAny_bind (slicePart_none (wpAny_bind (wpAny_pure ?_)))))
  have e : Builtin.Slice.slicePlaces ((n : Int) - 1) (-1) (-1) = n := by
    unfold Builtin.Slice.slicePlaces
    rw [if_neg (by decide)]
    by_cases c : (n : Int) - 1 > -1
    · rw [if_pos c, show (-(-1) : Int) = 1 from rfl, Int.ediv_one]
      omega
    · rw [if_neg c]
      omega
  show wpAny _ _ (pure ((n : Int) - 1, (-1 : Int), Builtin.Slice.slicePlaces ((n : Int) - 1) (-1) (-1))) _ _ s
  rw [e]
  exact wpAny_pure h
theorem fm_congr {α β : Type} {f g : α → Option β} : ∀ {l : List α}, (∀ x ∈ l, f x = g x) → l.filterMap f = l.filterMap g
  | [], _ => rfl
  | a :: l, h => by rw [List.filterMap_cons, List.filterMap_cons, h a List.mem_cons_self, fm_congr fun x hx => h x (List.mem_cons_of_mem _ hx)]
theorem pick_rev (xs : Array Value) : ((List.range xs.size).filterMap fun (m : Nat) => xs[((xs.size : Int) - 1 + (m : Int) * (-1)).toNat]?).toArray = xs.toList.reverse.toArray := by
  congr 1
  rw [← PySem.W.krv_all xs, ← List.filterMap_reverse, ← PySem.W.krv_range, List.filterMap_map]
  refine fm_congr fun m hm => ?_
  have := List.mem_range.mp hm
  show xs[((xs.size : Int) - 1 + (m : Int) * (-1)).toNat]? = xs[xs.size - 1 - m]?
  rw [show ((xs.size : Int) - 1 + (m : Int) * (-1)).toNat = xs.size - 1 - m by omega]
theorem item_tup_rev {t sl : Addr} {u : Tok} {items : Array Value} {Q : Value → Shared → Prop} (ht : IsTup s.heap t items) (hs : s.heap.IsSliceOf sl .none .none (.int (-1) u))
    (h : Q (.ref s.heap.objs.size) { s with heap := s.heap.push { cls := .type "tuple", data := .seq items.toList.reverse.toArray } }) (hsz : items.size ≤ sizeLine) : wpAny (model prog w) A (getItem (.ref t) (.ref sl)) Q E s := by
  have room : sizeOk (.seq items.toList.reverse.toArray) := by
    show items.toList.reverse.toArray.size ≤ sizeLine
    rw [List.size_toArray, List.length_reverse, Array.length_toList]
    exact hsz
  obtain ⟨os, hos, hcs, hds⟩ := id hs
  unfold getItem
  try with_reducible refine wpAny_holding ?_
  first
    | refine wpAny_bind (wpAny_pure ?_)
    | skip
  refine wpAny_bind (wpAny_sequenceKey ht.typeIs (by decide) ?_)
  refine wpAny_bind (wpAny_callSpecial?_slot (name := Str.ofString "__getitem__") ht.typeIs PyProof.Rows.slot_tuple_getitem (wpAny_call_entry PyProof.Rows.slot_tuple_getitem ht.typeIs
    entry_tuple_getitem ?_ (args_tuple_getitem _ _)))
  show wpAny _ _ (Builtin.Tuple.tupleItemsOf (.ref t) >>= _) _ _ s
  refine wpAny_bind (tupleItemsOf_ ht ?_)
  refine wpAny_bind (wpAny_typeOf (show s.TypeIs (.ref sl) "slice" from ⟨os, hos, hcs⟩) ?_)
  rw [if_pos (by decide)]
  refine wpAny_bind (applied_rev hs ?_)
  have no : ¬ (((items.size : Int) - 1 == 0 && (-1 : Int) == 1 && items.size == items.size) = true) := by
    rw [show ((-1 : Int) == 1) = false by decide, Bool.and_false, Bool.false_and]
    exact Bool.false_ne_true
  show wpAny _ _ (if ((items.size : Int) - 1 == 0 && (-1 : Int) == 1 && items.size == items.size) = true then _ else _) _ _ s
  rw [if_neg no, pick_rev]
  first
    | exact wpAny_bind (m := Builtin.Tuple.tupleExact _) (wpAny_newObj_type (wpAny_pure ⟨_, rfl, wpAny_pure h⟩) room)
    | exact wpAny_bind (m := Builtin.Tuple.tupleExact _) (wpAny_newObj_type (wpAny_bind (wpAny_pure (wpAny_pure ⟨_, rfl, wpAny_pure h⟩))) room)
    | exact wpAny_bind (wpAny_bind (m := Builtin.Tuple.tupleExact _) (wpAny_newObj_type (wpAny_pure (wpAny_pure ⟨_, rfl, wpAny_pure h⟩)) room))
    | exact wpAny_bind (wpAny_bind (m := Builtin.Tuple.tupleExact _) (wpAny_newObj_type (wpAny_pure ⟨_, rfl, wpAny_pure h⟩) room))
end
section
variable {X : Cx}
/-- t[::-1], t a list or a tuple -/
def rRevR (K : PySem.W.Frag) (x : V) (H : Hp) (Q : VK) : Prop := ∃ a xs, x = .ref a ∧ ((SqL K H a xs ∧ ∀ p, H p = none → Q (.ref p) (upd H p (.lst xs.reverse))) ∨ (SqT K H a xs ∧ ∀ p, H p = none → Q (.ref p) (upd H p (.tup xs.reverse))))
def tRevR (K : PySem.W.Frag) (te : TE) : TE := fun σ H Q => te σ H fun x H1 => rRevR K x H1 Q
theorem rev_done {K : PySem.W.Frag} {H : Hp} {a : Addr} {xs : List V} {Q : VK} (hr : Row K H a xs) (q : ∀ p H', Same H H' → Row K H' p xs.reverse → Q (.ref p) H') : rRevR K (.ref a) H Q :=
  ⟨a, xs, rfl, hr.elim (fun h => .inl ⟨h, fun p hp => q p _ (NF.Same.new (Same.refl H) hp) (.inl (SqL.of upd_same))⟩) fun h => .inr ⟨h, fun p hp => q p _ (NF.Same.new (Same.refl H) hp) (.inr (SqT.of upd_same))⟩⟩
theorem pe_revR {e : Expr} {te : TE} {k : Nat} {p1 p2 p3 pos : Pos} (he : PE X e te) : PE X (.Subscript e (.Slice none none (some (.UnaryOp .USub (.Constant (.int 1) k p1) p2)) p3) pos) (tRevR X.K te) := by
  refine ⟨fun pins s σ H Q I h => ?_⟩
  refine Subscript_ (thn (he.run pins s σ H _ I h) fun v s1 ⟨x, H1, I1, r1, q1⟩ => ?_)
  obtain ⟨a, xs, ex, q1⟩ := q1
  subst ex
  cases r1
  have one : PO X (some (.UnaryOp .USub (.Constant (.int 1) k p1) p2)) (tPart (tUn (rU fun i => .int (-i)) (tC (.int 1)))) := po_some (pe_un un_neg pe_int)
  refine wpAny_Slice (thn (po_none.run pins s1 σ H1 (fun o H2 => o = none ∧ H2 = H1) I1 ⟨rfl, rfl⟩) fun vl s2 ⟨l, H2, I2, pl, el, e2⟩ => ?_)
  subst el e2
  refine thn (po_none.run pins s2 σ H2 (fun o H3 => o = none ∧ H3 = H2) I2 ⟨rfl, rfl⟩) fun vu s3 ⟨u, H3, I3, pu, eu, e3⟩ => ?_
  subst eu e3
  refine thn (one.run pins s3 σ H3 (fun o H4 => o = some (-1) ∧ H4 = H3) I3 ⟨1, rfl, -1, rfl, rfl, rfl⟩) fun vs s4 ⟨o, H4, I4, ps, eo, e4⟩ => ?_
  subst eo e4
  have I5 : Inv X pins σ H4 { s4 with heap := s4.heap.push { cls := .type "slice", data := .fields #[vl, vu, vs] } } := I4.kept (t' := s4.toks) fun b ob q => Heap.get?_push_of_some _ q
  show wpAny (model X.prog X.w) X.A (subscriptTail e (.Slice none none (some (.UnaryOp .USub (.Constant (.int 1) k p1) p2)) p3) (.ref a) (.ref s4.heap.objs.size)) (EP X pins σ Q) X.xe { s4 with heap := s4.heap.push { cls := .type "slice", data := .fields #[vl, vu, vs] } }
  rcases q1 with ⟨hx, q⟩ | ⟨hx, q⟩
  · obtain ⟨its, r, ht, hz⟩ := I5.list hx
    have hlen := r.length
    refine tail_any (ops := [.ref a, .ref s4.heap.objs.size]) ht.isList.typeIs (PySem.slot_list_getitem.lookup) ?_ (by with_unfolding_all rfl)
    refine wpAny_getItem_list_slice ht.isList (Heap.IsSliceOf.new _ vl vu vs) pl pu ps (by decide) ?_ (by rw [List.size_toArray]; omega)
    rw [PySem.W.krv_pick]
    refine ⟨.ref _, _, I5.laid (t' := s4.toks) (o := .lst xs.reverse) (fun b ob q => Heap.get?_push_of_some _ q) (Nat.le_refl _) ?_, rfl, q _ (I5.hok.fresh (Nat.le_refl _))⟩
    exact ⟨by rw [List.length_reverse]; exact hz, _, 0, r.reverse, Heap.get?_push_size _ rfl⟩
  · obtain ⟨its, r, ht, hz⟩ := I5.tuple hx
    have hlen := r.length
    cases pl
    cases pu
    cases ps
    refine tail_any (ops := [.ref a, .ref s4.heap.objs.size]) ht.typeIs (PyProof.Rows.slot_tuple_getitem.lookup) ?_ (by with_unfolding_all rfl)
    refine item_tup_rev ht (Heap.IsSliceOf.new ..) ?_ (by rw [List.size_toArray]; omega)
    refine ⟨.ref _, _, I5.laid (t' := s4.toks) (o := .tup xs.reverse) (fun b ob q => Heap.get?_push_of_some _ q) (Nat.le_refl _) ?_, rfl, q _ (I5.hok.fresh (Nat.le_refl _))⟩
    exact ⟨by rw [List.length_reverse]; exact hz, _, r.reverse, IsTup.new _ _⟩
/-- xs.extend(ys), ys a list or a tuple -/
def rExtR (K : PySem.W.Frag) : V → List V → Hp → VK → Prop := fun x vs H Q => ∃ l b xs zs, x = .ref l ∧ vs = [.ref b] ∧ H l = some (.lst xs) ∧ (SqL K H b zs ∨ SqT K H b zs) ∧ xs.length + zs.length ≤ sizeLine ∧ Q .non (upd H l (.lst (xs ++ zs)))
theorem mt_extR : MtM X "list.extend" (rExtR X.K) := by
  intro pins s σ H x vs v us Q I rx rv h
  obtain ⟨l, b, xs, zs, rfl, rfl, hH, hB, hz, q⟩ := h
  cases rx
  obtain ⟨u, rfl, ru⟩ := rv.one
  cases ru
  obtain ⟨z, its, n, r, hl, e⟩ := I.lstM hH
  rcases hB with hB | hB
  · obtain ⟨its2, r2, ⟨⟨cls, dd, data, sl⟩, n2, ho, hc, hdn, hd⟩, hlen⟩ := I.list hB
    simp only at hc hd
    subst hc hd
    have l2 := r2.length
    have tot : its.toArray.size + its2.toArray.size ≤ sizeLine := by
      rw [List.size_toArray, List.size_toArray]
      omega
    refine call_meets PySem.F.slot_list_extend ⟨_, e, rfl⟩ PySem.F.entry_list_extend (PySem.F.args_list_extend_2 _ _)
      (ext_lst l its.toArray n b its2.toArray n2 dd sl (by rw [notLongL tot, Bool.and_false]; exact Bool.false_ne_true) (by rw [List.size_toArray]; omega) (by omega)) ⟨e, ho, ?_⟩
    refine ⟨.non, _, I.lset (its' := its ++ its2) hH e (by simp) (r.append r2) ?_, rfl, q⟩
    rw [List.length_append]
    omega
  · obtain ⟨its2, r2, ⟨⟨cls, dd, data, sl⟩, ho, hc, n2, hd⟩, hlen⟩ := I.tuple hB
    simp only at hc hd
    subst hc hd
    have l2 := r2.length
    have tot : its.toArray.size + its2.toArray.size ≤ sizeLine := by
      rw [List.size_toArray, List.size_toArray]
      omega
    refine call_meets PySem.F.slot_list_extend ⟨_, e, rfl⟩ PySem.F.entry_list_extend (PySem.F.args_list_extend_2 _ _)
      (ext_tup l its.toArray n b its2.toArray n2 dd sl (by rw [notLongL tot, Bool.and_false]; exact Bool.false_ne_true) (by rw [List.size_toArray]; omega) (by omega)) ⟨e, ho, ?_⟩
    refine ⟨.non, _, I.lset (its' := its ++ its2) hH e (by simp) (r.append r2) ?_, rfl, q⟩
    rw [List.length_append]
    omega
/-- xs.count(y) of flat things -/
def rCntF (K : PySem.W.Frag) : V → List V → Hp → VK → Prop := fun x xs H Q => ∃ (p : Addr) (ys : List V) (y : V), x = .ref p ∧ xs = [y] ∧ SqL K H p ys ∧ flatV y = true ∧ ys.all flatV = true ∧ Q (.int (ys.countP (eqV · y) : Nat)) H
theorem cnt_flat {y : V} : ∀ {ys : List V} {us : List Value}, Vals ys us → ys.all flatV = true → us.countP (eqU y) = ys.countP (eqV · y)
  | _, _, .nil, _ => rfl
  | z :: zs, u :: us, .cons r t, f => by
    rw [List.all_cons, Bool.and_eq_true] at f
    rw [List.countP_cons, List.countP_cons, cnt_flat t f.2, eqU_of r f.1]
theorem mt_cntF : MtR X "list.count" (rCntF X.K) := by
  intro pins s σ H x xs v us Q I rx rxs h
  obtain ⟨p, ys, y, rfl, rfl, hs, fy, fys, q⟩ := h
  cases rx
  obtain ⟨u, rfl, ru⟩ := rxs.one
  obtain ⟨its, rv, ⟨⟨cls, dd, data, sl⟩, n, ho, hc, hdn, hd⟩, hlen⟩ := I.list hs
  simp only at hc hd
  subst hc hd
  refine call_meets PySem.F.slot_list_count ⟨_, ho, rfl⟩ PySem.F.entry_list_count (PySem.F.args_list_count_2 _ _)
    (SeqAt.list_countAt p its.toArray n dd sl u (eqU y)) ⟨ho, fun u' hu' => mem_eqAt ru fy rv fys u' (by simpa using hu'), ?_⟩
  refine ⟨.int (ys.countP (eqV · y) : Nat), H, I.tok _, ⟨s.toks, ?_⟩, q⟩
  show Value.int ((its.toArray.toList.countP (eqU y) : Nat) : Int) s.toks = _
  rw [show its.toArray.toList = its by simp, cnt_flat rv fys]
end
end NF
set_option Elab.async false
set_option linter.all false
set_option maxRecDepth 100000
set_option maxHeartbeats 4000000
/-! Terms as data: tuples or lists of words, names, shifts. -/
namespace NF
open PySem PySem.Spec PyProof.Rows L2 He RZ TT
/-- a text of code points -/
def tx (l : List Nat) : Str := ⟨l.toArray⟩
theorem tx_cps (l : List Nat) : (tx l).cps.toList = l := by simp [tx]
theorem tx_len (l : List Nat) : (tx l).length = l.length := by
  show (l.toArray).size = l.length
  simp
theorem tx_inj {a b : List Nat} (h : tx a = tx b) : a = b := by
  rw [← tx_cps a, h, tx_cps]
theorem tx_app (a b : List Nat) : tx a ++ tx b = tx (a ++ b) := by
  show (⟨a.toArray ++ b.toArray⟩ : Str) = ⟨(a ++ b).toArray⟩
  simp
theorem tx_of (s : Str) : s = tx s.cps.toList := by
  cases s
  simp [tx]
def wordS (w : Nat) : Str := ([("either" : Str), "both", "under", "over", "behind"] : List Str).getD w ""
def mkP (l : Bool) (ds : List PyData) : PyData := if l then .list ds else .tuple ds
def tmP (l : Bool) : Trm → PyData
  | .nm s => .str (tx s)
  | .sh k => mkP l [.str "shift", .int k]
  | .tn a => mkP l [.str "turn", tmP l a]
  | .bi w a b => mkP l [.str (wordS w), tmP l a, tmP l b]
theorem row_mk (l : Bool) (ds : List PyData) : rowP (mkP l ds) = some ds := by
  cases l <;> rfl
theorem items_mk (l : Bool) (ds : List PyData) : itemsP (mkP l ds) = ds := by
  unfold itemsP
  rw [row_mk]
  rfl
section
variable {K : PySem.W.Frag} {H : Hp}
/-- a row's things -/
theorem dp_mk {v : V} {l : Bool} {ds : List PyData} (h : Dp K H v (mkP l ds)) : ∃ a xs, v = .ref a ∧ Row K H a xs ∧ DpAll K H xs ds := by
  obtain ⟨a, xs, e, ha, hd, ei⟩ := dp_row h (row_mk l ds)
  rw [items_mk] at ei
  exact ⟨a, xs, e, ha, by first | exact hd | (rw [← ei]; exact hd)⟩
theorem dp_nm {v : V} {l : Bool} {s : TT.Tx} (h : Dp K H v (tmP l (.nm s))) : v = .str (tx s) := by
  cases h
  rfl
theorem dp_sh {v : V} {l : Bool} {k : Int} (h : Dp K H v (tmP l (.sh k))) : ∃ a, v = .ref a ∧ Row K H a [.str "shift", .int k] := by
  obtain ⟨a, xs, e, ha, hd⟩ := dp_mk h
  cases hd with
  | cons h1 hd =>
    cases hd with
    | cons h2 hd =>
      cases hd
      cases h1
      cases h2
      exact ⟨a, e, ha⟩
theorem dp_tn {v : V} {l : Bool} {t : Trm} (h : Dp K H v (tmP l (.tn t))) : ∃ a x, v = .ref a ∧ Row K H a [.str "turn", x] ∧ Dp K H x (tmP l t) := by
  obtain ⟨a, xs, e, ha, hd⟩ := dp_mk h
  cases hd with
  | cons h1 hd =>
    cases hd with
    | cons h2 hd =>
      cases hd
      cases h1
      exact ⟨a, _, e, ha, h2⟩
theorem dp_bi {v : V} {l : Bool} {w : Nat} {t u : Trm} (h : Dp K H v (tmP l (.bi w t u))) : ∃ a x y, v = .ref a ∧ Row K H a [.str (wordS w), x, y] ∧ Dp K H x (tmP l t) ∧ Dp K H y (tmP l u) := by
  obtain ⟨a, xs, e, ha, hd⟩ := dp_mk h
  cases hd with
  | cons h1 hd =>
    cases hd with
    | cons h2 hd =>
      cases hd with
      | cons h3 hd =>
        cases hd
        cases h1
        exact ⟨a, _, _, e, ha, h2, h3⟩
end
theorem let_iff (c : Nat) : c ∈ ("abcdefghijklmnopqrstuvwxyz" : Str).cps.toList ↔ isLet c = true := by
  have e : ("abcdefghijklmnopqrstuvwxyz" : Str).cps.toList = [97, 98, 99, 100, 101, 102, 103, 104, 105, 106, 107, 108, 109, 110, 111, 112, 113, 114, 115, 116, 117, 118, 119, 120, 121, 122] := by decide +kernel
  unfold isLet
  rw [e, Bool.and_eq_true, decide_eq_true_eq, decide_eq_true_eq]
  simp only [List.mem_cons, List.not_mem_nil, or_false]
  omega
theorem fig_iff (c : Nat) : c ∈ ("0123456789" : Str).cps.toList ↔ isFig c = true := by
  have e : ("0123456789" : Str).cps.toList = [48, 49, 50, 51, 52, 53, 54, 55, 56, 57] := by decide +kernel
  unfold isFig
  rw [e, Bool.and_eq_true, decide_eq_true_eq, decide_eq_true_eq]
  simp only [List.mem_cons, List.not_mem_nil, or_false]
  omega
/-- the terms within -/
def kids : Trm → List Trm
  | .nm _ => []
  | .sh _ => []
  | .tn a => [a]
  | .bi _ a b => [a, b]
def partsL (ts : List Trm) : Nat := (ts.map parts).sum
theorem parts_kids (t : Trm) : parts t = 1 + partsL (kids t) := by
  cases t with
  | nm s => rfl
  | sh k => rfl
  | tn a =>
    show parts a + 1 = 1 + (parts a + 0)
    omega
  | bi w a b =>
    show parts a + parts b + 1 = 1 + (parts a + (parts b + 0))
    omega
theorem word_no {w : Nat} (h : w < 5) : wordS w ≠ ("shift" : Str) ∧ wordS w ≠ ("turn" : Str) := by
  rcases sg_cases h with rfl | rfl | rfl | rfl | rfl <;> exact ⟨by decide +kernel, by decide +kernel⟩
end NF
set_option Elab.async false
set_option linter.all false
set_option maxRecDepth 100000
set_option maxHeartbeats 4000000
/-! Walks over a text, its signs and slices. -/
namespace NF
open PySem PySem.Spec PyProof.Rows L2 He RZ TT
theorem for_str {x : Str} {g : TG} {tb : TS} {D : Ends} {σ : L2.St} {H : Hp} (Pv : Nat → L2.St → Hp → Prop) (h0 : Pv 0 σ H)
    (hs : ∀ i c σ H, x.cps.toList[i]? = some c → Pv i σ H → g (.str ⟨#[c]⟩) σ H fun σ2 H2 => tb { D with nx := Pv (i + 1), ct := Pv (i + 1), bk := D.nx } σ2 H2) (hd : ∀ σ H, Pv x.length σ H → D.nx σ H) :
    (∃ W : Nat → Nat → L2.St → Hp → Prop, (∃ m, W 0 m σ H) ∧ ∀ i m σ H, W i m σ H →
      ((L2.Its x).stop i H ∧ D.nx σ H) ∨ ((L2.Its x).go i H ∧ ∃ N : L2.St → Hp → Prop, (∀ σ' H', N σ' H' → ∃ m', m' < m ∧ W (i + 1) m' σ' H') ∧ ∀ y H', (L2.Its x).yld i H y H' → g y σ H' fun σ2 H2 => tb { D with nx := N, ct := N, bk := D.nx } σ2 H2)) := by
  refine ⟨fun i m σ H => m = x.length - i ∧ i ≤ x.length ∧ Pv i σ H, ⟨_, rfl, Nat.zero_le _, h0⟩, ?_⟩
  rintro i m σ H ⟨rfl, hi, hp⟩
  have hl : x.cps.size = x.length := rfl
  by_cases c : i < x.length
  · refine .inr ⟨c, Pv (i + 1), fun σ' H' q => ⟨_, by omega, rfl, c, q⟩, ?_⟩
    rintro y H' ⟨rfl, ch, hc, rfl⟩
    exact hs i ch σ _ (by rw [Array.getElem?_toList]; exact hc) hp
  · have e : i = x.length := by omega
    refine .inl ⟨by show x.cps.size ≤ i; omega, ?_⟩
    rw [e] at hp
    exact hd σ H hp
/-- a sign of a text -/
theorem ix_tx {t : TT.Tx} {i c : Nat} {H : Hp} {Q : VK} (hl : t.length ≤ sizeLine) (h : t[i]? = some c) (q : Q (.str ⟨#[c]⟩) H) : rIxS (.str (tx t)) (.int (i : Int)) H Q :=
  ⟨tx t, i, c, rfl, rfl, by rw [tx_len]; exact hl, by rw [tx_cps]; exact atI_nat h, q⟩
/-- a part of a text -/
theorem cut_tx {t : TT.Tx} {a b : Nat} (ha : a ≤ b) : cutS (tx t) (some (a : Int)) (some (b : Int)) = tx ((t.drop a).take (b - a)) := by
  have h1 : HT.sIx (tx t).length 0 (some (a : Int)) = min a t.length := by
    rw [tx_len, HT.sIx_nat]
  have h2 : HT.sIx (tx t).length (tx t).length (some (b : Int)) = min b t.length := by
    rw [tx_len, HT.sIx_nat]
  unfold cutS
  rw [h1, h2, tx_cps]
  show tx _ = tx _
  congr 1
  by_cases c : a ≤ t.length
  · rw [Nat.min_eq_left c]
    by_cases d : b ≤ t.length
    · rw [Nat.min_eq_left d]
    · rw [Nat.min_eq_right (by omega), List.take_of_length_le (by rw [List.length_drop]; omega), List.take_of_length_le (by rw [List.length_drop]; omega)]
  · rw [Nat.min_eq_right (by omega), Nat.min_eq_right (by omega), List.drop_of_length_le (Nat.le_refl _), List.drop_of_length_le (by omega)]
    simp
end NF
set_option Elab.async false
set_option linter.all false
set_option maxRecDepth 100000
set_option maxHeartbeats 4000000
/-! o.m(..): a method that may let an exception out. -/
namespace NF
open PySem PySem.Spec PyProof.Rows L2 He RZ
structure MetX (P : Program) (w : World) (K : PySem.W.Frag) (mg : Str → Option Value) (base : Heap) (k : Nat) (C : Addr) (m : Str) (sp : Sp) : Prop where
  cl : Cls K C
  ex : ∃ (f : Addr) (fd : FuncData) (ps : List Str), Meth K C m f ∧ FnOk P w K mg base (L2.CX P w) k f fd ps sp ∧ Binds K fd ps []
def tMethX (C : Addr) (m : Str) (sp : Sp) (E : L2.St → XK) (ta : TE) (t : TA) : TE := fun σ H Q => ta σ H fun x H1 => ∃ a dx fs, x = .ref a ∧ H1 a = some (.ins C dx fs) ∧ fs.lookup m = none ∧ t σ H1 fun vs H2 => sp (.ref a :: vs) H2 Q (E σ)
theorem pe_mtX {X : Cx} {k j : Nat} {C : Addr} {m : Str} {sp : Sp} {W : WX} {o e : Expr} {es : List Expr} {ta : TE} {t : TA} {pl : Sem Bool} {pos apos : Pos} (tk : Takes X W) (he : PE X o ta) (c : MetX X.prog X.w X.K X.mg X.base k C m sp) (hr : Room j X.A) (hk : k ≤ j) (ha : PA X (e :: es) t)
    (hst : starEach (e :: es) X.env = (false, eval e X.env) :: starEach es X.env := by rfl) (hpl : (backTo pos (starEach es X.env)).any (·.1) = false := by rfl)
    (ht : eval (.Call (.Attribute o m apos) (e :: es) [] pos) X.env = (do
      let ov ← eval o X.env
      standAt apos.atName
      let (f, first) ← holding [ov] (getMethod ov m pl)
      callWith pos f first (backTo pos (starEach (e :: es) X.env)) (backToKw pos (keywordEach [] X.env))) := by rfl) :
    PE X (.Call (.Attribute o m apos) (e :: es) [] pos) (tMethX C m sp (WE W) ta t) := by
  obtain ⟨f, fd, ps, hm, F, b⟩ := c.ex
  refine ⟨fun pins s σ H Q I h => ?_⟩
  refine PySem.W.methodCall_KW (pl := pl) (thn (he.run pins s σ H _ I h) fun u s1 ⟨x, H1, I1, rx, a, dx, fs, ex, ea, l, q⟩ => ?_) ht
  subst ex
  obtain rfl : u = Value.ref a := rx
  refine getmeth_ok I1 ea c.cl hm l ?_
  refine PySem.W.callWith_K (first := [.ref a]) (h₀ := X.base) I.ok.mod.kin hm.kp (thn (ha.run pos pins s1 σ H1 _ I1 q) fun us s2 ⟨vs, H2, I2, r, q2⟩ => ⟨I2.kIn, ?_⟩) hst hpl
  exact run_fnS (E := WE W) (us := .ref a :: us) (vs := .ref a :: vs) F (hr.mono hk) b (passAt tk σ) I2 (.cons rfl r) q2
end NF
set_option Elab.async false
set_option linter.all false
set_option maxRecDepth 100000
set_option maxHeartbeats 4000000
/-! o.m(): a method of no argument that may let an exception out. -/
namespace NF
open PySem PySem.Spec PyProof.Rows L2 He RZ
theorem pe_mtX0 {X : Cx} {k j : Nat} {C : Addr} {m : Str} {sp : Sp} {W : WX} {o : Expr} {ta : TE} {pl : Sem Bool} {pos apos : Pos} (tk : Takes X W) (he : PE X o ta) (c : MetX X.prog X.w X.K X.mg X.base k C m sp) (hr : Room j X.A) (hk : k ≤ j)
    (ht : eval (.Call (.Attribute o m apos) [] [] pos) X.env = (do
      let ov ← eval o X.env
      standAt apos.atName
      let (f, first) ← holding [ov] (getMethod ov m pl)
      callWith pos f first (backTo pos (starEach [] X.env)) (backToKw pos (keywordEach [] X.env))) := by rfl) :
    PE X (.Call (.Attribute o m apos) [] [] pos) (tMethX C m sp (WE W) ta tNil) := by
  obtain ⟨f, fd, ps, hm, F, b⟩ := c.ex
  refine ⟨fun pins s σ H Q I h => ?_⟩
  refine PySem.W.methodCall_KW (pl := pl) (thn (he.run pins s σ H _ I h) fun u s1 ⟨x, H1, I1, rx, a, dx, fs, ex, ea, l, q⟩ => ?_) ht
  subst ex
  obtain rfl : u = Value.ref a := rx
  refine getmeth_ok I1 ea c.cl hm l ?_
  exact PySem.W.callWith_K0 (first := [.ref a]) I1.kIn hm.kp (run_fnS (E := WE W) (us := [.ref a]) (vs := [.ref a]) F (hr.mono hk) b (passAt tk σ) I1 (.cons rfl .nil) q)
end NF
set_option Elab.async false
set_option linter.all false
set_option maxRecDepth 100000
set_option maxHeartbeats 4000000
/-! enumerate(xs, start=k) of a list. -/
namespace NF
open PySem PySem.Spec PyProof.Rows L2 He RZ
section
variable {M : Model} {A : Around} {E : Value → Shared → Prop} {s : Shared} {env : Env}
theorem callWith_typeK {pos : Pos} {T : String} {first : List Value} {args : List (Bool × Sem Value)} {keywords : List (Option Str × Sem Value)} {Q : Value → Shared → Prop}
    (hplain : args.any (·.1) = false) (hkw : keywords.any (·.1.isNone) = false)
    (h : wpAny M A (evalArgs (.type T) true args keywords) (fun a s₁ => wpAny M A (call (.type T) (first ++ a.pos) a.kw) Q E s₁) E s) :
    wpAny M A (callWith pos (.type T) first args keywords) Q E s := by
  unfold callWith
  refine wpAny_bind (wpAny_holding (wpAny_mono h (fun a s₁ h₁ => wpAny_bind (wpAny_standAt ?_)) fun _ _ x => x))
  simp only [hplain, hkw, Bool.or_false]
  refine wpAny_bind (wpAny_pure ?_)
  exact wpAny_bind (wpAny_mono h₁ (fun r s₂ hr => wpAny_bind (wpAny_holding (wpAny_point (wpAny_pure hr)))) fun _ _ x => x)
theorem callWith_kwT {pos : Pos} {T : String} {e : Expr} {rest : List Expr} {kws : List Keyword} {Q : Value → Shared → Prop}
    (h : wpAny M A (spliced (backTo pos (starEach (e :: rest) env))) (fun vs s₁ => wpAny M A (evalAll ((backToKw pos (keywordEach kws env)).map (·.2)))
      (fun kvs s₂ => wpAny M A (call (.type T) vs (((backToKw pos (keywordEach kws env)).filterMap (·.1)).zip kvs)) Q E s₂) E s₁) E s)
    (he : backTo pos (starEach (e :: rest) env) = (false, eval e env) :: backTo pos (starEach rest env) := by rfl)
    (hplain : (backTo pos (starEach (e :: rest) env)).any (·.1) = false := by rfl)
    (hall : (backToKw pos (keywordEach kws env)).all (·.1.isSome) = true := by rfl)
    (hkw : (backToKw pos (keywordEach kws env)).any (·.1.isNone) = false := by rfl) :
    wpAny M A (callWith pos (.type T) [] (backTo pos (starEach (e :: rest) env)) (backToKw pos (keywordEach kws env))) Q E s := by
  refine callWith_typeK hplain hkw ?_
  rw [he] at h ⊢
  exact evalArgs_kwB hall h
end
/-- the list at a as it stands at each turn, each item in a new pair behind its number, from k on -/
def Its (K : PySem.W.Frag) (k : Int) (a : Addr) : It :=
  ⟨fun i H => ∃ (xs : List V) (x : V), SqL K H a xs ∧ xs[i]? = some x, fun i H v H' => ∃ T x, v = .ref T ∧ H T = none ∧ H' = upd H T (.tup [.int (k + (i : Nat)), x]) ∧ ∀ xs, SqL K H a xs → xs[i]? = some x, fun i H => ∃ xs : List V, SqL K H a xs ∧ xs.length = i⟩
theorem turn_enumS {P : Program} {w : World} {K : PySem.W.Frag} {elts : List Expr} {kk : Nat} {tpos : Pos} {k : Int} (a e it : Addr) (hne : e ≠ it) (hae : e ≠ a) (hai : a ≠ it) :
    Turn P w K (.Tuple elts kk tpos) (Its K k a) [e, it] e (fun i h => (∃ old, IsEnum h e it (k + (i : Nat)) old) ∧ h.IsListIter it a i) where
  mem := by simp
  obj := fun i h st b hb => by
    obtain ⟨⟨old, he⟩, ⟨o, ho, hc, hd⟩⟩ := st
    have e' : b = e ∨ b = it := by simpa using hb
    rcases e' with z | z
    · rw [z]; exact ⟨_, he, fun v q => nomatch q⟩
    · rw [z]; exact ⟨o, ho, fun v q => by rw [hd] at q; cases q⟩
  keep := fun i h h' st k => let ⟨⟨old, he⟩, hi⟩ := st; ⟨⟨old, k e (by simp) _ he⟩, hi.at fun o q => k it (by simp) o q⟩
  item := by
    intro X hP hw hK hc i pins s σ H E I hf st hg
    subst hP hw hK
    obtain ⟨⟨old, he⟩, hit⟩ := st
    obtain ⟨xs, x, hq, hx⟩ := hg
    obtain ⟨its, rv, p, hz⟩ := I.list hq
    obtain ⟨u, hu, ru⟩ := rv.get hx
    have hel : e < s.heap.objs.size := Heap.lt_size he
    have hil : it < s.heap.objs.size := by obtain ⟨_, q, _⟩ := hit; exact Heap.lt_size q
    have li : i < its.toArray.size := by
      have := (List.getElem?_eq_some_iff.mp hu).1
      simpa using this
    have hd : X.A.in1.handled = none := I.ok.hd hc
    refine wpAny_pyNext_enum_itemC (i := i) (Draws.list hd it a hai its.toArray) he ⟨hit, p.isList⟩ li hne (by simp [hne, hae]) fun x' h' tk hP ho st2 hT hsz hk => ?_
    obtain rfl : u = x' := by
      have : its[i]? = some x' := by simpa using hP
      exact Option.some.inj (hu.symm.trans this)
    refine ⟨_, rfl, wpAny_letOwnedTupleGo_enum (s := { s with heap := h', toks := tk + 1 }) ho fun h'' he' sb => ?_⟩
    have hT2 : h''.get? s.heap.objs.size = some { cls := .type "tuple", data := .seq #[.int (k + (i : Nat)) tk, u] } := (sb.2 _ (Nat.ne_of_gt hel)).trans hT
    have new : ObjOk X.prog X.w (upd H s.heap.objs.size (.tup [.int (k + (i : Nat)), x])) h'' s.heap.objs.size (.tup [.int (k + (i : Nat)), x]) :=
      ⟨by show 2 ≤ sizeLine; decide, [.int (k + (i : Nat)) tk, u], .cons ⟨_, rfl⟩ (.cons ru .nil), ⟨_, hT2, rfl, _, rfl⟩⟩
    have I1 : Inv X pins σ (upd H s.heap.objs.size (.tup [.int (k + (i : Nat)), x])) { s with heap := h'', toks := tk + 1 } :=
      I.turnedNew (ch := [e, it]) (fun b ob hb q => (sb.2 b (fun z => hb (by simp [z]))).trans (hk b ob (fun z => hb (by simp [z])) (fun z => hb (by simp [z])) q)) hf (Nat.le_refl _) new
    refine ⟨.ref s.heap.objs.size, _, I1, rfl, ⟨_, x, rfl, I.hok.fresh (Nat.le_refl _), rfl, fun ys hy => by rw [I.list_inj hy hq]; exact hx⟩, ⟨⟨u, ?_⟩, st2.1.at fun o q => (sb.2 it (Ne.symm hne)).trans q⟩, fun b hb => ?_⟩
    · have e1 : k + ((i + 1 : Nat) : Int) = k + (i : Int) + 1 := by omega
      rw [e1]; exact he'
    · have hb' : b < s.heap.objs.size := by
        have e' : b = e ∨ b = it := by simpa using hb
        rcases e' with z | z
        · rw [z]; exact hel
        · rw [z]; exact hil
      rw [upd_ne (Nat.ne_of_lt hb')]
      exact (hf b hb).1
  done := by
    intro X hP hw hK hc i pins s σ H E I hf st hg
    subst hP hw hK
    obtain ⟨⟨old, he⟩, hit⟩ := st
    obtain ⟨xs, hq, hx⟩ := hg
    obtain ⟨its, rv, p, hz⟩ := I.list hq
    obtain ⟨f0, f1, f2, f3, f4, f5⟩ := hf it (by simp)
    have hl := rv.length
    have hd : X.A.in1.handled = none := I.ok.hd hc
    have en : its.toArray.size = i := by simp; omega
    subst en
    exact wpAny_pyNext_enum_endD (Draws.list hd it a hai its.toArray) he ⟨hit, p.isList⟩ fun h' eb => ⟨rfl, I.turned (t' := s.toks) (fun b o hb q => eb b o hb q) f0 f1 f3 f4 f5⟩
  self := fun A i s Q E st h => let ⟨⟨_, he⟩, _⟩ := st; wpAny_pyIter_enum he h
def iEnumS (K : PySem.W.Frag) (ta tk : TA) : TI := fun σ H R => ta σ H fun vs H1 => tk σ H1 fun zs H2 => ∃ a xs k, vs = [.ref a] ∧ zs = [.int k] ∧ 0 ≤ k ∧ k < 1000000 ∧ SqL K H2 a xs ∧ R (Its K k a) H2
theorem pi_enumS {X : Cx} {e : Expr} {ta tk : TA} {p pos tpos : Pos} {elts : List Expr} {kk : Nat} {kws : List Keyword} (hg : Gl X "enumerate") (hm : X.mg "enumerate" = none) (ha : PA X [e] ta) (hk : PK X kws tk)
    (he : backTo pos (starEach [e] X.env) = (false, eval e X.env) :: backTo pos (starEach [] X.env) := by rfl) (hpl : (backTo pos (starEach [e] X.env)).any (·.1) = false := by rfl)
    (hall : (backToKw pos (keywordEach kws X.env)).all (·.1.isSome) = true := by rfl) (hnone : (backToKw pos (keywordEach kws X.env)).any (·.1.isNone) = false := by rfl) (hks : (backToKw pos (keywordEach kws X.env)).filterMap (·.1) = [Str.ofString "start"] := by rfl) :
    PI X (.Tuple elts kk tpos) (.Call (.Name "enumerate" p) [e] kws pos) (iEnumS X.K ta tk) := by
  refine ⟨fun pins s σ H R I h => ?_⟩
  refine wpAny_Call_Name_kw (ld_blt I hg hm boot_enumerate ?_)
  refine callWith_kwT (thn (ha.run pos pins s σ H _ I h) fun us s1 ⟨vs, H1, I1, r1, q1⟩ => thn (hk.run pos pins s1 σ H1 _ I1 q1) fun ws s2 ⟨zs, H2, I2, r2, a, xs, k, ex, ez, k0, k1, hq, q⟩ => ?_) he hpl hall hnone
  rw [hks]
  subst ex ez
  obtain rfl := Vals.ref1 r1
  obtain ⟨w1, rfl, t, rfl⟩ : ∃ w1, ws = [w1] ∧ ∃ t, w1 = Value.int k t := by
    cases r2 with
    | cons r rr =>
      cases rr
      obtain ⟨t, e⟩ := r
      exact ⟨_, rfl, t, e⟩
  obtain ⟨its, rv, p', hz⟩ := I2.list hq
  show wpAny _ _ (call (.type "enumerate") [.ref a] [(Str.ofString "start", .int k t)]) _ _ s2
  refine enum_begins_start (begins_list a its.toArray) p'.isList (by omega) (by omega) fun h' he' hit hsz hkp => wpAny_pyIter_enum he' ?_
  have I3 : Inv X pins σ H2 { s2 with heap := h' } := I2.kept (t' := s2.toks) hkp
  have la : a < s2.heap.objs.size := p'.lt
  refine ⟨s2.heap.objs.size + 1, [s2.heap.objs.size + 1, s2.heap.objs.size], _, _, H2, rfl, I3, turn_enumS (k := k) a (s2.heap.objs.size + 1) s2.heap.objs.size (Nat.succ_ne_self _) (Nat.ne_of_gt (Nat.lt_succ_of_lt la)) (Nat.ne_of_lt la), ⟨⟨.none, by rw [Int.ofNat_zero, Int.add_zero]; exact he'⟩, ⟨_, hit, rfl, rfl⟩⟩, fun b hb => ?_, q⟩
  have e' : b = s2.heap.objs.size + 1 ∨ b = s2.heap.objs.size := by simpa using hb
  have hle : s2.heap.objs.size ≤ b := by
    rcases e' with z | z
    · rw [z]; exact Nat.le_add_right _ _
    · rw [z]; exact Nat.le_refl _
  exact I2.fpOk hle (I2.hok.fresh hle)
theorem walk_enumS {K : PySem.W.Frag} {k : Int} {a : Addr} {xs : List V} : Walk (Its K k a) xs.length (fun H => SqL K H a xs) (YPair (fun i => some (.int (k + (i : Nat)))) (fun i => xs[i]?)) := by
  refine ⟨fun i _ hi q => ⟨xs, xs[i], q, by simp [hi]⟩, fun _ q => ⟨xs, q, rfl⟩, fun i H v H' _ q y => ?_⟩
  obtain ⟨T, x, h1, h2, h3, h4⟩ := y
  exact ⟨T, .int (k + (i : Nat)), x, h1, h2, h3, rfl, h4 xs q⟩
end NF
set_option Elab.async false
set_option linter.all false
set_option maxRecDepth 100000
set_option maxHeartbeats 4000000
/-! enumerate(t) and enumerate(t, start=k) of a tuple. -/
namespace NF
open PySem PySem.Spec PyProof.Rows L2 He RZ
theorem meets_enum1 {v : Value} {o : Obj} {H : Heap → Prop} (B : Begins v o H) :
    Meets (Builtin.«enumerate.__new__» ⟨[.type "enumerate", v], []⟩) (fun _ R s => H s.heap ∧
      R (.ok (.ret (.ref (s.heap.push o).objs.size))) { s with heap := (s.heap.push o).push { cls := .type "enumerate", data := .fields #[.none, .bool false, .ref s.heap.objs.size, rawInt 0, .none, .none] } }) :=
  .of_wp fun prog w A R s h => by
    obtain ⟨hp, g, d, tk, os⟩ := s
    obtain ⟨h1, h⟩ := h
    have hsub := sub_enumerate
    have q1 : ∀ {A' : Around} {E : Value → Shared → Prop} {Q : Value → Shared → Prop}, Q (.ref hp.objs.size) ⟨hp.push o, g, d, tk, os⟩ → wpAny (model prog w) A' (pyIter v) Q E ⟨hp, g, d, tk, os⟩ :=
      fun q => B.iter prog w _ _ ⟨hp, g, d, tk, os⟩ _ h1 q
    wp_walk using q1
    refine wpAny_stack_any fun st => wpAny_pure ?_
    split
    · rename_i c _ _ _ _ _
      cases (c == Value.type "enumerate")
      · wp_walk using q1
        exact ⟨_, rfl, h⟩
      · wp_walk using q1
        exact ⟨_, rfl, h⟩
    · wp_walk using q1
      exact ⟨_, rfl, h⟩
section
variable {prog : Program} {w : World} {A : Around} {E : Value → Shared → Prop} {s : Shared}
theorem enum_begins1 {v : Value} {o : Obj} {H : Heap → Prop} {Q : Value → Shared → Prop} (B : Begins v o H) (h1 : H s.heap)
    (h : ∀ h', IsEnum h' (s.heap.objs.size + 1) s.heap.objs.size 0 .none → h'.get? s.heap.objs.size = some o → h'.objs.size = s.heap.objs.size + 2 →
      (∀ b o, s.heap.get? b = some o → h'.get? b = some o) → Q (.ref (s.heap.objs.size + 1)) { s with heap := h' }) :
    wpAny (model prog w) A (call (.type "enumerate") [v]) Q E s := by
  refine callType_new F.called_enumerate (by decide) (F.typeCall_enumerate_1 _) (F.newCall_enumerate_1 _) (fun obj => F.args_object_init_2 obj _) F.entry_enumerate_new
    (meets_enum1 B) ⟨h1, ?_⟩
  have hz : (s.heap.push o).objs.size = s.heap.objs.size + 1 := Heap.size_push ..
  show _ ∧ _
  rw [hz]
  have he : IsEnum ((s.heap.push o).push { cls := .type "enumerate", data := .fields #[.none, .bool false, .ref s.heap.objs.size, rawInt 0, .none, .none] }) (s.heap.objs.size + 1) s.heap.objs.size 0 .none := by
    have := Heap.get?_push_size (s.heap.push o) (o := { cls := .type "enumerate", data := .fields #[.none, .bool false, .ref s.heap.objs.size, rawInt 0, .none, .none] }) rfl
    rw [hz] at this; exact this
  exact ⟨⟨_, he, rfl⟩, h _ he (Heap.get?_push_of_some _ (Heap.get?_push_size _ B.free)) (by rw [Heap.size_push, hz]) fun b o x => Heap.get?_push_of_some _ (Heap.get?_push_of_some _ x)⟩
end
/-- the tuple at a, each item in a new pair behind its number, from k on -/
def Itst (K : PySem.W.Frag) (k : Int) (a : Addr) : It :=
  ⟨fun i H => ∃ (xs : List V) (x : V), SqT K H a xs ∧ xs[i]? = some x, fun i H v H' => ∃ T x, v = .ref T ∧ H T = none ∧ H' = upd H T (.tup [.int (k + (i : Nat)), x]) ∧ ∀ xs, SqT K H a xs → xs[i]? = some x, fun i H => ∃ xs : List V, SqT K H a xs ∧ xs.length = i⟩
theorem turn_enumT {P : Program} {w : World} {K : PySem.W.Frag} {elts : List Expr} {kk : Nat} {tpos : Pos} {k : Int} (a e it : Addr) (hne : e ≠ it) (hae : e ≠ a) (hai : a ≠ it) :
    Turn P w K (.Tuple elts kk tpos) (Itst K k a) [e, it] e (fun i h => (∃ old, IsEnum h e it (k + (i : Nat)) old) ∧ h.IsTupleIter it a i) where
  mem := by simp
  obj := fun i h st b hb => by
    obtain ⟨⟨old, he⟩, ⟨o, ho, hc, hd⟩⟩ := st
    have e' : b = e ∨ b = it := by simpa using hb
    rcases e' with z | z
    · rw [z]; exact ⟨_, he, fun v q => nomatch q⟩
    · rw [z]; exact ⟨o, ho, fun v q => by rw [hd] at q; cases q⟩
  keep := fun i h h' st k => let ⟨⟨old, he⟩, hi⟩ := st; ⟨⟨old, k e (by simp) _ he⟩, hi.at fun o q => k it (by simp) o q⟩
  item := by
    intro X hP hw hK hc i pins s σ H E I hf st hg
    subst hP hw hK
    obtain ⟨⟨old, he⟩, hit⟩ := st
    obtain ⟨xs, x, hq, hx⟩ := hg
    obtain ⟨its, rv, p, hz⟩ := I.tuple hq
    obtain ⟨u, hu, ru⟩ := rv.get hx
    have hel : e < s.heap.objs.size := Heap.lt_size he
    have hil : it < s.heap.objs.size := by obtain ⟨_, q, _⟩ := hit; exact Heap.lt_size q
    have li : i < its.toArray.size := by
      have := (List.getElem?_eq_some_iff.mp hu).1
      simpa using this
    have hd : X.A.in1.handled = none := I.ok.hd hc
    refine wpAny_pyNext_enum_itemC (i := i) (Draws.tuple hd it a hai its.toArray) he ⟨hit, p⟩ li hne (by simp [hne, hae]) fun x' h' tk hP ho st2 hT hsz hk => ?_
    obtain rfl : u = x' := by
      have : its[i]? = some x' := by simpa using hP
      exact Option.some.inj (hu.symm.trans this)
    refine ⟨_, rfl, wpAny_letOwnedTupleGo_enum (s := { s with heap := h', toks := tk + 1 }) ho fun h'' he' sb => ?_⟩
    have hT2 : h''.get? s.heap.objs.size = some { cls := .type "tuple", data := .seq #[.int (k + (i : Nat)) tk, u] } := (sb.2 _ (Nat.ne_of_gt hel)).trans hT
    have new : ObjOk X.prog X.w (upd H s.heap.objs.size (.tup [.int (k + (i : Nat)), x])) h'' s.heap.objs.size (.tup [.int (k + (i : Nat)), x]) :=
      ⟨by show 2 ≤ sizeLine; decide, [.int (k + (i : Nat)) tk, u], .cons ⟨_, rfl⟩ (.cons ru .nil), ⟨_, hT2, rfl, _, rfl⟩⟩
    have I1 : Inv X pins σ (upd H s.heap.objs.size (.tup [.int (k + (i : Nat)), x])) { s with heap := h'', toks := tk + 1 } :=
      I.turnedNew (ch := [e, it]) (fun b ob hb q => (sb.2 b (fun z => hb (by simp [z]))).trans (hk b ob (fun z => hb (by simp [z])) (fun z => hb (by simp [z])) q)) hf (Nat.le_refl _) new
    refine ⟨.ref s.heap.objs.size, _, I1, rfl, ⟨_, x, rfl, I.hok.fresh (Nat.le_refl _), rfl, fun ys hy => by rw [I.tuple_inj hy hq]; exact hx⟩, ⟨⟨u, ?_⟩, st2.1.at fun o q => (sb.2 it (Ne.symm hne)).trans q⟩, fun b hb => ?_⟩
    · have e1 : k + ((i + 1 : Nat) : Int) = k + (i : Int) + 1 := by omega
      rw [e1]; exact he'
    · have hb' : b < s.heap.objs.size := by
        have e' : b = e ∨ b = it := by simpa using hb
        rcases e' with z | z
        · rw [z]; exact hel
        · rw [z]; exact hil
      rw [upd_ne (Nat.ne_of_lt hb')]
      exact (hf b hb).1
  done := by
    intro X hP hw hK hc i pins s σ H E I hf st hg
    subst hP hw hK
    obtain ⟨⟨old, he⟩, hit⟩ := st
    obtain ⟨xs, hq, hx⟩ := hg
    obtain ⟨its, rv, p, hz⟩ := I.tuple hq
    obtain ⟨f0, f1, f2, f3, f4, f5⟩ := hf it (by simp)
    have hl := rv.length
    have hd : X.A.in1.handled = none := I.ok.hd hc
    have en : its.toArray.size = i := by simp; omega
    subst en
    exact wpAny_pyNext_enum_endD (Draws.tuple hd it a hai its.toArray) he ⟨hit, p⟩ fun h' eb => ⟨rfl, I.turned (t' := s.toks) (fun b o hb q => eb b o hb q) f0 f1 f3 f4 f5⟩
  self := fun A i s Q E st h => let ⟨⟨_, he⟩, _⟩ := st; wpAny_pyIter_enum he h
def iEnumT (K : PySem.W.Frag) (ta : TA) : TI := fun σ H R => ta σ H fun vs H1 => ∃ a xs, vs = [.ref a] ∧ SqT K H1 a xs ∧ R (Itst K 0 a) H1
theorem pi_enumT {X : Cx} {e : Expr} {ta : TA} {p pos tpos : Pos} {elts : List Expr} {kk : Nat} (hg : Gl X "enumerate") (hm : X.mg "enumerate" = none) (ha : PA X [e] ta) (hs : starEach [e] X.env = [(false, eval e X.env)] := by rfl) :
    PI X (.Tuple elts kk tpos) (.Call (.Name "enumerate" p) [e] [] pos) (iEnumT X.K ta) := by
  refine ⟨fun pins s σ H R I h => ?_⟩
  refine Call_ (ld_blt I hg hm boot_enumerate (PyProof.Rows.callWith_type1 (thn (ha.run pos pins s σ H _ I h) fun us s1 ⟨vs, H1, I1, r1, q1⟩ => ?_) hs rfl))
  obtain ⟨a, xs, ex, hq, q⟩ := q1
  subst ex
  cases r1 with
  | cons r rr =>
    cases rr
    cases r
    obtain ⟨its, rv, p', hz⟩ := I1.tuple hq
    have la : a < s1.heap.objs.size := by
      obtain ⟨_, z, _⟩ := id p'
      exact Heap.lt_size z
    refine enum_begins1 (begins_tuple a its.toArray) p' fun h' he hit hsz hk => wpAny_pyIter_enum he ?_
    have I2 : Inv X pins σ H1 { s1 with heap := h' } := I1.kept (t' := s1.toks) hk
    refine ⟨s1.heap.objs.size + 1, [s1.heap.objs.size + 1, s1.heap.objs.size], _, _, H1, rfl, I2, turn_enumT (k := 0) a (s1.heap.objs.size + 1) s1.heap.objs.size (Nat.succ_ne_self _) (Nat.ne_of_gt (Nat.lt_succ_of_lt la)) (Nat.ne_of_lt la), ⟨⟨.none, he⟩, ⟨_, hit, rfl, rfl⟩⟩, fun b hb => ?_, q⟩
    have e' : b = s1.heap.objs.size + 1 ∨ b = s1.heap.objs.size := by simpa using hb
    have hle : s1.heap.objs.size ≤ b := by
      rcases e' with z | z
      · rw [z]; exact Nat.le_add_right _ _
      · rw [z]; exact Nat.le_refl _
    exact I1.fpOk hle (I1.hok.fresh hle)
def iEnumST (K : PySem.W.Frag) (ta tk : TA) : TI := fun σ H R => ta σ H fun vs H1 => tk σ H1 fun zs H2 => ∃ a xs k, vs = [.ref a] ∧ zs = [.int k] ∧ 0 ≤ k ∧ k < 1000000 ∧ SqT K H2 a xs ∧ R (Itst K k a) H2
theorem pi_enumST {X : Cx} {e : Expr} {ta tk : TA} {p pos tpos : Pos} {elts : List Expr} {kk : Nat} {kws : List Keyword} (hg : Gl X "enumerate") (hm : X.mg "enumerate" = none) (ha : PA X [e] ta) (hk : PK X kws tk)
    (he : backTo pos (starEach [e] X.env) = (false, eval e X.env) :: backTo pos (starEach [] X.env) := by rfl) (hpl : (backTo pos (starEach [e] X.env)).any (·.1) = false := by rfl)
    (hall : (backToKw pos (keywordEach kws X.env)).all (·.1.isSome) = true := by rfl) (hnone : (backToKw pos (keywordEach kws X.env)).any (·.1.isNone) = false := by rfl) (hks : (backToKw pos (keywordEach kws X.env)).filterMap (·.1) = [Str.ofString "start"] := by rfl) :
    PI X (.Tuple elts kk tpos) (.Call (.Name "enumerate" p) [e] kws pos) (iEnumST X.K ta tk) := by
  refine ⟨fun pins s σ H R I h => ?_⟩
  refine wpAny_Call_Name_kw (ld_blt I hg hm boot_enumerate ?_)
  refine callWith_kwT (thn (ha.run pos pins s σ H _ I h) fun us s1 ⟨vs, H1, I1, r1, q1⟩ => thn (hk.run pos pins s1 σ H1 _ I1 q1) fun ws s2 ⟨zs, H2, I2, r2, a, xs, k, ex, ez, k0, k1, hq, q⟩ => ?_) he hpl hall hnone
  rw [hks]
  subst ex ez
  obtain rfl := Vals.ref1 r1
  obtain ⟨w1, rfl, t, rfl⟩ : ∃ w1, ws = [w1] ∧ ∃ t, w1 = Value.int k t := by
    cases r2 with
    | cons r rr =>
      cases rr
      obtain ⟨t, e⟩ := r
      exact ⟨_, rfl, t, e⟩
  obtain ⟨its, rv, p', hz⟩ := I2.tuple hq
  have la : a < s2.heap.objs.size := by
    obtain ⟨_, z, _⟩ := id p'
    exact Heap.lt_size z
  show wpAny _ _ (call (.type "enumerate") [.ref a] [(Str.ofString "start", .int k t)]) _ _ s2
  refine enum_begins_start (begins_tuple a its.toArray) p' (by omega) (by omega) fun h' he' hit hsz hkp => wpAny_pyIter_enum he' ?_
  have I3 : Inv X pins σ H2 { s2 with heap := h' } := I2.kept (t' := s2.toks) hkp
  refine ⟨s2.heap.objs.size + 1, [s2.heap.objs.size + 1, s2.heap.objs.size], _, _, H2, rfl, I3, turn_enumT (k := k) a (s2.heap.objs.size + 1) s2.heap.objs.size (Nat.succ_ne_self _) (Nat.ne_of_gt (Nat.lt_succ_of_lt la)) (Nat.ne_of_lt la), ⟨⟨.none, by rw [Int.ofNat_zero, Int.add_zero]; exact he'⟩, ⟨_, hit, rfl, rfl⟩⟩, fun b hb => ?_, q⟩
  have e' : b = s2.heap.objs.size + 1 ∨ b = s2.heap.objs.size := by simpa using hb
  have hle : s2.heap.objs.size ≤ b := by
    rcases e' with z | z
    · rw [z]; exact Nat.le_add_right _ _
    · rw [z]; exact Nat.le_refl _
  exact I2.fpOk hle (I2.hok.fresh hle)
theorem walk_enumT {K : PySem.W.Frag} {k : Int} {a : Addr} {xs : List V} : Walk (Itst K k a) xs.length (fun H => SqT K H a xs) (YPair (fun i => some (.int (k + (i : Nat)))) (fun i => xs[i]?)) := by
  refine ⟨fun i _ hi q => ⟨xs, xs[i], q, by simp [hi]⟩, fun _ q => ⟨xs, q, rfl⟩, fun i H v H' _ q y => ?_⟩
  obtain ⟨T, x, h1, h2, h3, h4⟩ := y
  exact ⟨T, .int (k + (i : Nat)), x, h1, h2, h3, rfl, h4 xs q⟩
end NF
set_option Elab.async false
set_option linter.all false
set_option maxRecDepth 100000
set_option maxHeartbeats 4000000
/-! bool(x) of an instance whose class has its own __bool__. -/
namespace NF
open PySem PySem.Spec PyProof.Rows L2 He RZ NT
theorem new_boolO {prog : Program} {w : World} {A0 : Around} {s0 : Shared} {a : Addr} :
    MeetsIn prog w (Builtin.«bool.__new__» ⟨[.type "bool", .ref a], []⟩) (fun A R s => A = A0 ∧ s = s0 ∧ wpAny (model prog w) A.in1 (truthy (.ref a)) (fun b s' => R (.ok (.ret (.bool b))) s') (fun e s' => R (.error e) s') s) :=
  MeetsIn.of_wp fun A R s hs => by
    obtain ⟨_, _, hs⟩ := hs
    have f1 := F.conv_sub_bool
    obtain ⟨hp, g, d, tk, os⟩ := s
    repeat (any_goals (first | assumption | (refine wpAny_bind (wpAny_mono hs (fun b s' h => ?_) fun _ _ e => e)) | wp_step))
    all_goals first | exact ⟨_, rfl, h⟩ | exact hs | skip
structure BlM (K : PySem.W.Frag) (C f : Addr) : Prop where
  o1 : PySem.W.findIn K (.ref C) "__bool__" = some (some (.ref f))
  o2 : PySem.W.isFn K (.ref f) = true
structure BlC (P : Program) (w : World) (K : PySem.W.Frag) (mg : Str → Option Value) (base : Heap) (k : Nat) (C : Addr) (sp : Sp) : Prop where
  ex : ∃ (f : Addr) (fd : FuncData) (ps : List Str), FnOk P w K mg base CX0 k f fd ps sp ∧ BlM K C f ∧ Binds K fd ps []
section
variable {X : Cx} {k j : Nat} {C : Addr} {sp : Sp}
theorem run_fn2 {pins : List (Addr × Obj)} {σ : L2.St} {H : Hp} {s : Shared} {Q : VK} {us : List Value} {vs : List V} {f : Addr} {fd : FuncData} {ps : List Str} (F : FnOk X.prog X.w X.K X.mg X.base CX0 k f fd ps sp) (hr : Room (k + 2) X.A) (hb : Binds X.K fd ps [])
    (I : Inv X pins σ H s) (r : Vals vs us) (h : sp (vs ++ []) H Q E0) : wpAny (model X.prog X.w) X.A.in1.in1 (call (.ref f) us) (EP X pins σ Q) X.xe s := by
  have r2 : Vals (vs ++ []) (us ++ []) := r.append .nil
  have hl : (us ++ []).length = ps.length := by rw [← r2.length]; exact F.len _ _ _ _ h
  refine wpAny_call (codeAny_mono (F.run X.A.in1.in1 X.stack s H ⟨us, []⟩ (us ++ []) (vs ++ []) Q E0 hr.in1.in1 I.env0.in1.in1 (hb s us I.kIn hl) r2 h) fun r s' hq => ?_)
  cases r with
  | error e => exact pass0 pins σ H s e s' I hq
  | ok fl =>
    cases fl with
    | ret u => exact I.after hq
    | next => exact False.elim hq
    | brk => exact False.elim hq
    | cont => exact False.elim hq
def rBoolO (C : Addr) (sp : Sp) : List V → Hp → VK → Prop := fun xs H Q => ∃ a dx fs, xs = [.ref a] ∧ H a = some (.ins C dx fs) ∧ sp [.ref a] H (fun r H' => ∃ b, r = .bl b ∧ Q (.bl b) H') E0
theorem call_boolO (c : BlC X.prog X.w X.K X.mg X.base k C sp) (hr : Room j X.A) (hk : k + 2 ≤ j) : CallR X (.type "bool") (rBoolO C sp) := by
  obtain ⟨f, fd, ps, Fk, ⟨hs, hf⟩, hb⟩ := c.ex
  intro pins s σ H xs us Q I r h
  obtain ⟨a, dx, fs, rfl, ha, q⟩ := h
  obtain rfl := Vals.ref1 r
  obtain ⟨mA, O, _⟩ := ins_get I.hok ha
  obtain ⟨od, J, _⟩ := O.look
  obtain ⟨m, hF⟩ := I.fr
  refine callType_newIn F.called_bool F.newNe_bool (F.typeCall_bool_1 _) (F.newCall_bool_1 _) (fun obj => F.args_object_init_2 obj _) F.entry_bool_new (new_boolO (A0 := X.A.in1) (s0 := s)) ⟨rfl, rfl, ?_⟩
  refine PySem.W.truthy_K hF I.ok.mod.kin J hs hf ?_
  refine wpAny_mono (run_fn2 (us := [.ref a]) (vs := [.ref a]) Fk (hr.mono hk) hb I (.cons rfl .nil) q) (fun u s' z => ?_) fun _ _ e => e
  obtain ⟨z, H', I', rz, b, rfl, q'⟩ := z
  obtain rfl : u = Value.bool b := rz
  exact ⟨rfl, .bl b, H', I', rfl, q'⟩
end
/-- .. as the head's run finds it; d: the class that has the def -/
def blB (c d : Str) (K : PySem.W.Frag) : Bool := eqO (PySem.W.findIn K (.ref (ga K c)) "__bool__") (some (some (.ref (ma K (ga K d) "__bool__")))) && PySem.W.isFn K (.ref (ma K (ga K d) "__bool__"))
theorem bl_ok {c d : Str} {K : PySem.W.Frag} (h : blB c d K = true) : BlM K (ga K c) (ma K (ga K d) "__bool__") := by
  obtain ⟨h1, h2⟩ := ba h
  exact ⟨eqO_ok h1, h2⟩
end NF
set_option Elab.async false
set_option linter.all false
set_option maxRecDepth 100000
set_option maxHeartbeats 4000000
/-! Lists or tuples: enumerate, the rest behind the first, bool of a tuple. -/
namespace NF
open PySem PySem.Spec PyProof.Rows L2 He RZ NT
theorem pi_or {X : Cx} {tg e : Expr} {t1 t2 : TI} (h1 : PI X tg e t1) (h2 : PI X tg e t2) : PI X tg e (fun σ H R => t1 σ H R ∨ t2 σ H R) :=
  ⟨fun pins s σ H R I h => h.elim (h1.run pins s σ H R I) (h2.run pins s σ H R I)⟩
def iEnumR (K : PySem.W.Frag) (ta : TA) : TI := fun σ H R => iEnum K ta σ H R ∨ iEnumT K ta σ H R
theorem pi_enumR {X : Cx} {e : Expr} {ta : TA} {p pos tpos : Pos} {elts : List Expr} {kk : Nat} (hg : Gl X "enumerate") (hm : X.mg "enumerate" = none) (ha : PA X [e] ta) (hs : starEach [e] X.env = [(false, eval e X.env)] := by rfl) :
    PI X (.Tuple elts kk tpos) (.Call (.Name "enumerate" p) [e] [] pos) (iEnumR X.K ta) := pi_or (pi_enum hg hm ha hs) (pi_enumT hg hm ha hs)
/-- a pair of a number and an entry -/
def YEnum (xs : List V) : Nat → Hp → V → Hp → Prop := fun i H v H' => ∃ T x, v = .ref T ∧ H T = none ∧ H' = upd H T (.tup [.int (i : Int), x]) ∧ xs[i]? = some x
theorem for_enumR {K : PySem.W.Frag} {i : Nat} {a : Addr} {xs : List V} {g : TG} {tb : TS} {D : Ends} {σ : L2.St} {H : Hp} (hv : σ[i]? = some (some (.ref a))) (hr : Row K H a xs) (Pv : Nat → L2.St → Hp → Prop) (h0 : Pv 0 σ H) (hm : ∀ i σ H', Pv i σ H' → Same H H')
    (hs : ∀ i x σ H H', i < xs.length → Pv i σ H → YEnum xs i H x H' → g x σ H' fun σ2 H2 => tb { D with nx := Pv (i + 1), ct := Pv (i + 1), bk := D.nx } σ2 H2) (hd : ∀ σ H, Pv xs.length σ H → D.nx σ H) :
    tFor (iEnumR K (tCons (tVar i) tNil)) g tb D σ H := by
  rcases hr with hr | hr
  · refine .inl ⟨_, hv, a, xs, rfl, hr, for_it walk_enum Pv h0 (fun i σ H' _ p => L2.Same.seq (hm i σ H' p) hr) (fun i x σ G G' hi p y => hs i x σ G G' hi p ?_) hd⟩
    obtain ⟨T, v1, v2, e1, e2, e3, e4, e5⟩ := y
    cases e4
    exact ⟨T, v2, e1, e2, e3, e5⟩
  · refine .inr ⟨_, hv, a, xs, rfl, hr, for_it walk_enumT Pv h0 (fun i σ H' _ p => NF.Same.tup (hm i σ H' p) hr) (fun i x σ G G' hi p y => hs i x σ G G' hi p ?_) hd⟩
    obtain ⟨T, v1, v2, e1, e2, e3, e4, e5⟩ := y
    have e4 : some (V.int (0 + (i : Int))) = some v1 := e4
    rw [Int.zero_add] at e4
    cases e4
    exact ⟨T, v2, e1, e2, e3, e5⟩
theorem for_enumM {K : PySem.W.Frag} {i : Nat} {a : Addr} {xs : List V} {g : TG} {tb : TS} {D : Ends} {σ : L2.St} {H H0 : Hp} (hv : σ[i]? = some (some (.ref a))) (hr : Row K H0 a xs) (Pv : Nat → L2.St → Hp → Prop) (h0 : Pv 0 σ H) (hm : ∀ i σ H', Pv i σ H' → Same H0 H')
    (hs : ∀ i x σ H H', i < xs.length → Pv i σ H → YEnum xs i H x H' → g x σ H' fun σ2 H2 => tb { D with nx := Pv (i + 1), ct := Pv (i + 1), bk := D.nx } σ2 H2) (hd : ∀ σ H, Pv xs.length σ H → D.nx σ H) :
    tFor (iEnumR K (tCons (tVar i) tNil)) g tb D σ H := by
  rcases hr with hr | hr
  · refine .inl ⟨_, hv, a, xs, rfl, L2.Same.seq (hm 0 σ H h0) hr, for_it walk_enum Pv h0 (fun i σ H' _ p => L2.Same.seq (hm i σ H' p) hr) (fun i x σ G G' hi p y => hs i x σ G G' hi p ?_) hd⟩
    obtain ⟨T, v1, v2, e1, e2, e3, e4, e5⟩ := y
    cases e4
    exact ⟨T, v2, e1, e2, e3, e5⟩
  · refine .inr ⟨_, hv, a, xs, rfl, NF.Same.tup (hm 0 σ H h0) hr, for_it walk_enumT Pv h0 (fun i σ H' _ p => NF.Same.tup (hm i σ H' p) hr) (fun i x σ G G' hi p y => hs i x σ G G' hi p ?_) hd⟩
    obtain ⟨T, v1, v2, e1, e2, e3, e4, e5⟩ := y
    have e4 : some (V.int (0 + (i : Int))) = some v1 := e4
    rw [Int.zero_add] at e4
    cases e4
    exact ⟨T, v2, e1, e2, e3, e5⟩
theorem sl_row {X : Cx} : SlR X (fun x lo hi H Q => rSlL X.K x lo hi H Q ∨ rSlA X.K x lo hi H Q) := SlR.or sl_list sl_tupA
/-- t[1:] -/
theorem slr_rest {K : PySem.W.Frag} {H : Hp} {a : Addr} {xs : List V} {Q : VK} (hr : Row K H a xs) (h1 : 1 ≤ xs.length) (q : ∀ p H', Same H H' → Row K H' p (xs.drop 1) → Q (.ref p) H') :
    rSlL K (.ref a) (some 1) none H Q ∨ rSlA K (.ref a) (some 1) none H Q := by
  rcases hr with hr | hr
  · refine .inl ⟨a, xs, rfl, hr, fun p hp => ?_⟩
    rw [show (1 : Int) = ((1 : Nat) : Int) from rfl, cut_from]
    exact q p _ (NF.Same.new (Same.refl H) hp) (.inl (SqL.of upd_same))
  · refine .inr ⟨a, xs, rfl, hr, fun z => ?_, fun _ p hp => ?_⟩
    · exfalso
      have z1 := z.1
      rw [show (1 : Int) = ((1 : Nat) : Int) from rfl, HT.sIx_nat] at z1
      omega
    · rw [show (1 : Int) = ((1 : Nat) : Int) from rfl, cut_from]
      exact q p _ (NF.Same.new (Same.refl H) hp) (.inr (SqT.of upd_same))
/-- bool(a tuple) -/
theorem call_boolT {X : Cx} {K : PySem.W.Frag} (hK : X.K = K := by rfl) : CallR X (.type "bool") (fun xs H Q => ∃ (a : Addr) (zs : List V), xs = [.ref a] ∧ SqT K H a zs ∧ Q (.bl (!zs.isEmpty)) H) := by
  subst hK
  intro pins s σ H xs us Q I r h
  obtain ⟨a, zs, rfl, hq, q⟩ := h
  obtain rfl := Vals.ref1 r
  obtain ⟨its, rv, pl, hz⟩ := I.tuple hq
  have hl := line63
  have hlen := rv.length
  refine callType_newIn F.called_bool F.newNe_bool (F.typeCall_bool_1 _) (F.newCall_bool_1 _) (fun obj => F.args_object_init_2 obj _) F.entry_bool_new (new_boolO (A0 := X.A.in1) (s0 := s)) ⟨rfl, rfl, ?_⟩
  refine truthy_tuple pl (by simp only [List.size_toArray]; omega) ?_
  refine ⟨rfl, .bl (!zs.isEmpty), H, I.tok _, ?_, q⟩
  rw [isEmpty_of rv]
  rfl
end NF
set_option Elab.async false
set_option linter.all false
set_option maxRecDepth 100000
set_option maxHeartbeats 4000000
/-! a, b = x where x is a list or a tuple; what an error bears. -/
namespace NF
open PySem PySem.Spec PyProof.Rows L2 He RZ NT
def gRow (K : PySem.W.Frag) (n : Nat) (t : TGs) : TG := fun v σ H Q => ∃ a xs, v = .ref a ∧ Row K H a xs ∧ xs.length = n ∧ t xs σ H Q
theorem pgr {X : Cx} {K : PySem.W.Frag} {es : List Expr} {k : Nat} {pos : Pos} {t : TGs} {n : Nat} (hK : X.K = K) (hc : X.calm = true) (h : PGs X es t)
    (hn : (assignEach es X.env).length = n := by rfl) (hst : (assignEach es X.env).findIdx? (·.1) = none := by rfl) : PG X (.Tuple es k pos) (gRow K n t) := by
  subst hK
  refine ⟨fun pins s σ H v u Q I r hw => ?_⟩
  obtain ⟨a, xs, e, hr, hl, hw⟩ := hw
  rcases hr with hr | hr
  · exact (pg_lst hc h hn hst).run pins s σ H v u Q I r ⟨a, xs, e, hr, hl, hw⟩
  · exact (pg_tup hc h hn hst).run pins s σ H v u Q I r ⟨a, xs, e, hr, hl, hw⟩
/-- an error that is let out with one field -/
def badE (K : PySem.W.Frag) (H : Hp) (E : XK) (x f : Str) (v : V) : Prop := ∀ d H', Same H H' → H d = none → H' d = some (.xd [(f, v)]) → E (.ref (ga K x)) (some d) H'
theorem badE.mono {K : PySem.W.Frag} {H H1 : Hp} {E : XK} {x f : Str} {v : V} (h : badE K H E x f v) (s : Same H H1) : badE K H1 E x f v := fun d H' s' hd hx => h d H' (Same.trans s s') (L2.Same.free s hd) hx
theorem badE.go {K : PySem.W.Frag} {H H1 : Hp} {E : XK} {x f : Str} {v : V} (h : badE K H E x f v) (s : Same H H1) : ∀ d H2, H1 d = none → Same H1 H2 → H2 d = some (.xd [(f, v)]) → E (.ref (ga K x)) (some d) H2 := fun d H2 hd s2 hx => h d H2 (Same.trans s s2) (L2.Same.free s hd) hx
/-- an error that bears a pair of numbers -/
def oddE (K : PySem.W.Frag) (H : Hp) (E : XK) (x : Str) (i j : Nat) : Prop := ∀ d t H', Same H H' → H d = none → SqT K H' t [.int (i : Int), .int (j : Int)] → H' d = some (.xd [("thing", .ref t)]) → E (.ref (ga K x)) (some d) H'
theorem oddE.mono {K : PySem.W.Frag} {H H1 : Hp} {E : XK} {x : Str} {i j : Nat} (h : oddE K H E x i j) (s : Same H H1) : oddE K H1 E x i j := fun d t H' s' hd ht hx => h d t H' (Same.trans s s') (L2.Same.free s hd) ht hx
theorem takeS {α : Type} {l : List α} {j : Nat} {x : α} (e : l[j]? = some x) : l.take (j + 1) = l.take j ++ [x] := by
  rw [List.take_add_one, e]
  rfl
/-- two new objects, of which the second one alone matters -/
theorem two_step {H G : Hp} {a p : Addr} {o o' : HO} {R : Hp → Prop} (sG : Same H G) (ha : G a = none) (hp : upd G a o p = none) (go : ∀ H2, Same H H2 → H2 p = some o' → R H2) : R (upd (upd G a o) p o') :=
  go _ (Same.trans sG (Same.trans (NF.Same.new (Same.refl G) ha) (NF.Same.new (Same.refl _) hp))) upd_same
/-- a new object -/
theorem one_step {H G : Hp} {p : Addr} {o : HO} {R : Hp → Prop} (sG : Same H G) (hp : G p = none) (go : ∀ H2, Same G H2 → Same H H2 → H2 p = some o → R H2) : R (upd G p o) :=
  go _ (NF.Same.new (Same.refl G) hp) (Same.trans sG (NF.Same.new (Same.refl G) hp)) upd_same
theorem cr_minK {X : Cx} {K : PySem.W.Frag} (h : X.K = K := by rfl) (hc : X.calm = true := by rfl) : CallR X (.builtin "min") (rMin K) := h ▸ cr_min hc
theorem cr_maxK {X : Cx} {K : PySem.W.Frag} (h : X.K = K := by rfl) (hc : X.calm = true := by rfl) : CallR X (.builtin "max") (rMax K) := h ▸ cr_max hc
end NF
set_option Elab.async false
set_option linter.all false
set_option maxRecDepth 100000
set_option maxHeartbeats 4000000
/-! zip of a tuple and a list. -/
namespace NF
open PySem PySem.Spec PyProof.Rows L2 He RZ
/-- a tuple at a, a list at b, the items in new pairs -/
def Izm (K : PySem.W.Frag) (a b : Addr) : It where
  go i H := ∃ us vs : List V, SqT K H a us ∧ SqL K H b vs ∧ i < us.length ∧ i < vs.length
  yld i H v H' := ∃ T x y, v = .ref T ∧ H T = none ∧ H' = upd H T (.tup [x, y]) ∧ (∀ us, SqT K H a us → us[i]? = some x) ∧ ∀ vs, SqL K H b vs → vs[i]? = some y
  stop i H := ∃ us vs : List V, SqT K H a us ∧ SqL K H b vs ∧ i ≤ us.length ∧ i ≤ vs.length ∧ (i = us.length ∨ i = vs.length)
/-- how the iterators stand -/
def ZmAt (z TI TO i1 i2 a b : Addr) (i : Nat) (h : Heap) : Prop := IsZip h z TI TO .none ∧ IsTupOf2 h TI (.ref i1) (.ref i2) ∧ (∃ x y, IsTupOf2 h TO x y) ∧ h.IsTupleIter i1 a i ∧ h.IsListIter i2 b i
theorem five {c z t u v w : Addr} (h : c ∈ [z, t, u, v, w]) : c = z ∨ c = t ∨ c = u ∨ c = v ∨ c = w := by simpa using h
theorem turn_zm {P : Program} {w : World} {K : PySem.W.Frag} {elts : List Expr} {kk : Nat} {tpos : Pos} {a b z TI TO i1 i2 : Addr} (S : ZipSep2 z TI TO i1 i2 [i1, a] [i2, b]) (na : a ≠ i1) (nb : b ≠ i2) :
    Turn P w K (.Tuple elts kk tpos) (Izm K a b) [z, TI, TO, i1, i2] z (ZmAt z TI TO i1 i2 a b) := by
  have z1 := S.zi1
  have z2 := S.zi2
  have t1 := S.Ti1
  have t2 := S.Ti2
  refine ⟨List.mem_cons_self .., fun i h st c hc => ?_, fun i h h' st k => ?_, ?_, ?_, fun A i s Q E st h => wpAny_pyIter_zip st.1 h⟩
  · obtain ⟨hz, hI, ⟨x, y, hO⟩, ⟨o1, e1, _, d1⟩, o2, e2, _, d2⟩ := st
    rcases five hc with rfl | rfl | rfl | rfl | rfl
    · exact ⟨_, hz, fun v q => nomatch q⟩
    · exact ⟨_, hI, fun v q => nomatch q⟩
    · exact ⟨_, hO, fun v q => nomatch q⟩
    · exact ⟨o1, e1, fun v q => by rw [d1] at q; cases q⟩
    · exact ⟨o2, e2, fun v q => by rw [d2] at q; cases q⟩
  · obtain ⟨hz, hI, ⟨x, y, hO⟩, h1, h2⟩ := st
    exact ⟨k z (by simp) _ hz, k TI (by simp) _ hI, ⟨x, y, k TO (by simp) _ hO⟩, h1.at fun o q => k i1 (by simp) o q, h2.at fun o q => k i2 (by simp) o q⟩
  · intro X hP hw hK hc i pins s σ H E I hf st hg
    subst hP hw hK
    obtain ⟨hz, hI, ⟨x0, y0, hO⟩, h1, h2⟩ := st
    obtain ⟨us, vs, ha, hb, iu, iv⟩ := hg
    obtain ⟨as, ra, pa, _⟩ := I.tuple ha
    obtain ⟨bs, rb, pb, _⟩ := I.list hb
    have la := ra.length
    have lb := rb.length
    have hd : X.A.in1.handled = none := I.ok.hd hc
    have zs : z < s.heap.objs.size := Heap.lt_size hz
    refine wpAny_pyNext_zipD2_item (a1 := x0) (a2 := y0) (i := i) S (Draws.tuple hd i1 a na as.toArray) (Draws.list hd i2 b nb bs.toArray) hz hI hO ⟨h1, pa⟩ ⟨h2, pb.isList⟩ (by simp; omega) (by simp; omega) fun v1 v2 h' tk p1 p2 z' TO' s1' s2' hT hsz hk => ?_
    refine ⟨_, rfl, wpAny_letOwnedTupleGo_zip (s := { s with heap := h', toks := tk }) z' fun g' gz sb => ?_⟩
    obtain ⟨x, hx⟩ : ∃ x, us[i]? = some x := ⟨_, List.getElem?_eq_getElem iu⟩
    obtain ⟨y, hy⟩ : ∃ y, vs[i]? = some y := ⟨_, List.getElem?_eq_getElem iv⟩
    obtain ⟨u1, hu1, r1⟩ := ra.get hx
    obtain ⟨u2, hu2, r2⟩ := rb.get hy
    have p1 : as[i]? = some v1 := by simpa using p1
    have p2 : bs[i]? = some v2 := by simpa using p2
    obtain rfl : u1 = v1 := Option.some.inj (hu1.symm.trans p1)
    obtain rfl : u2 = v2 := Option.some.inj (hu2.symm.trans p2)
    have gT : g'.get? s.heap.objs.size = some { cls := .type "tuple", data := .seq #[u1, u2] } := (sb.2 _ (Nat.ne_of_gt zs)).trans hT
    have ob : ObjOk X.prog X.w (upd H s.heap.objs.size (.tup [x, y])) g' s.heap.objs.size (.tup [x, y]) :=
      ⟨(by decide : 2 ≤ sizeLine), [u1, u2], .cons r1 (.cons r2 .nil), _, gT, rfl, _, rfl⟩
    have far : ∀ c o, c ∉ [z, TI, TO, i1, i2] → s.heap.get? c = some o → g'.get? c = some o := fun c o nc q => by
      have n1 : c ≠ z := fun e => nc (by simp [e])
      refine (sb.2 c n1).trans (hk c o n1 ?_ ?_ ?_ q)
      · exact fun e => nc (by simp [e])
      · exact fun e => nc (by simp [e])
      · exact fun e => nc (by simp [e])
    have I' : Inv X pins σ (upd H s.heap.objs.size (.tup [x, y])) { s with heap := g', toks := tk } := I.turnedNew (t' := tk) far hf (Nat.le_refl _) ob
    have free : H s.heap.objs.size = none := I.hok.fresh (Nat.le_refl _)
    refine ⟨.ref s.heap.objs.size, _, I', rfl, ⟨_, x, y, rfl, free, rfl, fun l hl => ?_, fun l hl => ?_⟩, ⟨gz, ?_, ⟨u1, u2, ?_⟩, ?_, ?_⟩, fun c hcm => ?_⟩
    · rw [I.tuple_inj hl ha, hx]
    · rw [I.list_inj hl hb, hy]
    · exact (sb.2 TI S.TIz).trans (hk TI _ S.TIz S.TITO S.TIi1 S.TIi2 hI)
    · exact (sb.2 TO S.TOz).trans TO'
    · exact s1'.1.at fun o q => (sb.2 i1 z1.symm).trans q
    · exact s2'.1.at fun o q => (sb.2 i2 z2.symm).trans q
    · have lt : c < s.heap.objs.size := by
        obtain ⟨o1, e1, _⟩ := h1
        obtain ⟨o2, e2, _⟩ := h2
        rcases five hcm with rfl | rfl | rfl | rfl | rfl
        · exact zs
        · exact Heap.lt_size hI
        · exact Heap.lt_size hO
        · exact Heap.lt_size e1
        · exact Heap.lt_size e2
      rw [upd_ne (Nat.ne_of_lt lt)]
      exact (hf c hcm).1
  · intro X hP hw hK hc i pins s σ H E I hf st hg
    subst hP hw hK
    obtain ⟨hz, hI, ⟨x0, y0, hO⟩, h1, h2⟩ := st
    obtain ⟨us, vs, ha, hb, iu, iv, hend⟩ := hg
    obtain ⟨as, ra, pa, _⟩ := I.tuple ha
    obtain ⟨bs, rb, pb, _⟩ := I.list hb
    have la := ra.length
    have lb := rb.length
    have hd : X.A.in1.handled = none := I.ok.hd hc
    refine wpAny_pyNext_zipD2_end (a1 := x0) (a2 := y0) (i := i) S (Draws.tuple hd i1 a na as.toArray) (Draws.list hd i2 b nb bs.toArray) hz hI hO ⟨h1, pa⟩ ⟨h2, pb.isList⟩ (by simp; omega) (by simp; omega) (by simp; omega) fun h' tk hk => ⟨rfl, ?_⟩
    refine I.turnedL (t' := tk) (ch := [z, TI, TO, i1, i2]) (fun c o nc q => ?_) hf
    refine hk c o ?_ ?_ ?_ ?_ q
    · exact fun e => nc (by simp [e])
    · exact fun e => nc (by simp [e])
    · exact fun e => nc (by simp [e])
    · exact fun e => nc (by simp [e])
/-- zip of a list or a tuple with a list -/
def iZipM (K : PySem.W.Frag) (ta : TA) : TI := fun σ H R => ta σ H fun ws G => ∃ a b us vs, ws = [.ref a, .ref b] ∧ SqL K G b vs ∧ ((SqL K G a us ∧ R (Itz K a b) G) ∨ (SqT K G a us ∧ R (Izm K a b) G))
theorem pi_zipM {X : Cx} {e e' : Expr} {ta : TA} {p pos tp : Pos} {elts : List Expr} {kk : Nat} (gl : Gl X "zip") (nm : X.mg "zip" = none) (args : PA X [e, e'] ta)
    (st : starEach [e, e'] X.env = (false, eval e X.env) :: starEach [e'] X.env := by rfl) (pl : (backTo pos (starEach [e'] X.env)).any (·.1) = false := by rfl) :
    PI X (.Tuple elts kk tp) (.Call (.Name "zip" p) [e, e'] [] pos) (iZipM X.K ta) := by
  constructor
  intro pins s σ H R I h
  refine Call_ (ld_blt I gl nm PyProof.Rows.boot_zip (PyProof.Rows.callWith_type1 (thn (args.run pos pins s σ H _ I h) ?_) st pl))
  rintro us t ⟨ws, G, J, rw, a, b, xs, ys, rfl, hb, q⟩
  obtain ⟨u1, u2, rfl, e1, e2⟩ : ∃ u1 u2, us = [u1, u2] ∧ u1 = .ref a ∧ u2 = .ref b := by
    cases rw with
    | cons r rr =>
      cases rr with
      | cons r' rr =>
        cases rr
        exact ⟨_, _, rfl, r, r'⟩
  subst e1 e2
  obtain ⟨bs, rb, pb, _⟩ := J.list hb
  generalize hN : t.heap.objs.size = N
  have new : ∀ c, c ∈ [N + 4, N + 2, N + 3, N, N + 1] → FpOk X pins G c := fun c hc => by
    have le : N ≤ c := by
      rcases five hc with rfl | rfl | rfl | rfl | rfl <;> first | exact Nat.le_refl _ | exact Nat.le_add_right _ _
    rw [← hN] at le
    exact J.fpOk le (J.hok.fresh le)
  rcases q with ⟨ha, q⟩ | ⟨ha, q⟩
  · obtain ⟨as, ra, pa, _⟩ := J.list ha
    refine call_zip_2 pa.isList pb.isList fun h' hz hI hO h1 h2 _ hk => wpAny_pyIter_zip hz ?_
    rw [hN] at hz hI hO h1 h2 ⊢
    exact ⟨N + 4, _, _, _, G, rfl, J.kept (t' := t.toks) hk, turn_zip (by rw [← hN]; exact PySem.W.ktu_apart t.heap.objs.size a b pa.lt pb.lt), ⟨hz, hI, ⟨_, _, hO⟩, h1, h2⟩, new, q⟩
  · obtain ⟨as, ra, pa, _⟩ := J.tuple ha
    obtain ⟨oa, hoa, _⟩ := id pa
    have la : a < N := by rw [← hN]; exact Heap.lt_size hoa
    have lb : b < N := by rw [← hN]; exact pb.lt
    refine zip_begins2 (begins_tuple a as.toArray) (begins_list b bs.toArray) pa pb.isList fun h' hz hI hO h1 h2 _ hk => wpAny_pyIter_zip hz ?_
    rw [hN] at hz hI hO h1 h2 ⊢
    refine ⟨N + 4, _, _, _, G, rfl, J.kept (t' := t.toks) hk, turn_zm (zip_sep2 (N := N) (fp1 := [a]) (fp2 := [b]) (fun c hc => ?_) (fun c hc => ?_)) (Nat.ne_of_lt la) ?_, ⟨hz, hI, ⟨_, _, hO⟩, ⟨_, h1, rfl, rfl⟩, ⟨_, h2, rfl, rfl⟩⟩, new, q⟩
    · rw [List.mem_singleton.mp hc]; exact la
    · rw [List.mem_singleton.mp hc]; exact lb
    · exact Nat.ne_of_lt (Nat.lt_succ_of_lt lb)
/-- .. of one length -/
theorem walk_zm {K : PySem.W.Frag} {a b : Addr} {us vs : List V} (hl : us.length = vs.length) : Walk (Izm K a b) us.length (fun H => SqT K H a us ∧ SqL K H b vs) (YPair (fun i => us[i]?) (fun i => vs[i]?)) := by
  refine ⟨fun i _ hi q => ⟨us, vs, q.1, q.2, hi, by omega⟩, fun _ q => ⟨us, vs, q.1, q.2, Nat.le_refl _, by omega, .inl rfl⟩, fun i H v H' _ q y => ?_⟩
  obtain ⟨T, x, z, h1, h2, h3, h4, h5⟩ := y
  exact ⟨T, x, z, h1, h2, h3, h4 us q.1, h5 vs q.2⟩
end NF
set_option Elab.async false
set_option linter.all false
/-! f'..' as an expression with a name of its own, so that a comprehension's reading finds it. -/
namespace NF
open PySem PySem.Spec PyProof.Rows L2
def tJ (ts : List TE) : TE := fun σ H Q => tJs ts Str.empty σ H fun out H1 => Q (.str out) H1
theorem pe_joinedN {X : Cx} {v1 v2 : Expr} {rest : List Expr} {ts : List TE} {pos : Pos} (h : PJ X (v1 :: v2 :: rest) ts) : PE X (.JoinedStr (v1 :: v2 :: rest) pos) (tJ ts) := pe_joined h
end NF
set_option linter.all false
set_option maxHeartbeats 4000000
/-! The names of a term in the order of its text, each once; its samples. Plain Lean. -/
namespace TT
def nms : Trm → List Tx
  | .nm s => [s]
  | .sh _ => []
  | .tn a => nms a
  | .bi _ a b => nms a ++ nms b
def smp : Trm → Nat
  | .nm _ => 1
  | .sh _ => 1
  | .tn a => 2 * smp a
  | .bi w a b => (if w = 2 then 2 else 1) * smp a + (if w = 3 then 2 else 1) * smp b
def addN (acc : List Tx) (x : Tx) : List Tx := if x ∈ acc then acc else acc ++ [x]
def dd (l : List Tx) : List Tx := l.foldl addN []
theorem dd_snoc (l : List Tx) (x : Tx) : dd (l ++ [x]) = addN (dd l) x := by
  unfold dd
  rw [List.foldl_append]
  rfl
theorem fold_dd (l m : List Tx) : m.foldl addN (dd l) = dd (l ++ m) := by
  unfold dd
  rw [List.foldl_append]
theorem snoc_ind {P : List Tx → Prop} (h0 : P []) (h1 : ∀ m x, P m → P (m ++ [x])) : ∀ (n : Nat) (m : List Tx), m.length = n → P m
  | 0, m, e => by
    rw [List.eq_nil_of_length_eq_zero e]
    exact h0
  | n + 1, m, e => by
    rcases List.eq_nil_or_concat m with rfl | ⟨m', x, rfl⟩
    · cases e
    · rw [List.concat_eq_append] at e ⊢
      exact h1 m' x (snoc_ind h0 h1 n m' (by rw [List.length_append, List.length_singleton] at e; omega))
theorem dd_app (l : List Tx) : ∀ m : List Tx, dd (l ++ m) = dd l ++ (dd m).filter fun x => decide (x ∉ dd l) := by
  intro m
  refine snoc_ind (P := fun m => dd (l ++ m) = dd l ++ (dd m).filter fun x => decide (x ∉ dd l)) ?_ ?_ m.length m rfl
  · simp [dd]
  · intro m x ih
    rw [← List.append_assoc, dd_snoc, ih, dd_snoc]
    by_cases hm : x ∈ dd m
    · have e : addN (dd m) x = dd m := if_pos hm
      rw [e]
      refine if_pos ?_
      by_cases hl : x ∈ dd l
      · exact List.mem_append_left _ hl
      · exact List.mem_append_right _ (List.mem_filter.mpr ⟨hm, decide_eq_true hl⟩)
    · have e : addN (dd m) x = dd m ++ [x] := if_neg hm
      rw [e, List.filter_append]
      by_cases hl : x ∈ dd l
      · rw [show addN (dd l ++ (dd m).filter fun x => decide (x ∉ dd l)) x = dd l ++ (dd m).filter fun x => decide (x ∉ dd l) from if_pos (List.mem_append_left _ hl)]
        simp [hl]
      · rw [show addN (dd l ++ (dd m).filter fun x => decide (x ∉ dd l)) x = (dd l ++ (dd m).filter fun x => decide (x ∉ dd l)) ++ [x] from if_neg fun z => (List.mem_append.mp z).elim hl fun z => hm (List.mem_filter.mp z).1]
        simp [hl]
end TT
set_option Elab.async false
set_option linter.all false
set_option maxRecDepth 100000
set_option maxHeartbeats 4000000
/-! The scanner: one piece. -/
namespace K13
open PySem PySem.Spec PyProof.Rows L2 He NF RZ TT
/-- an error that is let out with one field -/
def badE (K : PySem.W.Frag) (H : Hp) (E : XK) (x f : Str) (v : V) : Prop := ∀ d H', Same H H' → H d = none → H' d = some (.xd [(f, v)]) → E (.ref (ga K x)) (some d) H'
theorem badE.mono {K : PySem.W.Frag} {H H1 : Hp} {E : XK} {x f : Str} {v : V} (h : badE K H E x f v) (s : Same H H1) : badE K H1 E x f v := fun d H' s' hd hx => h d H' (Same.trans s s') (L2.Same.free s hd) hx
theorem badE.go {K : PySem.W.Frag} {H H1 : Hp} {E : XK} {x f : Str} {v : V} (h : badE K H E x f v) (s : Same H H1) : ∀ d H2, H1 d = none → Same H1 H2 → H2 d = some (.xd [(f, v)]) → E (.ref (ga K x)) (some d) H2 := fun d H2 hd s2 hx => h d H2 (Same.trans s s2) (L2.Same.free s hd) hx
def scF (t : TT.Tx) (i : Nat) (P R : Addr) (hv : Bool) : List (Str × V) := [("text", .str (tx t)), ("at", .int (i : Int)), ("pieces", .ref P), ("residues", .ref R), ("halved", .bl hv)]
structure ScC (K : PySem.W.Frag) (C : Addr) : Prop where
  cl : Cls K C
  te : NoAttr K C "text"
  at_ : NoAttr K C "at"
  pi : NoAttr K C "pieces"
  re : NoAttr K C "residues"
  ha : NoAttr K C "halved"
structure ScnAt (C x P R dx : Addr) (t : TT.Tx) (H0 : Hp) (i : Nat) (ps : List TT.Tx) (st : List Bool) (hv : Bool) (H : Hp) : Prop where
  s : Same H0 H
  nx : H0 x = none
  nP : H0 P = none
  nR : H0 R = none
  PR : P ≠ R
  hx : H x = some (.ins C dx (scF t i P R hv))
  hP : H P = some (.lst (ps.map fun p => V.str (tx p)))
  hR : H R = some (.lst (st.reverse.map V.bl))
  tl : t.length ≤ 100000
  pl : ps.length ≤ i
  rl : st.length ≤ i + 2
  il : i ≤ t.length
def spTake (K : PySem.W.Frag) (C : Addr) : Sp := fun vs H Q _ => ∃ x P R dx t H0 i ps st hv n, vs = [.ref x, .int ((n : Nat) : Int)] ∧ ScnAt C x P R dx t H0 i ps st hv H ∧ 1 ≤ n ∧ i + n ≤ t.length ∧ ∀ H', ScnAt C x P R dx t H0 (i + n) (ps ++ [(t.drop i).take n]) st hv H' → Q .non H'
def spSign (K : PySem.W.Frag) (C : Addr) : Sp := fun vs H Q _ => ∃ x P R dx t H0 i ps st hv s, vs = [.ref x, .str s] ∧ ScnAt C x P R dx t H0 i ps st hv H ∧ Q (.bl (match t[i]? with | some c => decide (c ∈ s.cps.toList) | none => false)) H
/-- an operand's own piece -/
def leafQ (K : PySem.W.Frag) (C x P R dx : Addr) (t : TT.Tx) (H0 : Hp) (i : Nat) (ps : List TT.Tx) (st : List Bool) (hv : Bool) (s : TT.Tx) (Q : VK) (E : XK) : Nat ⊕ Nat → Prop
  | .inl k => badE K H0 E "BadText" "place" (.int ((i + k : Nat) : Int))
  | .inr m => ∀ H', ScnAt C x P R dx t H0 (i + m) (ps ++ [s.take m]) st hv H' → Q .non H'
def spTkShift (K : PySem.W.Frag) (C : Addr) : Sp := fun vs H Q E => ∃ x P R dx t H0 i ps st hv c s, vs = [.ref x] ∧ ScnAt C x P R dx t H0 i ps st hv H ∧ t.drop i = c :: s ∧ (c = 43 ∨ c = 45) ∧ leafQ K C x P R dx t H0 i ps st hv (c :: s) Q E (leafN (c :: s))
def spTkName (K : PySem.W.Frag) (C : Addr) : Sp := fun vs H Q _ => ∃ x P R dx t H0 i ps st hv c s, vs = [.ref x] ∧ ScnAt C x P R dx t H0 i ps st hv H ∧ t.drop i = c :: s ∧ ∀ H', ScnAt C x P R dx t H0 (i + nmN (c :: s)) (ps ++ [(c :: s).take (nmN (c :: s))]) st hv H' → Q .non H'
theorem sc_Scanner_take : FnScope ["self", "many"] ["self", "many"] (defScope s_Scanner_take) := ⟨rfl, rfl, rfl, by decide +kernel, rfl, by decide +kernel, by decide +kernel⟩
theorem sc_Scanner_sign_among : FnScope ["self", "signs"] ["self", "signs"] (defScope s_Scanner_sign_among) := ⟨rfl, rfl, rfl, by decide +kernel, rfl, by decide +kernel, by decide +kernel⟩
theorem sc_Scanner_take_shift : FnScope ["self", "figures", "behind"] ["self"] (defScope s_Scanner_take_shift) := ⟨rfl, rfl, rfl, by decide +kernel, rfl, by decide +kernel, by decide +kernel⟩
theorem sc_Scanner_take_name : FnScope ["self", "many", "following", "sign"] ["self"] (defScope s_Scanner_take_name) := ⟨rfl, rfl, rfl, by decide +kernel, rfl, by decide +kernel, by decide +kernel⟩
theorem ScnAt.xP {C x P R dx : Addr} {t : TT.Tx} {H0 : Hp} {i : Nat} {ps : List TT.Tx} {st : List Bool} {hv : Bool} {H : Hp} (h : ScnAt C x P R dx t H0 i ps st hv H) : x ≠ P ∧ x ≠ R := by
  refine ⟨fun e => ?_, fun e => ?_⟩
  · have := h.hP
    rw [← e, h.hx] at this
    cases this
  · have := h.hR
    rw [← e, h.hx] at this
    cases this
theorem ix_none {t : TT.Tx} {i : Nat} (h : ¬ i < t.length) : t[i]? = none := List.getElem?_eq_none (by omega)
theorem drop_at {t s : TT.Tx} {i : Nat} (h : t.drop i = s) (j : Nat) : t[i + j]? = s[j]? := by
  rw [← h, List.getElem?_drop]
theorem put_at {t : TT.Tx} {i j : Nat} {P R : Addr} {hv : Bool} : putF "at" (.int (j : Int)) (scF t i P R hv) = scF t j P R hv := rfl
theorem put_ha {t : TT.Tx} {i : Nat} {P R : Addr} {hv b : Bool} : putF "halved" (.bl b) (scF t i P R hv) = scF t i P R b := rfl
theorem tw_len : ∀ {l : TT.Tx} {j c : Nat}, l[j]? = some c → (∀ k d, k < j → l[k]? = some d → isLF d = true) → isLF c = false → (l.takeWhile isLF).length = j
  | [], j, c, h, _, _ => by cases h
  | a :: l, 0, c, h, _, n => by
    obtain rfl : a = c := Option.some.inj h
    rw [List.takeWhile_cons, n]
    rfl
  | a :: l, j + 1, c, h, p, n => by
    rw [List.takeWhile_cons, p 0 a (Nat.succ_pos _) rfl]
    show (l.takeWhile isLF).length + 1 = _
    rw [tw_len (l := l) h (fun k d hk e => p (k + 1) d (Nat.succ_lt_succ hk) e) n]
theorem tw_all : ∀ {l : TT.Tx}, (∀ k d, k < l.length → l[k]? = some d → isLF d = true) → (l.takeWhile isLF).length = l.length
  | [], _ => rfl
  | a :: l, p => by
    rw [List.takeWhile_cons, p 0 a (Nat.succ_pos _) rfl]
    show (l.takeWhile isLF).length + 1 = _
    rw [tw_all (l := l) fun k d hk e => p (k + 1) d (Nat.succ_lt_succ hk) e]
    rfl
section
variable {P : Program} {w : World} {K : PySem.W.Frag} {mg : Str → Option Value} {base : Heap} {gs fs : List Str} {C : Addr} {tok : Tok}
theorem ok_Scanner_take {f : Addr} {fd : FuncData} (F : FunD K "take" "Scanner.take" (defArgs s_Scanner_take) (defBody s_Scanner_take) (defScope s_Scanner_take) [] [] f fd) (T : Txt K mg gs FS) (hc : ScC K C) : FnOk P w K mg base CX0 1 f fd ["self", "many"] (spTake K C) := by
  refine F.ok sc_Scanner_take (fun vs H Q E h => ?_) (fun cdv A outer s H vs Q E hr h => ?_)
  · obtain ⟨x, P, R, dx, t, H0, i, ps, st, hv, n, rfl, _⟩ := h
    rfl
  · obtain ⟨x, P, R, dx, t, H0, i, ps, st, hv, n, rfl, z, n1, hn, q⟩ := h
    refine ⟨_, PSs.nox (pss_cons (ps_expr (pe_bm PySem.F.plainAttrs_list PySem.F.slot_list_append PySem.F.type_list_append mt_append (pe_fld (pv 0) rfl) (pa_cons (pe_slice sl_str (pe_fld (pv 0) rfl) (po_some (pe_fld (pv 0) rfl)) (po_some (pe_op op_add (pe_fld (pv 0) rfl) (pv 1)))) pa_nil))) (pss_one (ps_fld (pv 0) (pe_op op_add (pe_fld (pv 0) rfl) (pv 1)) rfl))), ?_⟩
    have tlS : t.length ≤ sizeLine := Nat.le_trans z.tl (by decide)
    refine ⟨_, rfl, x, C, dx, _, _, rfl, z.hx, hc.cl, hc.pi, rfl, .inl ⟨rfl, _, SqL.of z.hP⟩, ?_⟩
    refine ⟨_, rfl, x, C, dx, _, _, rfl, z.hx, hc.cl, hc.te, rfl, ?_⟩
    refine ⟨_, rfl, x, C, dx, _, _, rfl, z.hx, hc.cl, hc.at_, rfl, (i : Int), rfl, ?_⟩
    refine ⟨_, rfl, x, C, dx, _, _, rfl, z.hx, hc.cl, hc.at_, rfl, _, rfl, _, _, rfl, rfl, ((i + n : Nat) : Int), by rw [Int.natCast_add], ?_⟩
    refine ⟨_, rfl, by rw [tx_len]; exact tlS, ?_⟩
    have tl := z.tl
    have pl := z.pl
    refine ⟨P, _, _, rfl, rfl, z.hP, by rw [List.length_map]; exact Nat.lt_of_le_of_lt (show ps.length ≤ 100000 by omega) (by decide), ?_⟩
    rw [cut_tx (by omega), Nat.add_sub_cancel_left]
    obtain ⟨xP, xR⟩ := z.xP
    have hx1 : ∀ o, upd H P o x = _ := fun o => (upd_ne xP).trans z.hx
    refine ⟨_, rfl, x, C, dx, _, _, rfl, hx1 _, hc.cl, hc.at_, rfl, _, rfl, _, _, rfl, rfl, ?_⟩
    refine ⟨_, rfl, x, C, dx, _, rfl, hx1 _, hc.cl, hc.at_, (by show 5 < 1000; decide), ?_⟩
    refine q _ ⟨NF.Same.mut (NF.Same.mut z.s z.nP) z.nx, z.nx, z.nP, z.nR, z.PR, ?_, ?_, ?_, z.tl, ?_, ?_, hn⟩
    · rw [upd_same]
      show some (HO.ins C dx (putF "at" (V.int ((i : Int) + (n : Int))) (scF t i P R hv))) = _
      rw [← Int.natCast_add, put_at]
    · rw [upd_ne (Ne.symm xP), upd_same, List.map_append]
      rfl
    · rw [upd_ne (Ne.symm xR), upd_ne (Ne.symm z.PR)]
      exact z.hR
    · rw [List.length_append, List.length_singleton]
      omega
    · have := z.rl
      omega
theorem ok_Scanner_sign_among {f : Addr} {fd : FuncData} (F : FunD K "sign_among" "Scanner.sign_among" (defArgs s_Scanner_sign_among) (defBody s_Scanner_sign_among) (defScope s_Scanner_sign_among) [] [] f fd) (T : Txt K mg gs FS) (hc : ScC K C) : FnOk P w K mg base CX0 1 f fd ["self", "signs"] (spSign K C) := by
  refine F.ok sc_Scanner_sign_among (fun vs H Q E h => ?_) (fun cdv A outer s H vs Q E hr h => ?_)
  · obtain ⟨x, P, R, dx, t, H0, i, ps, st, hv, s, rfl, _⟩ := h
    rfl
  · obtain ⟨x, P, R, dx, t, H0, i, ps, st, hv, s, rfl, z, q⟩ := h
    refine ⟨_, PSs.nox (pss_one (ps_ret (pe_and (pe_cmpR op_lt (pe_fld (pv 0) rfl) (pe_callB call_len_str rfl (T.fr _ (by decide +kernel)) boot_len (pa_cons (pe_fld (pv 0) rfl) pa_nil)) (nomark _)) (pe_one (pe_cmpR op_in_sign (pe_ix ix_str (pe_fld (pv 0) rfl) (pe_fld (pv 0) rfl) fun _ _ => rfl) (pv 1) rfl))))), ?_⟩
    have tlS : t.length ≤ sizeLine := Nat.le_trans z.tl (by decide)
    refine ⟨_, rfl, x, C, dx, _, _, rfl, z.hx, hc.cl, hc.at_, rfl, _, rfl, x, C, dx, _, _, rfl, z.hx, hc.cl, hc.te, rfl, tx t, rfl, by rw [tx_len]; exact tlS, ?_⟩
    rw [tx_len]
    refine ⟨_, _, rfl, rfl, _, rfl, ?_⟩
    by_cases c : i < t.length
    · refine iteT' (decide_eq_true (by omega)) ?_
      refine ⟨_, rfl, x, C, dx, _, _, rfl, z.hx, hc.cl, hc.te, rfl, _, rfl, x, C, dx, _, _, rfl, z.hx, hc.cl, hc.at_, rfl, ix_tx tlS (List.getElem?_eq_getElem c) ⟨_, rfl, _, _, rfl, rfl, ?_⟩⟩
      rw [List.getElem?_eq_getElem c] at q
      exact q
    · refine iteF' (decide_eq_false (by omega)) ?_
      rw [ix_none c] at q
      exact q
theorem ok_Scanner_take_shift {f : Addr} {fd : FuncData} (F : FunD K "take_shift" "Scanner.take_shift" (defArgs s_Scanner_take_shift) (defBody s_Scanner_take_shift) (defScope s_Scanner_take_shift) [] [] f fd) (T : Txt K mg gs FS) (hc : ScC K C) {tok1 : Tok} (h_FIGURES : mg "FIGURES" = some (.str "0123456789" tok1)) (m_BadText : ExcI P w K mg base "BadText" "place") (o_take : MetC P w K mg base 1 C "take" (spTake K C)) : FnOk P w K mg base (L2.CX P w) 3 f fd ["self"] (spTkShift K C) := by
  refine F.ok sc_Scanner_take_shift (fun vs H Q E h => ?_) (fun cdv A outer s H vs Q E hr h => ?_)
  · obtain ⟨x, P, R, dx, t, H0, i, ps, st, hv, c, r, rfl, _⟩ := h
    rfl
  · obtain ⟨x, P, R, dx, t, H0, i, ps, st, hv, c, r, rfl, z, ht, hc2, q⟩ := h
    refine ⟨_, (pss_cons (ps_set (i := 1) sc_Scanner_take_shift.nd rfl (Or.inl rfl) (pe_ifExp (pt_cmpR op_eq (pe_ix ix_str (pe_fld (pv 0) rfl) (pe_fld (pv 0) rfl) fun _ _ => rfl) pe_str (nomark _)) (pe_glob (v := .str "0123456789") rfl h_FIGURES ⟨_, rfl⟩) (pe_slice sl_str (pe_glob (v := .str "0123456789") rfl h_FIGURES ⟨_, rfl⟩) (po_some pe_int) po_none))) (pss_cons (ps_set (i := 2) sc_Scanner_take_shift.nd rfl (Or.inl rfl) (pe_op op_add (pe_fld (pv 0) rfl) pe_int)) (pss_cons (ps_if (PW.pt (pw_or (pt_cmpR op_eq (pv 2) (pe_callB call_len_str rfl (T.fr _ (by decide +kernel)) boot_len (pa_cons (pe_fld (pv 0) rfl) pa_nil)) (nomark _)) (pw_or1 (pt_cmpR op_notIn_sign (pe_ix ix_str (pe_fld (pv 0) rfl) (pv 2) fun _ _ => rfl) (pv 1) rfl)))) (pss_one (ps_rz rfl (takes_of rfl rfl rfl rfl) m_BadText hr (by decide) rfl (pv 2))) pss_nil) (pss_one (ps_expr (pe_mt (pv 0) o_take hr (by decide) (pa_cons pe_int pa_nil))))))), ?_⟩
    have tlS : t.length ≤ sizeLine := Nat.le_trans z.tl (by decide)
    have g0 : t[i]? = some c := by
      rw [← Nat.add_zero i, drop_at ht]
      rfl
    obtain ⟨z2, hz2, hin⟩ : ∃ z2 : Str, (∀ Q1 : VK, Q1 (.str z2) H → tIf (tTest (tOp rEq (tOp rIxS (tFld K (tVar 0) "text") (tFld K (tVar 0) "at")) (tC (.str "+")))) (tC (.str "0123456789")) (tSl rSlS (tC (.str "0123456789")) (tPart (tC (.int 1))) tNoPart) (L2.start ["self", "figures", "behind"] [.ref x]) H Q1) ∧ ∀ d : Nat, d ∈ z2.cps.toList ↔ (isFig d = true ∧ ¬ (c = 45 ∧ d = 48)) := by
      rcases hc2 with rfl | rfl
      · refine ⟨"0123456789", fun Q1 q1 => ?_, fun d => ?_⟩
        · refine ⟨_, rfl, x, C, dx, _, _, rfl, z.hx, hc.cl, hc.te, rfl, _, rfl, x, C, dx, _, _, rfl, z.hx, hc.cl, hc.at_, rfl, ix_tx tlS g0 ⟨rfl, _, rfl, ?_⟩⟩
          exact iteT' (by decide +kernel) q1
        · rw [fig_iff]
          exact ⟨fun h => ⟨h, fun z => absurd z.1 (by decide)⟩, fun h => h.1⟩
      · refine ⟨cutS "0123456789" (some 1) none, fun Q1 q1 => ?_, fun d => ?_⟩
        · refine ⟨_, rfl, x, C, dx, _, _, rfl, z.hx, hc.cl, hc.te, rfl, _, rfl, x, C, dx, _, _, rfl, z.hx, hc.cl, hc.at_, rfl, ix_tx tlS g0 ⟨rfl, _, rfl, ?_⟩⟩
          refine iteF' (by decide +kernel) ?_
          exact ⟨_, rfl, _, rfl, (by decide +kernel), q1⟩
        · rw [show (cutS "0123456789" (some 1) none).cps.toList = [49, 50, 51, 52, 53, 54, 55, 56, 57] by decide +kernel]
          unfold isFig
          simp only [List.mem_cons, List.not_mem_nil, or_false, Bool.and_eq_true, decide_eq_true_eq, true_and]
          constructor
          · intro h
            exact ⟨⟨by omega, by omega⟩, by omega⟩
          · rintro ⟨⟨h1, h2⟩, h3⟩
            omega
    refine hz2 _ ?_
    refine ⟨_, rfl, x, C, dx, _, _, rfl, z.hx, hc.cl, hc.at_, rfl, _, _, rfl, rfl, ?_⟩
    refine ⟨_, rfl, _, rfl, x, C, dx, _, _, rfl, z.hx, hc.cl, hc.te, rfl, tx t, rfl, by rw [tx_len]; exact tlS, rfl, _, rfl, ?_⟩
    rw [tx_len]
    have il := (List.getElem?_eq_some_iff.mp g0).1
    have lN : ∀ r', leafN (c :: r') = (match r' with
      | f :: _ => if isFig f = true ∧ ¬ (c = 45 ∧ f = 48) then .inr 2 else .inl 1
      | [] => .inl 1) := fun r' => if_pos hc2
    rw [lN] at q
    cases r with
    | nil =>
      have e1 : i + 1 = t.length := by
        have : (t.drop i).length = 1 := by rw [ht]; rfl
        rw [List.length_drop] at this
        omega
      refine iteT' (decide_eq_true (by rw [← e1]; rfl)) ?_
      exact ⟨_, rfl, raise_done (badE.go q z.s)⟩
    | cons d r =>
      have g1 : t[i + 1]? = some d := by
        rw [drop_at ht]
        rfl
      have i1 := (List.getElem?_eq_some_iff.mp g1).1
      refine iteF' (decide_eq_false fun e => by have e : (i : Int) + 1 = (t.length : Int) := V.int.inj e; omega) ?_
      refine ⟨_, rfl, x, C, dx, _, _, rfl, z.hx, hc.cl, hc.te, rfl, _, rfl, ix_tx (i := i + 1) tlS g1 ⟨_, rfl, _, _, rfl, rfl, _, rfl, ?_⟩⟩
      by_cases hd : isFig d = true ∧ ¬ (c = 45 ∧ d = 48)
      · refine iteF' (by rw [decide_eq_true ((hin d).mpr hd)]; rfl) ?_
        have q : leafQ K C x P R dx t H0 i ps st hv (c :: d :: r) Q E (if isFig d = true ∧ ¬ (c = 45 ∧ d = 48) then .inr 2 else .inl 1) := q
        rw [if_pos hd] at q
        refine ⟨_, rfl, x, dx, _, rfl, z.hx, rfl, x, P, R, dx, t, H0, i, ps, st, hv, 2, rfl, z, by decide, by omega, fun H' z' => q H' ?_⟩
        rw [ht] at z'
        exact z'
      · refine iteT' (by rw [decide_eq_false fun e => hd ((hin d).mp e)]; rfl) ?_
        have q : leafQ K C x P R dx t H0 i ps st hv (c :: d :: r) Q E (if isFig d = true ∧ ¬ (c = 45 ∧ d = 48) then .inr 2 else .inl 1) := q
        rw [if_neg hd] at q
        exact ⟨_, rfl, raise_done (badE.go q z.s)⟩
theorem ok_Scanner_take_name {f : Addr} {fd : FuncData} (F : FunD K "take_name" "Scanner.take_name" (defArgs s_Scanner_take_name) (defBody s_Scanner_take_name) (defScope s_Scanner_take_name) [] [] f fd) (T : Txt K mg gs FS) (hc : ScC K C) {tok1 tok2 tok3 : Tok} (h_LONGEST_NAME : mg "LONGEST_NAME" = some (.int 3 tok1)) (h_LETTERS : mg "LETTERS" = some (.str "abcdefghijklmnopqrstuvwxyz" tok2)) (h_FIGURES : mg "FIGURES" = some (.str "0123456789" tok3)) (o_take : MetC P w K mg base 1 C "take" (spTake K C)) : FnOk P w K mg base CX0 2 f fd ["self"] (spTkName K C) := by
  refine F.ok sc_Scanner_take_name (fun vs H Q E h => ?_) (fun cdv A outer s H vs Q E hr h => ?_)
  · obtain ⟨x, P, R, dx, t, H0, i, ps, st, hv, k, r, rfl, _⟩ := h
    rfl
  · obtain ⟨x, P, R, dx, t, H0, i, ps, st, hv, c0, r, rfl, z, ht, q⟩ := h
    refine ⟨_, PSs.nox (pss_cons (ps_set (i := 1) sc_Scanner_take_name.nd rfl (Or.inl rfl) pe_int) (pss_cons (ps_set (i := 2) sc_Scanner_take_name.nd rfl (Or.inl rfl) (pe_slice sl_str (pe_fld (pv 0) rfl) (po_some (pe_op op_add (pe_fld (pv 0) rfl) pe_int)) (po_some (pe_op op_add (pe_fld (pv 0) rfl) (pe_glob (v := .int 3) rfl h_LONGEST_NAME ⟨_, rfl⟩))))) (pss_cons (ps_for PassesOwn.never rfl (pi_str (pv 2)) (pg_name (i := 3) sc_Scanner_take_name.nd rfl (Or.inl rfl)) (pss_cons (ps_if (PW.pt (pw_and (pt_cmpR op_notIn_sign (pv 3) (pe_glob (v := .str "abcdefghijklmnopqrstuvwxyz") rfl h_LETTERS ⟨_, rfl⟩) rfl) (pw_and1 (pt_cmpR op_notIn_sign (pv 3) (pe_glob (v := .str "0123456789") rfl h_FIGURES ⟨_, rfl⟩) rfl)))) (pss_one ps_break) pss_nil) (pss_one (ps_set (i := 1) sc_Scanner_take_name.nd rfl (Or.inl rfl) (pe_op op_add (pv 1) pe_int))))) (pss_one (ps_expr (pe_mt (pv 0) o_take hr (by decide) (pa_cons (pv 1) pa_nil))))))), ?_⟩
    have tlS : t.length ≤ sizeLine := Nat.le_trans z.tl (by decide)
    refine ⟨_, rfl, x, C, dx, _, _, rfl, z.hx, hc.cl, hc.te, rfl, ?_⟩
    refine ⟨_, rfl, x, C, dx, _, _, rfl, z.hx, hc.cl, hc.at_, rfl, _, _, rfl, rfl, _, rfl, ?_⟩
    refine ⟨_, rfl, x, C, dx, _, _, rfl, z.hx, hc.cl, hc.at_, rfl, _, _, rfl, rfl, _, rfl, ?_⟩
    have ed : t.drop (i + 1) = r := by
      rw [← List.drop_drop, ht]
      rfl
    have ec : cutS (tx t) (some ((i : Int) + 1)) (some ((i : Int) + 3)) = tx (r.take 2) := by
      have := cut_tx (t := t) (a := i + 1) (b := i + 3) (by omega)
      rw [show i + 3 - (i + 1) = 2 by omega, ed] at this
      exact this
    refine ⟨tx t, rfl, by rw [tx_len]; exact tlS, ?_⟩
    rw [ec]
    have hlen : t.length = i + (r.length + 1) := by
      have e : (t.drop i).length = r.length + 1 := by rw [ht]; rfl
      rw [List.length_drop] at e
      omega
    have etw : ((r.take 2).takeWhile isLF).length ≤ r.length := Nat.le_trans (List.takeWhile_prefix _).length_le (by rw [List.length_take]; omega)
    have en : nmN (c0 :: r) = ((r.take 2).takeWhile isLF).length + 1 := Nat.add_comm _ _
    have hk : ∀ v3, tDrop (tMeth C "take" (spTake K C) [] E0 (tVar 0) (tCons (tVar 1) tNil)) { nx := fun _ H' => Q .non H', rt := Q } [some (.ref x), some (.int ((((r.take 2).takeWhile isLF).length + 1 : Nat) : Int)), some (.str (tx (r.take 2))), v3] H := by
      intro v3
      refine ⟨_, rfl, x, dx, _, rfl, z.hx, rfl, _, rfl, x, P, R, dx, t, H0, i, ps, st, hv, ((r.take 2).takeWhile isLF).length + 1, rfl, z, by omega, by omega, fun H' z' => q H' ?_⟩
      rw [ht, ← en] at z'
      exact z'
    refine ⟨_, rfl, _, rfl, ?_⟩
    generalize hq : r.take 2 = qq at *
    refine for_str (fun j σ G => G = H ∧ j ≤ qq.length ∧ (∀ k d, k < j → qq[k]? = some d → isLF d = true) ∧ ∃ v3, σ = [some (.ref x), some (.int ((j + 1 : Nat) : Int)), some (.str (tx qq)), v3]) ⟨rfl, Nat.zero_le _, (fun k d h => absurd h (Nat.not_lt_zero _)), none, rfl⟩ ?_ ?_
    · rintro j c σ G hc' ⟨rfl, hj, hall, v3, rfl⟩
      rw [tx_cps] at hc'
      have hj2 := (List.getElem?_eq_some_iff.mp hc').1
      refine ⟨_, rfl, c, _, rfl, rfl, _, rfl, ?_⟩
      by_cases hlf : isLF c = true
      · have hall' : ∀ k d, k < j + 1 → qq[k]? = some d → isLF d = true := fun k d hk e => by
          rcases Nat.lt_succ_iff_lt_or_eq.mp hk with h | rfl
          · exact hall k d h e
          · rw [hc'] at e
            cases e
            exact hlf
        by_cases hl : isLet c = true
        · refine iteF' (by rw [decide_eq_true ((let_iff c).mpr hl)]; rfl) ?_
          exact ⟨_, rfl, _, _, rfl, rfl, rfl, hj2, hall', _, rfl⟩
        · refine iteT' (by rw [decide_eq_false fun e => hl ((let_iff c).mp e)]; rfl) ?_
          refine ⟨_, rfl, c, _, rfl, rfl, _, rfl, ?_⟩
          have hf : isFig c = true := by
            unfold isLF at hlf
            rw [Bool.or_eq_true] at hlf
            exact hlf.resolve_left hl
          refine iteF' (by rw [decide_eq_true ((fig_iff c).mpr hf)]; rfl) ?_
          exact ⟨_, rfl, _, _, rfl, rfl, rfl, hj2, hall', _, rfl⟩
      · have ej : (qq.takeWhile isLF).length = j := tw_len hc' hall (by simpa using hlf)
        have nl : isLet c = false ∧ isFig c = false := by
          unfold isLF at hlf
          simpa using hlf
        refine iteT' (by rw [decide_eq_false fun e => by rw [(let_iff c).mp e] at nl; cases nl.1]; rfl) ?_
        refine ⟨_, rfl, c, _, rfl, rfl, _, rfl, ?_⟩
        refine iteT' (by rw [decide_eq_false fun e => by rw [(fig_iff c).mp e] at nl; cases nl.2]; rfl) ?_
        have := hk (some (.str ⟨#[c]⟩))
        rw [ej] at this
        exact this
    · rintro σ G ⟨rfl, hj, hall, v3, rfl⟩
      rw [tx_len] at hj hall ⊢
      have ej : (qq.takeWhile isLF).length = qq.length := tw_all hall
      have := hk v3
      rw [ej] at this
      exact this
end
end K13
set_option Elab.async false
set_option linter.all false
set_option maxRecDepth 100000
set_option maxHeartbeats 4000000
/-! The scanner: joints. -/
namespace K13
open PySem PySem.Spec PyProof.Rows L2 He NF RZ TT
theorem find_first {p : TT.Tx → Bool} : ∀ {l : List TT.Tx} {j : Nat} {u : TT.Tx}, (∀ v ∈ l.take j, p v = false) → l[j]? = some u → p u = true → l.find? p = some u
  | [], _, _, _, h, _ => by cases h
  | a :: l, 0, u, _, h, hp => by
    obtain rfl : a = u := Option.some.inj h
    rw [List.find?_cons, hp]
  | a :: l, j + 1, u, hn, h, hp => by
    rw [List.find?_cons, hn a (by simp)]
    exact find_first (l := l) (fun v hv => hn v (by rw [List.take_succ_cons]; exact List.mem_cons_of_mem _ hv)) h hp
theorem take_snoc {l : List TT.Tx} {j : Nat} {u : TT.Tx} (h : l[j]? = some u) : l.take (j + 1) = l.take j ++ [u] := by
  rw [List.take_succ, h]
  rfl
def spShared (K : PySem.W.Frag) : Sp := fun vs H Q _ => ∃ t i s, vs = [.str (tx t), .int ((i : Nat) : Int), .str (tx s)] ∧ t.length ≤ 100000 ∧ s.length ≤ 100000 ∧ Q (.int (lcp (t.drop i) s : Nat)) H
def spJoints (K : PySem.W.Frag) (C : Addr) : Sp := fun vs H Q _ => ∃ x P R dx t H0 i ps st hv, vs = [.ref x] ∧ ScnAt C x P R dx t H0 i ps st hv H ∧ st ≠ [] ∧ ∀ p H', Same H H' → H p = none → SqL K H' p ((jns st hv).map fun s => V.str (tx s)) → Q (.ref p) H'
def spNote (K : PySem.W.Frag) (C : Addr) : Sp := fun vs H Q _ => ∃ x P R dx t H0 i ps f tl hv p, vs = [.ref x, .str (tx p)] ∧ ScnAt C x P R dx t H0 i ps (f :: tl) hv H ∧ isBin p = true ∧ ∀ H', ScnAt C x P R dx t H0 i ps (flagB p f :: tl) (hv || p == blw) H' → Q .non H'
def jointQ (K : PySem.W.Frag) (C x P R dx : Addr) (t : TT.Tx) (H0 : Hp) (i : Nat) (ps : List TT.Tx) (f : Bool) (tl : List Bool) (hv : Bool) (Q : VK) (E : XK) : Nat ⊕ TT.Tx → Prop
  | .inl k => badE K H0 E "BadText" "place" (.int ((i + k : Nat) : Int))
  | .inr p => ∀ H', ScnAt C x P R dx t H0 (i + p.length + 2) (ps ++ [p]) (flagB p f :: tl) (hv || p == blw) H' → Q .non H'
def spTkJoint (K : PySem.W.Frag) (C : Addr) : Sp := fun vs H Q E => ∃ x P R dx t H0 i ps f tl hv c s, vs = [.ref x] ∧ ScnAt C x P R dx t H0 i ps (f :: tl) hv H ∧ t.drop i = c :: s ∧ jointQ K C x P R dx t H0 i ps f tl hv Q E (jntN (jns (f :: tl) hv) (c :: s))
theorem sc_shared_start : FnScope ["text", "at", "word", "many"] ["text", "at", "word"] (defScope s_shared_start) := ⟨rfl, rfl, rfl, by decide +kernel, rfl, by decide +kernel, by decide +kernel⟩
theorem sc_Scanner_joints : FnScope ["self", "found"] ["self"] (defScope s_Scanner_joints) := ⟨rfl, rfl, rfl, by decide +kernel, rfl, by decide +kernel, by decide +kernel⟩
theorem sc_Scanner_note_joint : FnScope ["self", "joint"] ["self", "joint"] (defScope s_Scanner_note_joint) := ⟨rfl, rfl, rfl, by decide +kernel, rfl, by decide +kernel, by decide +kernel⟩
theorem sc_Scanner_take_joint : FnScope ["self", "most", "joint", "many"] ["self"] (defScope s_Scanner_take_joint) := ⟨rfl, rfl, rfl, by decide +kernel, rfl, by decide +kernel, by decide +kernel⟩
theorem ScnAt.mono {C x P R dx : Addr} {t : TT.Tx} {H0 : Hp} {i : Nat} {ps : List TT.Tx} {st : List Bool} {hv : Bool} {H H' : Hp} (z : ScnAt C x P R dx t H0 i ps st hv H) (s : Same H H') : ScnAt C x P R dx t H0 i ps st hv H' :=
  ⟨Same.trans z.s s, z.nx, z.nP, z.nR, z.PR, s _ _ z.hx, s _ _ z.hP, s _ _ z.hR, z.tl, z.pl, z.rl, z.il⟩
theorem ix_last {f : Bool} {tl : List Bool} : ixN ((f :: tl).reverse.map V.bl).length (-1) = some tl.length := by
  rw [List.length_map, List.length_reverse]
  have := HT.sIx_nat 0 0 0
  unfold ixN
  rw [if_neg (by decide), List.length_cons]
  rw [if_pos (by omega)]
  congr 1
  omega
theorem set_last {f b : Bool} {tl : List Bool} : ((f :: tl).reverse.map V.bl).set tl.length (.bl b) = (b :: tl).reverse.map V.bl := by
  rw [List.reverse_cons, List.reverse_cons, List.map_append, List.map_append]
  have : tl.length = (tl.reverse.map V.bl).length := by rw [List.length_map, List.length_reverse]
  rw [this, List.set_append_right _ _ (Nat.le_refl _), Nat.sub_self]
  rfl
theorem ScnAt.setR {C x P R dx : Addr} {t : TT.Tx} {H0 : Hp} {i : Nat} {ps : List TT.Tx} {f : Bool} {tl : List Bool} {hv : Bool} {H : Hp} (z : ScnAt C x P R dx t H0 i ps (f :: tl) hv H) (b : Bool) : ScnAt C x P R dx t H0 i ps (b :: tl) hv (upd H R (.lst (((f :: tl).reverse.map V.bl).set tl.length (.bl b)))) := by
  rw [set_last]
  exact ⟨NF.Same.mut z.s z.nR, z.nx, z.nP, z.nR, z.PR, (upd_ne z.xP.2).trans z.hx, (upd_ne z.PR).trans z.hP, upd_same, z.tl, z.pl, z.rl, z.il⟩
section
variable {P : Program} {w : World} {K : PySem.W.Frag} {mg : Str → Option Value} {base : Heap} {gs fs : List Str} {C : Addr} {tok : Tok}
theorem ok_shared_start {f : Addr} {fd : FuncData} (F : FunD K "shared_start" "shared_start" (defArgs s_shared_start) (defBody s_shared_start) (defScope s_shared_start) [] [] f fd) (T : Txt K mg gs FS) : FnOk P w K mg base CX0 1 f fd ["text", "at", "word"] (spShared K) := by
  refine F.ok sc_shared_start (fun vs H Q E h => ?_) (fun cdv A outer s H vs Q E hr h => ?_)
  · obtain ⟨t, i, s, rfl, _⟩ := h
    rfl
  · obtain ⟨t, i, sw, rfl, ht, hs, q⟩ := h
    refine ⟨_, PSs.nox (pss_cons (ps_set (i := 3) sc_shared_start.nd rfl (Or.inl rfl) pe_int) (pss_cons (ps_while PassesOwn.never (PW.pt (pw_and (pt_cmpR op_lt (pv 3) (pe_callB call_len_str rfl (T.fr _ (by decide +kernel)) boot_len (pa_cons (pv 2) pa_nil)) (nomark _)) (pw_and (pt_cmpR op_lt (pe_op op_add (pv 1) (pv 3)) (pe_callB call_len_str rfl (T.fr _ (by decide +kernel)) boot_len (pa_cons (pv 0) pa_nil)) (nomark _)) (pw_and1 (pt_cmpR op_eq (pe_ix ix_str (pv 0) (pe_op op_add (pv 1) (pv 3)) fun _ _ => rfl) (pe_ix ix_str (pv 2) (pv 3) fun _ _ => rfl) (nomark _)))))) (pss_one (ps_set (i := 3) sc_shared_start.nd rfl (Or.inl rfl) (pe_op op_add (pv 3) pe_int)))) (pss_one (ps_ret (pv 3))))), ?_⟩
    have tlS : t.length ≤ sizeLine := Nat.le_trans ht (by decide)
    have slS : sw.length ≤ sizeLine := Nat.le_trans hs (by decide)
    refine ⟨fun m σ G => G = H ∧ ∃ j : Nat, j ≤ sw.length ∧ m = sw.length - j ∧ j + lcp (t.drop (i + j)) (sw.drop j) = lcp (t.drop i) sw ∧ σ = [some (.str (tx t)), some (.int (i : Int)), some (.str (tx sw)), some (.int (j : Int))], ⟨_, rfl, 0, Nat.zero_le _, rfl, by rw [Nat.zero_add]; rfl, rfl⟩, ?_⟩
    rintro m σ G ⟨hGH, j, hj, rfl, hl, rfl⟩
    refine ⟨_, rfl, _, rfl, tx sw, rfl, by rw [tx_len]; exact slS, _, _, rfl, rfl, _, rfl, ?_⟩
    rw [tx_len]
    have hend : lcp (t.drop (i + j)) (sw.drop j) = 0 → Q (.int (j : Int)) G := fun e => by
      rw [e, Nat.add_zero] at hl
      rw [hl, hGH]
      exact q
    by_cases c1 : j < sw.length
    · refine iteT' (decide_eq_true (by omega)) ?_
      refine ⟨_, rfl, _, rfl, _, _, rfl, rfl, _, rfl, tx t, rfl, by rw [tx_len]; exact tlS, _, _, rfl, rfl, _, rfl, ?_⟩
      rw [tx_len]
      by_cases c2 : i + j < t.length
      · refine iteT' (decide_eq_true (by omega)) ?_
        have ea : t.drop (i + j) = t[i + j] :: t.drop (i + (j + 1)) := List.drop_eq_getElem_cons c2
        have eb : sw.drop j = sw[j] :: sw.drop (j + 1) := List.drop_eq_getElem_cons c1
        refine ⟨_, rfl, _, rfl, _, rfl, _, _, rfl, rfl, ix_tx (i := i + j) tlS (List.getElem?_eq_getElem c2) ⟨_, rfl, _, rfl, ix_tx slS (List.getElem?_eq_getElem c1) ⟨rfl, _, rfl, ?_⟩⟩⟩
        by_cases c3 : t[i + j] = sw[j]
        · refine iteT' (by rw [c3]; exact decide_eq_true rfl) ?_
          refine ⟨fun σ' G' => ∃ m', m' < sw.length - j ∧ (G' = H ∧ ∃ j : Nat, j ≤ sw.length ∧ m' = sw.length - j ∧ j + lcp (t.drop (i + j)) (sw.drop j) = lcp (t.drop i) sw ∧ σ' = [some (.str (tx t)), some (.int (i : Int)), some (.str (tx sw)), some (.int (j : Int))]), fun σ' G' z => z, ?_⟩
          refine ⟨_, rfl, _, _, rfl, rfl, _, ?_, hGH, j + 1, c1, rfl, ?_, rfl⟩
          · show sw.length - (j + 1) < sw.length - j
            omega
          · rw [ea, eb] at hl
            have hl : j + (if t[i + j] = sw[j] then lcp (t.drop (i + (j + 1))) (sw.drop (j + 1)) + 1 else 0) = lcp (t.drop i) sw := hl
            rw [if_pos c3] at hl
            omega
        · refine iteF' (decide_eq_false fun e => c3 ?_) ?_
          · have e := V.str.inj e
            injection e with e
            have e := congrArg Array.toList e
            injection e
          · refine ⟨_, rfl, hend ?_⟩
            rw [ea, eb]
            show (if t[i + j] = sw[j] then _ else 0) = 0
            rw [if_neg c3]
      · refine iteF' (decide_eq_false (by omega)) ?_
        refine iteF ?_
        refine ⟨_, rfl, hend ?_⟩
        rw [show t.drop (i + j) = [] from List.drop_of_length_le (by omega)]
        rfl
    · refine iteF' (decide_eq_false (by omega)) ?_
      refine iteF ?_
      refine ⟨_, rfl, hend ?_⟩
      rw [show sw.drop j = [] from List.drop_of_length_le (by omega), lcp_nil]
theorem ok_Scanner_joints {f : Addr} {fd : FuncData} (F : FunD K "joints" "Scanner.joints" (defArgs s_Scanner_joints) (defBody s_Scanner_joints) (defScope s_Scanner_joints) [] [] f fd) (T : Txt K mg gs FS) (hc : ScC K C) {al rs : Addr} {tok1 : Tok} (hAL : mg "ALWAYS" = some (.ref al)) (hRS : mg "RESIDUES" = some (.ref rs)) (dAL : ∀ H, SqT K H al [.str "*", .str "&", .str "|"]) (dRS : ∀ H, SqT K H rs [.str "under", .str "over"]) (h_BELOW : mg "BELOW" = some (.str "<=" tok1)) : FnOk P w K mg base CX0 1 f fd ["self"] (spJoints K C) := by
  refine F.ok sc_Scanner_joints (fun vs H Q E h => ?_) (fun cdv A outer s H vs Q E hr h => ?_)
  · obtain ⟨x, P, R, dx, t, H0, i, ps, st, hv, rfl, _⟩ := h
    rfl
  · obtain ⟨x, P, R, dx, t, H0, i, ps, st, hv, rfl, z, hst, q⟩ := h
    refine ⟨_, PSs.nox (pss_cons (ps_set (i := 1) sc_Scanner_joints.nd rfl (Or.inl rfl) (pe_callTy call_list_of rfl (T.fr _ (by decide +kernel)) (by decide +kernel) (pa_cons (pe_gl hAL) pa_nil))) (pss_cons (ps_if (pt_not (pt_val (pe_ix (ixl (K := K)) (pe_fld (pv 0) rfl) (pe_un un_neg pe_int) fun _ _ => rfl))) (pss_one (ps_expr (pe_bm PySem.F.plainAttrs_list PySem.F.slot_list_extend PySem.F.type_list_extend mt_extR (pv 1) (pa_cons (pe_gl hRS) pa_nil)))) pss_nil) (pss_cons (ps_if (PW.pt (pw_and (pt_not (pt_val (pe_fld (pv 0) rfl))) (pw_and1 (pt_cmpR op_eq (pe_callB call_len_seq rfl (T.fr _ (by decide +kernel)) boot_len (pa_cons (pe_fld (pv 0) rfl) pa_nil)) pe_int (nomark _))))) (pss_one (ps_expr (pe_bm PySem.F.plainAttrs_list PySem.F.slot_list_append PySem.F.type_list_append mt_append (pv 1) (pa_cons (pe_glob (v := .str "<=") rfl h_BELOW ⟨_, rfl⟩) pa_nil)))) pss_nil) (pss_one (ps_ret (pv 1)))))), ?_⟩
    refine ⟨al, _, rfl, .inr (dAL H), fun D hD => ?_⟩
    have s1 := NF.Same.new (o := .lst [V.str "*", .str "&", .str "|"]) (Same.refl H) hD
    have hD1 := upd_same (H := H) (a := D) (o := .lst [V.str "*", .str "&", .str "|"])
    generalize upd H D (.lst [V.str "*", .str "&", .str "|"]) = H1 at s1 hD1
    have xD : x ≠ D := fun e => by rw [← e, z.hx] at hD; cases hD
    obtain ⟨fl, tl, rfl⟩ : ∃ fl tl, st = fl :: tl := by
      cases st with
      | nil => exact absurd rfl hst
      | cons a b => exact ⟨a, b, rfl⟩
    have hR1 := s1 _ _ z.hR
    have ix : atI ((fl :: tl).reverse.map V.bl) (-1) = some (.bl fl) := by
      rw [List.reverse_cons, List.map_append]
      exact atI_last _ _
    refine ⟨_, rfl, x, C, dx, _, _, rfl, s1 _ _ z.hx, hc.cl, hc.re, rfl, _, rfl, R, _, _, _, rfl, rfl, SqL.of hR1, ix, ?_⟩
    cases fl with
    | true =>
      refine ⟨true, rfl, ?_⟩
      refine iteF' rfl ?_
      have sG := s1
      have hG := hD1
      refine ⟨_, rfl, x, C, dx, _, _, rfl, sG _ _ z.hx, hc.cl, hc.ha, rfl, hv, rfl, ?_⟩
      cases hv with
      | true =>
        refine iteF' rfl ?_
        refine iteF ?_
        exact ⟨_, rfl, q D _ sG hD (SqL.of hG)⟩
      | false =>
        refine iteT' rfl ?_
        refine ⟨_, rfl, x, C, dx, _, _, rfl, sG _ _ z.hx, hc.cl, hc.re, rfl, R, _, rfl, .inl (SqL.of (sG _ _ z.hR)), rfl, _, rfl, ?_⟩
        cases tl with
        | nil =>
          refine iteT ?_
          refine ⟨_, rfl, .inl ⟨rfl, _, SqL.of hG⟩, D, _, _, rfl, rfl, hG, by decide, ?_⟩
          exact ⟨_, rfl, q D _ (NF.Same.mut sG hD) hD (SqL.of upd_same)⟩
        | cons a b =>
          refine iteF' (decide_eq_false fun e => by
            have e := V.int.inj e
            simp at e
            omega) ?_
          refine ⟨_, rfl, q D _ sG hD ?_⟩
          have : jns (true :: a :: b) false = jns (true :: []) true := by
            unfold jns
            simp
          rw [this]
          exact SqL.of hG
    | false =>
      refine ⟨false, rfl, ?_⟩
      refine iteT' rfl ?_
      refine ⟨_, rfl, .inl ⟨rfl, _, SqL.of hD1⟩, D, rs, _, _, rfl, rfl, hD1, .inr (dRS H1), by decide, ?_⟩
      have sG := NF.Same.mut (o := .lst ([V.str "*", .str "&", .str "|"] ++ [.str "under", .str "over"])) s1 hD
      have hG := upd_same (H := H1) (a := D) (o := .lst ([V.str "*", .str "&", .str "|"] ++ [.str "under", .str "over"]))
      generalize upd H1 D (.lst ([V.str "*", .str "&", .str "|"] ++ [.str "under", .str "over"])) = G at sG hG
      refine ⟨_, rfl, x, C, dx, _, _, rfl, sG _ _ z.hx, hc.cl, hc.ha, rfl, hv, rfl, ?_⟩
      cases hv with
      | true =>
        refine iteF' rfl ?_
        refine iteF ?_
        exact ⟨_, rfl, q D _ sG hD (SqL.of hG)⟩
      | false =>
        refine iteT' rfl ?_
        refine ⟨_, rfl, x, C, dx, _, _, rfl, sG _ _ z.hx, hc.cl, hc.re, rfl, R, _, rfl, .inl (SqL.of (sG _ _ z.hR)), rfl, _, rfl, ?_⟩
        cases tl with
        | nil =>
          refine iteT ?_
          refine ⟨_, rfl, .inl ⟨rfl, _, SqL.of hG⟩, D, _, _, rfl, rfl, hG, by decide, ?_⟩
          exact ⟨_, rfl, q D _ (NF.Same.mut sG hD) hD (SqL.of upd_same)⟩
        | cons a b =>
          refine iteF' (decide_eq_false fun e => by
            have e := V.int.inj e
            simp at e
            omega) ?_
          refine ⟨_, rfl, q D _ sG hD ?_⟩
          have : jns (false :: a :: b) false = jns (false :: []) true := by
            unfold jns
            simp
          rw [this]
          exact SqL.of hG
theorem ok_Scanner_note_joint {f : Addr} {fd : FuncData} (F : FunD K "note_joint" "Scanner.note_joint" (defArgs s_Scanner_note_joint) (defBody s_Scanner_note_joint) (defScope s_Scanner_note_joint) [] [] f fd) (T : Txt K mg gs FS) (hc : ScC K C) {rs : Addr} {tok1 : Tok} (hRS : mg "RESIDUES" = some (.ref rs)) (dRS : ∀ H, SqT K H rs [.str "under", .str "over"]) (h_BELOW : mg "BELOW" = some (.str "<=" tok1)) : FnOk P w K mg base CX0 1 f fd ["self", "joint"] (spNote K C) := by
  refine F.ok sc_Scanner_note_joint (fun vs H Q E h => ?_) (fun cdv A outer s H vs Q E hr h => ?_)
  · obtain ⟨x, P, R, dx, t, H0, i, ps, f, tl, hv, p, rfl, _⟩ := h
    rfl
  · obtain ⟨x, P, R, dx, t, H0, i, ps, f, tl, hv, p, rfl, z, hb, q⟩ := h
    refine ⟨_, PSs.nox (pss_cons (ps_if (pt_cmpR op_in_seq (pv 1) (pe_gl hRS) rfl) (pss_one (ps_asg pe_bl (pg_sub (pe_fld (pv 0) rfl) (pe_un un_neg pe_int) set_list))) (pss_one (ps_if (pt_cmpR op_ne (pv 1) pe_str (nomark _)) (pss_one (ps_asg pe_bl (pg_sub (pe_fld (pv 0) rfl) (pe_un un_neg pe_int) set_list))) pss_nil))) (pss_one (ps_if (pt_cmpR op_eq (pv 1) (pe_glob (v := .str "<=") rfl h_BELOW ⟨_, rfl⟩) (nomark _)) (pss_one (ps_fld (pv 0) pe_bl rfl)) pss_nil))), ?_⟩
    have e1 : inV (V.str (tx p)) [V.str "under", .str "over"] = isRes p := by
      rcases bin_in hb with rfl | rfl | rfl | rfl | rfl | rfl <;> decide +kernel
    have e2 : (!decide (V.str (tx p) = V.str "*")) = !(p == sg 4) := by
      rcases bin_in hb with rfl | rfl | rfl | rfl | rfl | rfl <;> decide +kernel
    have e3 : decide (V.str (tx p) = V.str "<=") = (p == blw) := by
      rcases bin_in hb with rfl | rfl | rfl | rfl | rfl | rfl <;> decide +kernel
    refine ⟨_, rfl, rs, _, rfl, .inr (dRS H), rfl, rfl, _, rfl, ?_⟩
    show (if (inV (V.str (tx p)) [V.str "under", .str "over"]) = true then _ else _)
    rw [e1]
    cases hres : isRes p with
    | true =>
      refine iteT ?_
      refine ⟨_, rfl, x, C, dx, _, _, rfl, z.hx, hc.cl, hc.re, rfl, _, rfl, R, _, _, _, rfl, rfl, z.hR, ix_last, ?_⟩
      have z2 := z.setR true
      generalize upd H R _ = G at z2
      have ef : flagB p f = true := by unfold flagB; rw [hres]; rfl
      rw [ef] at q
      refine ⟨_, rfl, rfl, _, rfl, ?_⟩
      rw [e3]
      cases hb : (p == blw) with
      | true =>
        refine iteT ?_
        refine ⟨_, rfl, x, C, dx, _, rfl, z2.hx, hc.cl, hc.ha, (by show 5 < 1000; decide), q _ ?_⟩
        rw [hb, Bool.or_true]
        have zx := z2.xP
        exact ⟨NF.Same.mut z2.s z2.nx, z2.nx, z2.nP, z2.nR, z2.PR, by rw [upd_same, put_ha], by rw [upd_ne (Ne.symm zx.1)]; exact z2.hP, by rw [upd_ne (Ne.symm zx.2)]; exact z2.hR, z2.tl, z2.pl, z2.rl, z2.il⟩
      | false =>
        refine iteF ?_
        rw [hb, Bool.or_false] at q
        exact q _ z2
    | false =>
      refine iteF ?_
      refine ⟨_, rfl, rfl, _, rfl, ?_⟩
      rw [e2]
      cases h4 : (p == sg 4) with
      | true =>
        refine iteF ?_
        have ef : flagB p f = f := by unfold flagB; rw [hres, h4]; rfl
        rw [ef] at q
        have z2 := z
        refine ⟨_, rfl, rfl, _, rfl, ?_⟩
        rw [e3]
        cases hb : (p == blw) with
        | true =>
          refine iteT ?_
          refine ⟨_, rfl, x, C, dx, _, rfl, z2.hx, hc.cl, hc.ha, (by show 5 < 1000; decide), q _ ?_⟩
          rw [hb, Bool.or_true]
          have zx := z2.xP
          exact ⟨NF.Same.mut z2.s z2.nx, z2.nx, z2.nP, z2.nR, z2.PR, by rw [upd_same, put_ha], by rw [upd_ne (Ne.symm zx.1)]; exact z2.hP, by rw [upd_ne (Ne.symm zx.2)]; exact z2.hR, z2.tl, z2.pl, z2.rl, z2.il⟩
        | false =>
          refine iteF ?_
          rw [hb, Bool.or_false] at q
          exact q _ z2
      | false =>
        refine iteT ?_
        refine ⟨_, rfl, x, C, dx, _, _, rfl, z.hx, hc.cl, hc.re, rfl, _, rfl, R, _, _, _, rfl, rfl, z.hR, ix_last, ?_⟩
        have z2 := z.setR false
        generalize upd H R _ = G at z2
        have ef : flagB p f = false := by unfold flagB; rw [hres, h4]; rfl
        rw [ef] at q
        refine ⟨_, rfl, rfl, _, rfl, ?_⟩
        rw [e3]
        cases hb : (p == blw) with
        | true =>
          refine iteT ?_
          refine ⟨_, rfl, x, C, dx, _, rfl, z2.hx, hc.cl, hc.ha, (by show 5 < 1000; decide), q _ ?_⟩
          rw [hb, Bool.or_true]
          have zx := z2.xP
          exact ⟨NF.Same.mut z2.s z2.nx, z2.nx, z2.nP, z2.nR, z2.PR, by rw [upd_same, put_ha], by rw [upd_ne (Ne.symm zx.1)]; exact z2.hP, by rw [upd_ne (Ne.symm zx.2)]; exact z2.hR, z2.tl, z2.pl, z2.rl, z2.il⟩
        | false =>
          refine iteF ?_
          rw [hb, Bool.or_false] at q
          exact q _ z2
theorem ok_Scanner_take_joint {f : Addr} {fd : FuncData} (F : FunD K "take_joint" "Scanner.take_joint" (defArgs s_Scanner_take_joint) (defBody s_Scanner_take_joint) (defScope s_Scanner_take_joint) [] [] f fd) (T : Txt K mg gs FS) (hc : ScC K C) (m_BadText : ExcI P w K mg base "BadText" "place") (c_shared_start : Cal P w K mg base 1 "shared_start" (spShared K)) (o_joints : MetC P w K mg base 1 C "joints" (spJoints K C)) (o_note_joint : MetC P w K mg base 1 C "note_joint" (spNote K C)) (o_take : MetC P w K mg base 1 C "take" (spTake K C)) : FnOk P w K mg base (L2.CX P w) 3 f fd ["self"] (spTkJoint K C) := by
  refine F.ok sc_Scanner_take_joint (fun vs H Q E h => ?_) (fun cdv A outer s H vs Q E hr h => ?_)
  · obtain ⟨x, P, R, dx, t, H0, i, ps, f, tl, hv, c, s, rfl, _⟩ := h
    rfl
  · obtain ⟨x, P, R, dx, t, H0, i, ps, f, tl, hv, c, s, rfl, z, ht, q⟩ := h
    refine ⟨_, (pss_cons (ps_if (pt_cmpR op_ne (pe_ix ix_str (pe_fld (pv 0) rfl) (pe_fld (pv 0) rfl) fun _ _ => rfl) pe_str (nomark _)) (pss_one (ps_rz rfl (takes_of rfl rfl rfl rfl) m_BadText hr (by decide) rfl (pe_fld (pv 0) rfl))) pss_nil) (pss_cons (ps_fld (pv 0) (pe_op op_add (pe_fld (pv 0) rfl) pe_int) rfl) (pss_cons (ps_set (i := 1) sc_Scanner_take_joint.nd rfl (Or.inl rfl) pe_int) (pss_cons (ps_for (passes_of rfl) rfl (pi_list (pe_mt0 (pv 0) o_joints hr (by decide))) (pg_name (i := 2) sc_Scanner_take_joint.nd rfl (Or.inl rfl)) (pss_cons (ps_set (i := 3) sc_Scanner_take_joint.nd rfl (Or.inl rfl) (pe_c c_shared_start hr (by decide) rfl (pa_cons (pe_fld (pv 0) rfl) (pa_cons (pe_fld (pv 0) rfl) (pa_cons (pe_op op_add_str (pv 2) pe_str) pa_nil))))) (pss_cons (ps_if (pt_cmpR op_gt (pv 3) (pe_callB call_len_str rfl (T.fr _ (by decide +kernel)) boot_len (pa_cons (pv 2) pa_nil)) (nomark _)) (pss_cons (ps_expr (pe_mt (pv 0) o_note_joint hr (by decide) (pa_cons (pv 2) pa_nil))) (pss_cons (ps_expr (pe_mt (pv 0) o_take hr (by decide) (pa_cons (pe_callB call_len_str rfl (T.fr _ (by decide +kernel)) boot_len (pa_cons (pv 2) pa_nil)) pa_nil))) (pss_cons (ps_fld (pv 0) (pe_op op_add (pe_fld (pv 0) rfl) pe_int) rfl) (pss_one ps_retN)))) pss_nil) (pss_one (ps_set (i := 1) sc_Scanner_take_joint.nd rfl (Or.inl rfl) (pe_callB (call_max2 rfl) rfl (T.fr _ (by decide +kernel)) (by decide +kernel) (pa_cons (pv 1) (pa_cons (pv 3) pa_nil)))))))) (pss_one (ps_rz rfl (takes_of rfl rfl rfl rfl) m_BadText hr (by decide) rfl (pe_op op_add (pe_fld (pv 0) rfl) (pv 1)))))))), ?_⟩
    have tlS : t.length ≤ sizeLine := Nat.le_trans z.tl (by decide)
    have g0 : t[i]? = some c := by
      rw [← Nat.add_zero i, drop_at ht]
      rfl
    have hlen0 : t.length = i + (s.length + 1) := by
      have e : (t.drop i).length = s.length + 1 := by rw [ht]; rfl
      rw [List.length_drop] at e
      omega
    refine ⟨_, rfl, x, C, dx, _, _, rfl, z.hx, hc.cl, hc.te, rfl, _, rfl, x, C, dx, _, _, rfl, z.hx, hc.cl, hc.at_, rfl, ix_tx tlS g0 ⟨rfl, _, rfl, ?_⟩⟩
    by_cases hc32 : c = 32
    rotate_left
    · refine iteT' (by
        rw [Bool.not_eq_true']
        exact decide_eq_false fun e => hc32 (by
          have e := V.str.inj e
          injection e with e
          have e := congrArg Array.toList e
          injection e)) ?_
      have eq : jntN (jns (f :: tl) hv) (c :: s) = .inl 0 := if_neg hc32
      rw [eq] at q
      exact ⟨_, rfl, x, C, dx, _, _, rfl, z.hx, hc.cl, hc.at_, rfl, raise_done (badE.go q z.s)⟩
    subst hc32
    refine iteF' (by decide +kernel) ?_
    refine ⟨_, rfl, x, C, dx, _, _, rfl, z.hx, hc.cl, hc.at_, rfl, _, _, rfl, rfl, ?_⟩
    refine ⟨_, rfl, x, C, dx, _, rfl, z.hx, hc.cl, hc.at_, (by show 5 < 1000; decide), ?_⟩
    have zx := z.xP
    have z1 : ScnAt C x P R dx t H0 (i + 1) ps (f :: tl) hv (upd H x (.ins C dx (putF "at" (.int ((i + 1 : Nat) : Int)) (scF t i P R hv)))) :=
      ⟨NF.Same.mut z.s z.nx, z.nx, z.nP, z.nR, z.PR, by rw [upd_same, put_at], by rw [upd_ne (Ne.symm zx.1)]; exact z.hP, by rw [upd_ne (Ne.symm zx.2)]; exact z.hR, z.tl, Nat.le_succ_of_le z.pl, Nat.le_succ_of_le z.rl, by omega⟩
    revert z1
    show ScnAt C x P R dx t H0 (i + 1) ps (f :: tl) hv (upd H x (.ins C dx (putF "at" (.int ((i : Int) + 1)) (scF t i P R hv)))) → _
    generalize upd H x _ = H1
    intro z1
    refine ⟨_, rfl, x, dx, _, rfl, z1.hx, rfl, x, P, R, dx, t, H0, i + 1, ps, f :: tl, hv, rfl, z1, by simp, fun D G sG hD0 hD => ?_⟩
    refine ⟨D, rfl, ⟨_, hD⟩, ?_⟩
    have z2 := z1.mono sG
    have ht1 : t.drop (i + 1) = s := by
      rw [← List.drop_drop, ht]
      rfl
    rw [jntN_32] at q
    refine for_list (K := K) (a := D) (xs := (jns (f :: tl) hv).map fun s => V.str (tx s)) (fun j σ G' => G' = G ∧ (∀ v ∈ (jns (f :: tl) hv).take j, (fun j : TT.Tx => decide (j.length < lcp s (j ++ [32]))) v = false) ∧ ∃ (m : Nat) (v2 v3 : Option V), m = ((jns (f :: tl) hv).take j).foldl (fun m j => max m (lcp s (j ++ [32]))) 0 ∧ σ = [some (.ref x), some (.int (m : Int)), v2, v3]) ⟨rfl, (fun k hk => by rw [List.take_zero] at hk; cases hk), 0, none, none, rfl, rfl⟩ (fun j σ G' _ zz => by rw [zz.1]; exact hD) ?_ ?_
    · rintro j y σ G' hy ⟨rfl, hk, m, v2, v3, hm, rfl⟩
      rw [List.getElem?_map] at hy
      obtain ⟨u, hu, rfl⟩ : ∃ u, (jns (f :: tl) hv)[j]? = some u ∧ V.str (tx u) = y := by
        cases e : (jns (f :: tl) hv)[j]? with
        | none =>
          rw [e] at hy
          cases hy
        | some u =>
          rw [e] at hy
          exact ⟨u, rfl, Option.some.inj hy⟩
      have hub := (jns_in (List.mem_of_getElem? hu)).1
      have ul := (jnt_len hub).2
      have esp : tx u ++ (" " : Str) = tx (u ++ [32]) := by
        rw [← tx_app]
        rfl
      refine ⟨_, rfl, x, C, dx, _, _, rfl, z2.hx, hc.cl, hc.te, rfl, _, rfl, x, C, dx, _, _, rfl, z2.hx, hc.cl, hc.at_, rfl, _, rfl, _, _, rfl, rfl, by rw [tx_len]; exact Nat.le_trans (show u.length + 1 ≤ 6 by omega) (by decide), t, i + 1, u ++ [32], by rw [esp]; rfl, z.tl, by rw [List.length_append, List.length_singleton]; omega, ?_⟩
      refine ⟨_, rfl, _, rfl, tx u, rfl, by rw [tx_len]; exact Nat.le_trans ul (by decide), _, _, rfl, rfl, _, rfl, ?_⟩
      rw [tx_len, ht1]
      by_cases e : u.length < lcp s (u ++ [32])
      · rw [jntS_some (find_first hk hu (decide_eq_true e))] at q
        have q : ∀ H', ScnAt C x P R dx t H0 (i + u.length + 2) (ps ++ [u]) (flagB u f :: tl) (hv || u == blw) H' → Q .non H' := q
        refine iteT' (decide_eq_true (by omega)) ?_
        refine ⟨_, rfl, x, dx, _, rfl, z2.hx, rfl, _, rfl, x, P, R, dx, t, H0, i + 1, ps, f, tl, hv, u, rfl, z2, hub, fun G2 z3 => ?_⟩
        have u1 := (jnt_len hub).1
        obtain ⟨r, er⟩ : ∃ r, s = u ++ 32 :: r := by
          have l := lcp_le s (u ++ [32])
          rw [List.length_append] at l
          have l : _ ≤ u.length + 1 := l
          obtain ⟨r, hr⟩ := lcp_full (x := s) (y := u ++ [32]) (by rw [List.length_append]; show _ = u.length + 1; omega)
          exact ⟨r, by rw [hr, List.append_assoc]; rfl⟩
        have hlen : i + u.length + 2 ≤ t.length := by
          rw [er, List.length_append, List.length_cons] at hlen0
          omega
        refine ⟨_, rfl, x, dx, _, rfl, z3.hx, rfl, _, rfl, tx u, rfl, by rw [tx_len]; exact Nat.le_trans ul (by decide), x, P, R, dx, t, H0, i + 1, ps, _, _, u.length, by rw [tx_len]; rfl, z3, u1, by omega, fun G3 z4 => ?_⟩
        rw [ht1, er, List.take_left] at z4
        refine ⟨_, rfl, x, C, dx, _, _, rfl, z4.hx, hc.cl, hc.at_, rfl, _, _, rfl, rfl, ?_⟩
        refine ⟨_, rfl, x, C, dx, _, rfl, z4.hx, hc.cl, hc.at_, (by show 5 < 1000; decide), q _ ?_⟩
        have zx4 := z4.xP
        have e2 : i + 1 + u.length + 1 = i + u.length + 2 := by omega
        refine ⟨NF.Same.mut z4.s z4.nx, z4.nx, z4.nP, z4.nR, z4.PR, ?_, by rw [upd_ne (Ne.symm zx4.1)]; exact z4.hP, by rw [upd_ne (Ne.symm zx4.2)]; exact z4.hR, z4.tl, by have := z4.pl; omega, by have := z4.rl; omega, by omega⟩
        rw [upd_same, ← e2]
        rfl
      · refine iteF' (decide_eq_false (by omega)) ?_
        refine ⟨_, rfl, _, rfl, _, _, rfl, rfl, fun v hv' => ?_, max m (lcp s (u ++ [32])), some (.str (tx u)), some (.int ((lcp s (u ++ [32]) : Nat) : Int)), ?_, ?_⟩
        · rw [take_snoc hu] at hv'
          rcases List.mem_append.mp hv' with h | h
          · exact hk v h
          · rw [List.mem_singleton.mp h]
            exact decide_eq_false e
        · rw [take_snoc hu, List.foldl_append, ← hm]
          rfl
        · have : (if ((lcp s (u ++ [32]) : Nat) : Int) > (m : Int) then ((lcp s (u ++ [32]) : Nat) : Int) else (m : Int)) = ((max m (lcp s (u ++ [32])) : Nat) : Int) := by
            split <;> omega
          show [some (V.ref x), some (V.int (if ((lcp s (u ++ [32]) : Nat) : Int) > (m : Int) then ((lcp s (u ++ [32]) : Nat) : Int) else (m : Int))), _, _] = _
          rw [this]
    · rintro σ G' ⟨rfl, hk, m, v2, v3, hm, rfl⟩
      rw [List.length_map, List.take_length] at hk hm
      rw [jntS_none fun v hv => of_decide_eq_false (hk v hv)] at q
      have q : badE K H0 E "BadText" "place" (.int ((i + (1 + (jns (f :: tl) hv).foldl (fun m j => max m (lcp s (j ++ [32]))) 0) : Nat) : Int)) := q
      rw [← hm] at q
      refine ⟨_, rfl, x, C, dx, _, _, rfl, z2.hx, hc.cl, hc.at_, rfl, _, rfl, _, _, rfl, rfl, ?_⟩
      have ee : ((i + (1 + m) : Nat) : Int) = ((i + 1 : Nat) : Int) + (m : Int) := by omega
      rw [ee] at q
      exact raise_done (badE.go q z2.s)
end
end K13
set_option Elab.async false
set_option linter.all false
set_option maxRecDepth 100000
set_option maxHeartbeats 4000000
/-! The scanner: a whole text. -/
namespace K13
open PySem PySem.Spec PyProof.Rows L2 He NF RZ TT

theorem drop_more {t s r : TT.Tx} {i : Nat} (h : t.drop i = s ++ r) : t.drop (i + s.length) = r := by
  rw [← List.drop_drop, h, List.drop_left]
/-- what an operand does -/
def operQ (K : PySem.W.Frag) (C x P R dx : Addr) (t : TT.Tx) (H0 : Hp) (i : Nat) (ps : List TT.Tx) (st : List Bool) (hv : Bool) (r : TT.Tx) (Q : VK) (E : XK) : Nat ⊕ Nat → Prop
  | .inl k => badE K H0 E "BadText" "place" (.int ((i + (pre r).length + k : Nat) : Int))
  | .inr m => ∀ H', ScnAt C x P R dx t H0 (i + (pre r).length + m) (ps ++ (pre r).map (fun c => [c]) ++ [(aft r).take m]) (List.replicate ((pre r).count 40) false ++ st) hv H' → Q .non H'
def spOperand (K : PySem.W.Frag) (C : Addr) : Sp := fun vs H Q E => ∃ x P R dx t H0 i ps st hv r, vs = [.ref x] ∧ ScnAt C x P R dx t H0 i ps st hv H ∧ st.length ≤ i + 1 ∧ t.drop i = r ∧ operQ K C x P R dx t H0 i ps st hv r Q E (leafN (aft r))
/-- what a scan tells -/
def outQ (K : PySem.W.Frag) (H0 : Hp) (P : Addr) (Q : VK) (E : XK) : Nat ⊕ List TT.Tx → Prop
  | .inl i => badE K H0 E "BadText" "place" (.int (i : Int))
  | .inr all => ∀ H', Same H0 H' → H' P = some (.lst (all.map fun p => V.str (tx p))) → Q (.ref P) H'
def scN (t : TT.Tx) : Nat := 2 * t.length + 3
def spScan (K : PySem.W.Frag) (C : Addr) : Sp := fun vs H Q E => ∃ x P R dx H0 hv, vs = [.ref x] ∧ ((∃ t, ScnAt C x P R dx t H0 0 [] [false] hv H ∧ outQ K H0 P Q E (scanG (scN t) true t 0 [] [false] hv)) ∨
  (∃ v d fs, H x = some (.ins C dx fs) ∧ fs.lookup ("text" : Str) = some v ∧ Dp K H v d ∧ (∀ s, d ≠ .str s) ∧ Same H0 H ∧ badE K H0 E "BadText" "place" (.int (-1))))
def spScInit (K : PySem.W.Frag) (C : Addr) : Sp := fun vs H Q _ => ∃ x dx v b, vs = [.ref x, v, .bl b] ∧ H x = some (.ins C dx []) ∧ ∀ P R H', Same (wo H x) H' → (wo H x) P = none → (wo H x) R = none → P ≠ R →
  H' x = some (.ins C dx [("text", v), ("at", .int 0), ("pieces", .ref P), ("residues", .ref R), ("halved", .bl (!b))]) → H' P = some (.lst []) → H' R = some (.lst [.bl false]) → Q .non H'
/-- what the pieces of a text are -/
def pcsQ (K : PySem.W.Frag) (H : Hp) (Q : VK) (E : XK) : Nat ⊕ List TT.Tx → Prop
  | .inl i => badE K H E "BadText" "place" (.int (i : Int))
  | .inr all => ∀ p H', Same H H' → H p = none → H' p = some (.lst (all.map fun p => V.str (tx p))) → Q (.ref p) H'
def spPieces (K : PySem.W.Frag) : Sp := fun vs H Q E => ∃ v b, vs = [v, .bl b] ∧ ((∃ t, v = .str (tx t) ∧ t.length ≤ 100000 ∧ pcsQ K H Q E (scanG (scN t) true t 0 [] [false] (!b))) ∨
  (∃ d, Dp K H v d ∧ (∀ s, d ≠ .str s) ∧ badE K H E "BadText" "place" (.int (-1))))
theorem sc_Scanner_take_operand : FnScope ["self"] ["self"] (defScope s_Scanner_take_operand) := ⟨rfl, rfl, rfl, by decide +kernel, rfl, by decide +kernel, by decide +kernel⟩
theorem sc_Scanner_scan : FnScope ["self"] ["self"] (defScope s_Scanner_scan) := ⟨rfl, rfl, rfl, by decide +kernel, rfl, by decide +kernel, by decide +kernel⟩
theorem sc_Scanner___init__ : FnScope ["self", "text", "saying"] ["self", "text", "saying"] (defScope s_Scanner_init) := ⟨rfl, rfl, rfl, by decide +kernel, rfl, by decide +kernel, by decide +kernel⟩
theorem sc_pieces_of : FnScope ["text", "saying", "scanner"] ["text", "saying"] (defScope s_pieces_of) := ⟨rfl, rfl, rfl, by decide +kernel, rfl, by decide +kernel, by decide +kernel⟩
theorem sign_is {t : TT.Tx} {i c : Nat} {s : Str} {b : Bool} (g : t[i]? = some c) (h : decide (c ∈ s.cps.toList) = b) : (match t[i]? with | some c => decide (c ∈ s.cps.toList) | none => false) = b := by
  rw [g]
  exact h
theorem sign_no {t : TT.Tx} {i : Nat} {s : Str} (g : t[i]? = none) : (match t[i]? with | some c => decide (c ∈ s.cps.toList) | none => false) = false := by
  rw [g]
def OpI (C x P R dx : Addr) (t : TT.Tx) (H0 : Hp) (hv : Bool) (i : Nat) (ps : List TT.Tx) (st : List Bool) (p : TT.Tx) (m : Nat) (σ : L2.St) (G : Hp) : Prop := ∃ k, k ≤ p.length ∧ ScnAt C x P R dx t H0 (i + k) (ps ++ (p.take k).map (fun c => [c])) (List.replicate ((p.take k).count 40) false ++ st) hv G ∧ (p.take k).count 40 ≤ k ∧ m = p.length - k ∧ σ = [some (.ref x)]
def ScI (C x P R dx : Addr) (t : TT.Tx) (H0 : Hp) (res : Nat ⊕ List TT.Tx) (m : Nat) (σ : L2.St) (G : Hp) : Prop := ∃ n i' ps' f' tl' hv', ScnAt C x P R dx t H0 i' ps' (f' :: tl') hv' G ∧ tl'.length ≤ i' ∧ scanG (n + 1) false (t.drop i') i' ps' (f' :: tl') hv' = res ∧ 2 * (t.length - i') ≤ n ∧ m = t.length - i' ∧ σ = [some (.ref x)]
theorem rep_cons : ∀ (n : Nat) (f : Bool) (tl : List Bool), ∃ f2 tl2, List.replicate n false ++ (f :: tl) = f2 :: tl2 ∧ tl2.length = n + tl.length
  | 0, f, tl => ⟨f, tl, rfl, (Nat.zero_add _).symm⟩
  | n + 1, f, tl => ⟨false, List.replicate n false ++ (f :: tl), rfl, by rw [List.length_append, List.length_replicate, List.length_cons]; omega⟩
section
variable {P : Program} {w : World} {K : PySem.W.Frag} {mg : Str → Option Value} {base : Heap} {gs fs : List Str} {C : Addr} {tok : Tok}
theorem ok_Scanner_take_operand {f : Addr} {fd : FuncData} (F : FunD K "take_operand" "Scanner.take_operand" (defArgs s_Scanner_take_operand) (defBody s_Scanner_take_operand) (defScope s_Scanner_take_operand) [] [] f fd) (T : Txt K mg gs FS) (hc' : ScC K C) {tok1 : Tok} (h_LETTERS : mg "LETTERS" = some (.str "abcdefghijklmnopqrstuvwxyz" tok1)) (m_BadText : ExcI P w K mg base "BadText" "place") (o_take : MetC P w K mg base 1 C "take" (spTake K C)) (o_sign_among : MetC P w K mg base 1 C "sign_among" (spSign K C)) (o_take_shift : MetX P w K mg base 3 C "take_shift" (spTkShift K C)) (o_take_name : MetC P w K mg base 2 C "take_name" (spTkName K C)) : FnOk P w K mg base (L2.CX P w) 4 f fd ["self"] (spOperand K C) := by
  refine F.ok sc_Scanner_take_operand (fun vs H Q E h => ?_) (fun cdv A outer s H vs Q E hr h => ?_)
  · obtain ⟨x, P, R, dx, t, H0, i, ps, st, hv, r, rfl, _⟩ := h
    rfl
  · obtain ⟨x, P, R, dx, t, H0, i, ps, st, hv, r, rfl, z, hl, ht, q⟩ := h
    refine ⟨_, (pss_cons (ps_while (passes_of rfl) (pt_val (pe_mt (pv 0) o_sign_among hr (by decide) (pa_cons pe_str pa_nil))) (pss_cons (ps_if (pt_cmpR op_eq (pe_ix ix_str (pe_fld (pv 0) rfl) (pe_fld (pv 0) rfl) fun _ _ => rfl) pe_str (nomark _)) (pss_one (ps_expr (pe_bm PySem.F.plainAttrs_list PySem.F.slot_list_append PySem.F.type_list_append mt_append (pe_fld (pv 0) rfl) (pa_cons pe_bl pa_nil)))) pss_nil) (pss_one (ps_expr (pe_mt (pv 0) o_take hr (by decide) (pa_cons pe_int pa_nil)))))) (pss_one (ps_if (pt_val (pe_mt (pv 0) o_sign_among hr (by decide) (pa_cons pe_str pa_nil))) (pss_one (ps_expr (pe_mtX0 (takes_of rfl rfl rfl rfl) (pv 0) o_take_shift hr (by decide)))) (pss_one (ps_if (pt_val (pe_mt (pv 0) o_sign_among hr (by decide) (pa_cons (pe_glob (v := .str "abcdefghijklmnopqrstuvwxyz") rfl h_LETTERS ⟨_, rfl⟩) pa_nil))) (pss_one (ps_expr (pe_mt0 (pv 0) o_take_name hr (by decide)))) (pss_one (ps_rz rfl (takes_of rfl rfl rfl rfl) m_BadText hr (by decide) rfl (pe_fld (pv 0) rfl)))))))), ?_⟩
    have tlS : t.length ≤ sizeLine := Nat.le_trans z.tl (by decide)
    have hpa : t.drop i = pre r ++ aft r := by rw [ht]; exact pre_aft r
    have hpin : ∀ c ∈ pre r, c = 126 ∨ c = 40 := fun c hc => pre_in hc
    generalize hp : pre r = p at *
    refine ⟨OpI C x P R dx t H0 hv i ps st p, ⟨_, 0, Nat.zero_le _, by rw [List.take_zero, List.map_nil, List.append_nil, List.count_nil]; exact z, Nat.le_refl _, rfl, rfl⟩, ?_⟩
    rintro m σ G ⟨k, hk, z', hcnt, rfl, rfl⟩
    have hdk : t.drop (i + k) = p.drop k ++ aft r := by
      rw [← List.drop_drop, hpa, List.drop_append_of_le_length hk]
    by_cases c1 : k < p.length
    · have gk : t[i + k]? = some p[k] := by
        have : t[i + k]? = (t.drop i)[k]? := by rw [List.getElem?_drop]
        rw [this, hpa, List.getElem?_append_left c1, List.getElem?_eq_getElem c1]
      have ik : i + k < t.length := (List.getElem?_eq_some_iff.mp gk).1
      have e1 : (t.drop (i + k)).take 1 = [p[k]] := by
        rw [List.drop_eq_getElem_cons ik]
        have : t[i + k] = p[k] := by rw [List.getElem?_eq_getElem ik] at gk; exact Option.some.inj gk
        rw [this]
        rfl
      have et : p.take (k + 1) = p.take k ++ [p[k]] := by
        rw [List.take_succ, List.getElem?_eq_getElem c1]
        rfl
      have ep : ps ++ (p.take k).map (fun c => [c]) ++ [[p[k]]] = ps ++ (p.take (k + 1)).map (fun c => [c]) := by
        rw [et, List.map_append, List.append_assoc]
        rfl
      rcases hpin p[k] (List.getElem_mem c1) with hc | hc
      · refine ⟨_, rfl, x, dx, _, rfl, z'.hx, rfl, x, P, R, dx, t, H0, _, _, _, hv, _, rfl, z', ?_⟩
        refine ⟨true, congrArg V.bl (sign_is gk (by rw [hc]; decide +kernel)), iteT ?_⟩
        refine ⟨fun σ' G' => ∃ m', m' < p.length - k ∧ OpI C x P R dx t H0 hv i ps st p m' σ' G', fun σ' G' y => y, ?_⟩
        refine ⟨_, rfl, x, C, dx, _, _, rfl, z'.hx, hc'.cl, hc'.te, rfl, _, rfl, x, C, dx, _, _, rfl, z'.hx, hc'.cl, hc'.at_, rfl, ix_tx tlS gk ⟨rfl, _, rfl, iteF' (by rw [hc]; decide +kernel) ?_⟩⟩
        refine ⟨_, rfl, x, dx, _, rfl, z'.hx, rfl, x, P, R, dx, t, H0, _, _, _, hv, 1, rfl, z', Nat.le_refl _, by omega, fun G2 z2 => ?_⟩
        rw [e1, ep] at z2
        refine ⟨p.length - (k + 1), by omega, k + 1, c1, ?_, ?_, rfl, rfl⟩
        · have : (p.take (k + 1)).count 40 = (p.take k).count 40 := by rw [et, List.count_append, hc]; rfl
          rw [this]
          exact z2
        · rw [et, List.count_append, hc]
          exact Nat.le_succ_of_le hcnt
      · refine ⟨_, rfl, x, dx, _, rfl, z'.hx, rfl, x, P, R, dx, t, H0, _, _, _, hv, _, rfl, z', ?_⟩
        refine ⟨true, congrArg V.bl (sign_is gk (by rw [hc]; decide +kernel)), iteT ?_⟩
        refine ⟨fun σ' G' => ∃ m', m' < p.length - k ∧ OpI C x P R dx t H0 hv i ps st p m' σ' G', fun σ' G' y => y, ?_⟩
        refine ⟨_, rfl, x, C, dx, _, _, rfl, z'.hx, hc'.cl, hc'.te, rfl, _, rfl, x, C, dx, _, _, rfl, z'.hx, hc'.cl, hc'.at_, rfl, ix_tx tlS gk ⟨rfl, _, rfl, iteT' (by rw [hc]; decide +kernel) ?_⟩⟩
        have ll : (List.replicate ((p.take k).count 40) false ++ st).length = (p.take k).count 40 + st.length := by rw [List.length_append, List.length_replicate]
        refine ⟨_, rfl, x, C, dx, _, _, rfl, z'.hx, hc'.cl, hc'.re, rfl, .inl ⟨rfl, _, SqL.of z'.hR⟩, R, _, _, rfl, rfl, z'.hR, ?_, ?_⟩
        · rw [List.length_map, List.length_reverse, ll]
          have := z.tl
          exact Nat.lt_of_le_of_lt (show (p.take k).count 40 + st.length ≤ 100001 by omega) (by decide)
        · have ec : (p.take (k + 1)).count 40 = (p.take k).count 40 + 1 := by rw [et, List.count_append, hc]; rfl
          have z3 : ScnAt C x P R dx t H0 (i + k) (ps ++ (p.take k).map (fun c => [c])) (false :: (List.replicate ((p.take k).count 40) false ++ st)) hv (upd G R (.lst ((List.replicate ((p.take k).count 40) false ++ st).reverse.map V.bl ++ [.bl false]))) :=
            ⟨NF.Same.mut z'.s z'.nR, z'.nx, z'.nP, z'.nR, z'.PR, (upd_ne z'.xP.2).trans z'.hx, (upd_ne z'.PR).trans z'.hP, by rw [upd_same, List.reverse_cons, List.map_append]; rfl, z'.tl, z'.pl, by rw [List.length_cons, ll]; omega, z'.il⟩
          refine ⟨_, rfl, x, dx, _, rfl, z3.hx, rfl, x, P, R, dx, t, H0, _, _, _, hv, 1, rfl, z3, Nat.le_refl _, by omega, fun G2 z2 => ?_⟩
          rw [e1, ep] at z2
          refine ⟨p.length - (k + 1), by omega, k + 1, c1, ?_, by omega, rfl, rfl⟩
          rw [ec]
          exact z2
    · obtain rfl : k = p.length := by omega
      rw [List.take_length] at z' hcnt
      rw [List.drop_length, List.nil_append] at hdk
      have hsn : ∀ (s : Str), (∀ c r', aft r = c :: r' → decide (c ∈ s.cps.toList) = false) → (match t[i + p.length]? with | some c => decide (c ∈ s.cps.toList) | none => false) = false := fun s hs => by
        have e : t[i + p.length]? = (aft r)[0]? := by rw [← hdk, List.getElem?_drop, Nat.add_zero]
        rw [e]
        cases ea : aft r with
        | nil => rfl
        | cons c r' => exact hs c r' ea
      refine ⟨_, rfl, x, dx, _, rfl, z'.hx, rfl, x, P, R, dx, t, H0, _, _, _, hv, _, rfl, z', ?_⟩
      refine ⟨false, congrArg V.bl (hsn "~(" fun c r' ea => ?_), iteF ?_⟩
      · obtain ⟨h1, h2⟩ := aft_hd ea
        rw [show ("~(" : Str).cps.toList = [126, 40] by decide +kernel]
        exact decide_eq_false fun e => by
          simp only [List.mem_cons, List.not_mem_nil, or_false] at e
          omega
      refine ⟨_, rfl, x, dx, _, rfl, z'.hx, rfl, x, P, R, dx, t, H0, _, _, _, hv, _, rfl, z', ?_⟩
      cases ea : aft r with
      | nil =>
        rw [ea] at q
        have q : badE K H0 E "BadText" "place" (.int ((i + (pre r).length + 0 : Nat) : Int)) := q
        rw [hp] at q
        refine ⟨false, congrArg V.bl (hsn "+-" fun c r' e => by rw [ea] at e; cases e), iteF ?_⟩
        refine ⟨_, rfl, x, dx, _, rfl, z'.hx, rfl, x, P, R, dx, t, H0, _, _, _, hv, _, rfl, z', ?_⟩
        refine ⟨false, congrArg V.bl (hsn _ fun c r' e => by rw [ea] at e; cases e), iteF ?_⟩
        exact ⟨_, rfl, x, C, dx, _, _, rfl, z'.hx, hc'.cl, hc'.at_, rfl, raise_done (badE.go q z'.s)⟩
      | cons c s =>
        rw [ea] at q hdk
        have g0 : t[i + p.length]? = some c := by
          rw [← Nat.add_zero (i + p.length), drop_at hdk]
          rfl
        by_cases hc : c = 43 ∨ c = 45
        · refine ⟨true, congrArg V.bl (sign_is g0 (by rcases hc with rfl | rfl <;> decide +kernel)), iteT ?_⟩
          refine ⟨_, rfl, x, dx, _, rfl, z'.hx, rfl, x, P, R, dx, t, H0, i + p.length, _, _, hv, c, s, rfl, z', hdk, hc, ?_⟩
          revert q
          cases leafN (c :: s) with
          | inl k =>
            intro q
            have q : badE K H0 E "BadText" "place" (.int ((i + (pre r).length + k : Nat) : Int)) := q
            rw [hp] at q
            exact q
          | inr m =>
            intro q
            have q : ∀ H', ScnAt C x P R dx t H0 (i + (pre r).length + m) (ps ++ (pre r).map (fun c => [c]) ++ [(aft r).take m]) (List.replicate ((pre r).count 40) false ++ st) hv H' → Q .non H' := q
            rw [hp, ea] at q
            exact q
        · have n2 : decide (c ∈ ("+-" : Str).cps.toList) = false := by
            rw [show ("+-" : Str).cps.toList = [43, 45] by decide +kernel]
            exact decide_eq_false fun e => by
              simp only [List.mem_cons, List.not_mem_nil, or_false] at e
              omega
          refine ⟨false, congrArg V.bl (sign_is g0 n2), iteF ?_⟩
          refine ⟨_, rfl, x, dx, _, rfl, z'.hx, rfl, x, P, R, dx, t, H0, _, _, _, hv, _, rfl, z', ?_⟩
          have el : leafN (c :: s) = if isLet c = true then .inr (nmN (c :: s)) else .inl 0 := if_neg hc
          by_cases hlt : isLet c = true
          · rw [el, if_pos hlt] at q
            have q : ∀ H', ScnAt C x P R dx t H0 (i + (pre r).length + nmN (c :: s)) (ps ++ (pre r).map (fun c => [c]) ++ [(aft r).take (nmN (c :: s))]) (List.replicate ((pre r).count 40) false ++ st) hv H' → Q .non H' := q
            rw [hp, ea] at q
            refine ⟨true, congrArg V.bl (sign_is g0 (decide_eq_true ((let_iff c).mpr hlt))), iteT ?_⟩
            exact ⟨_, rfl, x, dx, _, rfl, z'.hx, rfl, x, P, R, dx, t, H0, i + p.length, _, _, hv, c, s, rfl, z', hdk, q⟩
          · rw [el, if_neg hlt] at q
            have q : badE K H0 E "BadText" "place" (.int ((i + (pre r).length + 0 : Nat) : Int)) := q
            rw [hp] at q
            refine ⟨false, congrArg V.bl (sign_is g0 (decide_eq_false fun e => hlt ((let_iff c).mp e))), iteF ?_⟩
            exact ⟨_, rfl, x, C, dx, _, _, rfl, z'.hx, hc'.cl, hc'.at_, rfl, raise_done (badE.go q z'.s)⟩
theorem ok_Scanner_scan {f : Addr} {fd : FuncData} (F : FunD K "scan" "Scanner.scan" (defArgs s_Scanner_scan) (defBody s_Scanner_scan) (defScope s_Scanner_scan) [] [] f fd) (T : Txt K mg gs FS) (hc : ScC K C) (m_BadText : ExcI P w K mg base "BadText" "place") (o_take_operand : MetX P w K mg base 4 C "take_operand" (spOperand K C)) (o_take : MetC P w K mg base 1 C "take" (spTake K C)) (o_take_joint : MetX P w K mg base 3 C "take_joint" (spTkJoint K C)) : FnOk P w K mg base (L2.CX P w) 5 f fd ["self"] (spScan K C) := by
  refine F.ok sc_Scanner_scan (fun vs H Q E h => ?_) (fun cdv A outer s H vs Q E hr h => ?_)
  · obtain ⟨x, P, R, dx, H0, hv, rfl, _⟩ := h
    rfl
  · obtain ⟨x, P, R, dx, H0, hv, rfl, ⟨t, z, q⟩ | ⟨v, d, fs, hx, hv1, hd, hns, s0, q⟩⟩ := h
    rotate_left
    · refine ⟨_, (pss_cons (ps_if (pt_not (pt_val (pe_callB call_isi rfl (T.fr _ (by decide +kernel)) (by decide +kernel) (pa_cons (pe_fld (pv 0) rfl) (pa_cons (pe_bltn (v := .ty "str") rfl (T.fr _ (by decide +kernel)) (by decide +kernel) rfl) pa_nil))))) (pss_one (ps_rz rfl (takes_of rfl rfl rfl rfl) m_BadText hr (by decide) rfl (pe_un un_neg pe_int))) pss_nil) (pss_cons (ps_expr (pe_mtX0 (takes_of rfl rfl rfl rfl) (pv 0) o_take_operand hr (by decide))) (pss_cons (ps_while (passes_of rfl) (pt_cmpR op_lt (pe_fld (pv 0) rfl) (pe_callB call_len_str rfl (T.fr _ (by decide +kernel)) boot_len (pa_cons (pe_fld (pv 0) rfl) pa_nil)) (nomark _)) (pss_one (ps_if (PW.pt (pw_and (pt_cmpR op_eq (pe_ix ix_str (pe_fld (pv 0) rfl) (pe_fld (pv 0) rfl) fun _ _ => rfl) pe_str (nomark _)) (pw_and1 (pt_cmpR op_gt (pe_callB call_len_seq rfl (T.fr _ (by decide +kernel)) boot_len (pa_cons (pe_fld (pv 0) rfl) pa_nil)) pe_int (nomark _))))) (pss_cons (ps_expr (pe_bm0 PySem.F.plainAttrs_list PySem.F.slot_list_pop PySem.F.type_list_pop mt_pop (pe_fld (pv 0) rfl))) (pss_one (ps_expr (pe_mt (pv 0) o_take hr (by decide) (pa_cons pe_int pa_nil))))) (pss_cons (ps_expr (pe_mtX0 (takes_of rfl rfl rfl rfl) (pv 0) o_take_joint hr (by decide))) (pss_one (ps_expr (pe_mtX0 (takes_of rfl rfl rfl rfl) (pv 0) o_take_operand hr (by decide)))))))) (pss_cons (ps_if (PW.pt (pw_or (pt_cmpR op_gt (pe_callB call_len_seq rfl (T.fr _ (by decide +kernel)) boot_len (pa_cons (pe_fld (pv 0) rfl) pa_nil)) pe_int (nomark _)) (pw_or1 (pt_not (pt_val (pe_fld (pv 0) rfl)))))) (pss_one (ps_rz rfl (takes_of rfl rfl rfl rfl) m_BadText hr (by decide) rfl (pe_fld (pv 0) rfl))) pss_nil) (pss_one (ps_ret (pe_fld (pv 0) rfl))))))), ?_⟩
      refine ⟨_, rfl, x, C, dx, fs, _, rfl, hx, hc.cl, hc.te, hv1, ?_⟩
      refine ⟨_, _, _, _, _, rfl, .ty "str", dp_ty hd, kit_p_str K d, false, ?_, iteT ?_⟩
      · cases d <;> first | rfl | exact absurd rfl (hns _)
      · exact ⟨_, rfl, raise_done (badE.go q s0)⟩
    refine ⟨_, (pss_cons (ps_if (pt_not (pt_val (pe_callB call_isi rfl (T.fr _ (by decide +kernel)) (by decide +kernel) (pa_cons (pe_fld (pv 0) rfl) (pa_cons (pe_bltn (v := .ty "str") rfl (T.fr _ (by decide +kernel)) (by decide +kernel) rfl) pa_nil))))) (pss_one (ps_rz rfl (takes_of rfl rfl rfl rfl) m_BadText hr (by decide) rfl (pe_un un_neg pe_int))) pss_nil) (pss_cons (ps_expr (pe_mtX0 (takes_of rfl rfl rfl rfl) (pv 0) o_take_operand hr (by decide))) (pss_cons (ps_while (passes_of rfl) (pt_cmpR op_lt (pe_fld (pv 0) rfl) (pe_callB call_len_str rfl (T.fr _ (by decide +kernel)) boot_len (pa_cons (pe_fld (pv 0) rfl) pa_nil)) (nomark _)) (pss_one (ps_if (PW.pt (pw_and (pt_cmpR op_eq (pe_ix ix_str (pe_fld (pv 0) rfl) (pe_fld (pv 0) rfl) fun _ _ => rfl) pe_str (nomark _)) (pw_and1 (pt_cmpR op_gt (pe_callB call_len_seq rfl (T.fr _ (by decide +kernel)) boot_len (pa_cons (pe_fld (pv 0) rfl) pa_nil)) pe_int (nomark _))))) (pss_cons (ps_expr (pe_bm0 PySem.F.plainAttrs_list PySem.F.slot_list_pop PySem.F.type_list_pop mt_pop (pe_fld (pv 0) rfl))) (pss_one (ps_expr (pe_mt (pv 0) o_take hr (by decide) (pa_cons pe_int pa_nil))))) (pss_cons (ps_expr (pe_mtX0 (takes_of rfl rfl rfl rfl) (pv 0) o_take_joint hr (by decide))) (pss_one (ps_expr (pe_mtX0 (takes_of rfl rfl rfl rfl) (pv 0) o_take_operand hr (by decide)))))))) (pss_cons (ps_if (PW.pt (pw_or (pt_cmpR op_gt (pe_callB call_len_seq rfl (T.fr _ (by decide +kernel)) boot_len (pa_cons (pe_fld (pv 0) rfl) pa_nil)) pe_int (nomark _)) (pw_or1 (pt_not (pt_val (pe_fld (pv 0) rfl)))))) (pss_one (ps_rz rfl (takes_of rfl rfl rfl rfl) m_BadText hr (by decide) rfl (pe_fld (pv 0) rfl))) pss_nil) (pss_one (ps_ret (pe_fld (pv 0) rfl))))))), ?_⟩
    have tlS : t.length ≤ sizeLine := Nat.le_trans z.tl (by decide)
    refine ⟨_, rfl, x, C, dx, _, _, rfl, z.hx, hc.cl, hc.te, rfl, ?_⟩
    refine ⟨_, _, _, _, _, rfl, .ty "str", .base (.str _), kit_p_str K (.str (tx t)), true, rfl, iteF ?_⟩
    obtain ⟨res, hres⟩ : ∃ res, res = scanG (scN t) true t 0 [] [false] hv := ⟨_, rfl⟩
    rw [← hres] at q
    have hres : scanG (2 * t.length + 2 + 1) true t 0 [] [false] hv = res := hres.symm
    refine ⟨_, rfl, x, dx, _, rfl, z.hx, rfl, x, P, R, dx, t, H0, 0, [], [false], hv, t, rfl, z, by decide, rfl, ?_⟩
    have hres : (match leafN (aft t) with
      | .inl k => (Sum.inl (0 + (pre t).length + k) : Nat ⊕ List TT.Tx)
      | .inr m => scanG (2 * t.length + 2) false ((aft t).drop m) (0 + (pre t).length + m) ([] ++ (pre t).map (fun c => [c]) ++ [(aft t).take m]) (List.replicate ((pre t).count 40) false ++ [false]) hv) = res := hres
    have hdrop : ∀ m, (aft t).drop m = t.drop (0 + (pre t).length + m) := fun m => by rw [aft_eq, List.drop_drop, Nat.zero_add]
    cases hl : leafN (aft t) with
    | inl k =>
      rw [hl] at hres
      rw [← hres] at q
      exact q
    | inr m =>
      rw [hl] at hres
      have hres : scanG (2 * t.length + 1 + 1) false ((aft t).drop m) (0 + (pre t).length + m) ([] ++ (pre t).map (fun c => [c]) ++ [(aft t).take m]) (List.replicate ((pre t).count 40) false ++ [false]) hv = res := hres
      rw [hdrop] at hres
      intro G z1
      have lm := (leafN_ok hl).2.1
      have cp : (pre t).count 40 ≤ (pre t).length := List.count_le_length
      obtain ⟨f2, tl2, e2, l2⟩ := rep_cons ((pre t).count 40) false []
      rw [e2] at hres z1
      rw [List.length_nil] at l2
      refine ⟨ScI C x P R dx t H0 res, ⟨_, 2 * t.length + 1, 0 + (pre t).length + m, _, f2, tl2, hv, z1, by omega, hres, by omega, rfl, rfl⟩, ?_⟩
      clear hres z1 lm cp hl
      rintro m σ G ⟨n, i', ps', f', tl', hv', z', hl', hs', hn', rfl, rfl⟩
      refine ⟨_, rfl, x, C, dx, _, _, rfl, z'.hx, hc.cl, hc.at_, rfl, _, rfl, x, C, dx, _, _, rfl, z'.hx, hc.cl, hc.te, rfl, tx t, rfl, by rw [tx_len]; exact tlS, _, _, rfl, rfl, _, rfl, ?_⟩
      rw [tx_len]
      have hil := z'.il
      cases hd' : t.drop i' with
      | nil =>
        have il : t.length = i' := by
          have : (t.drop i').length = 0 := by rw [hd']; rfl
          rw [List.length_drop] at this
          omega
        refine iteF' (decide_eq_false (by omega)) ?_
        rw [hd'] at hs'
        have hs' : (if 1 < (f' :: tl').length ∨ hv' = false then Sum.inl i' else Sum.inr ps') = res := hs'
        have hll : (((f' :: tl').reverse.map V.bl).length) = (f' :: tl').length := by rw [List.length_map, List.length_reverse]
        refine ⟨_, rfl, x, C, dx, _, _, rfl, z'.hx, hc.cl, hc.re, rfl, R, _, rfl, .inl (SqL.of z'.hR), _, _, rfl, rfl, _, rfl, ?_⟩
        rw [hll]
        by_cases h1 : 1 < (f' :: tl').length
        · rw [if_pos (.inl h1)] at hs'
          rw [← hs'] at q
          refine iteT' (decide_eq_true (by omega)) ?_
          exact iteT ⟨_, rfl, x, C, dx, _, _, rfl, z'.hx, hc.cl, hc.at_, rfl, raise_done (badE.go q z'.s)⟩
        · refine iteF' (decide_eq_false (by omega)) ?_
          refine ⟨_, rfl, x, C, dx, _, _, rfl, z'.hx, hc.cl, hc.ha, rfl, hv', rfl, ?_⟩
          cases hv' with
          | false =>
            rw [if_pos (.inr rfl)] at hs'
            rw [← hs'] at q
            exact iteT ⟨_, rfl, x, C, dx, _, _, rfl, z'.hx, hc.cl, hc.at_, rfl, raise_done (badE.go q z'.s)⟩
          | true =>
            rw [if_neg (fun y => y.elim h1 fun y => by cases y)] at hs'
            rw [← hs'] at q
            exact iteF ⟨_, rfl, x, C, dx, _, _, rfl, z'.hx, hc.cl, hc.pi, rfl, q G z'.s z'.hP⟩
      | cons c r =>
        have il : t.length = i' + (r.length + 1) := by
          have e : (t.drop i').length = r.length + 1 := by rw [hd']; rfl
          rw [List.length_drop] at e
          omega
        have g0 : t[i']? = some c := by
          rw [← Nat.add_zero i', drop_at hd']
          rfl
        rw [hd'] at hs'
        have hs' : (if c = 41 ∧ 1 < (f' :: tl').length then scanG n false r (i' + 1) (ps' ++ [cls]) tl' hv' else
          match jntN (jns (f' :: tl') hv') (c :: r) with
          | .inl k => (Sum.inl (i' + k) : Nat ⊕ List TT.Tx)
          | .inr j => scanG n true (r.drop (j.length + 1)) (i' + j.length + 2) (ps' ++ [j]) (flagB j f' :: tl') (hv' || j == blw)) = res := hs'
        refine iteT' (decide_eq_true (by omega)) ?_
        refine ⟨fun σ' G' => ∃ m', m' < t.length - i' ∧ ScI C x P R dx t H0 res m' σ' G', fun σ' G' y => y, ?_⟩
        refine ⟨_, rfl, x, C, dx, _, _, rfl, z'.hx, hc.cl, hc.te, rfl, _, rfl, x, C, dx, _, _, rfl, z'.hx, hc.cl, hc.at_, rfl, ix_tx tlS g0 ⟨rfl, _, rfl, ?_⟩⟩
        by_cases hcc : c = 41
        · subst hcc
          refine iteT' (by decide +kernel) ?_
          refine ⟨_, rfl, x, C, dx, _, _, rfl, z'.hx, hc.cl, hc.re, rfl, R, _, rfl, .inl (SqL.of z'.hR), _, _, rfl, rfl, _, rfl, ?_⟩
          rw [show (((f' :: tl').reverse.map V.bl).length) = (f' :: tl').length by rw [List.length_map, List.length_reverse]]
          by_cases h1 : 1 < (f' :: tl').length
          · rw [if_pos ⟨rfl, h1⟩] at hs'
            refine iteT' (decide_eq_true (by omega)) ?_
            obtain ⟨f2, tl2, rfl⟩ : ∃ f2 tl2, tl' = f2 :: tl2 := by
              cases tl' with
              | nil => exact absurd h1 (by show ¬ 1 < 0 + 1; omega)
              | cons a b => exact ⟨a, b, rfl⟩
            obtain ⟨n2, rfl⟩ : ∃ n2, n = n2 + 1 := ⟨n - 1, by omega⟩
            have er : (f' :: f2 :: tl2).reverse.map V.bl = (f2 :: tl2).reverse.map V.bl ++ [.bl f'] := by rw [List.reverse_cons, List.map_append]; rfl
            have hR' := z'.hR
            rw [er] at hR'
            refine ⟨_, rfl, x, C, dx, _, _, rfl, z'.hx, hc.cl, hc.re, rfl, .inl ⟨rfl, _, SqL.of hR'⟩, R, _, .bl f', rfl, rfl, hR', by simp, ?_⟩
            rw [List.dropLast_concat]
            have ll : (f2 :: tl2).length = tl2.length + 1 := rfl
            have z3 : ScnAt C x P R dx t H0 i' ps' (f2 :: tl2) hv' (upd G R (.lst ((f2 :: tl2).reverse.map V.bl))) :=
                ⟨NF.Same.mut z'.s z'.nR, z'.nx, z'.nP, z'.nR, z'.PR, (upd_ne z'.xP.2).trans z'.hx, (upd_ne z'.PR).trans z'.hP, upd_same, z'.tl, z'.pl, by omega, z'.il⟩
            refine ⟨_, rfl, x, dx, _, rfl, z3.hx, rfl, x, P, R, dx, t, H0, i', ps', f2 :: tl2, hv', 1, rfl, z3, Nat.le_refl _, by omega, fun G2 z2 => ?_⟩
            rw [hd', show ((41 :: r).take 1) = cls from rfl] at z2
            have hd2 : t.drop (i' + 1) = r := by
              rw [← List.drop_drop, hd']
              rfl
            rw [← hd2] at hs'
            exact ⟨_, (by omega), n2, _, _, f2, tl2, _, z2, by omega, hs', by omega, rfl, rfl⟩
          · rw [if_neg (fun y => h1 y.2)] at hs'
            refine iteF' (decide_eq_false (by omega)) ?_
            refine ⟨_, rfl, x, dx, _, rfl, z'.hx, rfl, x, P, R, dx, t, H0, i', ps', f', tl', hv', 41, r, rfl, z', hd', ?_⟩
            cases hj : jntN (jns (f' :: tl') hv') (41 :: r) with
            | inl k =>
              rw [hj] at hs'
              rw [← hs'] at q
              exact q
            | inr j =>
              rw [hj] at hs'
              have hs' : scanG n true (r.drop (j.length + 1)) (i' + j.length + 2) (ps' ++ [j]) (flagB j f' :: tl') (hv' || j == blw) = res := hs'
              intro G2 z2
              obtain ⟨_, hj2, r2, er⟩ := jntN_ok hj
              have jl := jnt_len (jns_in hj2).1
              have hrl : r.length = j.length + (r2.length + 1) := by rw [er, List.length_append, List.length_cons]
              have hdj : t.drop (i' + j.length + 2) = r.drop (j.length + 1) := by
                have : t.drop (i' + (j.length + 2)) = (t.drop i').drop (j.length + 2) := (List.drop_drop ..).symm
                rw [Nat.add_assoc, this, hd']
                rfl
              obtain ⟨n2, rfl⟩ : ∃ n2, n = n2 + 1 + 1 := ⟨n - 2, by omega⟩
              refine ⟨_, rfl, x, dx, _, rfl, z2.hx, rfl, x, P, R, dx, t, H0, _, _, _, _, _, rfl, z2, (by rw [List.length_cons]; omega), hdj, ?_⟩
              have hd3 : ∀ m, (aft (r.drop (j.length + 1))).drop m = t.drop (i' + j.length + 2 + (pre (r.drop (j.length + 1))).length + m) := fun m => by
                rw [aft_eq, ← hdj, List.drop_drop, List.drop_drop, ← Nat.add_assoc]
              have hs' : (match leafN (aft (r.drop (j.length + 1))) with
                | .inl k => (Sum.inl (i' + j.length + 2 + (pre (r.drop (j.length + 1))).length + k) : Nat ⊕ List TT.Tx)
                | .inr m => scanG (n2 + 1) false ((aft (r.drop (j.length + 1))).drop m) (i' + j.length + 2 + (pre (r.drop (j.length + 1))).length + m) ((ps' ++ [j]) ++ (pre (r.drop (j.length + 1))).map (fun c => [c]) ++ [(aft (r.drop (j.length + 1))).take m]) (List.replicate ((pre (r.drop (j.length + 1))).count 40) false ++ (flagB j f' :: tl')) (hv' || j == blw)) = res := hs'
              cases hl : leafN (aft (r.drop (j.length + 1))) with
              | inl k =>
                rw [hl] at hs'
                rw [← hs'] at q
                exact q
              | inr m =>
                rw [hl] at hs'
                have hs' : scanG (n2 + 1) false ((aft (r.drop (j.length + 1))).drop m) (i' + j.length + 2 + (pre (r.drop (j.length + 1))).length + m) ((ps' ++ [j]) ++ (pre (r.drop (j.length + 1))).map (fun c => [c]) ++ [(aft (r.drop (j.length + 1))).take m]) (List.replicate ((pre (r.drop (j.length + 1))).count 40) false ++ (flagB j f' :: tl')) (hv' || j == blw) = res := hs'
                rw [hd3] at hs'
                intro G3 z3
                have lm := (leafN_ok hl).2.1
                have cp : (pre (r.drop (j.length + 1))).count 40 ≤ (pre (r.drop (j.length + 1))).length := List.count_le_length
                obtain ⟨f2, tl2, e2, l2⟩ := rep_cons ((pre (r.drop (j.length + 1))).count 40) (flagB j f') tl'
                rw [e2] at hs' z3
                exact ⟨_, (by have := z3.il; omega), n2, _, _, f2, tl2, _, z3, by omega, hs', by omega, rfl, rfl⟩
        · rw [if_neg (fun y => hcc y.1)] at hs'
          refine iteF' (decide_eq_false fun e => hcc (by
            have e := V.str.inj e
            injection e with e
            have e := congrArg Array.toList e
            injection e)) ?_
          refine ⟨_, rfl, x, dx, _, rfl, z'.hx, rfl, x, P, R, dx, t, H0, i', ps', f', tl', hv', c, r, rfl, z', hd', ?_⟩
          cases hj : jntN (jns (f' :: tl') hv') (c :: r) with
          | inl k =>
            rw [hj] at hs'
            rw [← hs'] at q
            exact q
          | inr j =>
            rw [hj] at hs'
            have hs' : scanG n true (r.drop (j.length + 1)) (i' + j.length + 2) (ps' ++ [j]) (flagB j f' :: tl') (hv' || j == blw) = res := hs'
            intro G2 z2
            obtain ⟨_, hj2, r2, er⟩ := jntN_ok hj
            have jl := jnt_len (jns_in hj2).1
            have hrl : r.length = j.length + (r2.length + 1) := by rw [er, List.length_append, List.length_cons]
            have hdj : t.drop (i' + j.length + 2) = r.drop (j.length + 1) := by
              have : t.drop (i' + (j.length + 2)) = (t.drop i').drop (j.length + 2) := (List.drop_drop ..).symm
              rw [Nat.add_assoc, this, hd']
              rfl
            obtain ⟨n2, rfl⟩ : ∃ n2, n = n2 + 1 + 1 := ⟨n - 2, by omega⟩
            refine ⟨_, rfl, x, dx, _, rfl, z2.hx, rfl, x, P, R, dx, t, H0, _, _, _, _, _, rfl, z2, (by rw [List.length_cons]; omega), hdj, ?_⟩
            have hd3 : ∀ m, (aft (r.drop (j.length + 1))).drop m = t.drop (i' + j.length + 2 + (pre (r.drop (j.length + 1))).length + m) := fun m => by
              rw [aft_eq, ← hdj, List.drop_drop, List.drop_drop, ← Nat.add_assoc]
            have hs' : (match leafN (aft (r.drop (j.length + 1))) with
              | .inl k => (Sum.inl (i' + j.length + 2 + (pre (r.drop (j.length + 1))).length + k) : Nat ⊕ List TT.Tx)
              | .inr m => scanG (n2 + 1) false ((aft (r.drop (j.length + 1))).drop m) (i' + j.length + 2 + (pre (r.drop (j.length + 1))).length + m) ((ps' ++ [j]) ++ (pre (r.drop (j.length + 1))).map (fun c => [c]) ++ [(aft (r.drop (j.length + 1))).take m]) (List.replicate ((pre (r.drop (j.length + 1))).count 40) false ++ (flagB j f' :: tl')) (hv' || j == blw)) = res := hs'
            cases hl : leafN (aft (r.drop (j.length + 1))) with
            | inl k =>
              rw [hl] at hs'
              rw [← hs'] at q
              exact q
            | inr m =>
              rw [hl] at hs'
              have hs' : scanG (n2 + 1) false ((aft (r.drop (j.length + 1))).drop m) (i' + j.length + 2 + (pre (r.drop (j.length + 1))).length + m) ((ps' ++ [j]) ++ (pre (r.drop (j.length + 1))).map (fun c => [c]) ++ [(aft (r.drop (j.length + 1))).take m]) (List.replicate ((pre (r.drop (j.length + 1))).count 40) false ++ (flagB j f' :: tl')) (hv' || j == blw) = res := hs'
              rw [hd3] at hs'
              intro G3 z3
              have lm := (leafN_ok hl).2.1
              have cp : (pre (r.drop (j.length + 1))).count 40 ≤ (pre (r.drop (j.length + 1))).length := List.count_le_length
              obtain ⟨f2, tl2, e2, l2⟩ := rep_cons ((pre (r.drop (j.length + 1))).count 40) (flagB j f') tl'
              rw [e2] at hs' z3
              exact ⟨_, (by have := z3.il; omega), n2, _, _, f2, tl2, _, z3, by omega, hs', by omega, rfl, rfl⟩
theorem ok_Scanner_init {dvs : List V} {f : Addr} {fd : FuncData} (F : FunD K "__init__" "Scanner.__init__" (defArgs s_Scanner_init) (defBody s_Scanner_init) (defScope s_Scanner_init) dvs [] f fd) (T : Txt K mg gs FS) (hc : ScC K C) : FnOk P w K mg base CX0 1 f fd ["self", "text", "saying"] (spScInit K C) := by
  refine F.ok sc_Scanner___init__ (fun vs H Q E h => ?_) (fun cdv A outer s H vs Q E hr h => ?_)
  · obtain ⟨x, dx, v, b, rfl, _⟩ := h
    rfl
  · obtain ⟨x, dx, v, b, rfl, hx, q⟩ := h
    refine ⟨_, PSs.nox (pss_cons (ps_fld (pv 0) (pv 1) rfl) (pss_cons (ps_fld (pv 0) pe_int rfl) (pss_cons (ps_fld (pv 0) (pe_lst pa_nil) rfl) (pss_cons (ps_fld (pv 0) (pe_lst (pa_cons pe_bl pa_nil)) rfl) (pss_one (ps_fld (pv 0) (pe_not (pv 2)) rfl)))))), ?_⟩
    refine ⟨_, rfl, _, rfl, x, C, dx, _, rfl, hx, hc.cl, hc.te, by decide, ?_⟩
    refine ⟨_, rfl, x, C, dx, _, rfl, upd_same, hc.cl, hc.at_, ?_, ?_⟩
    · show 1 < 1000
      decide
    have s1 : Same (wo H x) (upd (upd H x (.ins C dx (putF "text" v []))) x (.ins C dx (putF "at" (.int 0) (putF "text" v [])))) := NF.Same.mut (NF.Same.mut wo_same' wo_none) wo_none
    have h1 : (upd (upd H x (.ins C dx (putF "text" v []))) x (.ins C dx (putF "at" (.int 0) (putF "text" v [])))) x = _ := upd_same
    revert s1 h1
    generalize upd (upd H x _) x _ = H1
    intro s1 h1
    refine ⟨by show 0 ≤ sizeLine; decide, fun P hP => ?_⟩
    have nP := L2.Same.free s1 hP
    have xP : x ≠ P := fun e => by rw [← e, h1] at hP; cases hP
    refine ⟨_, rfl, x, C, dx, _, rfl, (upd_ne xP).trans h1, hc.cl, hc.pi, ?_, ?_⟩
    · show 2 < 1000
      decide
    have s2 := NF.Same.mut (o := .ins C dx (putF "pieces" (.ref P) (putF "at" (.int 0) (putF "text" v [])))) (NF.Same.mut (o := .lst []) s1 nP) wo_none
    have h2 := upd_same (H := upd H1 P (.lst [])) (a := x) (o := .ins C dx (putF "pieces" (.ref P) (putF "at" (.int 0) (putF "text" v []))))
    have p2 : upd (upd H1 P (.lst [])) x (.ins C dx (putF "pieces" (.ref P) (putF "at" (.int 0) (putF "text" v [])))) P = some (.lst []) := (upd_ne (Ne.symm xP)).trans upd_same
    generalize upd (upd H1 P (.lst [])) x _ = H2 at s2 h2 p2
    refine ⟨by show 1 ≤ sizeLine; decide, fun R hR => ?_⟩
    have nR := L2.Same.free s2 hR
    have xR : x ≠ R := fun e => by rw [← e, h2] at hR; cases hR
    have PR : P ≠ R := fun e => by rw [← e, p2] at hR; cases hR
    refine ⟨_, rfl, x, C, dx, _, rfl, (upd_ne xR).trans h2, hc.cl, hc.re, ?_, ?_⟩
    · show 3 < 1000
      decide
    refine ⟨_, rfl, b, rfl, ?_⟩
    refine ⟨_, rfl, x, C, dx, _, rfl, upd_same, hc.cl, hc.ha, ?_, ?_⟩
    · show 4 < 1000
      decide
    refine q P R _ (NF.Same.mut (NF.Same.mut (NF.Same.mut s2 nR) wo_none) wo_none) nP nR PR ?_ ?_ ?_
    · rw [upd_same]
      rfl
    · rw [upd_ne (Ne.symm xP), upd_ne (Ne.symm xP), upd_ne PR]
      exact p2
    · rw [upd_ne (Ne.symm xR), upd_ne (Ne.symm xR), upd_same]
theorem ok_pieces_of {f : Addr} {fd : FuncData} (F : FunD K "pieces_of" "pieces_of" (defArgs s_pieces_of) (defBody s_pieces_of) (defScope s_pieces_of) [] [] f fd) (T : Txt K mg gs FS) (hc : ScC K C) (m_Scanner2 : Mak P w K mg base 1 0 "Scanner" C (spScInit K C) []) (o_scan : MetX P w K mg base 5 C "scan" (spScan K C)) : FnOk P w K mg base (L2.CX P w) 6 f fd ["text", "saying"] (spPieces K) := by
  refine F.ok sc_pieces_of (fun vs H Q E h => ?_) (fun cdv A outer s H vs Q E hr h => ?_)
  · obtain ⟨v, b, rfl, _⟩ := h
    rfl
  · obtain ⟨v, b, rfl, q⟩ := h
    refine ⟨_, (pss_cons (ps_set (i := 2) sc_pieces_of.nd rfl (Or.inl rfl) (pe_mk m_Scanner2 hr (by decide) rfl (pa_cons (pv 0) (pa_cons (pv 1) pa_nil)))) (pss_one (ps_ret (pe_mtX0 (takes_of rfl rfl rfl rfl) (pv 2) o_scan hr (by decide))))), ?_⟩
    refine ⟨_, rfl, _, rfl, fun x dx hx hdx hne => ?_⟩
    have s0 : Same H (upd H dx (.own x)) := NF.Same.new (Same.refl H) hdx
    have hx0 : (upd H dx (.own x)) x = none := (upd_ne (Ne.symm hne)).trans hx
    have s1 : Same H (wo (upd (upd H dx (.own x)) x (.ins C dx [])) x) := fun b u e => by
      have n : b ≠ x := fun z => by rw [z, hx] at e; cases e
      rw [wo_ne n, upd_ne n]
      exact s0 b u e
    refine ⟨x, dx, v, b, rfl, upd_same, fun P R G sG nP nR PR hx2 hP2 hR2 => ⟨rfl, ?_⟩⟩
    rcases q with ⟨t, rfl, tl, q⟩ | ⟨d, hd, hns, q⟩
    · have z : ScnAt C x P R dx t (wo (upd (upd H dx (.own x)) x (.ins C dx [])) x) 0 [] [false] (!b) G := ⟨sG, wo_none, nP, nR, PR, hx2, hP2, hR2, tl, Nat.le_refl _, by decide, Nat.zero_le _⟩
      refine ⟨_, rfl, x, dx, _, rfl, hx2, rfl, x, P, R, dx, _, !b, rfl, .inl ⟨t, z, ?_⟩⟩
      revert q
      cases scanG (scN t) true t 0 [] [false] (!b) with
      | inl i =>
        intro q
        exact badE.mono q s1
      | inr all =>
        intro q G2 s2 hP
        exact q P G2 (Same.trans s1 s2) (L2.Same.free s1 nP) hP
    · refine ⟨_, rfl, x, dx, _, rfl, hx2, rfl, x, P, R, dx, H, !b, rfl, .inr ⟨v, d, _, hx2, rfl, dp_mono (Same.trans s1 sG) _ hd, hns, Same.trans s1 sG, q⟩⟩
end
end K13
set_option Elab.async false
set_option linter.all false
set_option maxRecDepth 100000
set_option maxHeartbeats 4000000
/-! Terms read: the two stacks. -/
namespace K13
open PySem PySem.Spec PyProof.Rows L2 He NF RZ TT
def biV : List (Str × V) := [("~", .int 4), ("*", .int 3), ("under", .int 2), ("over", .int 2), ("&", .int 1), ("|", .int 0)]
theorem bi_sg {w : Nat} (h : w < 5) : dkV biV (tx (sg w)) = some (.int (rk w : Nat)) := by
  rcases sg_cases h with rfl | rfl | rfl | rfl | rfl <;> decide +kernel
theorem dpall_split {K : PySem.W.Frag} {H : Hp} : ∀ {a b : List PyData} {xs : List V}, DpAll K H xs (a ++ b) → ∃ ys zs, xs = ys ++ zs ∧ DpAll K H ys a ∧ DpAll K H zs b
  | [], b, xs, h => ⟨[], xs, rfl, .nil, h⟩
  | d :: a, b, _, .cons h1 h => by
    obtain ⟨ys, zs, rfl, hy, hz⟩ := dpall_split (a := a) h
    exact ⟨_ :: ys, zs, rfl, .cons h1 hy, hz⟩
theorem dpall_one {K : PySem.W.Frag} {H : Hp} {d : PyData} {xs : List V} (h : DpAll K H xs [d]) : ∃ x, xs = [x] ∧ Dp K H x d := by
  cases h with
  | cons h1 h =>
    cases h
    exact ⟨_, rfl, h1⟩
def woV : List (Str × V) := [("~", .str "turn"), ("*", .str "behind"), ("under", .str "under"), ("over", .str "over"), ("&", .str "both"), ("|", .str "either")]
theorem wo_tilde : dkV woV (tx tilde) = some (.str "turn") := by decide +kernel
theorem wo_sg {u : Nat} (h : u < 5) : dkV woV (tx (sg u)) = some (.str (wordS u)) := by
  rcases sg_cases h with rfl | rfl | rfl | rfl | rfl <;> decide +kernel
theorem wix_sg {u : Nat} (h : u < 5) : wix (sg u) = u := (bnd_sg h).2.1
/-- the stacks as lists: top last -/
structure StM (K : PySem.W.Frag) (A B : Addr) (H0 H : Hp) (T : List Trm) (W : List TT.Tx) : Prop where
  AB : A ≠ B
  ex : ∃ (G : Hp) (xs : List V), Same H0 G ∧ Same G H ∧ G A = none ∧ G B = none ∧ H A = some (.lst xs) ∧ DpAll K G xs (T.reverse.map (tmP false))
  hB : H B = some (.lst (W.reverse.map fun p => V.str (tx p)))
def JOk (w : TT.Tx) (T : List Trm) : Prop := (w = tilde ∧ ∃ a T', T = a :: T') ∨ ∃ u, u < 5 ∧ w = sg u ∧ ∃ a b T', T = a :: b :: T'
def spJoin (K : PySem.W.Frag) : Sp := fun vs H Q _ => ∃ A B H0 T W w, vs = [.ref A, .str (tx w)] ∧ StM K A B H0 H T W ∧ JOk w T ∧ T.length ≤ 200000 ∧ ∀ H', StM K A B H0 H' (joinT w T) W → Q .non H'
/-- signs that wait -/
def WOk (w : TT.Tx) : Prop := w = tilde ∨ w = opn ∨ ∃ u, u < 5 ∧ w = sg u
def cntB (W : List TT.Tx) : Nat := W.countP isBin
def spCloser (K : PySem.W.Frag) : Sp := fun vs H Q _ => ∃ A B H0 T W c, vs = [.ref A, .ref B, .int ((c : Nat) : Int)] ∧ StM K A B H0 H T W ∧ (∀ w ∈ W, WOk w) ∧ T.length = cntB W + 1 ∧ W.length ≤ 100000 ∧ ∀ H', StM K A B H0 H' (joinCl c T W).1 (joinCl c T W).2 → Q .non H'
def spLeaf (K : PySem.W.Frag) : Sp := fun vs H Q _ => ∃ p G, vs = [.str (tx p)] ∧ Leaf p ∧ Same G H ∧ ∀ v H' G', Same H H' → Same G G' → Same G' H' → (∀ a, H a ≠ none → G' a = G a) → Dp K G' v (tmP false (leafT p)) → Q v H'
theorem sc_join : FnScope ["terms", "sign", "second"] ["terms", "sign"] (defScope s_join) := ⟨rfl, rfl, rfl, by decide +kernel, rfl, by decide +kernel, by decide +kernel⟩
theorem sc_join_closer : FnScope ["terms", "waiting", "closeness"] ["terms", "waiting", "closeness"] (defScope s_join_closer) := ⟨rfl, rfl, rfl, by decide +kernel, rfl, by decide +kernel, by decide +kernel⟩
theorem sc_leaf_of : FnScope ["piece"] ["piece"] (defScope s_leaf_of) := ⟨rfl, rfl, rfl, by decide +kernel, rfl, by decide +kernel, by decide +kernel⟩
theorem ix_tx0 {t : TT.Tx} {c : Nat} {H : Hp} {Q : VK} (hl : t.length ≤ sizeLine) (h : t[0]? = some c) (q : Q (.str ⟨#[c]⟩) H) : rIxS (.str (tx t)) (.int 0) H Q := ix_tx (i := 0) hl h q
theorem same_both {G H : Hp} {p : Addr} {o : HO} (s : Same G H) : Same (upd G p o) (upd H p o) := fun b u e => by
  by_cases c : b = p
  · subst c
    rw [upd_same] at e ⊢
    exact e
  · rw [upd_ne c] at e ⊢
    exact s b u e
section
variable {P : Program} {w : World} {K : PySem.W.Frag} {mg : Str → Option Value} {base : Heap} {gs fs : List Str} {C : Addr} {tok : Tok} {dBI dWO : Addr}
theorem ok_leaf_of {f : Addr} {fd : FuncData} (F : FunD K "leaf_of" "leaf_of" (defArgs s_leaf_of) (defBody s_leaf_of) (defScope s_leaf_of) [] [] f fd) (T : Txt K mg gs FS) : FnOk P w K mg base CX0 1 f fd ["piece"] (spLeaf K) := by
  refine F.ok sc_leaf_of (fun vs H Q E h => ?_) (fun cdv A outer s H vs Q E hr h => ?_)
  · obtain ⟨p, G, rfl, _⟩ := h
    rfl
  · obtain ⟨p, G, rfl, hp, sG, q⟩ := h
    refine ⟨_, PSs.nox (pss_cons (ps_if (pt_cmpR op_in_sign (pe_ix ix_str (pv 0) pe_int fun _ _ => rfl) pe_str rfl) (pss_one (ps_ret (pe_tup (pa_cons pe_str (pa_cons (pe_callTy call_int_str rfl (T.fr _ (by decide +kernel)) (by decide +kernel) (pa_cons (pv 0) pa_nil)) pa_nil))))) pss_nil) (pss_one (ps_ret (pv 0)))), ?_⟩
    rcases hp with hn | ⟨k, hk, rfl⟩
    · obtain ⟨c0, q0, e0, hc0, hq2, hqs⟩ := id hn
      have cl : 97 ≤ c0 ∧ c0 ≤ 122 := by
        unfold isLet at hc0
        simpa using hc0
      have n2 : decide (c0 ∈ ("+-" : Str).cps.toList) = false := by
        rw [show ("+-" : Str).cps.toList = [43, 45] by decide +kernel]
        exact decide_eq_false fun e => by
          simp only [List.mem_cons, List.not_mem_nil, or_false] at e
          omega
      have pl : p.length ≤ sizeLine := Nat.le_trans (show p.length ≤ 3 by rw [e0, List.length_cons]; omega) (by decide)
      refine ⟨_, rfl, tx p, 0, c0, rfl, rfl, by rw [tx_len]; exact pl, by rw [tx_cps]; exact atI_nat (j := 0) (by rw [e0]; rfl), _, _, rfl, rfl, _, rfl, iteF' n2 ?_⟩
      refine ⟨_, rfl, q _ _ G (Same.refl H) (Same.refl G) sG (fun _ _ => rfl) ?_⟩
      rw [leaf_nm hn]
      exact .str _
    · have g0 : (shT k)[0]? = some (if k < 0 then 45 else 43) := rfl
      refine ⟨_, rfl, tx (shT k), 0, _, rfl, rfl, by rw [tx_len]; exact (by decide : 2 ≤ sizeLine), by rw [tx_cps]; exact atI_nat (j := 0) g0, _, _, rfl, rfl, _, rfl, iteT' (by split <;> decide +kernel) ?_⟩
      have hi : PySem.intText? (tx (shT k)) = some k := by
        obtain ⟨h1, h2⟩ := hk
        have : k = -9 ∨ k = -8 ∨ k = -7 ∨ k = -6 ∨ k = -5 ∨ k = -4 ∨ k = -3 ∨ k = -2 ∨ k = -1 ∨ k = 0 ∨ k = 1 ∨ k = 2 ∨ k = 3 ∨ k = 4 ∨ k = 5 ∨ k = 6 ∨ k = 7 ∨ k = 8 ∨ k = 9 := by omega
        rcases this with rfl | rfl | rfl | rfl | rfl | rfl | rfl | rfl | rfl | rfl | rfl | rfl | rfl | rfl | rfl | rfl | rfl | rfl | rfl <;> decide +kernel
      refine ⟨_, rfl, tx (shT k), k, rfl, hi, by rw [tx_len]; exact (by decide : 2 ≤ 640), ?_⟩
      refine ⟨(by show 2 ≤ sizeLine; decide), fun p hp => ?_⟩
      refine q _ _ _ (NF.Same.new (Same.refl H) hp) (NF.Same.new (Same.refl G) (L2.Same.free sG hp)) (same_both sG) (fun a ha => upd_ne fun e => ha (by rw [e]; exact hp)) ?_
      rw [leaf_sh]
      exact .tup (SqT.of upd_same) (.cons (.str _) (.cons (.int _) .nil))
theorem ok_join {f : Addr} {fd : FuncData} (F : FunD K "join" "join" (defArgs s_join) (defBody s_join) (defScope s_join) [] [] f fd) (T : Txt K mg gs FS) (hWO : mg "WORDS" = some (.ref dWO)) (D_WO : KTab K w dWO woV) : FnOk P w K mg base CX0 1 f fd ["terms", "sign"] (spJoin K) := by
  refine F.ok sc_join (fun vs H Q E h => ?_) (fun cdv A outer s H vs Q E hr h => ?_)
  · obtain ⟨A, B, H0, T, W, w, rfl, _⟩ := h
    rfl
  · obtain ⟨Aa, B, H0, T, W, sw, rfl, z, hj, tl, q⟩ := h
    refine ⟨_, PSs.nox (pss_cons (ps_set (i := 2) sc_join.nd rfl (Or.inl rfl) (pe_bm0 PySem.F.plainAttrs_list PySem.F.slot_list_pop PySem.F.type_list_pop mt_pop (pv 0))) (pss_one (ps_if (pt_cmpR op_eq (pv 1) pe_str (nomark _)) (pss_one (ps_expr (pe_bm PySem.F.plainAttrs_list PySem.F.slot_list_append PySem.F.type_list_append mt_append (pv 0) (pa_cons (pe_tup (pa_cons (pe_ix (ix_ktab D_WO) (pe_gl hWO) (pv 1) fun _ _ => rfl) (pa_cons (pv 2) pa_nil))) pa_nil)))) (pss_one (ps_expr (pe_bm PySem.F.plainAttrs_list PySem.F.slot_list_append PySem.F.type_list_append mt_append (pv 0) (pa_cons (pe_tup (pa_cons (pe_ix (ix_ktab D_WO) (pe_gl hWO) (pv 1) fun _ _ => rfl) (pa_cons (pe_bm0 PySem.F.plainAttrs_list PySem.F.slot_list_pop PySem.F.type_list_pop mt_pop (pv 0)) (pa_cons (pv 2) pa_nil)))) pa_nil))))))), ?_⟩
    obtain ⟨G, xs, s0, sG, gA, gB, hA, hd⟩ := z.ex
    have hB := z.hB
    have AB := z.AB
    obtain ⟨a, T', rfl⟩ : ∃ a T', T = a :: T' := by
      rcases hj with ⟨_, a, T', e⟩ | ⟨_, _, _, a, b, T', e⟩
      · exact ⟨a, T', e⟩
      · exact ⟨a, b :: T', e⟩
    rw [List.reverse_cons, List.map_append] at hd
    obtain ⟨ys, zs, rfl, hy, hz⟩ := dpall_split hd
    obtain ⟨x, rfl, hx⟩ := dpall_one hz
    have ly := dpall_len hy
    rw [List.length_map, List.length_reverse] at ly
    rw [List.length_cons] at tl
    refine ⟨_, rfl, .inl ⟨rfl, _, SqL.of hA⟩, Aa, _, x, rfl, rfl, hA, by simp, ?_⟩
    rw [List.dropLast_concat]
    have s1 := NF.Same.mut (o := .lst ys) sG gA
    have hA1 := upd_same (H := H) (a := Aa) (o := .lst ys)
    have hB1 : upd H Aa (.lst ys) B = _ := (upd_ne (Ne.symm AB)).trans hB
    generalize upd H Aa (.lst ys) = H1 at s1 hA1 hB1
    rcases hj with ⟨rfl, _⟩ | ⟨u, hu, rfl, a', b, T'', e⟩
    · refine ⟨_, rfl, rfl, _, rfl, iteT' (by decide +kernel) ?_⟩
      refine ⟨_, rfl, .inl ⟨rfl, _, SqL.of hA1⟩, _, rfl, tx tilde, _, rfl, rfl, wo_tilde, _, rfl, (by show 2 ≤ sizeLine; decide), fun p hp => ?_⟩
      have pA : p ≠ Aa := fun e => by rw [e, hA1] at hp; cases hp
      have pB : p ≠ B := fun e => by rw [e, hB1] at hp; cases hp
      have gp := L2.Same.free s1 hp
      have s2 := same_both (o := .tup [V.str "turn", x]) (p := p) s1
      have sGG : Same G (upd G p (.tup [V.str "turn", x])) := NF.Same.new (Same.refl G) gp
      have hA2 : upd H1 p (.tup [V.str "turn", x]) Aa = _ := (upd_ne (Ne.symm pA)).trans hA1
      have hB2 : upd H1 p (.tup [V.str "turn", x]) B = _ := (upd_ne (Ne.symm pB)).trans hB1
      refine ⟨Aa, _, _, rfl, rfl, hA2, Nat.lt_of_le_of_lt (show ys.length ≤ 200000 by omega) (by decide), q _ ⟨AB, ⟨upd G p (.tup [V.str "turn", x]), ys ++ [.ref p], Same.trans s0 sGG, NF.Same.mut s2 ((upd_ne (Ne.symm pA)).trans gA), (upd_ne (Ne.symm pA)).trans gA, (upd_ne (Ne.symm pB)).trans gB, upd_same, ?_⟩, (upd_ne (Ne.symm AB)).trans hB2⟩⟩
      show DpAll K _ _ ((Trm.tn a :: T').reverse.map (tmP false))
      rw [List.reverse_cons, List.map_append]
      exact dpall_app (dpall_mono sGG _ hy) (.cons (.tup (SqT.of upd_same) (.cons (.str _) (.cons (dp_mono sGG _ hx) .nil))) .nil)
    · injection e with e1 e2
      subst e1
      subst e2
      have nt : tx (sg u) ≠ ("~" : Str) := fun e => (bnd_sg hu).2.2.2.1 (tx_inj (show tx (sg u) = tx tilde from e))
      rw [List.reverse_cons, List.map_append] at hy
      obtain ⟨ys, zs, rfl, hy2, hz2⟩ := dpall_split hy
      obtain ⟨y, rfl, hyy⟩ := dpall_one hz2
      have ly2 := dpall_len hy2
      rw [List.length_map, List.length_reverse] at ly2
      rw [List.length_cons] at tl
      refine ⟨_, rfl, rfl, _, rfl, iteF' (decide_eq_false fun e => nt (V.str.inj e)) ?_⟩
      refine ⟨_, rfl, .inl ⟨rfl, _, SqL.of hA1⟩, _, rfl, tx (sg u), _, rfl, rfl, wo_sg hu, ?_⟩
      refine ⟨_, rfl, .inl ⟨rfl, _, SqL.of hA1⟩, Aa, _, y, rfl, rfl, hA1, by simp, ?_⟩
      rw [List.dropLast_concat]
      have s2 := NF.Same.mut (o := .lst ys) s1 gA
      have hA2 := upd_same (H := H1) (a := Aa) (o := .lst ys)
      have hB2 : upd H1 Aa (.lst ys) B = _ := (upd_ne (Ne.symm AB)).trans hB1
      generalize upd H1 Aa (.lst ys) = H2 at s2 hA2 hB2
      refine ⟨_, rfl, (by show 3 ≤ sizeLine; decide), fun p hp => ?_⟩
      have pA : p ≠ Aa := fun e => by rw [e, hA2] at hp; cases hp
      have pB : p ≠ B := fun e => by rw [e, hB2] at hp; cases hp
      have gp := L2.Same.free s2 hp
      have s3 := same_both (o := .tup [V.str (wordS u), y, x]) (p := p) s2
      have sGG : Same G (upd G p (.tup [V.str (wordS u), y, x])) := NF.Same.new (Same.refl G) gp
      have hA3 : upd H2 p (.tup [V.str (wordS u), y, x]) Aa = _ := (upd_ne (Ne.symm pA)).trans hA2
      have hB3 : upd H2 p (.tup [V.str (wordS u), y, x]) B = _ := (upd_ne (Ne.symm pB)).trans hB2
      refine ⟨Aa, _, _, rfl, rfl, hA3, Nat.lt_of_le_of_lt (show ys.length ≤ 200000 by omega) (by decide), q _ ⟨AB, ⟨upd G p (.tup [V.str (wordS u), y, x]), ys ++ [.ref p], Same.trans s0 sGG, NF.Same.mut s3 ((upd_ne (Ne.symm pA)).trans gA), (upd_ne (Ne.symm pA)).trans gA, (upd_ne (Ne.symm pB)).trans gB, upd_same, ?_⟩, (upd_ne (Ne.symm AB)).trans hB3⟩⟩
      show DpAll K _ _ ((if sg u = tilde then _ else (Trm.bi (wix (sg u)) b a :: T'')).reverse.map (tmP false))
      rw [if_neg (bnd_sg hu).2.2.2.1, wix_sg hu, List.reverse_cons, List.map_append]
      exact dpall_app (dpall_mono sGG _ hy2) (.cons (.tup (SqT.of upd_same) (.cons (.str _) (.cons (dp_mono sGG _ hyy) (.cons (dp_mono sGG _ hx) .nil)))) .nil)
theorem ok_join_closer {f : Addr} {fd : FuncData} (F : FunD K "join_closer" "join_closer" (defArgs s_join_closer) (defBody s_join_closer) (defScope s_join_closer) [] [] f fd) (T : Txt K mg gs FS) (hBI : mg "BINDING" = some (.ref dBI)) (D_BI : KTab K w dBI biV) (c_join : Cal P w K mg base 1 "join" (spJoin K)) : FnOk P w K mg base CX0 2 f fd ["terms", "waiting", "closeness"] (spCloser K) := by
  refine F.ok sc_join_closer (fun vs H Q E h => ?_) (fun cdv A outer s H vs Q E hr h => ?_)
  · obtain ⟨A, B, H0, T, W, c, rfl, _⟩ := h
    rfl
  · obtain ⟨Aa, B, H0, T, W, c, rfl, z, hW, hT, lW, q⟩ := h
    refine ⟨_, PSs.nox (pss_one (ps_while PassesOwn.never (PW.pt (pw_and (pt_truth (pv 1) (fun _ => rfl)) (pw_and (pt_cmpR op_ne (pe_ix (ixl (K := K)) (pv 1) (pe_un un_neg pe_int) fun _ _ => rfl) pe_str (nomark _)) (pw_and1 (pt_cmpR op_ge (pe_ix (ix_ktab D_BI) (pe_gl hBI) (pe_ix (ixl (K := K)) (pv 1) (pe_un un_neg pe_int) fun _ _ => rfl) fun _ _ => rfl) (pv 2) (nomark _)))))) (pss_one (ps_expr (pe_c c_join hr (by decide) rfl (pa_cons (pv 0) (pa_cons (pe_bm0 PySem.F.plainAttrs_list PySem.F.slot_list_pop PySem.F.type_list_pop mt_pop (pv 1)) pa_nil))))))), ?_⟩
    refine ⟨fun m σ G => ∃ T' W', StM K Aa B H0 G T' W' ∧ (∀ w ∈ W', WOk w) ∧ T'.length = cntB W' + 1 ∧ W'.length ≤ 100000 ∧ joinCl c T' W' = joinCl c T W ∧ m = W'.length ∧ σ = [some (.ref Aa), some (.ref B), some (.int (c : Int))], ⟨_, T, W, z, hW, hT, lW, rfl, rfl, rfl⟩, ?_⟩
    rintro m σ G ⟨T', W', z', hW', hT', lW', hj, rfl, rfl⟩
    refine ⟨_, rfl, !(W'.reverse.map fun p => V.str (tx p)).isEmpty, .inl ⟨_, SqL.of z'.hB, rfl⟩, ?_⟩
    cases W' with
    | nil =>
      refine iteF ?_
      refine q G ?_
      rw [← hj]
      exact z'
    | cons sw W' =>
      have er : (sw :: W').reverse.map (fun p => V.str (tx p)) = (W'.reverse.map fun p => V.str (tx p)) ++ [.str (tx sw)] := by rw [List.reverse_cons, List.map_append]; rfl
      rw [er]
      refine iteT' (by simp) ?_
      have hB := z'.hB
      rw [er] at hB
      have hsw := hW' sw (List.mem_cons_self ..)
      refine ⟨_, rfl, _, rfl, B, _, _, _, rfl, rfl, SqL.of hB, atI_last _ _, rfl, _, rfl, ?_⟩
      by_cases c1 : sw = opn
      · subst c1
        refine iteF' (by decide +kernel) ?_
        refine iteF ?_
        refine q G ?_
        have hj : (if opn = opn ∨ bnd opn < c then (T', opn :: W') else _) = joinCl c T W := hj
        rw [if_pos (.inl rfl)] at hj
        rw [← hj]
        exact z'
      · have hne : tx sw ≠ ("(" : Str) := fun e => c1 (tx_inj (show tx sw = tx opn from e))
        refine iteT' (by rw [decide_eq_false fun e => hne (V.str.inj e)]; rfl) ?_
        have hbn : dkV biV (tx sw) = some (.int (bnd sw : Nat)) := by
          rcases hsw with rfl | rfl | ⟨u, hu, rfl⟩
          · decide +kernel
          · exact absurd rfl c1
          · rw [(bnd_sg hu).1]
            exact bi_sg hu
        refine ⟨_, rfl, _, rfl, B, _, _, _, rfl, rfl, SqL.of hB, atI_last _ _, tx sw, _, rfl, rfl, hbn, _, rfl, _, _, rfl, rfl, _, rfl, ?_⟩
        by_cases c2 : bnd sw < c
        · refine iteF' (decide_eq_false (by omega)) ?_
          refine q G ?_
          have hj : (if sw = opn ∨ bnd sw < c then (T', sw :: W') else _) = joinCl c T W := hj
          rw [if_pos (.inr c2)] at hj
          rw [← hj]
          exact z'
        · refine iteT' (decide_eq_true (by omega)) ?_
          have hj : (if sw = opn ∨ bnd sw < c then (T', sw :: W') else joinCl c (joinT sw T') W') = joinCl c T W := hj
          rw [if_neg (fun e => e.elim c1 c2)] at hj
          refine ⟨fun σ' G' => ∃ m', m' < (sw :: W').length ∧ ∃ T' W', StM K Aa B H0 G' T' W' ∧ (∀ w ∈ W', WOk w) ∧ T'.length = cntB W' + 1 ∧ W'.length ≤ 100000 ∧ joinCl c T' W' = joinCl c T W ∧ m' = W'.length ∧ σ' = [some (.ref Aa), some (.ref B), some (.int (c : Int))], fun σ' G' y => y, ?_⟩
          refine ⟨_, rfl, _, rfl, .inl ⟨rfl, _, SqL.of hB⟩, B, _, .str (tx sw), rfl, rfl, hB, by simp, ?_⟩
          rw [List.dropLast_concat]
          have z2 : StM K Aa B H0 (upd G B (.lst (W'.reverse.map fun p => V.str (tx p)))) T' W' := by
            obtain ⟨G0, xs, s0, sG, gA, gB, hA, hd⟩ := z'.ex
            exact ⟨z'.AB, ⟨G0, xs, s0, NF.Same.mut sG gB, gA, gB, (upd_ne z'.AB).trans hA, hd⟩, upd_same⟩
          have lW1 : (sw :: W').length = W'.length + 1 := rfl
          have cB : cntB (sw :: W') = cntB W' + if isBin sw then 1 else 0 := by
            unfold cntB
            rw [List.countP_cons]
          have hjok : JOk sw T' ∧ (joinT sw T').length = cntB W' + 1 := by
            rcases hsw with rfl | rfl | ⟨u, hu, rfl⟩
            · rw [show isBin tilde = false by decide, if_neg (by decide)] at cB
              cases T' with
              | nil =>
                rw [List.length_nil] at hT'
                omega
              | cons a T' =>
                refine ⟨.inl ⟨rfl, a, T', rfl⟩, ?_⟩
                show (Trm.tn a :: T').length = _
                rw [List.length_cons] at hT' ⊢
                omega
            · exact absurd rfl c1
            · rw [sg_bin hu, if_pos rfl] at cB
              cases T' with
              | nil =>
                rw [List.length_nil] at hT'
                omega
              | cons a T' =>
                cases T' with
                | nil =>
                  rw [List.length_singleton] at hT'
                  omega
                | cons b T' =>
                  refine ⟨.inr ⟨u, hu, rfl, a, b, T', rfl⟩, ?_⟩
                  show (if sg u = tilde then _ else (Trm.bi (wix (sg u)) b a :: T')).length = _
                  rw [if_neg (bnd_sg hu).2.2.2.1]
                  rw [List.length_cons, List.length_cons] at hT'
                  rw [List.length_cons]
                  omega
          refine ⟨Aa, B, H0, T', W', sw, rfl, z2, hjok.1, ?_, fun G2 z3 => ?_⟩
          · have : cntB (sw :: W') ≤ (sw :: W').length := List.countP_le_length
            omega
          · exact ⟨W'.length, by omega, _, W', z3, fun w hw => hW' w (List.mem_cons_of_mem _ hw), hjok.2, by omega, hj, rfl, rfl⟩
end
end K13
set_option Elab.async false
set_option linter.all false
set_option maxRecDepth 100000
set_option maxHeartbeats 4000000
/-! Terms read: pieces to a term. -/
namespace K13
open PySem PySem.Spec PyProof.Rows L2 He NF RZ TT
theorem leaf_no {p : TT.Tx} (h : Leaf p) : isBin p = false := by
  rcases h with h | ⟨k, _, rfl⟩
  · exact (nm_not h).1
  · exact shT_not.1
def cntO (W : List TT.Tx) : Nat := W.countP fun p => p == opn
theorem close_inv (c : Nat) : ∀ (W : List TT.Tx) (T : List Trm), (∀ w ∈ W, WOk w) → T.length = cntB W + 1 →
    (∀ w ∈ (joinCl c T W).2, WOk w) ∧ (joinCl c T W).1.length = cntB (joinCl c T W).2 + 1 ∧ cntO (joinCl c T W).2 = cntO W ∧ (joinCl c T W).2.length ≤ W.length ∧ (∀ w W', (joinCl c T W).2 = w :: W' → w = opn ∨ bnd w < c)
  | [], T, h, l => ⟨h, l, rfl, Nat.le_refl _, fun w W' e => nomatch e⟩
  | sw :: W, T, h, l => by
    show _ ∧ _ ∧ _ ∧ _ ∧ _
    by_cases d : sw = opn ∨ bnd sw < c
    · have e : joinCl c T (sw :: W) = (T, sw :: W) := if_pos d
      rw [e]
      exact ⟨h, l, rfl, Nat.le_refl _, fun w W' e => by injection e with e1 _; rw [← e1]; exact d⟩
    · have e : joinCl c T (sw :: W) = joinCl c (joinT sw T) W := if_neg d
      have no : sw ≠ opn := fun z => d (.inl z)
      have cB : cntB (sw :: W) = cntB W + if isBin sw then 1 else 0 := by
        unfold cntB
        rw [List.countP_cons]
      have cO : cntO (sw :: W) = cntO W := by
        unfold cntO
        rw [List.countP_cons, beq_eq_false_iff_ne.mpr no]
        rfl
      have hT : (joinT sw T).length = cntB W + 1 := by
        rcases h sw (List.mem_cons_self ..) with rfl | rfl | ⟨u, hu, rfl⟩
        · rw [show isBin tilde = false by decide, if_neg (by decide)] at cB
          cases T with
          | nil =>
            rw [List.length_nil] at l
            omega
          | cons a T =>
            show (Trm.tn a :: T).length = _
            rw [List.length_cons] at l ⊢
            omega
        · exact absurd rfl no
        · rw [sg_bin hu, if_pos rfl] at cB
          cases T with
          | nil =>
            rw [List.length_nil] at l
            omega
          | cons a T =>
            cases T with
            | nil =>
              rw [List.length_singleton] at l
              omega
            | cons b T =>
              show (if sg u = tilde then _ else (Trm.bi (wix (sg u)) b a :: T)).length = _
              rw [if_neg (bnd_sg hu).2.2.2.1]
              rw [List.length_cons, List.length_cons] at l
              rw [List.length_cons]
              omega
      obtain ⟨h1, h2, h3, h4, h5⟩ := close_inv c W (joinT sw T) (fun w hw => h w (List.mem_cons_of_mem _ hw)) hT
      rw [e]
      exact ⟨h1, h2, h3.trans cO.symm, Nat.le_trans h4 (Nat.le_succ _), h5⟩
/-- flags and stacks agree -/
structure TI (e : Bool) (st : List Bool) (T : List Trm) (W : List TT.Tx) : Prop where
  w : ∀ w ∈ W, WOk w
  t : T.length = cntB W + if e then 0 else 1
  o : cntO W + 1 = st.length
theorem TI.step {e : Bool} {st : List Bool} {T : List Trm} {W : List TT.Tx} {p : TT.Tx} {r : List TT.Tx} (h : TI e st T W) (s : scanOk e true st (p :: r)) :
    ∃ e' st', scanOk e' true st' r ∧ TI e' st' (stepM (T, W) p).1 (stepM (T, W) p).2 ∧ (stepM (T, W) p).2.length ≤ W.length + 1 := by
  cases e with
  | true =>
    rcases s with ⟨rfl, s⟩ | ⟨rfl, s⟩ | ⟨hl, s⟩
    · refine ⟨true, st, s, ⟨?_, ?_, ?_⟩, ?_⟩
      · intro w hw
        rcases List.mem_cons.mp hw with rfl | hw
        · exact .inl rfl
        · exact h.w w hw
      · exact h.t
      · exact h.o
      · exact Nat.le_refl _
    · refine ⟨true, false :: st, s, ⟨?_, ?_, ?_⟩, ?_⟩
      · intro w hw
        rcases List.mem_cons.mp hw with rfl | hw
        · exact .inr (.inl rfl)
        · exact h.w w hw
      · exact h.t
      · show cntO (opn :: W) + 1 = (false :: st).length
        have : cntO (opn :: W) = cntO W + 1 := by
          unfold cntO
          rw [List.countP_cons]
          rfl
        rw [this, h.o]
        rfl
      · exact Nat.le_refl _
    · have n : p ≠ opn ∧ p ≠ tilde ∧ p ≠ cls := by
        rcases hl with hn | ⟨k, _, rfl⟩
        · exact ⟨(nm_not hn).2.2.1, (nm_not hn).2.1, (nm_not hn).2.2.2⟩
        · exact ⟨shT_not.2.2.1, shT_not.2.1, shT_not.2.2.2⟩
      have e : stepM (T, W) p = (leafT p :: T, W) := by
        unfold stepM
        rw [if_neg (fun z => z.elim n.1 n.2.1), if_neg n.2.2, if_neg (by rw [leaf_no hl]; decide)]
      rw [e]
      exact ⟨false, st, s, ⟨h.w, by show T.length + 1 = _; rw [h.t]; rfl, h.o⟩, Nat.le_succ _⟩
  | false =>
    have ht : T.length = cntB W + 1 := h.t
    rcases s with ⟨rfl, h1, s⟩ | ⟨hb, _, hb2, f, tl, rfl, s⟩
    · obtain ⟨c1, c2, c3, c4, c5⟩ := close_inv 0 W T h.w ht
      have e : stepM (T, W) cls = ((joinCl 0 T W).1, (joinCl 0 T W).2.tail) := rfl
      rw [e]
      have ho := h.o
      cases hW : (joinCl 0 T W).2 with
      | nil =>
        rw [hW] at c3
        have c3 : 0 = cntO W := c3
        omega
      | cons w W' =>
        rw [hW] at c1 c2 c3 c4
        obtain rfl : w = opn := (c5 w W' hW).resolve_right (Nat.not_lt_zero _)
        have e3 : cntO (opn :: W') = cntO W' + 1 := by
          unfold cntO
          rw [List.countP_cons]
          rfl
        have e2 : cntB (opn :: W') = cntB W' := by
          unfold cntB
          rw [List.countP_cons]
          rfl
        refine ⟨false, st.tail, s, ⟨fun w hw => c1 w (List.mem_cons_of_mem _ hw), ?_, ?_⟩, ?_⟩
        · show (joinCl 0 T W).1.length = cntB W' + 1
          rw [c2, e2]
        · show cntO W' + 1 = st.tail.length
          rw [List.length_tail]
          omega
        · show W'.length ≤ W.length + 1
          rw [List.length_cons] at c4
          omega
    · obtain ⟨u, hu, rfl⟩ : ∃ u, u < 5 ∧ p = sg u := by
        rcases bin_in hb with rfl | rfl | rfl | rfl | rfl | rfl
        · exact absurd (hb2 rfl).1 (by decide)
        · exact ⟨0, by omega, rfl⟩
        · exact ⟨1, by omega, rfl⟩
        · exact ⟨2, by omega, rfl⟩
        · exact ⟨3, by omega, rfl⟩
        · exact ⟨4, by omega, rfl⟩
      obtain ⟨c1, c2, c3, c4, _⟩ := close_inv (bnd (sg u)) W T h.w ht
      obtain ⟨_, _, b3, b4, b5⟩ := bnd_sg hu
      have e : stepM (T, W) (sg u) = ((joinCl (bnd (sg u)) T W).1, sg u :: (joinCl (bnd (sg u)) T W).2) := by
        unfold stepM
        rw [if_neg (fun z => z.elim b3 b4), if_neg b5, if_pos (sg_bin hu)]
      rw [e]
      refine ⟨true, _, by rw [Bool.true_or] at s; exact s, ⟨?_, ?_, ?_⟩, ?_⟩
      · intro w hw
        rcases List.mem_cons.mp hw with rfl | hw
        · exact .inr (.inr ⟨u, hu, rfl⟩)
        · exact c1 w hw
      · show (joinCl (bnd (sg u)) T W).1.length = cntB (sg u :: (joinCl (bnd (sg u)) T W).2) + 0
        rw [c2]
        unfold cntB
        rw [List.countP_cons, sg_bin hu]
        rfl
      · show cntO (sg u :: (joinCl (bnd (sg u)) T W).2) + 1 = (flagB (sg u) f :: tl).length
        have : cntO (sg u :: (joinCl (bnd (sg u)) T W).2) = cntO (joinCl (bnd (sg u)) T W).2 := by
          unfold cntO
          rw [List.countP_cons, beq_eq_false_iff_ne.mpr b3]
          rfl
        rw [this, c3]
        exact h.o
      · show (joinCl (bnd (sg u)) T W).2.length + 1 ≤ W.length + 1
        omega
def spChkP (K : PySem.W.Frag) : Sp := fun vs H Q E => ∃ L, ∃ ps : List TT.Tx, vs = [.ref L] ∧ SqL K H L (ps.map fun p => V.str (tx p)) ∧ (60 < ps.countP notBr → badE K H E "TooMany" "word" (.str "part")) ∧ (ps.countP notBr ≤ 60 → Q .non H)
def spTermOf (K : PySem.W.Frag) : Sp := fun vs H Q E => ∃ L, ∃ ps : List TT.Tx, vs = [.ref L] ∧ SqL K H L (ps.map fun p => V.str (tx p)) ∧ scanOk true true [false] ps ∧ ps.length ≤ 100000 ∧ (60 < ps.countP notBr → badE K H E "TooMany" "word" (.str "part")) ∧ (ps.countP notBr ≤ 60 → ∀ v H', Same H H' → Dp K H' v (tmP false (rdT ps)) → Q v H')
/-- what is read of a text -/
def readQ (K : PySem.W.Frag) (H : Hp) (Q : VK) (E : XK) : Nat ⊕ List TT.Tx → Prop
  | .inl i => badE K H E "BadText" "place" (.int (i : Int))
  | .inr ps => (60 < ps.countP notBr → badE K H E "TooMany" "word" (.str "part")) ∧ (ps.countP notBr ≤ 60 → ∀ v H', Same H H' → Dp K H' v (tmP false (rdT ps)) → Q v H')
def readSQ (K : PySem.W.Frag) (H : Hp) (Q : VK) (E : XK) : Nat ⊕ List TT.Tx → Prop
  | .inl i => badE K H E "BadText" "place" (.int (i : Int))
  | .inr ps => (60 < (fstB ps).countP notBr ∨ 60 < (sndB ps).countP notBr → badE K H E "TooMany" "word" (.str "part")) ∧ ((fstB ps).countP notBr ≤ 60 → (sndB ps).countP notBr ≤ 60 → ∀ v H', Same H H' → Dp K H' v (mkP false [tmP false (rdT (fstB ps)), tmP false (rdT (sndB ps))]) → Q v H')
def spReadT (K : PySem.W.Frag) : Sp := fun vs H Q E => ∃ v, vs = [v] ∧ ((∃ t, v = .str (tx t) ∧ t.length ≤ 100000 ∧ readQ K H Q E (scanG (scN t) true t 0 [] [false] true)) ∨ (∃ d, Dp K H v d ∧ (∀ s, d ≠ .str s) ∧ badE K H E "BadText" "place" (.int (-1))))
def spReadS (K : PySem.W.Frag) : Sp := fun vs H Q E => ∃ v, vs = [v] ∧ ((∃ t, v = .str (tx t) ∧ t.length ≤ 100000 ∧ readSQ K H Q E (scanG (scN t) true t 0 [] [false] false)) ∨ (∃ d, Dp K H v d ∧ (∀ s, d ≠ .str s) ∧ badE K H E "BadText" "place" (.int (-1))))
theorem cnt_str (p : TT.Tx) : ∀ ps : List TT.Tx, (ps.map fun p => V.str (tx p)).countP (eqV · (.str (tx p))) = ps.countP (fun q => q == p)
  | [] => rfl
  | q :: ps => by
    rw [List.map_cons, List.countP_cons, List.countP_cons, cnt_str p ps]
    congr 1
    have : eqV (V.str (tx q)) (V.str (tx p)) = (q == p) := by
      show decide (tx q = tx p) = _
      by_cases c : q = p
      · rw [c, decide_eq_true rfl, beq_self_eq_true]
      · rw [decide_eq_false fun e => c (tx_inj e), beq_eq_false_iff_ne.mpr c]
    rw [this]
theorem cnt_three : ∀ ps : List TT.Tx, ps.length = ps.countP notBr + (ps.countP (fun q => q == opn) + ps.countP (fun q => q == cls))
  | [] => rfl
  | q :: ps => by
    rw [List.length_cons, List.countP_cons, List.countP_cons, List.countP_cons, cnt_three ps]
    by_cases c1 : q = opn
    · subst c1
      rw [show notBr opn = false by decide, show (opn == opn) = true by decide, show (opn == cls) = false by decide]
      simp only [if_true, Bool.false_eq_true, if_false]
      omega
    · by_cases c2 : q = cls
      · subst c2
        rw [show notBr cls = false by decide, show (cls == opn) = false by decide, show (cls == cls) = true by decide]
        simp only [if_true, Bool.false_eq_true, if_false]
        omega
      · have h1 := beq_eq_false_iff_ne.mpr c1
        have h2 := beq_eq_false_iff_ne.mpr c2
        have : notBr q = true := by
          unfold notBr
          rw [h1, h2]
          rfl
        rw [this, h1, h2]
        simp only [if_true, Bool.false_eq_true, if_false]
        omega
theorem sc_check_parts : FnScope ["pieces", "brackets"] ["pieces"] (defScope s_check_parts) := ⟨rfl, rfl, rfl, by decide +kernel, rfl, by decide +kernel, by decide +kernel⟩
theorem sc_term_of : FnScope ["pieces", "terms", "waiting", "piece"] ["pieces"] (defScope s_term_of) := ⟨rfl, rfl, rfl, by decide +kernel, rfl, by decide +kernel, by decide +kernel⟩
theorem sc_read_term : FnScope ["text"] ["text"] (defScope s_read_term) := ⟨rfl, rfl, rfl, by decide +kernel, rfl, by decide +kernel, by decide +kernel⟩
theorem sc_read_saying : FnScope ["text", "pieces", "middle"] ["text"] (defScope s_read_saying) := ⟨rfl, rfl, rfl, by decide +kernel, rfl, by decide +kernel, by decide +kernel⟩
theorem leaf_bi {p : TT.Tx} (h : isBin p = false) (n : p ≠ tilde) : dkV biV (tx p) = none := by
  have k : ∀ {q : TT.Tx}, q ≠ p → decide (tx q = tx p) = false := fun n => decide_eq_false fun e => n (tx_inj e)
  unfold isBin at h
  simp only [Bool.or_eq_false_iff, beq_eq_false_iff_ne] at h
  obtain ⟨_, h0, h1, h2, h3, h4⟩ := h
  have k1 : decide (("~" : Str) = tx p) = false := k (q := tilde) (Ne.symm n)
  have k2 : decide (("*" : Str) = tx p) = false := k (q := sg 4) (Ne.symm h4)
  have k3 : decide (("under" : Str) = tx p) = false := k (q := sg 2) (Ne.symm h2)
  have k4 : decide (("over" : Str) = tx p) = false := k (q := sg 3) (Ne.symm h3)
  have k5 : decide (("&" : Str) = tx p) = false := k (q := sg 1) (Ne.symm h1)
  have k6 : decide (("|" : Str) = tx p) = false := k (q := sg 0) (Ne.symm h0)
  unfold dkV biV
  simp only [List.find?_cons, k1, k2, k3, k4, k5, k6]
  rfl
theorem _root_.TT.Br.noblw {t : Trm} {l : Nat} {p : List TT.Tx} (h : Br t l p) : blw ∉ p := by
  induction h with
  | @nm s l h =>
    intro e
    rw [← List.mem_singleton.mp e] at h
    exact absurd (nm_not h).1 (by decide)
  | @sh k l h =>
    intro e
    have := (shT_not (k := k)).1
    rw [← List.mem_singleton.mp e] at this
    exact absurd this (by decide)
  | tn _ ih =>
    intro e
    rcases List.mem_cons.mp e with e | e
    · exact absurd e (by decide)
    · exact ih e
  | @bi w a b l p q hw _ _ _ i1 i2 =>
    intro e
    rcases List.mem_append.mp e with e | e
    · exact i1 e
    · rcases List.mem_cons.mp e with e | e
      · rcases sg_cases hw with rfl | rfl | rfl | rfl | rfl <;> exact absurd e (by decide)
      · exact i2 e
  | br _ ih =>
    intro e
    rcases List.mem_cons.mp e with e | e
    · exact absurd e (by decide)
    · rcases List.mem_append.mp e with e | e
      · exact ih e
      · exact absurd (List.mem_singleton.mp e) (by decide)
section
variable {P : Program} {w : World} {K : PySem.W.Frag} {mg : Str → Option Value} {base : Heap} {gs fs : List Str} {C : Addr} {tok : Tok} {dBI dWO : Addr}
theorem StM.pushW {A B : Addr} {H0 H : Hp} {T : List Trm} {W : List TT.Tx} {p : TT.Tx} (z : StM K A B H0 H T W) : StM K A B H0 (upd H B (.lst ((W.reverse.map fun p => V.str (tx p)) ++ [.str (tx p)]))) T (p :: W) := by
  obtain ⟨G, xs, s1, s2, gA, gB, hA, hd⟩ := z.ex
  refine ⟨z.AB, ⟨G, xs, s1, NF.Same.mut s2 gB, gA, gB, (upd_ne z.AB).trans hA, hd⟩, ?_⟩
  rw [upd_same, List.reverse_cons, List.map_append]
  rfl
theorem StM.seq {A B L : Addr} {H0 H : Hp} {T : List Trm} {W : List TT.Tx} {xs : List V} (z : StM K A B H0 H T W) (h : SqL K H0 L xs) : SqL K H L xs := by
  obtain ⟨G, _, s1, s2, _⟩ := z.ex
  exact L2.Same.seq (Same.trans s1 s2) h
theorem flat_str (ps : List TT.Tx) : (ps.map fun p => V.str (tx p)).all flatV = true := by
  rw [List.all_eq_true]
  intro v hv
  obtain ⟨p, _, rfl⟩ := List.mem_map.mp hv
  rfl
theorem ok_check_parts {f : Addr} {fd : FuncData} (F : FunD K "check_parts" "check_parts" (defArgs s_check_parts) (defBody s_check_parts) (defScope s_check_parts) [] [] f fd) (T : Txt K mg gs FS) {tok1 : Tok} (h_MOST_PARTS : mg "MOST_PARTS" = some (.int 60 tok1)) (m_TooMany : ExcI P w K mg base "TooMany" "word") : FnOk P w K mg base (L2.CX P w) 3 f fd ["pieces"] (spChkP K) := by
  refine F.ok sc_check_parts (fun vs H Q E h => ?_) (fun cdv A outer s H vs Q E hr h => ?_)
  · obtain ⟨L, ps, rfl, _⟩ := h
    rfl
  · obtain ⟨L, ps, rfl, hL, hbad, q⟩ := h
    refine ⟨_, (pss_cons (ps_set (i := 1) sc_check_parts.nd rfl (Or.inl rfl) (pe_op op_add (pe_bm PySem.F.plainAttrs_list PySem.F.slot_list_count PySem.F.type_list_count mt_cntF (pv 0) (pa_cons pe_str pa_nil)) (pe_bm PySem.F.plainAttrs_list PySem.F.slot_list_count PySem.F.type_list_count mt_cntF (pv 0) (pa_cons pe_str pa_nil)))) (pss_one (ps_if (pt_cmpR op_gt (pe_op op_sub (pe_callB call_len_seq rfl (T.fr _ (by decide +kernel)) boot_len (pa_cons (pv 0) pa_nil)) (pv 1)) (pe_glob (v := .int 60) rfl h_MOST_PARTS ⟨_, rfl⟩) (nomark _)) (pss_one (ps_rz rfl (takes_of rfl rfl rfl rfl) m_TooMany hr (by decide) rfl pe_str)) pss_nil))), ?_⟩
    refine ⟨_, rfl, .inl ⟨rfl, _, hL⟩, L, _, _, rfl, rfl, hL, rfl, flat_str ps, ?_⟩
    refine ⟨_, rfl, .inl ⟨rfl, _, hL⟩, L, _, _, rfl, rfl, hL, rfl, flat_str ps, _, _, rfl, rfl, ?_⟩
    have e1 := cnt_str opn ps
    have e2 := cnt_str cls ps
    have e3 := cnt_three ps
    refine ⟨_, rfl, L, _, rfl, .inl hL, _, rfl, _, _, rfl, rfl, _, _, rfl, rfl, _, rfl, ?_⟩
    rw [List.length_map]
    have e1 : (ps.map fun p => V.str (tx p)).countP (eqV · (.str "(")) = ps.countP (fun q => q == opn) := e1
    have e2 : (ps.map fun p => V.str (tx p)).countP (eqV · (.str ")")) = ps.countP (fun q => q == cls) := e2
    rw [e1, e2]
    by_cases c : 60 < ps.countP notBr
    · refine iteT' (decide_eq_true (by omega)) ?_
      exact raise_done (badE.go (hbad c) (Same.refl _))
    · refine iteF' (decide_eq_false (by omega)) ?_
      exact q (by omega)
theorem ok_term_of {f : Addr} {fd : FuncData} (F : FunD K "term_of" "term_of" (defArgs s_term_of) (defBody s_term_of) (defScope s_term_of) [] [] f fd) (T : Txt K mg gs FS) (hBI : mg "BINDING" = some (.ref dBI)) (D_BI : KTab K w dBI biV) (c_check_parts : CalX P w K mg base 3 "check_parts" (spChkP K)) (c_join_closer : Cal P w K mg base 2 "join_closer" (spCloser K)) (c_leaf_of : Cal P w K mg base 1 "leaf_of" (spLeaf K)) : FnOk P w K mg base (L2.CX P w) 4 f fd ["pieces"] (spTermOf K) := by
  refine F.ok sc_term_of (fun vs H Q E h => ?_) (fun cdv A outer s H vs Q E hr h => ?_)
  · obtain ⟨L, ps, rfl, _⟩ := h
    rfl
  · obtain ⟨L, ps, rfl, hL, hb, hl, hbad, q⟩ := h
    refine ⟨_, (pss_cons (ps_expr (pe_cX (takes_of rfl rfl rfl rfl) c_check_parts hr (by decide) rfl (pa_cons (pv 0) pa_nil))) (pss_cons (ps_set (i := 1) sc_term_of.nd rfl (Or.inl rfl) (pe_lst pa_nil)) (pss_cons (ps_set (i := 2) sc_term_of.nd rfl (Or.inl rfl) (pe_lst pa_nil)) (pss_cons (ps_for (passes_of rfl) rfl (pi_list (pv 0)) (pg_name (i := 3) sc_term_of.nd rfl (Or.inl rfl)) (pss_one (ps_if (PW.pt (pw_or (pt_cmpR op_eq (pv 3) pe_str (nomark _)) (pw_or1 (pt_cmpR op_eq (pv 3) pe_str (nomark _))))) (pss_one (ps_expr (pe_bm PySem.F.plainAttrs_list PySem.F.slot_list_append PySem.F.type_list_append mt_append (pv 2) (pa_cons (pv 3) pa_nil)))) (pss_one (ps_if (pt_cmpR op_eq (pv 3) pe_str (nomark _)) (pss_cons (ps_expr (pe_c c_join_closer hr (by decide) rfl (pa_cons (pv 1) (pa_cons (pv 2) (pa_cons pe_int pa_nil))))) (pss_one (ps_expr (pe_bm0 PySem.F.plainAttrs_list PySem.F.slot_list_pop PySem.F.type_list_pop mt_pop (pv 2))))) (pss_one (ps_if (pt_cmpR (op_in_ktab D_BI) (pv 3) (pe_gl hBI) rfl) (pss_cons (ps_expr (pe_c c_join_closer hr (by decide) rfl (pa_cons (pv 1) (pa_cons (pv 2) (pa_cons (pe_ix (ix_ktab D_BI) (pe_gl hBI) (pv 3) fun _ _ => rfl) pa_nil))))) (pss_one (ps_expr (pe_bm PySem.F.plainAttrs_list PySem.F.slot_list_append PySem.F.type_list_append mt_append (pv 2) (pa_cons (pv 3) pa_nil))))) (pss_one (ps_expr (pe_bm PySem.F.plainAttrs_list PySem.F.slot_list_append PySem.F.type_list_append mt_append (pv 1) (pa_cons (pe_c c_leaf_of hr (by decide) rfl (pa_cons (pv 3) pa_nil)) pa_nil))))))))))) (pss_cons (ps_expr (pe_c c_join_closer hr (by decide) rfl (pa_cons (pv 1) (pa_cons (pv 2) (pa_cons pe_int pa_nil))))) (pss_one (ps_ret (pe_ix (ixl (K := K)) (pv 1) pe_int fun _ _ => rfl)))))))), ?_⟩
    refine ⟨_, rfl, L, ps, rfl, hL, hbad, fun h60 => ?_⟩
    have q := q h60
    refine ⟨(by show 0 ≤ sizeLine; decide), fun Aa hA => ?_⟩
    have hA1 := upd_same (H := H) (a := Aa) (o := .lst [])
    have s1 := NF.Same.new (o := .lst []) (Same.refl H) hA
    generalize upd H Aa (.lst []) = H1 at hA1 s1
    refine ⟨(by show 0 ≤ sizeLine; decide), fun B hB => ?_⟩
    have AB : Aa ≠ B := fun e => by rw [← e, hA1] at hB; cases hB
    have hB0 := L2.Same.free s1 hB
    have z0 : StM K Aa B H (upd H1 B (.lst [])) [] [] := ⟨AB, ⟨H, [], Same.refl H, NF.Same.new s1 hB, hA, hB0, (upd_ne AB).trans hA1, .nil⟩, upd_same⟩
    generalize upd H1 B (.lst []) = H2 at z0
    refine ⟨_, rfl, L, rfl, ⟨_, z0.seq hL⟩, ?_⟩
    refine for_list (K := K) (a := L) (xs := ps.map fun p => V.str (tx p)) (fun j σ G => ∃ (e : Bool) (st : List Bool) (S : List Trm × List TT.Tx), (ps.take j).foldl stepM ([], []) = S ∧ StM K Aa B H G S.1 S.2 ∧ scanOk e true st (ps.drop j) ∧ TI e st S.1 S.2 ∧ S.2.length ≤ j ∧ ∃ v3, σ = [some (.ref L), some (.ref Aa), some (.ref B), v3]) ⟨true, [false], ([], []), rfl, z0, hb, ⟨fun w hw => (nomatch hw), rfl, rfl⟩, Nat.le_refl _, none, rfl⟩ (fun j σ G _ ⟨_, _, _, _, zz, _⟩ => zz.seq hL) ?_ ?_
    · rintro j y σ G hy ⟨e, st, ⟨Ts, Ws⟩, hS, zz, hs, ti, hlw, v3, rfl⟩
      rw [List.getElem?_map] at hy
      obtain ⟨p, hp1, rfl⟩ : ∃ p, ps[j]? = some p ∧ V.str (tx p) = y := by
        cases e : ps[j]? with
        | none =>
          rw [e] at hy
          cases hy
        | some u =>
          rw [e] at hy
          exact ⟨u, rfl, Option.some.inj hy⟩
      obtain ⟨hj, ep⟩ := List.getElem?_eq_some_iff.mp hp1
      have ed : ps.drop j = p :: ps.drop (j + 1) := by rw [List.drop_eq_getElem_cons hj, ep]
      rw [ed] at hs
      obtain ⟨e', st', hs', ti', hl'⟩ := ti.step hs
      have hS' : (ps.take (j + 1)).foldl stepM ([], []) = stepM (Ts, Ws) p := by
        rw [List.take_add_one, hp1, List.foldl_append, hS]
        rfl
      have hjl : j < 100000 := by omega
      -- what the step makes, whichever way
      have fin : ∀ G' v4, StM K Aa B H G' (stepM (Ts, Ws) p).1 (stepM (Ts, Ws) p).2 → ∃ (e : Bool) (st : List Bool) (S : List Trm × List TT.Tx), (ps.take (j + 1)).foldl stepM ([], []) = S ∧ StM K Aa B H G' S.1 S.2 ∧ scanOk e true st (ps.drop (j + 1)) ∧ TI e st S.1 S.2 ∧ S.2.length ≤ j + 1 ∧ ∃ v3, [some (V.ref L), some (.ref Aa), some (.ref B), v4] = [some (.ref L), some (.ref Aa), some (.ref B), v3] := fun G' v4 zz' => ⟨e', st', _, hS', zz', hs', ti', Nat.le_trans hl' (Nat.succ_le_succ hlw), v4, rfl⟩
      have hjs : Ws.length ≤ j := hlw
      have ho : ∀ {p : TT.Tx}, p ≠ opn → tx p ≠ ("(" : Str) := fun n e => n (tx_inj (show tx _ = tx opn from e))
      have ht : ∀ {p : TT.Tx}, p ≠ tilde → tx p ≠ ("~" : Str) := fun n e => n (tx_inj (show tx _ = tx tilde from e))
      have hc : ∀ {p : TT.Tx}, p ≠ cls → tx p ≠ (")" : Str) := fun n e => n (tx_inj (show tx _ = tx cls from e))
      cases e with
      | true =>
        rcases hs with ⟨rfl, _⟩ | ⟨rfl, _⟩ | ⟨hlf, _⟩
        · refine ⟨_, rfl, rfl, _, rfl, iteF' (by decide +kernel) ?_⟩
          refine ⟨_, rfl, rfl, _, rfl, iteT' (by decide +kernel) ?_⟩
          refine ⟨_, rfl, .inl ⟨rfl, _, SqL.of zz.hB⟩, _, rfl, B, _, _, rfl, rfl, zz.hB, by rw [List.length_map, List.length_reverse]; exact Nat.lt_of_le_of_lt (show Ws.length ≤ 100000 by omega) (by decide), ?_⟩
          exact fin _ _ zz.pushW
        · refine ⟨_, rfl, rfl, _, rfl, iteT' (by decide +kernel) ?_⟩
          refine ⟨_, rfl, .inl ⟨rfl, _, SqL.of zz.hB⟩, _, rfl, B, _, _, rfl, rfl, zz.hB, by rw [List.length_map, List.length_reverse]; exact Nat.lt_of_le_of_lt (show Ws.length ≤ 100000 by omega) (by decide), ?_⟩
          exact fin _ _ zz.pushW
        · have n : p ≠ opn ∧ p ≠ tilde ∧ p ≠ cls := by
            rcases hlf with hn | ⟨k, _, rfl⟩
            · exact ⟨(nm_not hn).2.2.1, (nm_not hn).2.1, (nm_not hn).2.2.2⟩
            · exact ⟨shT_not.2.2.1, shT_not.2.1, shT_not.2.2.2⟩
          have e1 : stepM (Ts, Ws) p = (leafT p :: Ts, Ws) := by
            unfold stepM
            rw [if_neg (fun z => z.elim n.1 n.2.1), if_neg n.2.2, if_neg (by rw [leaf_no hlf]; decide)]
          rw [e1] at fin
          obtain ⟨G0, xs, s1, s2, gA, gB, hA, hd⟩ := zz.ex
          have lx := dpall_len hd
          rw [List.length_map, List.length_reverse] at lx
          have lx : xs.length = Ts.length := lx
          have tl1 : Ts.length = cntB Ws + 0 := ti.t
          have tl2 : cntB Ws ≤ Ws.length := List.countP_le_length
          refine ⟨_, rfl, rfl, _, rfl, iteF' (decide_eq_false fun e => ho n.1 (V.str.inj e)) ?_⟩
          refine ⟨_, rfl, rfl, _, rfl, iteF' (decide_eq_false fun e => ht n.2.1 (V.str.inj e)) ?_⟩
          refine ⟨_, rfl, rfl, _, rfl, iteF' (decide_eq_false fun e => hc n.2.2 (V.str.inj e)) ?_⟩
          refine ⟨_, rfl, tx p, rfl, rfl, _, rfl, iteF' (by rw [leaf_bi (leaf_no hlf) n.2.1]; rfl) ?_⟩
          refine ⟨_, rfl, .inl ⟨rfl, _, SqL.of hA⟩, _, rfl, p, G0, rfl, hlf, s2, fun v G2 G1 t1 t2 t3 t4 t5 => ?_⟩
          refine ⟨Aa, _, _, rfl, rfl, t1 _ _ hA, Nat.lt_of_le_of_lt (show xs.length ≤ 100000 by omega) (by decide), fin _ _ ?_⟩
          have gA1 : G1 Aa = none := (t4 Aa (by rw [hA]; exact Option.some_ne_none _)).trans gA
          have gB1 : G1 B = none := (t4 B (by rw [zz.hB]; exact Option.some_ne_none _)).trans gB
          refine ⟨AB, ⟨G1, xs ++ [v], Same.trans s1 t2, NF.Same.mut t3 gA1, gA1, gB1, upd_same, ?_⟩, (upd_ne (Ne.symm AB)).trans (t1 _ _ zz.hB)⟩
          rw [List.reverse_cons, List.map_append]
          exact dpall_app (dpall_mono t2 _ hd) (.cons t5 .nil)
      | false =>
        have ht1 : Ts.length = cntB Ws + 1 := ti.t
        rcases hs with ⟨rfl, h1st, _⟩ | ⟨hb1, _, hb2, _⟩
        · refine ⟨_, rfl, rfl, _, rfl, iteF' (by decide +kernel) ?_⟩
          refine ⟨_, rfl, rfl, _, rfl, iteF' (by decide +kernel) ?_⟩
          refine ⟨_, rfl, rfl, _, rfl, iteT' (by decide +kernel) ?_⟩
          refine ⟨_, rfl, _, rfl, Aa, B, H, Ts, Ws, 0, rfl, zz, ti.w, ht1, by omega, fun G2 z2 => ?_⟩
          obtain ⟨_, _, c3, _, c5⟩ := close_inv 0 Ws Ts ti.w ht1
          have hto := ti.o
          have e1 : stepM (Ts, Ws) cls = ((joinCl 0 Ts Ws).1, (joinCl 0 Ts Ws).2.tail) := rfl
          rw [e1] at fin
          cases hW : (joinCl 0 Ts Ws).2 with
          | nil =>
            rw [hW] at c3
            have c3 : 0 = cntO Ws := c3
            have hto : cntO Ws + 1 = st.length := hto
            omega
          | cons sw W' =>
            rw [hW] at z2 fin
            have er : (sw :: W').reverse.map (fun p => V.str (tx p)) = (W'.reverse.map fun p => V.str (tx p)) ++ [.str (tx sw)] := by rw [List.reverse_cons, List.map_append]; rfl
            have hB2 := z2.hB
            rw [er] at hB2
            refine ⟨_, rfl, .inl ⟨rfl, _, SqL.of hB2⟩, B, _, .str (tx sw), rfl, rfl, hB2, by simp, ?_⟩
            rw [List.dropLast_concat]
            refine fin _ _ ?_
            obtain ⟨G0, xs, s0, sG, gA, gB, hA, hd⟩ := z2.ex
            exact ⟨AB, ⟨G0, xs, s0, NF.Same.mut sG gB, gA, gB, (upd_ne AB).trans hA, hd⟩, upd_same⟩
        · obtain ⟨u, hu, rfl⟩ : ∃ u, u < 5 ∧ p = sg u := by
            rcases bin_in hb1 with rfl | rfl | rfl | rfl | rfl | rfl
            · exact absurd (hb2 rfl).1 (by decide)
            · exact ⟨0, by omega, rfl⟩
            · exact ⟨1, by omega, rfl⟩
            · exact ⟨2, by omega, rfl⟩
            · exact ⟨3, by omega, rfl⟩
            · exact ⟨4, by omega, rfl⟩
          obtain ⟨b1, _, b3, b4, b5⟩ := bnd_sg hu
          have e1 : stepM (Ts, Ws) (sg u) = ((joinCl (bnd (sg u)) Ts Ws).1, sg u :: (joinCl (bnd (sg u)) Ts Ws).2) := by
            unfold stepM
            rw [if_neg (fun z => z.elim b3 b4), if_neg b5, if_pos (sg_bin hu)]
          rw [e1, b1] at fin
          obtain ⟨_, _, _, c4, _⟩ := close_inv (rk u) Ws Ts ti.w ht1
          refine ⟨_, rfl, rfl, _, rfl, iteF' (decide_eq_false fun e => ho b3 (V.str.inj e)) ?_⟩
          refine ⟨_, rfl, rfl, _, rfl, iteF' (decide_eq_false fun e => ht b4 (V.str.inj e)) ?_⟩
          refine ⟨_, rfl, rfl, _, rfl, iteF' (decide_eq_false fun e => hc b5 (V.str.inj e)) ?_⟩
          refine ⟨_, rfl, tx (sg u), rfl, rfl, _, rfl, iteT' (by rw [bi_sg hu]; rfl) ?_⟩
          refine ⟨_, rfl, _, rfl, _, rfl, tx (sg u), _, rfl, rfl, bi_sg hu, Aa, B, H, Ts, Ws, rk u, rfl, zz, ti.w, ht1, by omega, fun G2 z2 => ?_⟩
          refine ⟨_, rfl, .inl ⟨rfl, _, SqL.of z2.hB⟩, _, rfl, B, _, _, rfl, rfl, z2.hB, by rw [List.length_map, List.length_reverse]; exact Nat.lt_of_le_of_lt (show (joinCl (rk u) Ts Ws).2.length ≤ 100000 by omega) (by decide), ?_⟩
          exact fin _ _ z2.pushW
    · rintro σ G ⟨e, st, ⟨Ts, Ws⟩, hS, zz, hs, ti, hlw, v3, rfl⟩
      rw [List.length_map] at hS hs hlw
      rw [List.take_of_length_le (Nat.le_refl _)] at hS
      rw [List.drop_of_length_le (Nat.le_refl _)] at hs
      obtain rfl : e = false := by
        cases e with
        | true => exact hs.1
        | false => rfl
      have ht1 : Ts.length = cntB Ws + 1 := ti.t
      have hjs : Ws.length ≤ ps.length := hlw
      obtain ⟨_, c2, c3, _, c5⟩ := close_inv 0 Ws Ts ti.w ht1
      have hto : cntO Ws + 1 = st.length := ti.o
      have hst : st.length = 1 := hs.2.2
      have hW : (joinCl 0 Ts Ws).2 = [] := by
        cases e : (joinCl 0 Ts Ws).2 with
        | nil => rfl
        | cons sw W' =>
          obtain rfl : sw = opn := (c5 sw W' e).resolve_right (Nat.not_lt_zero _)
          have : cntO (opn :: W') = cntO W' + 1 := by
            unfold cntO
            rw [List.countP_cons]
            rfl
          rw [e, this] at c3
          omega
      have hT : (joinCl 0 Ts Ws).1.length = 1 := by rw [c2, hW]; rfl
      have hr2 : joinCl 0 Ts Ws = ([rdT ps], []) := by
        have e : rdT ps = (joinCl 0 Ts Ws).1.headD (.nm []) := by
          unfold rdT
          rw [hS]
        refine Prod.ext ?_ hW
        rw [e]
        match h1 : (joinCl 0 Ts Ws).1, hT with
        | [a], _ => rfl
      refine ⟨_, rfl, _, rfl, Aa, B, H, Ts, Ws, 0, rfl, zz, ti.w, ht1, by omega, fun G2 z2 => ?_⟩
      rw [hr2] at z2
      obtain ⟨G0, xs, s0, sG, gA, gB, hA, hd⟩ := z2.ex
      obtain ⟨x, rfl, hx⟩ := dpall_one hd
      refine ⟨_, rfl, Aa, _, _, _, rfl, rfl, SqL.of hA, atI_nat (j := 0) rfl, ?_⟩
      exact q x G2 (Same.trans s0 sG) (dp_mono sG _ hx)
theorem ok_read_term {f : Addr} {fd : FuncData} (F : FunD K "read_term" "read_term" (defArgs s_read_term) (defBody s_read_term) (defScope s_read_term) [] [] f fd) (T : Txt K mg gs FS) (c_pieces_of : CalX P w K mg base 6 "pieces_of" (spPieces K)) (c_term_of : CalX P w K mg base 4 "term_of" (spTermOf K)) : FnOk P w K mg base (L2.CX P w) 7 f fd ["text"] (spReadT K) := by
  refine F.ok sc_read_term (fun vs H Q E h => ?_) (fun cdv A outer s H vs Q E hr h => ?_)
  · obtain ⟨v, rfl, _⟩ := h
    rfl
  · obtain ⟨v, rfl, q⟩ := h
    refine ⟨_, (pss_one (ps_ret (pe_cX (takes_of rfl rfl rfl rfl) c_term_of hr (by decide) rfl (pa_cons (pe_cX (takes_of rfl rfl rfl rfl) c_pieces_of hr (by decide) rfl (pa_cons (pv 0) (pa_cons pe_bl pa_nil))) pa_nil)))), ?_⟩
    rcases q with ⟨t, rfl, tl, q⟩ | ⟨d, hd, hns, q⟩
    rotate_left
    · exact ⟨_, rfl, v, false, rfl, .inr ⟨d, hd, hns, q⟩⟩
    refine ⟨_, rfl, .str (tx t), false, rfl, .inl ⟨t, rfl, tl, ?_⟩⟩
    show pcsQ K H _ _ (scanG (scN t) true t 0 [] [false] true)
    cases e : scanG (scN t) true t 0 [] [false] true with
    | inl i =>
      rw [e] at q
      exact q
    | inr ps =>
      rw [e] at q
      obtain ⟨q1, q2⟩ := q
      obtain ⟨ps', e1, hs⟩ := scanG_ok (by simp) e
      have e1 : ps = ps' := e1
      subst e1
      have hl := scanG_len e
      intro p H1 s1 hn hp1
      refine ⟨p, ps, rfl, SqL.of hp1, hs, Nat.le_trans hl (by show 0 + t.length ≤ 100000; omega), fun c => badE.mono (q1 c) s1, fun c v H2 s2 hv => q2 c v H2 (Same.trans s1 s2) hv⟩
theorem ok_read_saying {f : Addr} {fd : FuncData} (F : FunD K "read_saying" "read_saying" (defArgs s_read_saying) (defBody s_read_saying) (defScope s_read_saying) [] [] f fd) (T : Txt K mg gs FS) {tok1 : Tok} (h_BELOW : mg "BELOW" = some (.str "<=" tok1)) (c_pieces_of : CalX P w K mg base 6 "pieces_of" (spPieces K)) (c_term_of : CalX P w K mg base 4 "term_of" (spTermOf K)) : FnOk P w K mg base (L2.CX P w) 7 f fd ["text"] (spReadS K) := by
  refine F.ok sc_read_saying (fun vs H Q E h => ?_) (fun cdv A outer s H vs Q E hr h => ?_)
  · obtain ⟨v, rfl, _⟩ := h
    rfl
  · obtain ⟨v, rfl, q⟩ := h
    refine ⟨_, (pss_cons (ps_set (i := 1) sc_read_saying.nd rfl (Or.inl rfl) (pe_cX (takes_of rfl rfl rfl rfl) c_pieces_of hr (by decide) rfl (pa_cons (pv 0) (pa_cons pe_bl pa_nil)))) (pss_cons (ps_set (i := 2) sc_read_saying.nd rfl (Or.inl rfl) (pe_bm PySem.F.plainAttrs_list PySem.F.slot_list_index PySem.F.type_list_index mt_index (pv 1) (pa_cons (pe_glob (v := .str "<=") rfl h_BELOW ⟨_, rfl⟩) pa_nil))) (pss_one (ps_ret (pe_tup (pa_cons (pe_cX (takes_of rfl rfl rfl rfl) c_term_of hr (by decide) rfl (pa_cons (pe_slice sl_list (pv 1) po_none (po_some (pv 2))) pa_nil)) (pa_cons (pe_cX (takes_of rfl rfl rfl rfl) c_term_of hr (by decide) rfl (pa_cons (pe_slice sl_list (pv 1) (po_some (pe_op op_add (pv 2) pe_int)) po_none) pa_nil)) pa_nil))))))), ?_⟩
    rcases q with ⟨t, rfl, tl, q⟩ | ⟨d, hd, hns, q⟩
    rotate_left
    · exact ⟨_, rfl, v, true, rfl, .inr ⟨d, hd, hns, q⟩⟩
    refine ⟨_, rfl, .str (tx t), true, rfl, .inl ⟨t, rfl, tl, ?_⟩⟩
    show pcsQ K H _ _ (scanG (scN t) true t 0 [] [false] false)
    cases e : scanG (scN t) true t 0 [] [false] false with
    | inl i =>
      rw [e] at q
      exact q
    | inr all =>
      rw [e] at q
      obtain ⟨ps', e1, hs⟩ := scanG_ok (by simp) e
      have e1 : all = ps' := e1
      subst e1
      have hl2 : all.length ≤ 0 + t.length := scanG_len e
      obtain ⟨ps, qs, rfl, hb, hb2, no⟩ := scan_split hs
      have q : (60 < (fstB (ps ++ blw :: qs)).countP notBr ∨ 60 < (sndB (ps ++ blw :: qs)).countP notBr → _) ∧ ((fstB (ps ++ blw :: qs)).countP notBr ≤ 60 → (sndB (ps ++ blw :: qs)).countP notBr ≤ 60 → _) := q
      have q : (60 < (fstB (ps ++ blw :: qs)).countP notBr ∨ 60 < (sndB (ps ++ blw :: qs)).countP notBr → badE K H E "TooMany" "word" (.str "part")) ∧ ((fstB (ps ++ blw :: qs)).countP notBr ≤ 60 → (sndB (ps ++ blw :: qs)).countP notBr ≤ 60 → ∀ v H', Same H H' → Dp K H' v (mkP false [tmP false (rdT (fstB (ps ++ blw :: qs))), tmP false (rdT (sndB (ps ++ blw :: qs)))]) → Q v H') := q
      rw [(split_eq no).1, (split_eq no).2] at q
      obtain ⟨q1, q2⟩ := q
      intro p H1 s1 hn hp1
      have hS := SqL.of (K := K) hp1
      have gj : ((ps ++ blw :: qs).map fun p => V.str (tx p))[ps.length]? = some (.str (tx blw)) := by
        rw [List.getElem?_map, List.getElem?_append_right (Nat.le_refl _), Nat.sub_self]
        rfl
      refine ⟨_, rfl, .inl ⟨rfl, _, hS⟩, p, _, _, ps.length, _, rfl, rfl, hS, rfl, flat_str _, gj, rfl, ?_, ?_⟩
      · intro m z' hm hz
        rw [List.getElem?_map, List.getElem?_append_left hm, List.getElem?_eq_getElem hm] at hz
        obtain rfl := Option.some.inj hz
        show decide (tx ps[m] = ("<=" : Str)) = false
        exact decide_eq_false fun e => no (by rw [← tx_inj (show tx ps[m] = tx blw from e)]; exact List.getElem_mem hm)
      · have el : (ps ++ blw :: qs).length = ps.length + (qs.length + 1) := by rw [List.length_append, List.length_cons]
        have c1 : cutV ((ps ++ blw :: qs).map fun p => V.str (tx p)) none (some ((ps.length : Nat) : Int)) = ps.map fun p => V.str (tx p) := by
          unfold cutV
          rw [HT.sIx_none, HT.sIx_nat, List.length_map, Nat.min_eq_left (by omega), List.drop_zero, Nat.sub_zero, ← List.map_take, List.take_left]
        have c2 : cutV ((ps ++ blw :: qs).map fun p => V.str (tx p)) (some ((ps.length : Int) + 1)) none = qs.map fun p => V.str (tx p) := by
          unfold cutV
          rw [HT.sIx_none, show (ps.length : Int) + 1 = ((ps.length + 1 : Nat) : Int) from rfl, HT.sIx_nat, List.length_map, Nat.min_eq_left (by omega), List.take_of_length_le (by rw [List.length_drop, List.length_map]; omega), ← List.map_drop, ← List.drop_drop, List.drop_left]
          rfl
        refine ⟨_, rfl, _, rfl, _, rfl, p, _, rfl, hS, fun d hd => ?_⟩
        rw [c1]
        have s2 := NF.Same.new (o := .lst (ps.map fun p => V.str (tx p))) (Same.refl H1) hd
        refine ⟨d, ps, rfl, SqL.of upd_same, hb, by omega, fun c => badE.mono (q1 (.inl c)) (Same.trans s1 s2), fun c60 v1 H3 s3 hv1 => ?_⟩
        have s13 := Same.trans s2 s3
        refine ⟨_, rfl, _, rfl, _, _, rfl, rfl, _, rfl, p, _, rfl, L2.Same.seq s13 hS, fun d2 hd2 => ?_⟩
        have s4 := NF.Same.new (o := .lst (cutV ((ps ++ blw :: qs).map fun p => V.str (tx p)) (some ((ps.length : Int) + 1)) none)) (Same.refl H3) hd2
        have hq : SqL K (upd H3 d2 (.lst (cutV ((ps ++ blw :: qs).map fun p => V.str (tx p)) (some ((ps.length : Int) + 1)) none))) d2 (qs.map fun p => V.str (tx p)) := by
          rw [c2]
          exact SqL.of upd_same
        refine ⟨d2, qs, rfl, hq, hb2, by omega, fun c => badE.mono (q1 (.inr c)) (Same.trans s1 (Same.trans s13 s4)), fun c61 v2 H5 s5 hv2 => ?_⟩
        refine ⟨(by show 2 ≤ sizeLine; decide), fun r hr => ?_⟩
        have s35 := Same.trans s4 s5
        have s56 := NF.Same.new (o := .tup [v1, v2]) (Same.refl H5) hr
        exact q2 c60 c61 _ _ (Same.trans s1 (Same.trans s13 (Same.trans s35 s56))) (.tup (SqT.of upd_same) (.cons (dp_mono (Same.trans s35 s56) _ hv1) (.cons (dp_mono s56 _ hv2) .nil)))
end
end K13
set_option Elab.async false
set_option linter.all false
set_option maxRecDepth 100000
set_option maxHeartbeats 4000000
namespace K13
open PySem PySem.Spec PyProof.Rows L2 He NF
section
variable {P : Program} {w : World} {K : PySem.W.Frag} {mg : Str → Option Value} {base : Heap}
theorem sc__law_pick : FnScope ["_law_source_here", "_law_many", "_law_value", "_law_digit"] ["_law_source_here", "_law_many"] (defScope s__law_pick) := ⟨rfl, rfl, rfl, by decide +kernel, rfl, by decide +kernel, by decide +kernel⟩
theorem ok_pick {f : Addr} {fd : FuncData} {gs fs : List Str} (F : FunD K "_law_pick" "_law_pick" (defArgs s__law_pick) (defBody s__law_pick) (defScope s__law_pick) [] [] f fd) (T : Txt K mg gs fs) (hi : ("int" : Str) ∈ fs) : FnOk P w K mg base CX0 1 f fd ["_law_source_here", "_law_many"] spPick := by
  refine F.ok sc__law_pick (fun vs H Q E h => ?_) (fun cdv A outer s H vs Q E hr h => ?_)
  · obtain ⟨H0, p, m, rfl, _⟩ := h
    rfl
  · obtain ⟨H0, p, m, rfl, hS, h0, ⟨a, sd, c, hp⟩, m0, m1, k⟩ := h
    refine ⟨_, PSs.nox (pss_cons (ps_if (pt_cmpR op_gt (pe_ix ix_list (pv 0) pe_int fun _ _ => rfl) pe_int (nomark _)) (pss_cons (ps_set (i := 3) sc__law_pick.nd rfl (Or.inl rfl) (pe_op op_mod (pe_callTy call_int1 rfl (T.fr _ hi) (by decide +kernel) (pa_cons (pe_ix ix_list (pv 0) pe_int fun _ _ => rfl) pa_nil)) (pv 1))) (pss_cons (ps_asg (pe_op op_fdiv (pe_ix ix_list (pv 0) pe_int fun _ _ => rfl) (pv 1)) (pg_sub (pv 0) pe_int set_list)) (pss_one (ps_ret (pv 3))))) pss_nil) (pss_cons (ps_asg (pe_op op_add (pe_ix ix_list (pv 0) pe_int fun _ _ => rfl) pe_int) (pg_sub (pv 0) pe_int set_list)) (pss_cons (ps_set (i := 2) sc__law_pick.nd rfl (Or.inl rfl) (pe_op op_mod (pe_callTy call_int1 rfl (T.fr _ hi) (by decide +kernel) (pa_cons (pe_op op_mul (pe_op op_add (pe_ix ix_list (pv 0) pe_int fun _ _ => rfl) (pe_op op_mul pe_int (pe_ix ix_list (pv 0) pe_int fun _ _ => rfl))) pe_int) pa_nil)) pe_int)) (pss_cons (ps_set (i := 2) sc__law_pick.nd rfl (Or.inl rfl) (pe_op op_mod (pe_callTy call_int1 rfl (T.fr _ hi) (by decide +kernel) (pa_cons (pe_op op_add (pe_op op_add (pe_op op_mul (pv 2) (pv 2)) (pe_op op_mul pe_int (pe_ix ix_list (pv 0) pe_int fun _ _ => rfl))) (pe_ix ix_list (pv 0) pe_int fun _ _ => rfl)) pa_nil)) pe_int)) (pss_cons (ps_set (i := 2) sc__law_pick.nd rfl (Or.inl rfl) (pe_op op_mod (pe_callTy call_int1 rfl (T.fr _ hi) (by decide +kernel) (pa_cons (pe_op op_add (pe_op op_mul (pv 2) pe_int) pe_int) pa_nil)) pe_int)) (pss_cons (ps_set (i := 2) sc__law_pick.nd rfl (Or.inl rfl) (pe_op op_mod (pe_callTy call_int1 rfl (T.fr _ hi) (by decide +kernel) (pa_cons (pe_op op_add (pe_op op_mul (pv 2) (pv 2)) (pv 2)) pa_nil)) pe_int)) (pss_one (ps_ret (pe_op op_mod (pe_callTy call_int1 rfl (T.fr _ hi) (by decide +kernel) (pa_cons (pe_op op_fdiv (pv 2) pe_int) pa_nil)) (pv 1)))))))))), ?_⟩
    refine ⟨_, rfl, p, _, _, _, rfl, rfl, SqL.of hp, at0, _, _, rfl, rfl, _, rfl, ?_⟩
    refine ite2 (fun _ => ?_) (fun _ => ?_)
    · refine ⟨_, rfl, p, _, _, _, rfl, rfl, SqL.of hp, at0, Or.inl ⟨_, rfl, _, rfl, _, _, rfl, rfl, m0, ?_⟩⟩
      refine ⟨_, rfl, p, _, _, _, rfl, rfl, SqL.of hp, at0, _, rfl, _, _, rfl, rfl, ⟨m0, m1⟩, ?_⟩
      refine ⟨_, rfl, p, _, _, 0, rfl, rfl, hp, rfl, ?_⟩
      refine ⟨_, rfl, k _ _ (Int.emod_nonneg _ (by omega)) (Int.emod_lt_of_pos _ m0) (NF.Same.put hS h0) ⟨_, _, _, upd_same⟩⟩
    · refine ⟨_, rfl, p, _, _, _, rfl, rfl, SqL.of hp, at2, _, _, rfl, rfl, ?_⟩
      refine ⟨_, rfl, p, _, _, 2, rfl, rfl, hp, rfl, ?_⟩
      have hp' : upd H p (.lst [.int a, .int sd, .int (c + 1)]) p = some (.lst [.int a, .int sd, .int (c + 1)]) := upd_same
      refine ⟨_, rfl, p, _, _, _, rfl, rfl, SqL.of hp', at1, ?_⟩
      refine ⟨_, rfl, p, _, _, _, rfl, rfl, SqL.of hp', at2, _, _, rfl, rfl, Or.inl (by decide), _, _, rfl, rfl, ?_⟩
      refine ⟨_, _, rfl, rfl, Or.inr (by decide), Or.inl ⟨_, rfl, _, _, rfl, rfl, (by first | exact (by decide : (0 : Int) < 2147483647) | exact (by decide : (0 : Int) < 2147483629) | exact (by decide : (0 : Int) < 2147483587)), ?_⟩⟩
      generalize hx : (sd + 104729 * (c + 1)) * 48271 % 2147483647 = x
      have x0 : 0 ≤ x ∧ x < 2147483647 := by omega
      refine ⟨_, rfl, _, rfl, _, _, rfl, rfl, Or.inl (by omega), ?_⟩
      refine ⟨_, rfl, p, _, _, _, rfl, rfl, SqL.of hp', at2, _, _, rfl, rfl, Or.inl (by decide), _, _, rfl, rfl, ?_⟩
      refine ⟨_, rfl, p, _, _, _, rfl, rfl, SqL.of hp', at1, _, _, rfl, rfl, Or.inl ⟨_, rfl, _, _, rfl, rfl, (by first | exact (by decide : (0 : Int) < 2147483647) | exact (by decide : (0 : Int) < 2147483629) | exact (by decide : (0 : Int) < 2147483587)), ?_⟩⟩
      generalize hy : (x * x + 7 * (c + 1) + sd) % 2147483629 = y
      have y0 : 0 ≤ y ∧ y < 2147483629 := by omega
      refine ⟨_, rfl, _, _, rfl, rfl, Or.inl (by omega), _, _, rfl, rfl, Or.inl ⟨_, rfl, _, _, rfl, rfl, (by first | exact (by decide : (0 : Int) < 2147483647) | exact (by decide : (0 : Int) < 2147483629) | exact (by decide : (0 : Int) < 2147483587)), ?_⟩⟩
      generalize hz : (y * 69621 + 5) % 2147483647 = z
      have z0 : 0 ≤ z ∧ z < 2147483647 := by omega
      refine ⟨_, rfl, _, rfl, _, _, rfl, rfl, Or.inl (by omega), ?_⟩
      refine ⟨_, rfl, _, _, rfl, rfl, Or.inl ⟨_, rfl, _, _, rfl, rfl, (by first | exact (by decide : (0 : Int) < 2147483647) | exact (by decide : (0 : Int) < 2147483629) | exact (by decide : (0 : Int) < 2147483587)), ?_⟩⟩
      refine ⟨_, rfl, _, _, rfl, rfl, ⟨by decide, by decide⟩, Or.inl ⟨_, rfl, _, rfl, _, _, rfl, rfl, m0, ?_⟩⟩
      exact k _ _ (Int.emod_nonneg _ (by omega)) (Int.emod_lt_of_pos _ m0) (NF.Same.put hS h0) ⟨_, _, _, hp'⟩
end
end K13
set_option Elab.async false
set_option linter.all false
set_option maxRecDepth 100000
set_option maxHeartbeats 4000000
namespace K13
open PySem PySem.Spec PyProof.Rows L2 He NF
theorem sc__law_source : FnScope ["_law_script", "_law_place", "_law_cell", "_law_seed", "_law_one", "_law_number"] ["_law_script", "_law_place"] (defScope s__law_source) := ⟨rfl, rfl, rfl, by decide +kernel, rfl, by decide +kernel, by decide +kernel⟩
theorem natAbs_bits {x : Int} {n : Nat} (h : x.natAbs < 2 ^ n) : Builtin.Int.intBits x ≤ n := by
  unfold Builtin.Int.intBits
  by_cases e : x = 0
  · rw [if_pos (by rw [e]; rfl)]
    exact Nat.zero_le _
  · rw [if_neg (by simpa using e)]
    exact (Nat.log2_lt (by omega)).mpr h
theorem bits_le {x y : Int} (h : x.natAbs ≤ y.natAbs) : Builtin.Int.intBits x ≤ Builtin.Int.intBits y := by
  refine natAbs_bits (Nat.lt_of_le_of_lt h ?_)
  unfold Builtin.Int.intBits
  by_cases e : y = 0
  · rw [if_pos (by rw [e]; rfl), e]
    decide
  · rw [if_neg (by simpa using e)]
    exact Nat.lt_log2_self
theorem bits_small {x : Int} (h0 : 0 ≤ x) (h : x < 1000000) : Builtin.Int.intBits x ≤ 1048576 := Nat.le_trans (natAbs_bits (n := 20) (by omega)) (by decide)
section
variable {P : Program} {w : World} {K : PySem.W.Frag} {mg : Str → Option Value} {base : Heap}
theorem ok_source {f : Addr} {fd : FuncData} {gs fs : List Str} (F : FunD K "_law_source" "_law_source" (defArgs s__law_source) (defBody s__law_source) (defScope s__law_source) [] [] f fd) (T : Txt K mg gs fs) (hl : ("len" : Str) ∈ fs) (hi : ("int" : Str) ∈ fs) (ha : ("abs" : Str) ∈ fs) : FnOk P w K mg base CX0 1 f fd ["_law_script", "_law_place"] (spSource K) := by
  refine F.ok sc__law_source (fun vs H Q E h => ?_) (fun cdv A outer s H vs Q E hr h => ?_)
  · obtain ⟨l, ns, i, rfl, _⟩ := h
    rfl
  · obtain ⟨l, ns, i, rfl, hS, hn, hb, hi', k⟩ := h
    refine ⟨_, PSs.nox (pss_cons (ps_set (i := 2) sc__law_source.nd rfl (Or.inl rfl) (pe_ifExp (pt_cmpR op_lt (pv 1) (pe_callB call_len_seq rfl (T.fr _ hl) boot_len (pa_cons (pv 0) pa_nil)) (nomark _)) (pe_ix ix_list (pv 0) (pv 1) fun _ _ => rfl) (pe_op op_add (pe_op op_mul pe_int (pv 1)) pe_int))) (pss_cons (ps_set (i := 3) sc__law_source.nd rfl (Or.inl rfl) (pe_op op_mod (pe_callTy call_int1 rfl (T.fr _ hi) (by decide +kernel) (pa_cons (pe_op op_add (pe_op op_mod (pe_callTy call_int1 rfl (T.fr _ hi) (by decide +kernel) (pa_cons (pv 2) pa_nil)) pe_int) (pe_op op_mul pe_int (pv 1))) pa_nil)) pe_int)) (pss_cons (ps_for PassesOwn.never rfl (pi_list (pe_slice sl_list (pv 0) po_none (po_some pe_int))) (pg_name (i := 4) sc__law_source.nd rfl (Or.inl rfl)) (pss_one (ps_set (i := 3) sc__law_source.nd rfl (Or.inl rfl) (pe_op op_mod (pe_callTy call_int1 rfl (T.fr _ hi) (by decide +kernel) (pa_cons (pe_op op_add (pe_op op_mul (pv 3) pe_int) (pe_op op_mod (pe_callTy call_int1 rfl (T.fr _ hi) (by decide +kernel) (pa_cons (pv 4) pa_nil)) pe_int)) pa_nil)) pe_int)))) (pss_cons (ps_set (i := 5) sc__law_source.nd rfl (Or.inl rfl) (pe_callB call_abs rfl (T.fr _ ha) (by decide +kernel) (pa_cons (pv 2) pa_nil))) (pss_cons (ps_if (pt_cmpR op_lt (pv 5) (pe_op op_pow pe_int pe_int) (nomark _)) (pss_one (ps_ret (pe_lst (pa_cons pe_int (pa_cons (pv 3) (pa_cons pe_int pa_nil)))))) pss_nil) (pss_cons (ps_if (pt_cmpR op_gt (pe_op op_shr (pv 5) pe_int) pe_int (nomark _)) (pss_one (ps_set (i := 5) sc__law_source.nd rfl (Or.inl rfl) (pe_op op_sub (pv 5) (pe_op op_shlW (pe_op op_shr (pv 5) pe_int) pe_int)))) pss_nil) (pss_one (ps_ret (pe_lst (pa_cons (pv 5) (pa_cons (pv 3) (pa_cons pe_int pa_nil)))))))))))), ?_⟩
    -- the cell: what stands at the place, or a number by the place
    have hcell : ∀ (Q1 : VK), (∀ c : Int, Builtin.Int.intBits c ≤ 1048576 → Q1 (.int c) H) →
        (if decide ((i : Int) < ((ns.map V.int).length : Int)) = true then tOp (rIxL K) (tVar 0) (tVar 1) (start ["_law_script", "_law_place", "_law_cell", "_law_seed", "_law_one", "_law_number"] [.ref l, .int (i : Int)]) H Q1
          else tOp (rI0 fun i j => .int (i + j)) (tOp (rI CMul fun i j => .int (i * j)) (tC (.int 3)) (tVar 1)) (tC (.int 1)) (start ["_law_script", "_law_place", "_law_cell", "_law_seed", "_law_one", "_law_number"] [.ref l, .int (i : Int)]) H Q1) := by
      intro Q1 q
      rw [List.length_map]
      by_cases hlt : i < ns.length
      · rw [decide_eq_true (show (i : Int) < (ns.length : Int) by omega), if_pos rfl]
        have e : (ns.map V.int)[i]? = some (V.int ns[i]) := by rw [List.getElem?_map, List.getElem?_eq_getElem hlt] <;> rfl
        exact ⟨_, rfl, _, rfl, l, _, _, _, rfl, rfl, hS, atI_nat e, q _ (hb _ (List.getElem_mem hlt))⟩
      · rw [decide_eq_false (show ¬ (i : Int) < (ns.length : Int) by omega), if_neg Bool.false_ne_true]
        refine ⟨_, rfl, _, _, rfl, rfl, Or.inl (by decide), _, _, rfl, rfl, q _ ?_⟩
        exact bits_small (by omega) (by omega)
    refine ⟨_, rfl, _, rfl, l, _, rfl, Or.inl hS, _, _, rfl, rfl, _, rfl, hcell _ fun c hc => ?_⟩
    refine ⟨_, rfl, Or.inl ⟨_, rfl, _, _, rfl, rfl, (by exact (by decide : (0 : Int) < 2147483629)), ?_⟩⟩
    refine ⟨_, rfl, _, _, rfl, rfl, Or.inl (by decide), _, _, rfl, rfl, Or.inl ⟨_, rfl, _, _, rfl, rfl, (by exact (by decide : (0 : Int) < 2147483629)), ?_⟩⟩
    refine ⟨_, rfl, _, rfl, l, _, rfl, hS, fun p hp => ⟨p, rfl, ⟨_, SqL.of upd_same⟩, ?_⟩⟩
    have hpl : H p = none := hp
    obtain ⟨cs, hcs⟩ : ∃ cs : List Int, cutV (ns.map V.int) none (some 2) = cs.map V.int := ⟨(ns.drop (HT.sIx (ns.map V.int).length 0 none)).take (HT.sIx (ns.map V.int).length (ns.map V.int).length (some 2) - HT.sIx (ns.map V.int).length 0 none), by unfold cutV; rw [List.map_take, List.map_drop]⟩
    refine for_list (K := K) (a := p) (xs := cs.map V.int) (fun j σ H' => H' = upd H p (.lst (cs.map V.int)) ∧ ∃ (sd : Int) (v : Option V), σ = [some (.ref l), some (.int (i : Int)), some (.int c), some (.int sd), v, none])
      ⟨by rw [hcs], _, _, rfl⟩ (fun j σ H' _ z => by rw [z.1]; exact SqL.of upd_same) ?_ ?_
    · rintro j y σ H' hj ⟨rfl, sd, v, rfl⟩
      obtain ⟨z, rfl⟩ : ∃ z, y = V.int z := by
        rw [List.getElem?_map] at hj
        cases e : cs[j]? with
        | none =>
          rw [e] at hj
          cases hj
        | some z =>
          rw [e] at hj
          exact ⟨z, (Option.some.inj hj).symm⟩
      refine ⟨_, rfl, _, _, rfl, rfl, Or.inr (by decide), _, rfl, Or.inl ⟨_, rfl, _, _, rfl, rfl, (by exact (by decide : (0 : Int) < 1000003)), ?_⟩⟩
      refine ⟨_, _, rfl, rfl, Or.inl ⟨_, rfl, _, _, rfl, rfl, (by exact (by decide : (0 : Int) < 2147483629)), ?_⟩⟩
      exact ⟨rfl, _, _, rfl⟩
    · rintro σ H' ⟨rfl, sd, v, rfl⟩
      have hS1 : Same H (upd H p (.lst (cs.map V.int))) := NF.Same.new (Same.refl H) hp
      have hend : ∀ (a sd : Int) (q : Addr), upd H p (.lst (cs.map V.int)) q = none → Q (.ref q) (upd (upd H p (.lst (cs.map V.int))) q (.lst [.int a, .int sd, .int 0])) := fun a sd q hq =>
        k q _ (NF.Same.new hS1 hq) (L2.Same.free hS1 hq) ⟨_, _, _, upd_same⟩
      refine ⟨_, rfl, _, rfl, ?_⟩
      have hab : Builtin.Int.intBits (if c < 0 then -c else c) ≤ 1048576 := Nat.le_trans (bits_le (by split <;> omega)) hc
      generalize hm : (if c < 0 then -c else c) = m at hab ⊢
      have m0 : 0 ≤ m := by rw [← hm]; split <;> omega
      refine ⟨_, rfl, _, _, rfl, rfl, ⟨by decide, by decide, by decide⟩, _, _, rfl, rfl, _, rfl, ?_⟩
      refine ite2 (fun _ => ?_) (fun _ => ?_)
      · exact ⟨_, rfl, (by show 3 ≤ sizeLine; decide), fun q hq => hend _ _ q hq⟩
      · refine ⟨_, rfl, _, _, rfl, rfl, (by exact (by decide : (0 : Int) ≤ 4000)), _, _, rfl, rfl, _, rfl, ?_⟩
        refine ite2 (fun _ => ?_) (fun _ => ?_)
        · refine ⟨_, rfl, _, rfl, _, _, rfl, rfl, (by exact (by decide : (0 : Int) ≤ 4000)), _, _, rfl, rfl, ⟨(by exact (by decide : (0 : Int) ≤ 4000)), ?_⟩, _, _, rfl, rfl, ?_⟩
          · have hd : Builtin.Int.intBits (m / 2 ^ (4000 : Int).toNat) ≤ Builtin.Int.intBits m := bits_le (by
              have h1 : 0 ≤ m / 2 ^ (4000 : Int).toNat := Int.ediv_nonneg m0 (Int.le_of_lt (Int.pow_pos (by decide)))
              have h2 : m / 2 ^ (4000 : Int).toNat ≤ m := Int.ediv_le_self _ m0
              omega)
            have h27 : (1048576 : Int) + 4000 ≤ 2 ^ 27 := by decide
            omega
          · exact ⟨_, rfl, _, rfl, (by show 3 ≤ sizeLine; decide), fun q hq => hend _ _ q hq⟩
        · exact ⟨_, rfl, _, rfl, (by show 3 ≤ sizeLine; decide), fun q hq => hend _ _ q hq⟩
end
end K13
set_option Elab.async false
set_option linter.all false
set_option maxRecDepth 100000
set_option maxHeartbeats 4000000
/-! The law's own readings of a term. -/
namespace K13
open PySem PySem.Spec PyProof.Rows L2 He NF RZ TT
theorem wr_len : ∀ {t : Trm}, TmOk t → ∀ l, (wr t l).length ≤ 12 * parts t
  | .nm s, h, l => by
    obtain ⟨c, r, rfl, _, hr, _⟩ := h
    show (c :: r).length ≤ 12 * 1
    rw [List.length_cons]
    omega
  | .sh k, _, l => by
    show 2 ≤ 12 * 1
    decide
  | .tn a, h, l => by
    have := wr_len (t := a) h 4
    show (wr a 4).length + 1 ≤ 12 * (parts a + 1)
    omega
  | .bi w a b, h, l => by
    have h1 := wr_len h.2.1 (lft w)
    have h2 := wr_len h.2.2 (rk w + 1)
    have h3 : (sg w).length ≤ 5 := by rcases sg_cases h.1 with rfl | rfl | rfl | rfl | rfl <;> decide
    rw [wr_bi]
    show _ ≤ 12 * (parts a + parts b + 1)
    split <;> simp only [List.length_cons, List.length_append, List.length_nil] <;> omega
theorem sapp_len (a b : Str) : (a ++ b).length = a.length + b.length := by
  show (a.cps ++ b.cps).size = a.cps.size + b.cps.size
  exact Array.size_append
theorem parts_pos : ∀ t, 1 ≤ parts t
  | .nm _ => Nat.le_refl _
  | .sh _ => Nat.le_refl _
  | .tn a => by show 1 ≤ parts a + 1; omega
  | .bi _ a b => by show 1 ≤ parts a + parts b + 1; omega
theorem len_parts : ∀ us : List Trm, us.length ≤ partsL us
  | [] => Nat.zero_le _
  | a :: us => by
    show us.length + 1 ≤ parts a + partsL us
    have h1 := parts_pos a
    have h2 := len_parts us
    omega
theorem kids_ok {t : Trm} (h : TmOk t) : ∀ u ∈ kids t, TmOk u := by
  cases t with
  | nm s => exact fun u hu => nomatch hu
  | sh k => exact fun u hu => nomatch hu
  | tn a => exact fun u hu => by rw [List.mem_singleton.mp hu]; exact h
  | bi w a b => exact fun u hu => (List.mem_cons.mp hu).elim (fun e => e ▸ h.2.1) fun hu => by rw [List.mem_singleton.mp hu]; exact h.2.2
def spIsInt : Sp := fun vs H Q _ => ∃ i, vs = [.int i] ∧ Q (.bl true) H
def rkT : Trm → Nat
  | .bi w _ _ => rk w
  | _ => 4
def spLRank (K : PySem.W.Frag) : Sp := fun vs H Q _ => ∃ v l t, vs = [v] ∧ Dp K H v (tmP l t) ∧ TmOk t ∧ ∀ H', Same H H' → Q (.int (rkT t : Nat)) H'
def spLWr (n : Nat) (K : PySem.W.Frag) : Sp := fun vs H Q _ => ∃ v l t c, vs = [v, .int ((c : Nat) : Int)] ∧ Dp K H v (tmP l t) ∧ TmOk t ∧ depth t ≤ n ∧ parts t ≤ 1000 ∧ ∀ H', Same H H' → Q (.str (tx (wr t c))) H'
theorem sc__law_is_integer : FnScope ["_law_thing"] ["_law_thing"] (defScope s__law_is_integer) := ⟨rfl, rfl, rfl, by decide +kernel, rfl, by decide +kernel, by decide +kernel⟩
theorem sc__law_rank : FnScope ["_law_term_here"] ["_law_term_here"] (defScope s__law_rank) := ⟨rfl, rfl, rfl, by decide +kernel, rfl, by decide +kernel, by decide +kernel⟩
theorem sc__law_written : FnScope ["_law_term_here", "_law_least", "_law_rank_here", "_law_sign", "_law_text"] ["_law_term_here", "_law_least"] (defScope s__law_written) := ⟨rfl, rfl, rfl, by decide +kernel, rfl, by decide +kernel, by decide +kernel⟩
def rkD : List (L2.Key × V) := [(Sum.inr "either", .int 0), (Sum.inr "both", .int 1), (Sum.inr "under", .int 2), (Sum.inr "over", .int 2), (Sum.inr "behind", .int 3)]
theorem rkD_at {w : Nat} (h : w < 5) : valV (mergeK [] rkD) (Sum.inr (wordS w)) = some (.int (rk w : Nat)) := by
  rcases sg_cases h with rfl | rfl | rfl | rfl | rfl <;> decide +kernel
def sgD : List (L2.Key × V) := [(Sum.inr "either", .str " | "), (Sum.inr "both", .str " & "), (Sum.inr "under", .str " under "), (Sum.inr "over", .str " over "), (Sum.inr "behind", .str " * ")]
theorem sgD_at {w : Nat} (h : w < 5) : valV (mergeK [] sgD) (Sum.inr (wordS w)) = some (.str (tx (32 :: sg w ++ [32]))) := by
  rcases sg_cases h with rfl | rfl | rfl | rfl | rfl <;> decide +kernel
theorem sh_text {k : Int} (h1 : -9 ≤ k) (h2 : k ≤ 9) : (if 0 ≤ k then ("+" : Str) else "-") ++ Str.ofString (toString (if k < 0 then -k else k)) = tx (shT k) ∧ (if k < 0 then -k else k).natAbs.log2 < 1920 ∧ (Str.ofString (toString (if k < 0 then -k else k))).length ≤ 1 := by
  have : k = -9 ∨ k = -8 ∨ k = -7 ∨ k = -6 ∨ k = -5 ∨ k = -4 ∨ k = -3 ∨ k = -2 ∨ k = -1 ∨ k = 0 ∨ k = 1 ∨ k = 2 ∨ k = 3 ∨ k = 4 ∨ k = 5 ∨ k = 6 ∨ k = 7 ∨ k = 8 ∨ k = 9 := by omega
  rcases this with rfl | rfl | rfl | rfl | rfl | rfl | rfl | rfl | rfl | rfl | rfl | rfl | rfl | rfl | rfl | rfl | rfl | rfl | rfl <;> exact ⟨by decide +kernel, by decide +kernel, by decide +kernel⟩
section
variable {P : Program} {w : World} {K : PySem.W.Frag} {mg : Str → Option Value} {base : Heap} {gs fs : List Str} {C : Addr} {tok : Tok}
theorem ok__law_is_integer {f : Addr} {fd : FuncData} (F : FunD K "_law_is_integer" "_law_is_integer" (defArgs s__law_is_integer) (defBody s__law_is_integer) (defScope s__law_is_integer) [] [] f fd) (T : Txt K mg gs FS) : FnOk P w K mg base CX0 1 f fd ["_law_thing"] spIsInt := by
  refine F.ok sc__law_is_integer (fun vs H Q E h => ?_) (fun cdv A outer s H vs Q E hr h => ?_)
  · obtain ⟨i, rfl, _⟩ := h
    rfl
  · obtain ⟨i, rfl, q⟩ := h
    refine ⟨_, PSs.nox (pss_one (ps_ret (pe_and (pe_callB call_isi rfl (T.fr _ (by decide +kernel)) (by decide +kernel) (pa_cons (pv 0) (pa_cons (pe_bltn (v := .ty "int") rfl (T.fr _ (by decide +kernel)) (by decide +kernel) rfl) pa_nil))) (pe_one (pe_not (pe_callB call_isi rfl (T.fr _ (by decide +kernel)) (by decide +kernel) (pa_cons (pv 0) (pa_cons (pe_bltn (v := .ty "bool") rfl (T.fr _ (by decide +kernel)) (by decide +kernel) rfl) pa_nil)))))))), ?_⟩
    exact ⟨_, rfl, _, _, _, _, true, rfl, .ty "int", .base (.int i), kit_i_i K, true, rfl, _, rfl, _, _, _, _, false, rfl, .ty "bool", .base (.int i), kit_i_b K, false, rfl, q⟩
theorem ok__law_rank {f : Addr} {fd : FuncData} (F : FunD K "_law_rank" "_law_rank" (defArgs s__law_rank) (defBody s__law_rank) (defScope s__law_rank) [] [] f fd) (T : Txt K mg gs FS) : FnOk P w K mg base CX0 1 f fd ["_law_term_here"] (spLRank K) := by
  refine F.ok sc__law_rank (fun vs H Q E h => ?_) (fun cdv A outer s H vs Q E hr h => ?_)
  · obtain ⟨v, l, t, rfl, _⟩ := h
    rfl
  · have hu1 : (A.deeper (envOfC "_law_rank" (defScope s__law_rank) s.heap.objs.size f cdv)).units + 1 < cLine := by
      have := hr.un
      omega
    obtain ⟨v, l, t, rfl, hv, ht, q⟩ := h
    refine ⟨_, PSs.nox (pss_cons (ps_if (PW.pt (pw_or (pt_val (pe_callB call_isi rfl (T.fr _ (by decide +kernel)) (by decide +kernel) (pa_cons (pv 0) (pa_cons (pe_bltn (v := .ty "str") rfl (T.fr _ (by decide +kernel)) (by decide +kernel) rfl) pa_nil)))) (pw_or1 (pt_cmpR op_in_seq (pe_ix (ixs (K := K)) (pv 0) pe_int fun _ _ => rfl) (pe_tup (pa_cons pe_str (pa_cons pe_str pa_nil))) rfl)))) (pss_one (ps_ret pe_int)) pss_nil) (pss_one (ps_ret (pe_dget hu1 (pe_disp (pps_cons pe_str pe_int (pps_cons pe_str pe_int (pps_cons pe_str pe_int (pps_cons pe_str pe_int (pps_cons pe_str pe_int pps_nil))))) rfl rfl (fun z => nomatch z) (by decide)) (pe_ix (ixs (K := K)) (pv 0) pe_int fun _ _ => rfl) (fun _ _ => rfl))))), ?_⟩
    refine ⟨_, rfl, _, _, _, _, _, rfl, .ty "str", dp_ty hv, kit_p_str K _, ?_⟩
    cases t with
    | nm s =>
      obtain rfl := dp_nm hv
      exact ⟨true, rfl, iteT (q H (Same.refl H))⟩
    | sh k =>
      obtain ⟨a, rfl, ha⟩ := dp_sh hv
      refine ⟨false, by cases l <;> rfl, iteF ?_⟩
      refine ⟨_, rfl, ix_done ha (atI_nat (j := 0) rfl) ⟨(by show 2 ≤ sizeLine; decide), fun p hp => ?_⟩⟩
      refine ⟨p, _, rfl, .inr (SqT.of upd_same), rfl, rfl, _, rfl, iteT' (by decide +kernel) ?_⟩
      exact q _ (NF.Same.new (Same.refl H) hp)
    | tn t =>
      obtain ⟨a, x, rfl, ha, hx⟩ := dp_tn hv
      refine ⟨false, by cases l <;> rfl, iteF ?_⟩
      refine ⟨_, rfl, ix_done ha (atI_nat (j := 0) rfl) ⟨(by show 2 ≤ sizeLine; decide), fun p hp => ?_⟩⟩
      refine ⟨p, _, rfl, .inr (SqT.of upd_same), rfl, rfl, _, rfl, iteT' (by decide +kernel) ?_⟩
      exact q _ (NF.Same.new (Same.refl H) hp)
    | bi w t u =>
      obtain ⟨a, x, y, rfl, ha, hx, hy⟩ := dp_bi hv
      refine ⟨false, by cases l <;> rfl, iteF ?_⟩
      refine ⟨_, rfl, ix_done ha (atI_nat (j := 0) rfl) ⟨(by show 2 ≤ sizeLine; decide), fun p hp => ?_⟩⟩
      have s1 := NF.Same.new (o := .tup [V.str "turn", .str "shift"]) (Same.refl H) hp
      refine ⟨p, _, rfl, .inr (SqT.of upd_same), rfl, rfl, _, rfl, iteF' (by rcases sg_cases ht.1 with rfl | rfl | rfl | rfl | rfl <;> decide +kernel) ?_⟩
      generalize upd H p _ = H1 at s1
      refine fun M hM => ⟨upd_same, rkD, rfl, (by decide), ?_⟩
      have s2 := NF.Same.mut (o := .dK (mergeK [] rkD)) (NF.Same.new (o := .dK []) (Same.refl H1) hM) hM
      have hM2 := upd_same (H := upd H1 M (.dK [])) (a := M) (o := .dK (mergeK [] rkD))
      generalize upd (upd H1 M (.dK [])) M (.dK (mergeK [] rkD)) = H2 at s2 hM2
      have s02 := Same.trans s1 s2
      refine ⟨_, rfl, ix_done (ha.mono s02) (atI_nat (j := 0) rfl) ⟨M, _, rfl, .inl ⟨_, Sum.inr (wordS w), .inl hM2, rfl, (rkD_at ht.1).symm⟩, q H2 s02⟩⟩
theorem ok__law_written {n : Nat} {f : Addr} {fd : FuncData} (F : FunD K "_law_written" "_law_written" (defArgs s__law_written) (defBody s__law_written) (defScope s__law_written) [] [] f fd) (T : Txt K mg gs FS) (c__law_rank : Cal P w K mg base 1 "_law_rank" (spLRank K)) (c__law_written : Cal P w K mg base (n + 1) "_law_written" (spLWr n K)) : FnOk P w K mg base CX0 (n + 2) f fd ["_law_term_here", "_law_least"] (spLWr (n + 1) K) := by
  refine F.ok sc__law_written (fun vs H Q E h => ?_) (fun cdv A outer s H vs Q E hr h => ?_)
  · obtain ⟨v, l, t, c, rfl, _⟩ := h
    rfl
  · have hu1 : (A.deeper (envOfC "_law_written" (defScope s__law_written) s.heap.objs.size f cdv)).units + 1 < cLine := by
      have := hr.un
      omega
    obtain ⟨v, l, t, c, rfl, hv, ht, hd, hp, q⟩ := h
    refine ⟨_, PSs.nox (pss_cons (ps_if (pt_val (pe_callB call_isi rfl (T.fr _ (by decide +kernel)) (by decide +kernel) (pa_cons (pv 0) (pa_cons (pe_bltn (v := .ty "str") rfl (T.fr _ (by decide +kernel)) (by decide +kernel) rfl) pa_nil)))) (pss_one (ps_ret (pv 0))) pss_nil) (pss_cons (ps_if (pt_cmpR op_eq (pe_ix (ixs (K := K)) (pv 0) pe_int fun _ _ => rfl) pe_str (nomark _)) (pss_one (ps_ret (pe_op op_add_str (pe_ifExp (pt_cmpR op_ge (pe_ix (ixs (K := K)) (pv 0) pe_int fun _ _ => rfl) pe_int (nomark _)) pe_str pe_str) (pe_callTy call_str_int rfl (T.fr _ (by decide +kernel)) (by decide +kernel) (pa_cons (pe_callB call_abs rfl (T.fr _ (by decide +kernel)) (by decide +kernel) (pa_cons (pe_ix (ixs (K := K)) (pv 0) pe_int fun _ _ => rfl) pa_nil)) pa_nil))))) pss_nil) (pss_cons (ps_if (pt_cmpR op_eq (pe_ix (ixs (K := K)) (pv 0) pe_int fun _ _ => rfl) pe_str (nomark _)) (pss_one (ps_ret (pe_op op_add_str pe_str (pe_c c__law_written hr (by omega) rfl (pa_cons (pe_ix (ixs (K := K)) (pv 0) pe_int fun _ _ => rfl) (pa_cons pe_int pa_nil)))))) pss_nil) (pss_cons (ps_set (i := 2) sc__law_written.nd rfl (Or.inl rfl) (pe_c c__law_rank hr (by omega) rfl (pa_cons (pv 0) pa_nil))) (pss_cons (ps_set (i := 3) sc__law_written.nd rfl (Or.inl rfl) (pe_dget hu1 (pe_disp (pps_cons pe_str pe_str (pps_cons pe_str pe_str (pps_cons pe_str pe_str (pps_cons pe_str pe_str (pps_cons pe_str pe_str pps_nil))))) rfl rfl (fun z => nomatch z) (by decide)) (pe_ix (ixs (K := K)) (pv 0) pe_int fun _ _ => rfl) (fun _ _ => rfl))) (pss_cons (ps_set (i := 4) sc__law_written.nd rfl (Or.inl rfl) (pe_op op_add_str (pe_op op_add_str (pe_c c__law_written hr (by omega) rfl (pa_cons (pe_ix (ixs (K := K)) (pv 0) pe_int fun _ _ => rfl) (pa_cons (pe_ifExp (pt_cmpR op_eq (pv 2) pe_int (nomark _)) pe_int (pv 2)) pa_nil))) (pv 3)) (pe_c c__law_written hr (by omega) rfl (pa_cons (pe_ix (ixs (K := K)) (pv 0) pe_int fun _ _ => rfl) (pa_cons (pe_op op_add (pv 2) pe_int) pa_nil))))) (pss_one (ps_ret (pe_ifExp (pt_cmpR op_ge (pv 2) (pv 1) (nomark _)) (pv 4) (pe_op op_add_str (pe_op op_add_str pe_str (pv 4)) pe_str)))))))))), ?_⟩
    have lw : ∀ {u : Trm} (l : Nat), TmOk u → parts u ≤ 1000 → (tx (wr u l)).length ≤ 12000 := fun {u} l h1 h2 => by
      rw [tx_len]
      have := wr_len h1 l
      omega
    refine ⟨_, rfl, _, _, _, _, _, rfl, .ty "str", dp_ty hv, kit_p_str K _, ?_⟩
    cases t with
    | nm s =>
      obtain rfl := dp_nm hv
      exact ⟨true, rfl, iteT ⟨_, rfl, q H (Same.refl H)⟩⟩
    | sh k =>
      obtain ⟨a, rfl, ha⟩ := dp_sh hv
      refine ⟨false, by cases l <;> rfl, iteF ?_⟩
      refine ⟨_, rfl, ix_done ha (atI_nat (j := 0) rfl) ⟨rfl, _, rfl, iteT' (by decide +kernel) ?_⟩⟩
      refine ⟨_, rfl, ix_done ha (atI_nat (j := 1) rfl) ⟨_, _, rfl, rfl, _, rfl, ?_⟩⟩
      obtain ⟨e1, e2, e3⟩ := sh_text ht.1 ht.2
      have hq := q H (Same.refl H)
      rw [show tx (wr (.sh k) c) = tx (shT k) from rfl, ← e1] at hq
      by_cases k0 : 0 ≤ k
      · rw [if_pos k0] at hq
        refine iteT' (decide_eq_true k0) ?_
        exact ⟨_, rfl, ix_done ha (atI_nat (j := 1) rfl) ⟨_, rfl, _, rfl, e2, _, _, rfl, rfl, Nat.le_trans (show 1 + _ ≤ 2 by omega) (by decide), hq⟩⟩
      · rw [if_neg k0] at hq
        refine iteF' (decide_eq_false k0) ?_
        exact ⟨_, rfl, ix_done ha (atI_nat (j := 1) rfl) ⟨_, rfl, _, rfl, e2, _, _, rfl, rfl, Nat.le_trans (show 1 + _ ≤ 2 by omega) (by decide), hq⟩⟩
    | tn t =>
      obtain ⟨a, x, rfl, ha, hx⟩ := dp_tn hv
      have hd : depth t + 1 ≤ n + 1 := hd
      have hp : parts t + 1 ≤ 1000 := hp
      refine ⟨false, by cases l <;> rfl, iteF ?_⟩
      refine ⟨_, rfl, ix_done ha (atI_nat (j := 0) rfl) ⟨rfl, _, rfl, iteF' (by decide +kernel) ?_⟩⟩
      refine ⟨_, rfl, ix_done ha (atI_nat (j := 0) rfl) ⟨rfl, _, rfl, iteT' (by decide +kernel) ?_⟩⟩
      refine ⟨_, rfl, ix_done ha (atI_nat (j := 1) rfl) ⟨x, l, t, 4, rfl, hx, ht, by omega, by omega, fun H1 s1 => ?_⟩⟩
      refine ⟨_, _, rfl, rfl, ?_, ?_⟩
      · have := lw (u := t) 4 ht (by omega)
        exact Nat.le_trans (show 1 + (tx (wr t 4)).length ≤ 12001 by omega) (by decide)
      · have := q H1 s1
        rw [show tx (wr (.tn t) c) = ("~" : Str) ++ tx (wr t 4) from by rw [show ("~" : Str) = tx [126] from rfl, tx_app]; rfl] at this
        exact this
    | bi w t u =>
      obtain ⟨a, x, y, rfl, ha, hx, hy⟩ := dp_bi hv
      have hd : max (depth t) (depth u) + 1 ≤ n + 1 := hd
      have hp : parts t + parts u + 1 ≤ 1000 := hp
      obtain ⟨nw1, nw2⟩ := word_no ht.1
      refine ⟨false, by cases l <;> rfl, iteF ?_⟩
      refine ⟨_, rfl, ix_done ha (atI_nat (j := 0) rfl) ⟨rfl, _, rfl, iteF' (decide_eq_false fun e => nw1 (V.str.inj e)) ?_⟩⟩
      refine ⟨_, rfl, ix_done ha (atI_nat (j := 0) rfl) ⟨rfl, _, rfl, iteF' (decide_eq_false fun e => nw2 (V.str.inj e)) ?_⟩⟩
      refine ⟨_, rfl, _, l, .bi w t u, rfl, hv, ht, fun H1 s1 => ?_⟩
      refine fun M hM => ⟨upd_same, sgD, rfl, (by decide), ?_⟩
      have s2 := NF.Same.mut (o := .dK (mergeK [] sgD)) (NF.Same.new (o := .dK []) (Same.refl H1) hM) hM
      have hM2 := upd_same (H := upd H1 M (.dK [])) (a := M) (o := .dK (mergeK [] sgD))
      generalize upd (upd H1 M (.dK [])) M (.dK (mergeK [] sgD)) = H2 at s2 hM2
      have s02 := Same.trans s1 s2
      refine ⟨_, rfl, ix_done (ha.mono s02) (atI_nat (j := 0) rfl) ⟨M, _, rfl, .inl ⟨_, Sum.inr (wordS w), .inl hM2, rfl, (sgD_at ht.1).symm⟩, ?_⟩⟩
      have sgl : (32 :: sg w ++ [32]).length ≤ 7 := by rcases sg_cases ht.1 with rfl | rfl | rfl | rfl | rfl <;> decide
      have l2 := lw (u := u) (rk w + 1) ht.2.2 (by omega)
      have big : 30000 ≤ sizeLine := by decide
      refine ⟨_, rfl, ix_done (ha.mono s02) (atI_nat (j := 1) rfl) ⟨_, rfl, rfl, _, rfl, ?_⟩⟩
      have sgl : (tx (32 :: sg w ++ [32])).length ≤ 7 := by rw [tx_len]; exact sgl
      by_cases c2 : rk w = 2
      · refine iteT' (decide_eq_true (show V.int (rk w : Nat) = V.int 2 by rw [c2]; rfl)) ?_
        have el : lft w = 3 := if_pos c2
        refine ⟨x, l, t, 3, rfl, dp_mono s02 _ hx, ht.2.1, by omega, by omega, fun H3 s3 => ?_⟩
        have l1 := lw (u := t) (3) ht.2.1 (by omega)
        refine ⟨_, rfl, _, _, rfl, rfl, by omega, ?_⟩
        have s03 := Same.trans s02 s3
        refine ⟨_, rfl, ix_done (ha.mono s03) (atI_nat (j := 2) rfl) ⟨_, rfl, _, _, rfl, rfl, y, l, u, rk w + 1, rfl, dp_mono s03 _ hy, ht.2.2, by omega, by omega, fun H4 s4 => ⟨_, _, rfl, rfl, by rw [sapp_len]; omega, ?_⟩⟩⟩
        have hq := q H4 (Same.trans s03 s4)
        rw [wr_bi, el] at hq
        rw [tx_app, tx_app]
        refine ⟨_, rfl, _, rfl, _, _, rfl, rfl, _, rfl, ?_⟩
        by_cases c3 : rk w < c
        · rw [if_pos c3] at hq
          refine iteF' (decide_eq_false (show ¬ ((c : Int) ≤ (rk w : Int)) by omega)) ?_
          have lx : (tx (wr t (3) ++ (32 :: sg w ++ [32]) ++ wr u (rk w + 1))).length ≤ 25000 := by
            rw [← tx_app, ← tx_app, sapp_len, sapp_len]
            omega
          have eo : ("(" : Str).length = 1 := by decide +kernel
          have ec : (")" : Str).length = 1 := by decide +kernel
          refine ⟨_, rfl, _, _, rfl, rfl, by omega, _, _, rfl, rfl, by rw [sapp_len]; omega, ?_⟩
          rw [show ("(" : Str) = tx [40] from rfl, show (")" : Str) = tx [41] from rfl, tx_app, tx_app]
          exact hq
        · rw [if_neg c3] at hq
          refine iteT' (decide_eq_true (show ((c : Int) ≤ (rk w : Int)) by omega)) ?_
          exact ⟨_, rfl, hq⟩
      · refine iteF' (decide_eq_false (show ¬ V.int (rk w : Nat) = V.int 2 from fun e => by have e := V.int.inj e; omega)) ?_
        have el : lft w = rk w := if_neg c2
        refine ⟨_, rfl, x, l, t, rk w, rfl, dp_mono s02 _ hx, ht.2.1, by omega, by omega, fun H3 s3 => ?_⟩
        have l1 := lw (u := t) (rk w) ht.2.1 (by omega)
        refine ⟨_, rfl, _, _, rfl, rfl, by omega, ?_⟩
        have s03 := Same.trans s02 s3
        refine ⟨_, rfl, ix_done (ha.mono s03) (atI_nat (j := 2) rfl) ⟨_, rfl, _, _, rfl, rfl, y, l, u, rk w + 1, rfl, dp_mono s03 _ hy, ht.2.2, by omega, by omega, fun H4 s4 => ⟨_, _, rfl, rfl, by rw [sapp_len]; omega, ?_⟩⟩⟩
        have hq := q H4 (Same.trans s03 s4)
        rw [wr_bi, el] at hq
        rw [tx_app, tx_app]
        refine ⟨_, rfl, _, rfl, _, _, rfl, rfl, _, rfl, ?_⟩
        by_cases c3 : rk w < c
        · rw [if_pos c3] at hq
          refine iteF' (decide_eq_false (show ¬ ((c : Int) ≤ (rk w : Int)) by omega)) ?_
          have lx : (tx (wr t (rk w) ++ (32 :: sg w ++ [32]) ++ wr u (rk w + 1))).length ≤ 25000 := by
            rw [← tx_app, ← tx_app, sapp_len, sapp_len]
            omega
          have eo : ("(" : Str).length = 1 := by decide +kernel
          have ec : (")" : Str).length = 1 := by decide +kernel
          refine ⟨_, rfl, _, _, rfl, rfl, by omega, _, _, rfl, rfl, by rw [sapp_len]; omega, ?_⟩
          rw [show ("(" : Str) = tx [40] from rfl, show (")" : Str) = tx [41] from rfl, tx_app, tx_app]
          exact hq
        · rw [if_neg c3] at hq
          refine iteT' (decide_eq_true (show ((c : Int) ≤ (rk w : Int)) by omega)) ?_
          exact ⟨_, rfl, hq⟩
end
end K13
set_option linter.all false
/-! Reading a table's words: the program's way and the law's machine say the same. -/
namespace NT
section
variable {α : Type} (num : α → Option Int) (nev thn up_ : α → Bool)
/-- numbers that climb -/
def climbW (m : Int) : List α → List Int
  | [] => []
  | w :: ws => match num w with
    | some v => if v < m then [] else v :: climbW v ws
    | none => []
def lastD (m : Int) (l : List Int) : Int := if l = [] then m else l.getD (l.length - 1) 0
/-- the program's reading: a place that is wrong, or the table -/
inductive Rd where
  | bad (k : Nat)
  | ok (h l : List Int) (r : Int)
def readW (ws : List α) : Rd :=
  let h := climbW num 0 ws
  match ws.drop h.length with
  | [] => .bad h.length
  | w :: r1 => if nev w = true then (if r1 = [] then .ok h [] 0 else .bad (h.length + 1))
    else if thn w = true then
      let l := climbW num (lastD 0 h) r1
      if l = [] then .bad (h.length + 1)
      else match r1.drop l.length with
        | [] => .bad (h.length + 1 + l.length)
        | u :: r2 => if up_ u = true then
            match climbW num (l.getD (l.length - 1) 0 - l.getD 0 0) r2 with
            | [] => .bad (h.length + 1 + l.length + 1)
            | v :: _ => if 1 < r2.length then .bad (h.length + 1 + l.length + 2) else .ok h l v
          else .bad (h.length + 1 + l.length)
    else .bad h.length
inductive St where
  | head | loop | rise | fin
/-- the law's machine; m: the greatest number so far, or 0 -/
def scan : St → Int → List Int → List Int → Int → Nat → List α → Option Nat × List Int × List Int × Int
  | s, _, h, l, r, k, [] => ((match s with | .fin => none | _ => some k), h, l, r)
  | .fin, _, h, l, r, k, _ :: _ => (some k, h, l, r)
  | .rise, m, h, l, r, k, w :: ws => (match num w with
    | none => (some k, h, l, r)
    | some v => if v < l.getD (l.length - 1) 0 - l.getD 0 0 then (some k, h, l, r) else scan .fin m h l v (k + 1) ws)
  | .head, m, h, l, r, k, w :: ws => (match num w with
    | some v => if v < m then (some k, h, l, r) else scan .head v (h ++ [v]) l r (k + 1) ws
    | none => if nev w = true then scan .fin m h l r (k + 1) ws else if thn w = true then scan .loop m h l r (k + 1) ws else (some k, h, l, r))
  | .loop, m, h, l, r, k, w :: ws => (match num w with
    | some v => if v < m then (some k, h, l, r) else scan .loop v h (l ++ [v]) r (k + 1) ws
    | none => if up_ w = true ∧ l ≠ [] then scan .rise m h l r (k + 1) ws else (some k, h, l, r))
variable {num nev thn up_}
theorem lastD_cons {m v : Int} {l : List Int} : lastD m (v :: l) = lastD v l := by
  unfold lastD
  rw [if_neg (by simp)]
  cases l with
  | nil => rfl
  | cons a l =>
    rw [if_neg (by simp)]
    rfl
/-- what stands where the climb stops -/
def Stops (m : Int) (ws : List α) : Prop := ∀ w r, ws = w :: r → ∀ v, num w = some v → v < m
theorem climb_stops : ∀ (ws : List α) (m : Int), Stops (num := num) (lastD m (climbW num m ws)) (ws.drop (climbW num m ws).length)
  | [], m, w, r, e => by simp at e
  | w :: ws, m, u, r, e => by
    intro v hv
    unfold climbW at e ⊢
    cases q : num w with
    | none =>
      rw [q] at e
      injection e with e1 e2
      subst e1
      rw [q] at hv
      cases hv
    | some x =>
      rw [q] at e
      dsimp only at e ⊢
      by_cases c : x < m
      · rw [if_pos c] at e ⊢
        injection e with e1 e2
        subst e1
        rw [q] at hv
        cases hv
        exact c
      · rw [if_neg c] at e ⊢
        rw [lastD_cons]
        exact climb_stops ws x u r e v hv
theorem scan_head : ∀ (ws : List α) (m : Int) (h l : List Int) (r : Int) (k : Nat),
    scan num nev thn up_ .head m h l r k ws = scan num nev thn up_ .head (lastD m (climbW num m ws)) (h ++ climbW num m ws) l r (k + (climbW num m ws).length) (ws.drop (climbW num m ws).length)
  | [], m, h, l, r, k => by simp [climbW, lastD]
  | w :: ws, m, h, l, r, k => by
    cases q : num w with
    | none =>
      have e : climbW num m (w :: ws) = [] := by unfold climbW; rw [q]
      rw [e]
      simp [lastD]
    | some x =>
      by_cases c : x < m
      · have e : climbW num m (w :: ws) = [] := by unfold climbW; rw [q]; simp [c]
        rw [e]
        simp [lastD]
      · have e : climbW num m (w :: ws) = x :: climbW num x ws := by
          conv => lhs; unfold climbW
          rw [q]
          simp [c]
        rw [e, lastD_cons]
        have ih := scan_head ws x (h ++ [x]) l r (k + 1)
        conv => lhs; unfold scan
        rw [q]
        dsimp only
        rw [if_neg c, ih, List.append_assoc, List.length_cons, List.drop_succ_cons, List.singleton_append]
        congr 1
        omega
theorem scan_loop : ∀ (ws : List α) (m : Int) (h l : List Int) (r : Int) (k : Nat),
    scan num nev thn up_ .loop m h l r k ws = scan num nev thn up_ .loop (lastD m (climbW num m ws)) h (l ++ climbW num m ws) r (k + (climbW num m ws).length) (ws.drop (climbW num m ws).length)
  | [], m, h, l, r, k => by simp [climbW, lastD]
  | w :: ws, m, h, l, r, k => by
    cases q : num w with
    | none =>
      have e : climbW num m (w :: ws) = [] := by unfold climbW; rw [q]
      rw [e]
      simp [lastD]
    | some x =>
      by_cases c : x < m
      · have e : climbW num m (w :: ws) = [] := by unfold climbW; rw [q]; simp [c]
        rw [e]
        simp [lastD]
      · have e : climbW num m (w :: ws) = x :: climbW num x ws := by
          conv => lhs; unfold climbW
          rw [q]
          simp [c]
        rw [e, lastD_cons]
        have ih := scan_loop ws x h (l ++ [x]) r (k + 1)
        conv => lhs; unfold scan
        rw [q]
        dsimp only
        rw [if_neg c, ih, List.append_assoc, List.length_cons, List.drop_succ_cons, List.singleton_append]
        congr 1
        omega
/-- no word is both a number and a word of the form -/
structure Apart (num : α → Option Int) (nev thn up_ : α → Bool) : Prop where
  n : ∀ w, nev w = true → num w = none
  t : ∀ w, thn w = true → num w = none
  u : ∀ w, up_ w = true → num w = none
/-- the law's machine over what the program reads -/
theorem scan_read (A : Apart num nev thn up_) (ws : List α) : match readW num nev thn up_ ws with
    | .bad k => (scan num nev thn up_ .head 0 [] [] 0 0 ws).1 = some k
    | .ok h l r => scan num nev thn up_ .head 0 [] [] 0 0 ws = (none, h, l, r) := by
  have st := climb_stops (num := num) ws 0
  rw [scan_head]
  unfold readW
  dsimp only
  generalize climbW num 0 ws = h at st ⊢
  rw [List.nil_append, Nat.zero_add]
  generalize hd : ws.drop h.length = rest at st ⊢
  cases rest with
  | nil => rfl
  | cons w r1 =>
    dsimp only
    by_cases c1 : nev w = true
    · have q := A.n w c1
      by_cases c2 : r1 = []
      · simp only [c1, c2, if_true, scan, q]
      · obtain ⟨x, y, rfl⟩ : ∃ x y, r1 = x :: y := by
          cases r1 with
          | nil => exact absurd rfl c2
          | cons x y => exact ⟨x, y, rfl⟩
        simp only [c1, c2, if_true, if_false, scan, q]
    · by_cases c2 : thn w = true
      · have q := A.t w c2
        simp only [if_neg c1, c2, if_true]
        have e1 : scan num nev thn up_ .head (lastD 0 h) h [] 0 h.length (w :: r1) = scan num nev thn up_ .loop (lastD 0 h) h [] 0 (h.length + 1) r1 := by
          conv => lhs; unfold scan
          rw [q]
          dsimp only
          rw [if_neg c1, if_pos c2]
        rw [e1, scan_loop]
        have st2 := climb_stops (num := num) r1 (lastD 0 h)
        generalize climbW num (lastD 0 h) r1 = l at st2 ⊢
        rw [List.nil_append]
        by_cases c3 : l = []
        · subst c3
          simp only [if_true]
          cases r1 with
          | nil => rfl
          | cons u r2 =>
            show (scan num nev thn up_ .loop _ h [] 0 _ (u :: r2)).1 = _
            conv => lhs; unfold scan
            cases qu : num u with
            | none =>
              dsimp only
              rw [if_neg (by simp)] <;> rfl
            | some v =>
              dsimp only
              have : v < lastD (lastD 0 h) [] := st2 u r2 rfl v qu
              rw [if_pos this] <;> rfl
        · rw [if_neg c3]
          generalize r1.drop l.length = rest2 at st2 ⊢
          cases rest2 with
          | nil => rfl
          | cons u r2 =>
            dsimp only
            by_cases c4 : up_ u = true
            · have qu := A.u u c4
              rw [if_pos c4]
              have e2 : scan num nev thn up_ .loop (lastD (lastD 0 h) l) h l 0 (h.length + 1 + l.length) (u :: r2) = scan num nev thn up_ .rise (lastD (lastD 0 h) l) h l 0 (h.length + 1 + l.length + 1) r2 := by
                conv => lhs; unfold scan
                rw [qu]
                dsimp only
                rw [if_pos ⟨c4, c3⟩]
              rw [e2]
              cases r2 with
              | nil => simp only [climbW, scan]
              | cons x y =>
                unfold climbW
                cases qx : num x with
                | none =>
                  dsimp only
                  unfold scan
                  rw [qx]
                | some v =>
                  dsimp only
                  by_cases c5 : v < l.getD (l.length - 1) 0 - l.getD 0 0
                  · rw [if_pos c5]
                    dsimp only
                    unfold scan
                    rw [qx]
                    dsimp only
                    rw [if_pos c5]
                  · rw [if_neg c5]
                    dsimp only
                    have e3 : scan num nev thn up_ .rise (lastD (lastD 0 h) l) h l 0 (h.length + 1 + l.length + 1) (x :: y) = scan num nev thn up_ .fin (lastD (lastD 0 h) l) h l v (h.length + 1 + l.length + 2) y := by
                      conv => lhs; unfold scan
                      rw [qx]
                      dsimp only
                      rw [if_neg c5]
                    rw [e3]
                    cases y with
                    | nil => simp [scan]
                    | cons y1 y2 => simp [scan]
            · rw [if_neg c4]
              dsimp only
              unfold scan
              cases qu : num u with
              | none =>
                dsimp only
                rw [if_neg (fun z => c4 z.1)]
              | some v =>
                dsimp only
                rw [if_pos (st2 u r2 rfl v qu)]
      · simp only [if_neg c1, if_neg c2]
        unfold scan
        cases q : num w with
        | none =>
          dsimp only
          rw [if_neg c1, if_neg c2]
        | some v =>
          dsimp only
          rw [if_pos (st w r1 rfl v q)]
theorem scan_head_s {w : α} {ws : List α} {m v r : Int} {h l : List Int} {k : Nat} (q : num w = some v) : scan num nev thn up_ .head m h l r k (w :: ws) = if v < m then (some k, h, l, r) else scan num nev thn up_ .head v (h ++ [v]) l r (k + 1) ws := by
  conv => lhs; unfold scan
  rw [q]
theorem scan_head_n {w : α} {ws : List α} {m r : Int} {h l : List Int} {k : Nat} (q : num w = none) : scan num nev thn up_ .head m h l r k (w :: ws) = if nev w = true then scan num nev thn up_ .fin m h l r (k + 1) ws else if thn w = true then scan num nev thn up_ .loop m h l r (k + 1) ws else (some k, h, l, r) := by
  conv => lhs; unfold scan
  rw [q]
theorem scan_loop_s {w : α} {ws : List α} {m v r : Int} {h l : List Int} {k : Nat} (q : num w = some v) : scan num nev thn up_ .loop m h l r k (w :: ws) = if v < m then (some k, h, l, r) else scan num nev thn up_ .loop v h (l ++ [v]) r (k + 1) ws := by
  conv => lhs; unfold scan
  rw [q]
theorem scan_loop_n {w : α} {ws : List α} {m r : Int} {h l : List Int} {k : Nat} (q : num w = none) : scan num nev thn up_ .loop m h l r k (w :: ws) = if up_ w = true ∧ l ≠ [] then scan num nev thn up_ .rise m h l r (k + 1) ws else (some k, h, l, r) := by
  conv => lhs; unfold scan
  rw [q]
theorem scan_rise_s {w : α} {ws : List α} {m v r : Int} {h l : List Int} {k : Nat} (q : num w = some v) : scan num nev thn up_ .rise m h l r k (w :: ws) = if v < l.getD (l.length - 1) 0 - l.getD 0 0 then (some k, h, l, r) else scan num nev thn up_ .fin m h l v (k + 1) ws := by
  conv => lhs; unfold scan
  rw [q]
theorem scan_rise_n {w : α} {ws : List α} {m r : Int} {h l : List Int} {k : Nat} (q : num w = none) : scan num nev thn up_ .rise m h l r k (w :: ws) = (some k, h, l, r) := by
  conv => lhs; unfold scan
  rw [q]
/-! ### what is read is a table -/
theorem climb_climbs : ∀ (ws : List α) (m : Int), climbs m (climbW num m ws)
  | [], _ => trivial
  | w :: ws, m => by
    unfold climbW
    cases q : num w with
    | none => trivial
    | some v =>
      dsimp only
      by_cases c : v < m
      · rw [if_pos c]; trivial
      · rw [if_neg c]
        exact ⟨by omega, climb_climbs ws v⟩
theorem climb_len : ∀ (ws : List α) (m : Int), (climbW num m ws).length ≤ ws.length
  | [], _ => Nat.le_refl _
  | w :: ws, m => by
    unfold climbW
    cases q : num w with
    | none => exact Nat.zero_le _
    | some v =>
      dsimp only
      by_cases c : v < m
      · rw [if_pos c]; exact Nat.zero_le _
      · rw [if_neg c]
        have := climb_len ws v
        simp only [List.length_cons]
        omega
theorem climbs_lowR : ∀ {l : List Int} {a b : Int}, a ≤ b → climbs b l → climbs a l
  | [], _, _, _, _ => trivial
  | x :: l, a, b, h, c => ⟨Int.le_trans h c.1, c.2⟩
theorem last_ge : ∀ {l : List Int} {m : Int}, climbs m l → m ≤ lastD m l
  | [], m, _ => by simp [lastD]
  | x :: l, m, c => by
    rw [lastD_cons]
    exact Int.le_trans c.1 (last_ge c.2)
theorem read_good {ws : List α} {h l : List Int} {r : Int} (e : readW num nev thn up_ ws = .ok h l r) : Good h l r ∧ h.length + l.length ≤ ws.length := by
  unfold readW at e
  dsimp only at e
  have c0 := climb_climbs (num := num) ws 0
  generalize climbW num 0 ws = h0 at c0 e
  split at e
  · cases e
  · rename_i w r1 hd
    have zr : r1.length + 1 + h0.length ≤ ws.length := by
      have := congrArg List.length hd
      rw [List.length_drop, List.length_cons] at this
      omega
    split at e
    · split at e
      · injection e with e1 e2 e3
        subst e1 e2 e3
        exact ⟨⟨c0, trivial, fun _ z => absurd rfl z, Int.le_refl _, fun _ => rfl, fun z => absurd rfl z⟩, by simp; omega⟩
      · cases e
    · split at e
      · have c1 := climb_climbs (num := num) r1 (lastD 0 h0)
        have z1 := climb_len (num := num) r1 (lastD 0 h0)
        generalize climbW num (lastD 0 h0) r1 = l0 at c1 z1 e
        split at e
        · cases e
        · rename_i hl
          split at e
          · cases e
          · rename_i u r2 hd2
            split at e
            · split at e
              · cases e
              · rename_i v tl hv
                split at e
                · cases e
                · injection e with e1 e2 e3
                  subst e1 e2 e3
                  have c2 := climb_climbs (num := num) r2 (l0.getD (l0.length - 1) 0 - l0.getD 0 0)
                  rw [hv] at c2
                  have hge := last_ge c0
                  have hp := len_pos hl
                  have hmono : ∀ i, i < l0.length → l0.getD 0 0 ≤ l0.getD i 0 := fun i hi => by
                    cases l0 with
                    | nil => exact absurd rfl hl
                    | cons a l =>
                      cases i with
                      | zero => exact Int.le_refl _
                      | succ i =>
                        have := climbs_lo (l := l) (lo := a) (i := i) c1.2 (by simpa using hi)
                        simpa using this
                  have hr : 0 ≤ v := by
                    have := hmono (l0.length - 1) (by omega)
                    have := c2.1
                    omega
                  refine ⟨⟨c0, climbs_lowR hge c1, fun hh _ => ?_, hr, fun z => absurd z hl, fun _ => ?_⟩, by omega⟩
                  · cases l0 with
                    | nil => exact absurd rfl hl
                    | cons a l =>
                      have := c1.1
                      unfold lastD at this
                      rw [if_neg hh] at this
                      simpa using this
                  · have := c2.1
                    omega
            · cases e
      · cases e
end
end NT
set_option Elab.async false
set_option linter.all false
set_option maxRecDepth 100000
set_option maxHeartbeats 4000000
/-! Expressions of a law's own that give things as data, while they draw from the source at p. -/
namespace NF
open PySem PySem.Spec PyProof.Rows L2 He RZ NT
section
variable {K : PySem.W.Frag} {p : Addr} {B H H' H'' : Hp} {σ : L2.St}
theorem wo_mono (s : Same H H') : Same (wo H p) (wo H' p) := fun a o e => by
  by_cases h : a = p
  · rw [h, wo_none] at e
    cases e
  · rw [wo_ne h] at e ⊢
    exact s a o e
theorem wo_into (n : B p = none) (s : Same B H) : Same B (wo H p) := fun a o e => (wo_ne (ne_of_none e n)).trans (s a o e)
/-- all but the source stands -/
def Out (p : Addr) (H H' : Hp) : Prop := Src H' p ∧ Same (wo H p) (wo H' p)
theorem Out.refl (h : Src H p) : Out p H H := ⟨h, Same.refl _⟩
theorem Out.trans (a : Out p H H') (b : Out p H' H'') : Out p H H'' := ⟨b.1, Same.trans a.2 b.2⟩
theorem Out.of_same (h : Src H p) (s : Same H H') : Out p H H' := ⟨h.mono s, wo_mono s⟩
theorem Out.of_pick (s : Same (wo H p) H') (h : Src H' p) : Out p H H' := ⟨h, wo_into wo_none s⟩
theorem src_ne {q : Addr} (h : Src H p) (n : H q = none) : q ≠ p := fun z => by
  obtain ⟨_, _, _, e⟩ := h
  rw [z, e] at n
  cases n
theorem dp_out {v : V} {d : PyData} (h : Dp K (wo H p) v d) (o : Out p H H') : Dp K (wo H' p) v d := dp_mono o.2 d h
def Ev (K : PySem.W.Frag) (p : Addr) (B : Hp) (σ : L2.St) (P : PyData → Prop) (te : TE) : Prop := ∀ H (Q : VK), Src H p → Same B (wo H p) → (∀ v d H', Out p H H' → P d → Dp K (wo H' p) v d → Q v H') → te σ H Q
def EvA (K : PySem.W.Frag) (p : Addr) (B : Hp) (σ : L2.St) (R : List PyData → Prop) (ta : TA) : Prop := ∀ H (Q : List V → Hp → Prop), Src H p → Same B (wo H p) → (∀ vs ds H', Out p H H' → R ds → DpAll K (wo H' p) vs ds → Q vs H') → ta σ H Q
def EvT (K : PySem.W.Frag) (p : Addr) (B : Hp) (σ : L2.St) (tt : TT) : Prop := ∀ H (Q : Bool → Hp → Prop), Src H p → Same B (wo H p) → (∀ b H', Out p H H' → Q b H') → tt σ H Q
variable {P P1 P2 : PyData → Prop} {R R2 : List PyData → Prop} {te ta tb : TE} {tt : TT} {ts : TA}
theorem Ev.imp (h : Ev K p B σ P te) (k : ∀ d, P d → P1 d) : Ev K p B σ P1 te := fun H Q hs ss q => h H Q hs ss fun v d H' o pd hv => q v d H' o (k d pd) hv
theorem ev_sc {v : V} {d : PyData} (hd : ∀ H, Dp K H v d) (h : ∀ H (Q : VK), Q v H → te σ H Q) : Ev K p B σ (· = d) te := fun H Q hs _ q => h H Q (q v d H (Out.refl hs) rfl (hd _))
theorem ev_int {i : Int} : Ev K p B σ (· = .int i) (tC (.int i)) := ev_sc (fun _ => .int i) fun _ _ q => q
theorem ev_bl {b : Bool} : Ev K p B σ (· = .bool b) (tC (.bl b)) := ev_sc (fun _ => .bl b) fun _ _ q => q
theorem ev_str {s : Str} : Ev K p B σ (· = .str s) (tC (.str s)) := ev_sc (fun _ => .str s) fun _ _ q => q
theorem ev_non : Ev K p B σ (· = .none) (tC .non) := ev_sc (fun _ => .non) fun _ _ q => q
theorem ev_neg {i : Int} : Ev K p B σ (· = .int (-i)) (tUn (rU fun i => .int (-i)) (tC (.int i))) := ev_sc (fun _ => .int _) fun _ _ q => ⟨_, rfl, q⟩
theorem ev_var {i : Nat} {v : V} {d : PyData} (e : σ[i]? = some (some v)) (hd : Dp K B v d) : Ev K p B σ (· = d) (tVar i) := fun H Q hs ss q => ⟨v, e, q v d H (Out.refl hs) rfl (dp_mono ss d hd)⟩
theorem evA_nil : EvA K p B σ (· = []) tNil := fun H Q hs _ q => q [] [] H (Out.refl hs) rfl .nil
theorem evA_cons (h : Ev K p B σ P te) (a : EvA K p B σ R ts) : EvA K p B σ (fun ds => ∃ d l, ds = d :: l ∧ P d ∧ R l) (tCons te ts) := fun H Q hs ss q =>
  h H _ hs ss fun v d H1 o1 pd hv => a H1 _ o1.1 (Same.trans ss o1.2) fun vs ds H2 o2 rd hvs => q (v :: vs) (d :: ds) H2 (o1.trans o2) ⟨d, ds, rfl, pd, rd⟩ (.cons (dp_out hv o2) hvs)
theorem ev_tup (a : EvA K p B σ R ts) (hl : ∀ ds, R ds → ds.length ≤ 1000) : Ev K p B σ (fun d => ∃ ds, d = .tuple ds ∧ R ds) (tTup ts) := fun H Q hs ss q =>
  a H _ hs ss fun vs ds H1 o1 rd hv => ⟨by rw [dpall_len hv]; exact Nat.le_trans (hl ds rd) (by decide), fun x hx => by
    have o2 := Out.of_same o1.1 (NF.Same.new (o := .tup vs) (Same.refl H1) hx)
    exact q _ _ _ (o1.trans o2) ⟨ds, rfl, rd⟩ (.tup (SqT.of (by rw [wo_ne (src_ne o1.1 hx)]; exact upd_same)) (dpall_mono o2.2 ds hv))⟩
theorem ev_lst (a : EvA K p B σ R ts) (hl : ∀ ds, R ds → ds.length ≤ 1000) : Ev K p B σ (fun d => ∃ ds, d = .list ds ∧ R ds) (tLst ts) := fun H Q hs ss q =>
  a H _ hs ss fun vs ds H1 o1 rd hv => ⟨by rw [dpall_len hv]; exact Nat.le_trans (hl ds rd) (by decide), fun x hx => by
    have o2 := Out.of_same o1.1 (NF.Same.new (o := .lst vs) (Same.refl H1) hx)
    exact q _ _ _ (o1.trans o2) ⟨ds, rfl, rd⟩ (.lst (SqL.of (by rw [wo_ne (src_ne o1.1 hx)]; exact upd_same)) (dpall_mono o2.2 ds hv))⟩
theorem dp_tup {v : V} {l : List PyData} (h : Dp K H v (.tuple l)) : ∃ a xs, v = .ref a ∧ SqT K H a xs ∧ DpAll K H xs l := by
  cases h with
  | tup h a => exact ⟨_, _, rfl, h, a⟩
theorem dp_lst {v : V} {l : List PyData} (h : Dp K H v (.list l)) : ∃ a xs, v = .ref a ∧ SqL K H a xs ∧ DpAll K H xs l := by
  cases h with
  | lst h a => exact ⟨_, _, rfl, h, a⟩
theorem dp_int {v : V} {i : Int} (h : Dp K H v (.int i)) : v = .int i := by
  cases h
  rfl
theorem ev_cat (a : Ev K p B σ P1 ta) (b : Ev K p B σ P2 tb) (k : ∀ d1 d2, P1 d1 → P2 d2 → ∃ l1 l2, d1 = .tuple l1 ∧ d2 = .tuple l2 ∧ l1.length + l2.length ≤ 10000 ∧ P (.tuple (l1 ++ l2))) : Ev K p B σ P (tOp (rCatA K) ta tb) := fun H Q hs ss q =>
  a H _ hs ss fun v1 d1 H1 o1 p1 h1 => b H1 _ o1.1 (Same.trans ss o1.2) fun v2 d2 H2 o2 p2 h2 => by
    obtain ⟨l1, l2, rfl, rfl, hl, pp⟩ := k d1 d2 p1 p2
    obtain ⟨x, xs, rfl, hx, dx⟩ := dp_tup (dp_out h1 o2)
    obtain ⟨y, ys, rfl, hy, dy⟩ := dp_tup h2
    have o12 := o1.trans o2
    refine ⟨x, y, xs, ys, rfl, rfl, NF.Same.tup wo_same' hx, NF.Same.tup wo_same' hy, by rw [dpall_len dx, dpall_len dy]; exact Nat.le_trans hl (by decide), fun e => ?_, fun _ e => ?_, fun _ _ z hz => ?_⟩
    · subst e
      cases dx
      exact q _ _ _ o12 pp (.tup hy dy)
    · subst e
      cases dy
      rw [List.append_nil] at pp
      exact q _ _ _ o12 pp (.tup hx dx)
    · have o3 := Out.of_same o2.1 (NF.Same.new (o := .tup (xs ++ ys)) (Same.refl H2) hz)
      exact q _ _ _ (o12.trans o3) pp (.tup (SqT.of (by rw [wo_ne (src_ne o2.1 hz)]; exact upd_same)) (dpall_app (dpall_mono o3.2 _ dx) (dpall_mono o3.2 _ dy)))
theorem dpall_rep : ∀ {k : Nat} {xs : List V} {l : List PyData}, DpAll K H xs l → DpAll K H (List.replicate k xs).flatten (List.replicate k l).flatten
  | 0, _, _, _ => .nil
  | k + 1, _, _, h => by
    rw [List.replicate_succ, List.replicate_succ, List.flatten_cons, List.flatten_cons]
    exact dpall_app h (dpall_rep h)
theorem ev_rep (a : Ev K p B σ P1 ta) (b : Ev K p B σ P2 tb) (k : ∀ d1 d2, P1 d1 → P2 d2 → ∃ l i, d1 = .tuple l ∧ d2 = .int i ∧ l ≠ [] ∧ 2 ≤ i ∧ i ≤ 1000 ∧ l.length ≤ 1000 ∧ P (.tuple (List.replicate i.toNat l).flatten)) : Ev K p B σ P (tOp (rRepT K) ta tb) := fun H Q hs ss q =>
  a H _ hs ss fun v1 d1 H1 o1 p1 h1 => b H1 _ o1.1 (Same.trans ss o1.2) fun v2 d2 H2 o2 p2 h2 => by
    obtain ⟨l1, i, rfl, rfl, ne, i2, i3, hl, pp⟩ := k d1 d2 p1 p2
    obtain ⟨x, xs, rfl, hx, dx⟩ := dp_tup (dp_out h1 o2)
    obtain rfl := dp_int h2
    have xl := dpall_len dx
    refine ⟨x, i, xs, rfl, rfl, NF.Same.tup wo_same' hx, fun e => ne (List.eq_nil_of_length_eq_zero (by rw [← xl, e]; rfl)), i2, i3, by omega, fun z hz => ?_⟩
    have o3 := Out.of_same o2.1 (NF.Same.new (o := .tup (List.replicate i.toNat xs).flatten) (Same.refl H2) hz)
    exact q _ _ _ (o1.trans (o2.trans o3)) pp (.tup (SqT.of (by rw [wo_ne (src_ne o2.1 hz)]; exact upd_same)) (dpall_rep (dpall_mono o3.2 _ dx)))
theorem ev_i2 {g : Int → Int → Int} (a : Ev K p B σ P1 ta) (b : Ev K p B σ P2 tb) (k : ∀ d1 d2, P1 d1 → P2 d2 → ∃ i j, d1 = .int i ∧ d2 = .int j ∧ P (.int (g i j))) : Ev K p B σ P (tOp (rI0 fun i j => .int (g i j)) ta tb) := fun H Q hs ss q =>
  a H _ hs ss fun v1 d1 H1 o1 p1 h1 => b H1 _ o1.1 (Same.trans ss o1.2) fun v2 d2 H2 o2 p2 h2 => by
    obtain ⟨i, j, rfl, rfl, pp⟩ := k d1 d2 p1 p2
    obtain rfl := dp_int h1
    obtain rfl := dp_int h2
    exact ⟨i, j, rfl, rfl, q _ _ _ (o1.trans o2) pp (.int _)⟩
theorem atI_get {xs : List V} {i : Int} (h0 : 0 ≤ i) (h1 : i < xs.length) : ∃ v, xs[i.toNat]? = some v ∧ atI xs i = some v := by
  obtain ⟨n, rfl⟩ : ∃ n : Nat, i = (n : Int) := ⟨i.toNat, by omega⟩
  have hn : n < xs.length := by omega
  refine ⟨xs[n], by rw [Int.toNat_natCast]; exact List.getElem?_eq_getElem hn, ?_⟩
  exact atI_nat (List.getElem?_eq_getElem hn)
theorem ev_ixl (a : Ev K p B σ P1 ta) (b : Ev K p B σ P2 tb) (k : ∀ d1 d2, P1 d1 → P2 d2 → ∃ l i, d1 = .list l ∧ d2 = .int i ∧ 0 ≤ i ∧ i < l.length ∧ ∀ d ∈ l, P d) : Ev K p B σ P (tOp (rIxL K) ta tb) := fun H Q hs ss q =>
  a H _ hs ss fun v1 d1 H1 o1 p1 h1 => b H1 _ o1.1 (Same.trans ss o1.2) fun v2 d2 H2 o2 p2 h2 => by
    obtain ⟨l1, i, rfl, rfl, i0, i1, pp⟩ := k d1 d2 p1 p2
    obtain ⟨x, xs, rfl, hx, dx⟩ := dp_lst (dp_out h1 o2)
    obtain rfl := dp_int h2
    have xl := dpall_len dx
    obtain ⟨v, e1, e2⟩ := atI_get (xs := xs) i0 (by omega)
    have il : i.toNat < l1.length := by omega
    exact ⟨x, xs, i, v, rfl, rfl, L2.Same.seq wo_same' hx, e2, q v l1[i.toNat] H2 (o1.trans o2) (pp _ (List.getElem_mem il)) (dpall_get dx e1 (List.getElem?_eq_getElem il))⟩
theorem ev_pick {i : Nat} {m : Int} (e : σ[i]? = some (some (.ref p))) (m1 : 0 < m) (m2 : m < 1073741824) : Ev K p B σ (fun d => ∃ k, d = .int k ∧ 0 ≤ k ∧ k < m) (tCall spPick [] E0 (tCons (tVar i) (tCons (tC (.int m)) tNil))) := fun H Q hs ss q =>
  ⟨_, e, wo H p, p, m, rfl, wo_same', wo_none, hs, m1, m2, fun d H' d0 d1 s1 hs' => q (.int d) (.int d) H' (Out.of_pick s1 hs') ⟨d, rfl, d0, d1⟩ (.int d)⟩
theorem ev_if (t : EvT K p B σ tt) (a : Ev K p B σ P ta) (b : Ev K p B σ P tb) : Ev K p B σ P (tIf tt ta tb) := fun H Q hs ss q =>
  t H _ hs ss fun bo H1 o1 => by
    cases bo with
    | true => exact iteT (a H1 Q o1.1 (Same.trans ss o1.2) fun v d H2 o2 pd hv => q v d H2 (o1.trans o2) pd hv)
    | false => exact iteF (b H1 Q o1.1 (Same.trans ss o1.2) fun v d H2 o2 pd hv => q v d H2 (o1.trans o2) pd hv)
/-- a number that is drawn, asked whether it is another -/
theorem evT_eq {j : Int} (a : Ev K p B σ P1 ta) (k : ∀ d, P1 d → ∃ i, d = .int i) : EvT K p B σ (tTest (tOp rEq ta (tC (.int j)))) := fun H Q hs ss q =>
  a H _ hs ss fun v1 d1 H1 o1 p1 h1 => by
    obtain ⟨i, rfl⟩ := k d1 p1
    obtain rfl := dp_int h1
    exact ⟨rfl, _, rfl, q _ _ o1⟩
theorem ev_eq {j : Int} (a : Ev K p B σ P1 ta) (k : ∀ d, P1 d → ∃ i, d = .int i) : Ev K p B σ (fun d => ∃ b, d = .bool b) (tOp rEq ta (tC (.int j))) := fun H Q hs ss q =>
  a H _ hs ss fun v1 d1 H1 o1 p1 h1 => by
    obtain ⟨i, rfl⟩ := k d1 p1
    obtain rfl := dp_int h1
    exact ⟨rfl, q _ _ _ o1 ⟨_, rfl⟩ (.bl _)⟩
theorem dpall_drop : ∀ {n : Nat} {xs : List V} {l : List PyData}, DpAll K H xs l → DpAll K H (xs.drop n) (l.drop n)
  | 0, _, _, h => h
  | _ + 1, _, _, .nil => .nil
  | n + 1, _, _, .cons _ a => dpall_drop (n := n) a
theorem dpall_take : ∀ {n : Nat} {xs : List V} {l : List PyData}, DpAll K H xs l → DpAll K H (xs.take n) (l.take n)
  | 0, _, _, _ => .nil
  | _ + 1, _, _, .nil => .nil
  | n + 1, _, _, .cons h a => .cons h (dpall_take (n := n) a)
/-- a part of a tuple -/
theorem ev_sl {tl th : TO} (a : Ev K p B σ P1 ta) (hl : ∀ H (Q : Option Int → Hp → Prop), (∀ o, Q o H) → tl σ H Q) (hh : ∀ H (Q : Option Int → Hp → Prop), (∀ o, Q o H) → th σ H Q)
    (k : ∀ d, P1 d → ∃ l, d = .tuple l ∧ ∀ l', (∀ t ∈ l', t ∈ l) → l'.length ≤ l.length → P (.tuple l')) : Ev K p B σ P (tSl (rSlA K) ta tl th) := fun H Q hs ss q =>
  a H _ hs ss fun v1 d1 H1 o1 p1 h1 => hl _ _ fun lo => hh _ _ fun hi => by
    obtain ⟨l, rfl, kk⟩ := k d1 p1
    obtain ⟨x, xs, rfl, hx, dx⟩ := dp_tup h1
    refine ⟨x, xs, rfl, NF.Same.tup wo_same' hx, fun _ => q _ _ _ o1 (kk l (fun _ h => h) (Nat.le_refl _)) h1, fun _ z hz => ?_⟩
    have o3 := Out.of_same o1.1 (NF.Same.new (o := .tup (cutV xs lo hi)) (Same.refl H1) hz)
    have dc : DpAll K (wo H1 p) (cutV xs lo hi) ((l.drop (HT.sIx xs.length 0 lo)).take (HT.sIx xs.length xs.length hi - HT.sIx xs.length 0 lo)) := dpall_take (dpall_drop dx)
    exact q _ _ _ (o1.trans o3) (kk _ (fun t ht => List.mem_of_mem_drop (List.mem_of_mem_take ht)) (by rw [List.length_take, List.length_drop]; omega)) (.tup (SqT.of (by rw [wo_ne (src_ne o1.1 hz)]; exact upd_same)) (dpall_mono o3.2 _ dc))
/-- an item of a tuple that stands -/
theorem ev_ixt {i : Nat} {a : Addr} {xs : List V} {j : Int} {v : V} {d : PyData} {tj : TE} (e : σ[i]? = some (some (.ref a))) (h : SqT K B a xs) (hv : atI xs j = some v) (hd : Dp K B v d) (hj : ∀ H (Q : VK), Q (.int j) H → tj σ H Q) : Ev K p B σ (· = d) (tOp (rIxT K) (tVar i) tj) := fun H Q hs ss q =>
  ⟨_, e, hj _ _ ⟨a, xs, j, v, rfl, rfl, NF.Same.tup wo_same' (NF.Same.tup ss h), hv, q v d H (Out.refl hs) rfl (dp_mono ss d hd)⟩⟩
/-- tuple(t) -/
theorem ev_tof (a : Ev K p B σ P ta) (k : ∀ d, P d → ∃ l, d = .tuple l) : Ev K p B σ P (tCB (rTupOf K) (tCons ta tNil)) := fun H Q hs ss q =>
  a H _ hs ss fun v1 d1 H1 o1 p1 h1 => by
    obtain ⟨l, rfl⟩ := k d1 p1
    obtain ⟨x, xs, rfl, hx, dx⟩ := dp_tup h1
    refine ⟨x, xs, rfl, .inr (NF.Same.tup wo_same' hx), fun y H2 s2 hy => ?_⟩
    have o2 := Out.of_same o1.1 s2
    have ny : H2 p ≠ none := fun z => by
      obtain ⟨_, _, _, e⟩ := o2.1
      rw [e] at z
      cases z
    obtain ⟨_, _, _, ep⟩ := o2.1
    exact q _ _ _ (o1.trans o2) p1 (.tup (SqT.wo hy ep trivial) (dpall_mono o2.2 _ dx))
end
section
variable {K : PySem.W.Frag} {p : Addr} {B : Hp} {σ : L2.St} {te ta tb : TE} {ts : TA} {d : PyData} {l : List PyData}
theorem evE_cons (h : Ev K p B σ (· = d) te) (a : EvA K p B σ (· = l) ts) : EvA K p B σ (· = d :: l) (tCons te ts) := fun H Q hs ss q =>
  h H _ hs ss fun v d1 H1 o1 pd hv => a H1 _ o1.1 (Same.trans ss o1.2) fun vs ds H2 o2 rd hvs => q (v :: vs) (d1 :: ds) H2 (o1.trans o2) (by rw [pd, rd]) (.cons (dp_out hv o2) hvs)
theorem evE_tup (a : EvA K p B σ (· = l) ts) (hl : l.length ≤ 1000) : Ev K p B σ (· = .tuple l) (tTup ts) :=
  Ev.imp (ev_tup a fun ds e => by rw [e]; exact hl) fun d ⟨ds, e1, e2⟩ => by rw [e1, e2]
theorem evE_lst (a : EvA K p B σ (· = l) ts) (hl : l.length ≤ 1000) : Ev K p B σ (· = .list l) (tLst ts) :=
  Ev.imp (ev_lst a fun ds e => by rw [e]; exact hl) fun d ⟨ds, e1, e2⟩ => by rw [e1, e2]
theorem flat_one {α : Type} {x : α} : ∀ n : Nat, (List.replicate n [x]).flatten = List.replicate n x
  | 0 => rfl
  | n + 1 => by
    rw [List.replicate_succ, List.flatten_cons, flat_one n, List.replicate_succ]
    rfl
theorem evE_rep {i : Int} (a : Ev K p B σ (· = .tuple [d]) ta) (h2 : 2 ≤ i) (h3 : i ≤ 1000) : Ev K p B σ (· = .tuple (List.replicate i.toNat d)) (tOp (rRepT K) ta (tC (.int i))) :=
  ev_rep a ev_int fun d1 d2 e1 e2 => ⟨[d], i, e1, e2, by simp, h2, h3, by show 1 ≤ 1000; decide, by rw [flat_one]⟩
end
/-! ### the shape of a goal before a loop -/
theorem set_in {i : Nat} {v : V} {σ : L2.St} {H : Hp} {Q : L2.St → Hp → Prop} (h : Q (σ.set i (some v)) H) : gName i v σ H Q := h
theorem cons_c {v : V} {tr : TA} {σ : L2.St} {H : Hp} {Q : List V → Hp → Prop} (h : tr σ H fun xs H2 => Q (v :: xs) H2) : tCons (tC v) tr σ H Q := h
theorem cons_v {i : Nat} {v : V} {tr : TA} {σ : L2.St} {H : Hp} {Q : List V → Hp → Prop} (e : σ[i]? = some (some v)) (h : tr σ H fun xs H2 => Q (v :: xs) H2) : tCons (tVar i) tr σ H Q := ⟨v, e, h⟩
theorem cons_e {te : TE} {tr : TA} {σ : L2.St} {H : Hp} {Q : List V → Hp → Prop} (h : te σ H fun x H1 => tr σ H1 fun xs H2 => Q (x :: xs) H2) : tCons te tr σ H Q := h
theorem next_in {D : Ends} {σ : L2.St} {H : Hp} (h : D.nx σ H) : tNext D σ H := h
theorem seq_in {t u : TS} {D : Ends} {σ : L2.St} {H : Hp} (h : t { D with nx := u D } σ H) : tSeq t u D σ H := h
theorem for_in {K : PySem.W.Frag} {te : TE} {g : TG} {tb : TS} {D : Ends} {σ : L2.St} {H : Hp} (h : te σ H fun x H1 => ∃ a, x = .ref a ∧ (∃ xs, SqL K H1 a xs) ∧ ∃ W : Nat → Nat → L2.St → Hp → Prop, (∃ m, W 0 m σ H1) ∧ ∀ i m σ H, W i m σ H →
    ((Itl K a).stop i H ∧ D.nx σ H) ∨ ((Itl K a).go i H ∧ ∃ N : L2.St → Hp → Prop, (∀ σ' H', N σ' H' → ∃ m', m' < m ∧ W (i + 1) m' σ' H') ∧ ∀ x H', (Itl K a).yld i H x H' → g x σ H' fun σ2 H2 => tb { D with nx := N, ct := N, bk := D.nx } σ2 H2)) : tFor (iList K te) g tb D σ H := h
end NF
set_option Elab.async false
set_option linter.all false
set_option maxRecDepth 100000
set_option maxHeartbeats 4000000
/-! The law's own terms. -/
namespace K13
open PySem PySem.Spec PyProof.Rows L2 He NF RZ TT
def spLTerm (n : Nat) (K : PySem.W.Frag) : Sp := fun vs H Q _ => ∃ (H0 : Hp) (p L : Addr) (ns : List TT.Tx) (m : Nat), vs = [.ref p, .ref L, .int (m : Int)] ∧ Same H0 H ∧ H0 p = none ∧ Src H p ∧ SqL K H0 L (ns.map fun s => V.str (tx s)) ∧ ns ≠ [] ∧ ns.length ≤ 100 ∧ (∀ s ∈ ns, NmOk s) ∧ 1 ≤ n ∧ m ≤ n ∧ m ≤ 100 ∧
  ∀ v H' t, Same H0 H' → Src H' p → Dp K (wo H' p) v (tmP false t) → TmOk t → parts t + 1 ≤ 2 * max m 1 → depth t ≤ max m 1 → Q v H'
theorem sc__law_term : FnScope ["_law_source_here", "_law_names", "_law_parts_here", "_law_kind", "_law_word", "_law_first"] ["_law_source_here", "_law_names", "_law_parts_here"] (defScope s__law_term) := ⟨rfl, rfl, rfl, by decide +kernel, rfl, by decide +kernel, by decide +kernel⟩
theorem src_put {H : Hp} {p q : Addr} {o : HO} (hs : Src H p) (n : q ≠ p) : Src (upd H q o) p := by
  obtain ⟨a, b, c, h⟩ := hs
  exact ⟨a, b, c, by rw [upd_ne (Ne.symm n)]; exact h⟩
theorem same_wo {H0 X : Hp} {p : Addr} (s : Same H0 X) (n : H0 p = none) : Same H0 (wo X p) := fun b u e => by
  have hb : b ≠ p := fun z => by rw [z, n] at e; cases e
  rw [wo_ne hb]
  exact s b u e
theorem menu8 {g : Int} (h0 : 0 ≤ g) (h1 : g < 8) : ∃ k, atI [V.int (-1), .int 1, .int 0, .int (-2), .int 2, .int (-1), .int 9, .int (-9)] g = some (.int k) ∧ ShOk k := by
  have : g = 0 ∨ g = 1 ∨ g = 2 ∨ g = 3 ∨ g = 4 ∨ g = 5 ∨ g = 6 ∨ g = 7 := by omega
  rcases this with rfl | rfl | rfl | rfl | rfl | rfl | rfl | rfl
  · exact ⟨-1, rfl, by unfold ShOk; decide⟩
  · exact ⟨1, rfl, by unfold ShOk; decide⟩
  · exact ⟨0, rfl, by unfold ShOk; decide⟩
  · exact ⟨-2, rfl, by unfold ShOk; decide⟩
  · exact ⟨2, rfl, by unfold ShOk; decide⟩
  · exact ⟨-1, rfl, by unfold ShOk; decide⟩
  · exact ⟨9, rfl, by unfold ShOk; decide⟩
  · exact ⟨-9, rfl, by unfold ShOk; decide⟩
theorem menu7 {g : Int} (h0 : 0 ≤ g) (h1 : g < 7) : ∃ u, u < 5 ∧ atI [V.str "behind", .str "both", .str "either", .str "under", .str "over", .str "behind", .str "behind"] g = some (.str (wordS u)) := by
  have : g = 0 ∨ g = 1 ∨ g = 2 ∨ g = 3 ∨ g = 4 ∨ g = 5 ∨ g = 6 := by omega
  rcases this with rfl | rfl | rfl | rfl | rfl | rfl | rfl
  · exact ⟨4, by decide, rfl⟩
  · exact ⟨1, by decide, rfl⟩
  · exact ⟨0, by decide, rfl⟩
  · exact ⟨2, by decide, rfl⟩
  · exact ⟨3, by decide, rfl⟩
  · exact ⟨4, by decide, rfl⟩
  · exact ⟨4, by decide, rfl⟩
section
variable {P : Program} {w : World} {K : PySem.W.Frag} {mg : Str → Option Value} {base : Heap} {gs fs : List Str} {C : Addr} {tok : Tok}
theorem ok__law_term {n : Nat} {f : Addr} {fd : FuncData} (F : FunD K "_law_term" "_law_term" (defArgs s__law_term) (defBody s__law_term) (defScope s__law_term) [] [] f fd) (T : Txt K mg gs FS) (c__law_pick : Cal P w K mg base 1 "_law_pick" spPick) (c__law_term : Cal P w K mg base (n + 1) "_law_term" (spLTerm n K)) : FnOk P w K mg base CX0 (n + 2) f fd ["_law_source_here", "_law_names", "_law_parts_here"] (spLTerm (n + 1) K) := by
  refine F.ok sc__law_term (fun vs H Q E h => ?_) (fun cdv A outer s H vs Q E hr h => ?_)
  · obtain ⟨H0, p, L, ns, m, rfl, _⟩ := h
    rfl
  · obtain ⟨H0, p, L, ns, m, rfl, s0, hp0, hsrc, hL, hn1, hn2, hn3, n1, mn, m100, q⟩ := h
    refine ⟨_, PSs.nox (pss_cons (ps_set (i := 3) sc__law_term.nd rfl (Or.inl rfl) (pe_c c__law_pick hr (by omega) rfl (pa_cons (pv 0) (pa_cons pe_int pa_nil)))) (pss_cons (ps_if (PW.pt (pw_or (pt_cmpR op_le (pv 2) pe_int (nomark _)) (pw_or1 (pt_cmpR op_eq (pv 3) pe_int (nomark _))))) (pss_cons (ps_if (pt_cmpR op_eq (pe_c c__law_pick hr (by omega) rfl (pa_cons (pv 0) (pa_cons pe_int pa_nil))) pe_int (nomark _)) (pss_one (ps_ret (pe_tup (pa_cons pe_str (pa_cons (pe_ix (ixl (K := K)) (pe_lst (pa_cons (pe_un un_neg pe_int) (pa_cons pe_int (pa_cons pe_int (pa_cons (pe_un un_neg pe_int) (pa_cons pe_int (pa_cons (pe_un un_neg pe_int) (pa_cons pe_int (pa_cons (pe_un un_neg pe_int) pa_nil))))))))) (pe_c c__law_pick hr (by omega) rfl (pa_cons (pv 0) (pa_cons pe_int pa_nil))) fun _ _ => rfl) pa_nil))))) pss_nil) (pss_one (ps_ret (pe_ix (ixl (K := K)) (pv 1) (pe_c c__law_pick hr (by omega) rfl (pa_cons (pv 0) (pa_cons (pe_callB call_len_seq rfl (T.fr _ (by decide +kernel)) boot_len (pa_cons (pv 1) pa_nil)) pa_nil))) fun _ _ => rfl)))) pss_nil) (pss_cons (ps_if (pt_cmpR op_eq (pv 3) pe_int (nomark _)) (pss_one (ps_ret (pe_tup (pa_cons pe_str (pa_cons (pe_c c__law_term hr (by omega) rfl (pa_cons (pv 0) (pa_cons (pv 1) (pa_cons (pe_op op_sub (pv 2) pe_int) pa_nil)))) pa_nil))))) pss_nil) (pss_cons (ps_set (i := 4) sc__law_term.nd rfl (Or.inl rfl) (pe_ix (ixl (K := K)) (pe_lst (pa_cons pe_str (pa_cons pe_str (pa_cons pe_str (pa_cons pe_str (pa_cons pe_str (pa_cons pe_str (pa_cons pe_str pa_nil)))))))) (pe_op op_sub (pv 3) pe_int) fun _ _ => rfl)) (pss_cons (ps_set (i := 5) sc__law_term.nd rfl (Or.inl rfl) (pe_c c__law_term hr (by omega) rfl (pa_cons (pv 0) (pa_cons (pv 1) (pa_cons (pe_op op_fdiv (pv 2) pe_int) pa_nil))))) (pss_one (ps_ret (pe_tup (pa_cons (pv 4) (pa_cons (pv 5) (pa_cons (pe_c c__law_term hr (by omega) rfl (pa_cons (pv 0) (pa_cons (pv 1) (pa_cons (pe_op op_sub (pe_op op_sub (pv 2) pe_int) (pe_op op_fdiv (pv 2) pe_int)) pa_nil)))) pa_nil))))))))))), ?_⟩
    have nl : 0 < ns.length := List.length_pos_iff.mpr hn1
    refine ⟨_, rfl, H0, p, 9, rfl, s0, hp0, hsrc, by decide, by decide, fun d H1 d0 d1 s1 src1 => ?_⟩
    refine ⟨_, rfl, _, _, rfl, rfl, _, rfl, ?_⟩
    by_cases m1 : m ≤ 1
    · refine iteT' (decide_eq_true (by omega)) ?_
      refine ⟨_, rfl, H0, p, 5, rfl, s1, hp0, src1, by decide, by decide, fun e H2 e0 e1 s2 src2 => ?_⟩
      refine ⟨rfl, _, rfl, ?_⟩
      by_cases c5 : V.int e = V.int 2
      · refine iteT' (decide_eq_true c5) ?_
        refine ⟨1, rfl, 2, rfl, 1, rfl, 9, rfl, (by show 8 ≤ sizeLine; decide), fun l hl => ?_⟩
        have lp := src_ne src2 hl
        have src3 := src_put (o := .lst [V.int (-1), .int 1, .int 0, .int (-2), .int 2, .int (-1), .int 9, .int (-9)]) src2 lp
        have s3 := NF.Same.new (o := .lst [V.int (-1), .int 1, .int 0, .int (-2), .int 2, .int (-1), .int 9, .int (-9)]) s2 hl
        have hl3 : upd H2 l (.lst [V.int (-1), .int 1, .int 0, .int (-2), .int 2, .int (-1), .int 9, .int (-9)]) l = _ := upd_same
        revert src3 s3 hl3
        generalize upd H2 l _ = H3
        intro src3 s3 hl3
        refine ⟨_, rfl, wo H3 p, p, 8, rfl, wo_same', wo_none, src3, by decide, by decide, fun g H4 g0 g1 s4 src4 => ?_⟩
        have hl4 : H4 l = _ := s4 l _ ((wo_ne lp).trans hl3)
        have s04 := Same.trans (same_wo s3 hp0) s4
        obtain ⟨k, hk1, hk2⟩ := menu8 g0 g1
        refine ⟨l, _, _, _, rfl, rfl, SqL.of hl4, hk1, (by show 2 ≤ sizeLine; decide), fun r hr => ?_⟩
        have rp := src_ne src4 hr
        refine q _ _ (.sh k) (NF.Same.new s04 hr) (src_put src4 rp) (.tup (SqT.of ((wo_ne rp).trans upd_same)) (.cons (.str _) (.cons (.int _) .nil))) hk2 (by show 1 + 1 ≤ _; omega) (by show 1 ≤ _; omega)
      · refine iteF' (decide_eq_false c5) ?_
        refine ⟨_, rfl, _, rfl, _, rfl, L, _, rfl, .inl (L2.Same.seq s2 hL), H0, p, ns.length, by rw [List.length_map]; rfl, s2, hp0, src2, by omega, by omega, fun g H3 g0 g1 s3 src3 => ?_⟩
        obtain ⟨j, rfl⟩ := Int.eq_ofNat_of_zero_le g0
        have hj : j < ns.length := by omega
        refine ⟨L, _, _, _, rfl, rfl, L2.Same.seq s3 hL, atI_nat (j := j) (by rw [List.getElem?_map, List.getElem?_eq_getElem hj]; rfl), ?_⟩
        exact q _ _ (.nm ns[j]) s3 src3 (.str _) (hn3 _ (List.getElem_mem hj)) (by show 1 + 1 ≤ _; omega) (by show 1 ≤ _; omega)
    · refine iteF' (decide_eq_false (by omega)) ?_
      refine ⟨_, rfl, rfl, _, rfl, ?_⟩
      have m2 : 2 ≤ m := by omega
      by_cases k0 : V.int d = V.int 0
      · refine iteT' (decide_eq_true k0) ?_
        refine ⟨_, rfl, H0, p, 5, rfl, s1, hp0, src1, by decide, by decide, fun e H2 e0 e1 s2 src2 => ?_⟩
        refine ⟨rfl, _, rfl, ?_⟩
        by_cases c5 : V.int e = V.int 2
        · refine iteT' (decide_eq_true c5) ?_
          refine ⟨1, rfl, 2, rfl, 1, rfl, 9, rfl, (by show 8 ≤ sizeLine; decide), fun l hl => ?_⟩
          have lp := src_ne src2 hl
          have src3 := src_put (o := .lst [V.int (-1), .int 1, .int 0, .int (-2), .int 2, .int (-1), .int 9, .int (-9)]) src2 lp
          have s3 := NF.Same.new (o := .lst [V.int (-1), .int 1, .int 0, .int (-2), .int 2, .int (-1), .int 9, .int (-9)]) s2 hl
          have hl3 : upd H2 l (.lst [V.int (-1), .int 1, .int 0, .int (-2), .int 2, .int (-1), .int 9, .int (-9)]) l = _ := upd_same
          revert src3 s3 hl3
          generalize upd H2 l _ = H3
          intro src3 s3 hl3
          refine ⟨_, rfl, wo H3 p, p, 8, rfl, wo_same', wo_none, src3, by decide, by decide, fun g H4 g0 g1 s4 src4 => ?_⟩
          have hl4 : H4 l = _ := s4 l _ ((wo_ne lp).trans hl3)
          have s04 := Same.trans (same_wo s3 hp0) s4
          obtain ⟨k, hk1, hk2⟩ := menu8 g0 g1
          refine ⟨l, _, _, _, rfl, rfl, SqL.of hl4, hk1, (by show 2 ≤ sizeLine; decide), fun r hr => ?_⟩
          have rp := src_ne src4 hr
          refine q _ _ (.sh k) (NF.Same.new s04 hr) (src_put src4 rp) (.tup (SqT.of ((wo_ne rp).trans upd_same)) (.cons (.str _) (.cons (.int _) .nil))) hk2 (by show 1 + 1 ≤ _; omega) (by show 1 ≤ _; omega)
        · refine iteF' (decide_eq_false c5) ?_
          refine ⟨_, rfl, _, rfl, _, rfl, L, _, rfl, .inl (L2.Same.seq s2 hL), H0, p, ns.length, by rw [List.length_map]; rfl, s2, hp0, src2, by omega, by omega, fun g H3 g0 g1 s3 src3 => ?_⟩
          obtain ⟨j, rfl⟩ := Int.eq_ofNat_of_zero_le g0
          have hj : j < ns.length := by omega
          refine ⟨L, _, _, _, rfl, rfl, L2.Same.seq s3 hL, atI_nat (j := j) (by rw [List.getElem?_map, List.getElem?_eq_getElem hj]; rfl), ?_⟩
          exact q _ _ (.nm ns[j]) s3 src3 (.str _) (hn3 _ (List.getElem_mem hj)) (by show 1 + 1 ≤ _; omega) (by show 1 ≤ _; omega)
      · refine iteF' (decide_eq_false k0) ?_
        have k0 : d ≠ 0 := fun e => k0 (by rw [e])
        refine ⟨_, rfl, rfl, _, rfl, ?_⟩
        by_cases k1 : V.int d = V.int 1
        · refine iteT' (decide_eq_true k1) ?_
          refine ⟨_, rfl, _, rfl, _, rfl, _, _, rfl, rfl, H0, p, L, ns, m - 1, by show [V.ref p, V.ref L, V.int ((m : Int) - 1)] = [V.ref p, V.ref L, V.int ((m - 1 : Nat) : Int)]; rw [show ((m : Int) - 1) = ((m - 1 : Nat) : Int) by omega], s1, hp0, src1, hL, hn1, hn2, hn3, by omega, by omega, by omega, fun x H2 t s2 src2 hx ht hpt hdt => ?_⟩
          refine ⟨(by show 2 ≤ sizeLine; decide), fun r hr => ?_⟩
          have rp := src_ne src2 hr
          have sw : Same (wo H2 p) (wo (upd H2 r (.tup [V.str "turn", x])) p) := same_wo (NF.Same.new wo_same' hr) wo_none
          exact q _ _ (.tn t) (NF.Same.new s2 hr) (src_put src2 rp) (.tup (SqT.of ((wo_ne rp).trans upd_same)) (.cons (.str _) (.cons (dp_mono sw _ hx) .nil))) ht (by show parts t + 1 + 1 ≤ _; omega) (by show depth t + 1 ≤ _; omega)
        · refine iteF' (decide_eq_false k1) ?_
          have k1 : d ≠ 1 := fun e => k1 (by rw [e])
          refine ⟨(by show 7 ≤ sizeLine; decide), fun l hl => ?_⟩
          have lp := src_ne src1 hl
          have src3 := src_put (o := .lst [V.str "behind", .str "both", .str "either", .str "under", .str "over", .str "behind", .str "behind"]) src1 lp
          have s3 := NF.Same.new (o := .lst [V.str "behind", .str "both", .str "either", .str "under", .str "over", .str "behind", .str "behind"]) s1 hl
          have hl3 : upd H1 l (.lst [V.str "behind", .str "both", .str "either", .str "under", .str "over", .str "behind", .str "behind"]) l = _ := upd_same
          revert src3 s3 hl3
          generalize upd H1 l _ = H3
          intro src3 s3 hl3
          obtain ⟨u, hu, hu2⟩ := menu7 (g := d - 2) (by omega) (by omega)
          refine ⟨_, rfl, _, _, rfl, rfl, l, _, _, _, rfl, rfl, SqL.of hl3, hu2, ?_⟩
          refine ⟨_, rfl, _, rfl, _, rfl, _, _, rfl, rfl, (by exact (⟨by decide, by decide⟩ : (0 : Int) < 2 ∧ (2 : Int) < 1073741824)), ?_⟩
          refine ⟨H0, p, L, ns, m / 2, by show [V.ref p, V.ref L, V.int ((m : Int) / 2)] = [V.ref p, V.ref L, V.int ((m / 2 : Nat) : Int)]; rw [show ((m : Int) / 2) = ((m / 2 : Nat) : Int) by omega], s3, hp0, src3, hL, hn1, hn2, hn3, by omega, by omega, by omega, fun x H4 t s4 src4 hx ht hpt hdt => ?_⟩
          refine ⟨_, rfl, _, rfl, _, rfl, _, rfl, _, rfl, _, _, rfl, rfl, _, rfl, _, _, rfl, rfl, (by exact (⟨by decide, by decide⟩ : (0 : Int) < 2 ∧ (2 : Int) < 1073741824)), _, _, rfl, rfl, ?_⟩
          refine ⟨wo H4 p, p, L, ns, m - 1 - m / 2, by show [V.ref p, V.ref L, V.int ((m : Int) - 1 - (m : Int) / 2)] = [V.ref p, V.ref L, V.int ((m - 1 - m / 2 : Nat) : Int)]; rw [show ((m : Int) - 1 - (m : Int) / 2) = ((m - 1 - m / 2 : Nat) : Int) by omega], wo_same', wo_none, src4, L2.Same.seq (same_wo s4 hp0) hL, hn1, hn2, hn3, by omega, by omega, by omega, fun y H5 t' s5 src5 hy ht' hpt' hdt' => ?_⟩
          refine ⟨(by show 3 ≤ sizeLine; decide), fun r hr => ?_⟩
          have rp := src_ne src5 hr
          have sw : Same (wo H5 p) (wo (upd H5 r (.tup [V.str (wordS u), x, y])) p) := same_wo (NF.Same.new wo_same' hr) wo_none
          have s05 : Same H0 H5 := Same.trans (same_wo s4 hp0) s5
          have s45 : Same (wo H4 p) (wo H5 p) := same_wo s5 wo_none
          refine q _ _ (.bi u t t') (NF.Same.new s05 hr) (src_put src5 rp) (.tup (SqT.of ((wo_ne rp).trans upd_same)) (.cons (.str _) (.cons (dp_mono (Same.trans s45 sw) _ hx) (.cons (dp_mono sw _ hy) .nil)))) ⟨hu, ht, ht'⟩ (by show parts t + parts t' + 1 + 1 ≤ _; omega) (by show max (depth t) (depth t') + 1 ≤ _; omega)
end
end K13
/-! A reader with levels, and the two stacks: plain. -/
namespace TT
structure Lvl where
  T : List Trm
  W : List Nat
  k : Nat
def turnN : Nat → Trm → Trm
  | 0, t => t
  | n + 1, t => turnN n (.tn t)
/-- signs from the top of at least the rank c done -/
def fo (c : Nat) : List Trm → List Nat → List Trm × List Nat
  | b :: a :: T, u :: W => if c ≤ rk u then fo c (.bi u a b :: T) W else (b :: a :: T, u :: W)
  | T, W => (T, W)
def takeL (x : Trm) : List Lvl → List Lvl
  | l :: L => ⟨turnN l.k x :: l.T, l.W, 0⟩ :: L
  | [] => []
def rkF (u : Nat) : Nat := [0, 1, 3, 3, 3].getD u 0
def lstep : List Lvl → Tx → List Lvl
  | l :: L, p => if p = tilde then ⟨l.T, l.W, l.k + 1⟩ :: L else if p = opn then ⟨[], [], 0⟩ :: l :: L else
    if p = cls then takeL ((fo 0 l.T l.W).1.headD (.nm [])) L else
    if isBin p = true then ⟨(fo (rkF (wix p)) l.T l.W).1, wix p :: (fo (rkF (wix p)) l.T l.W).2, l.k⟩ :: L else takeL (leafT p) (l :: L)
  | [], _ => []
structure LvI (e : Bool) (l : Lvl) (f : Bool) : Prop where
  w : ∀ u ∈ l.W, u < 5
  s : l.W.Pairwise fun a b => rk b < rk a
  n : l.T.length = l.W.length + if e then 0 else 1
  f : f = true ↔ (2 ∈ l.W ∨ 3 ∈ l.W)
  k : e = false → l.k = 0
inductive LevI : Bool → List Lvl → List Bool → Prop
  | one {e l f} : LvI e l f → LevI e [l] [f]
  | more {e l f L st} : LvI e l f → LevI true L st → LevI e (l :: L) (f :: st)
theorem LevI.len {e : Bool} {L : List Lvl} {st : List Bool} (h : LevI e L st) : L.length = st.length := by
  induction h with
  | one => rfl
  | more _ _ ih => rw [List.length_cons, List.length_cons, ih]
theorem LevI.hd {e : Bool} {l : Lvl} {L : List Lvl} {f : Bool} {st : List Bool} (h : LevI e (l :: L) (f :: st)) : LvI e l f := by
  cases h with
  | one h => exact h
  | more h _ => exact h
theorem LevI.tl {e : Bool} {l : Lvl} {L : List Lvl} {f : Bool} {st : List Bool} (h : LevI e (l :: L) (f :: st)) (n : L ≠ []) : LevI true L st := by
  cases h with
  | one h => exact absurd rfl n
  | more _ h => exact h
theorem LevI.set {e e' : Bool} {l l' : Lvl} {L : List Lvl} {f f' : Bool} {st : List Bool} (h : LevI e (l :: L) (f :: st)) (h' : LvI e' l' f') : LevI e' (l' :: L) (f' :: st) := by
  cases h with
  | one _ => exact .one h'
  | more _ h => exact .more h' h
theorem fo_ok (c : Nat) : ∀ (W : List Nat) (T : List Trm), T.length = W.length + 1 → (∀ u ∈ W, u < 5) → ∃ D, W = D ++ (fo c T W).2 ∧ (fo c T W).1.length = (fo c T W).2.length + 1 ∧ (∀ u ∈ D, c ≤ rk u) ∧ (∀ u W', (fo c T W).2 = u :: W' → rk u < c) ∧
    ∀ T' R, (R = [] ∨ ∃ R', R = opn :: R') → joinCl c (T ++ T') (W.map sg ++ R) = ((fo c T W).1 ++ T', (fo c T W).2.map sg ++ R)
  | [], T, h, hw => by
    match T, h with
    | [a], _ =>
      refine ⟨[], rfl, rfl, (fun u hu => (nomatch hu)), (fun u W' e => (nomatch e)), fun T' R hR => ?_⟩
      rcases hR with rfl | ⟨R', rfl⟩
      · rfl
      · show (if opn = opn ∨ bnd opn < c then _ else _) = _
        rw [if_pos (.inl rfl)]
        rfl
  | u :: W, T, h, hw => by
    match T, h with
    | b :: a :: T, h =>
      obtain ⟨b1, b2, b3, b4, b5⟩ := bnd_sg (hw u (List.mem_cons_self ..))
      by_cases hc : c ≤ rk u
      · have e : fo c (b :: a :: T) (u :: W) = fo c (.bi u a b :: T) W := if_pos hc
        rw [e]
        obtain ⟨D, h1, h2, h3, h4, h5⟩ := fo_ok c W (.bi u a b :: T) (by rw [List.length_cons, List.length_cons, List.length_cons] at h; rw [List.length_cons]; omega) fun v hv => hw v (List.mem_cons_of_mem _ hv)
        refine ⟨u :: D, congrArg _ h1, h2, fun v hv => (List.mem_cons.mp hv).elim (fun z => z ▸ hc) (h3 v), h4, fun T' R hR => ?_⟩
        rw [← h5 T' R hR]
        show (if sg u = opn ∨ bnd (sg u) < c then _ else _) = _
        rw [if_neg (fun z => z.elim b3 fun z => by rw [b1] at z; omega)]
        show joinCl c (if sg u = tilde then _ else _) _ = _
        rw [if_neg b4, b2]
        rfl
      · have e : fo c (b :: a :: T) (u :: W) = (b :: a :: T, u :: W) := if_neg hc
        rw [e]
        refine ⟨[], rfl, h, (fun v hv => (nomatch hv)), fun v W' e => by injection e with e _; rw [← e]; omega, fun T' R hR => ?_⟩
        show (if sg u = opn ∨ bnd (sg u) < c then _ else _) = _
        rw [if_pos (.inr (by rw [b1]; omega))]
        rfl
theorem fo_23 : ∀ (W : List Nat) (T : List Trm), (∀ u ∈ W, u < 5) → ¬ 2 ∈ W → ¬ 3 ∈ W → fo 2 T W = fo 3 T W
  | [], T, _, _, _ => by
    match T with
    | [] => rfl
    | [a] => rfl
    | a :: b :: T => rfl
  | u :: W, T, hw, h2, h3 => by
    match T with
    | [] => rfl
    | [a] => rfl
    | b :: a :: T =>
      have u5 := hw u (List.mem_cons_self ..)
      have n2 : u ≠ 2 := fun e => h2 (by rw [e]; exact List.mem_cons_self ..)
      have n3 : u ≠ 3 := fun e => h3 (by rw [e]; exact List.mem_cons_self ..)
      show (if 2 ≤ rk u then fo 2 (.bi u a b :: T) W else _) = (if 3 ≤ rk u then fo 3 (.bi u a b :: T) W else _)
      rcases (show u = 0 ∨ u = 1 ∨ u = 4 by omega) with rfl | rfl | rfl
      · rfl
      · rfl
      · exact fo_23 W _ (fun v hv => hw v (List.mem_cons_of_mem _ hv)) (fun z => h2 (List.mem_cons_of_mem _ z)) fun z => h3 (List.mem_cons_of_mem _ z)
/-- what is left is below the rank -/
theorem fo_low {c : Nat} {W : List Nat} {T : List Trm} (h : T.length = W.length + 1) (hw : ∀ u ∈ W, u < 5) (hs : W.Pairwise fun a b => rk b < rk a) : ∀ u ∈ (fo c T W).2, rk u < c := by
  obtain ⟨D, h1, h2, h3, h4, _⟩ := fo_ok c W T h hw
  intro u hu
  cases e : (fo c T W).2 with
  | nil =>
    rw [e] at hu
    cases hu
  | cons v W' =>
    have hv := h4 v W' e
    rw [e] at hu
    rcases List.mem_cons.mp hu with rfl | hu
    · exact hv
    · rw [h1, e] at hs
      have hs := (List.pairwise_append.mp hs).2.1
      have := (List.pairwise_cons.mp hs).1 u hu
      omega
/-! ### the stacks that levels stand for -/
def flatT (L : List Lvl) : List Trm := L.flatMap (·.T)
def flatW : List Lvl → List Tx
  | [] => []
  | [l] => List.replicate l.k tilde ++ l.W.map sg
  | l :: m :: L => List.replicate l.k tilde ++ l.W.map sg ++ opn :: flatW (m :: L)
def tailW : List Lvl → List Tx
  | [] => []
  | l :: L => opn :: flatW (l :: L)
theorem flatW_eq (l : Lvl) (L : List Lvl) : flatW (l :: L) = List.replicate l.k tilde ++ l.W.map sg ++ tailW L := by
  cases L with
  | nil => exact (List.append_nil _).symm
  | cons m L => rfl
theorem tailW_end : ∀ L : List Lvl, tailW L = [] ∨ ∃ R, tailW L = opn :: R
  | [] => .inl rfl
  | l :: L => .inr ⟨_, rfl⟩
inductive Sim : Bool → List Lvl → List Trm × List Tx → Prop
  | due {L} : Sim true L (flatT L, flatW L)
  | had {T0 W0 L k y} : Sim false (⟨turnN k y :: T0, W0, 0⟩ :: L) (y :: T0 ++ flatT L, List.replicate k tilde ++ W0.map sg ++ tailW L)
theorem turn_cl {c : Nat} (hc : c ≤ 4) : ∀ (k : Nat) (y : Trm) (T : List Trm) (W : List Tx), joinCl c (y :: T) (List.replicate k tilde ++ W) = joinCl c (turnN k y :: T) W
  | 0, y, T, W => rfl
  | k + 1, y, T, W => by
    show (if tilde = opn ∨ bnd tilde < c then _ else _) = _
    rw [if_neg (fun z => z.elim (by decide) fun z => by
      have : bnd tilde = 4 := by decide
      omega)]
    exact turn_cl hc k (.tn y) T W
/-- one piece, and what is due behind it -/
inductive Step1 : Bool → List Bool → Tx → Bool → List Bool → Prop
  | tl {st} : Step1 true st tilde true st
  | op {st} : Step1 true st opn true (false :: st)
  | lf {st p} : Leaf p → Step1 true st p false st
  | cl {st} : 1 < st.length → Step1 false st cls false st.tail
  | bn {f tl p} : isBin p = true → p ≠ blw → (isRes p = true → f = false) → Step1 false (f :: tl) p true (flagB p f :: tl)
theorem scan_step {e : Bool} {st : List Bool} {p : Tx} {r : List Tx} (h : scanOk e true st (p :: r)) : ∃ e' st', Step1 e st p e' st' ∧ scanOk e' true st' r := by
  cases e with
  | true =>
    rcases h with ⟨rfl, h⟩ | ⟨rfl, h⟩ | ⟨hl, h⟩
    · exact ⟨_, _, .tl, h⟩
    · exact ⟨_, _, .op, h⟩
    · exact ⟨_, _, .lf hl, h⟩
  | false =>
    rcases h with ⟨rfl, h1, h⟩ | ⟨hb, hb1, hb2, f, tl, rfl, h⟩
    · exact ⟨_, _, .cl h1, h⟩
    · exact ⟨_, _, .bn hb (fun z => absurd (hb2 z).1 (by decide)) (fun z => Option.some.inj (hb1 z)), h⟩
/-- one piece -/
theorem lstep1 {e e' : Bool} {L : List Lvl} {st st' : List Bool} {S : List Trm × List Tx} {p : Tx} (i : LevI e L st) (m : Sim e L S) (h : Step1 e st p e' st') : LevI e' (lstep L p) st' ∧ Sim e' (lstep L p) (stepM S p) := by
  cases m with
  | due =>
    obtain ⟨l, L, rfl⟩ : ∃ l L', L = l :: L' := by
      cases i with
      | one => exact ⟨_, _, rfl⟩
      | more => exact ⟨_, _, rfl⟩
    obtain ⟨f, tl, rfl⟩ : ∃ f tl, st = f :: tl := by
      cases i with
      | one => exact ⟨_, _, rfl⟩
      | more => exact ⟨_, _, rfl⟩
    have hd := i.hd
    cases h with
    | tl =>
      refine ⟨i.set ⟨hd.w, hd.s, hd.n, hd.f, fun z => by cases z⟩, ?_⟩
      show Sim true (⟨l.T, l.W, l.k + 1⟩ :: L) (flatT (l :: L), tilde :: flatW (l :: L))
      have : (flatT (l :: L), tilde :: flatW (l :: L)) = (flatT (⟨l.T, l.W, l.k + 1⟩ :: L), flatW (⟨l.T, l.W, l.k + 1⟩ :: L)) := by
        rw [flatW_eq, flatW_eq]
        rfl
      rw [this]
      exact .due
    | op =>
      refine ⟨.more ⟨(fun u hu => (nomatch hu)), .nil, rfl, ⟨(fun z => by cases z), (fun z => by rcases z with z | z <;> cases z)⟩, (fun z => by cases z)⟩ i, ?_⟩
      show Sim true (⟨[], [], 0⟩ :: l :: L) (flatT (l :: L), opn :: flatW (l :: L))
      exact .due
    | lf hl =>
      have n : p ≠ opn ∧ p ≠ tilde ∧ p ≠ cls ∧ isBin p = false := by
        rcases hl with hn | ⟨k, _, rfl⟩
        · exact ⟨(nm_not hn).2.2.1, (nm_not hn).2.1, (nm_not hn).2.2.2, (nm_not hn).1⟩
        · exact ⟨shT_not.2.2.1, shT_not.2.1, shT_not.2.2.2, shT_not.1⟩
      have e1 : stepM (flatT (l :: L), flatW (l :: L)) p = (leafT p :: flatT (l :: L), flatW (l :: L)) := by
        unfold stepM
        rw [if_neg (fun z => z.elim n.1 n.2.1), if_neg n.2.2.1, if_neg (by rw [n.2.2.2]; decide)]
      have e2 : lstep (l :: L) p = ⟨turnN l.k (leafT p) :: l.T, l.W, 0⟩ :: L := by
        show (if p = tilde then _ else if p = opn then _ else if p = cls then _ else if isBin p = true then _ else _) = _
        rw [if_neg n.2.1, if_neg n.1, if_neg n.2.2.1, if_neg (by rw [n.2.2.2]; decide)]
        rfl
      rw [e1, e2]
      refine ⟨i.set ⟨hd.w, hd.s, by have := hd.n; show l.T.length + 1 = _; rw [this]; rfl, hd.f, fun _ => rfl⟩, ?_⟩
      rw [flatW_eq]
      exact .had (T0 := l.T) (y := leafT p)
  | @had T0 W0 L k y =>
    obtain ⟨f, tl, rfl⟩ : ∃ f tl, st = f :: tl := by
      cases i with
      | one => exact ⟨_, _, rfl⟩
      | more => exact ⟨_, _, rfl⟩
    have hd := i.hd
    have hn : (turnN k y :: T0).length = W0.length + 1 := hd.n
    have hw : ∀ u ∈ W0, u < 5 := hd.w
    have hs : W0.Pairwise fun a b => rk b < rk a := hd.s
    have join : ∀ c, c ≤ 4 → joinCl c (y :: T0 ++ flatT L) (List.replicate k tilde ++ W0.map sg ++ tailW L) = ((fo c (turnN k y :: T0) W0).1 ++ flatT L, (fo c (turnN k y :: T0) W0).2.map sg ++ tailW L) := by
      intro c hc
      obtain ⟨D, _, _, _, _, h5⟩ := fo_ok c W0 (turnN k y :: T0) hn hw
      rw [List.append_assoc]
      show joinCl c (y :: (T0 ++ flatT L)) _ = _
      rw [turn_cl hc]
      exact h5 _ _ (tailW_end L)
    cases h with
    | cl h1 =>
      have Ln : L ≠ [] := fun z => by
        have := i.len
        rw [z, List.length_cons, List.length_cons] at this
        rw [List.length_cons] at h1
        have : tl.length = 0 := by
          have t2 : ([] : List Lvl).length = 0 := rfl
          omega
        omega
      have it := i.tl Ln
      obtain ⟨m, L, rfl⟩ : ∃ m L', L = m :: L' := by
        cases L with
        | nil => exact absurd rfl Ln
        | cons a b => exact ⟨a, b, rfl⟩
      obtain ⟨g, tl, rfl⟩ : ∃ g tl', tl = g :: tl' := by
        cases it with
        | one => exact ⟨_, _, rfl⟩
        | more => exact ⟨_, _, rfl⟩
      have e1 : stepM (y :: T0 ++ flatT (m :: L), List.replicate k tilde ++ W0.map sg ++ tailW (m :: L)) cls = ((joinCl 0 (y :: T0 ++ flatT (m :: L)) (List.replicate k tilde ++ W0.map sg ++ tailW (m :: L))).1, (joinCl 0 (y :: T0 ++ flatT (m :: L)) (List.replicate k tilde ++ W0.map sg ++ tailW (m :: L))).2.tail) := rfl
      have low := fo_low (c := 0) hn hw hs
      obtain ⟨D, _, h2, _, _, _⟩ := fo_ok 0 W0 (turnN k y :: T0) hn hw
      have w0 : (fo 0 (turnN k y :: T0) W0).2 = [] := by
        cases e : (fo 0 (turnN k y :: T0) W0).2 with
        | nil => rfl
        | cons a b =>
          rw [e] at low
          exact absurd (low a (List.mem_cons_self ..)) (Nat.not_lt_zero _)
      rw [e1, join 0 (Nat.zero_le _)]
      have e2 : lstep (⟨turnN k y :: T0, W0, 0⟩ :: m :: L) cls = takeL ((fo 0 (turnN k y :: T0) W0).1.headD (.nm [])) (m :: L) := rfl
      rw [e2, w0]
      rw [w0] at h2
      generalize (fo 0 (turnN k y :: T0) W0).1 = T1 at h2 ⊢
      match T1, h2 with
      | [t], _ =>
        have hm := it.hd
        refine ⟨it.set ⟨hm.w, hm.s, by have := hm.n; show m.T.length + 1 = _; rw [this]; rfl, hm.f, fun _ => rfl⟩, ?_⟩
        show Sim false (⟨turnN m.k t :: m.T, m.W, 0⟩ :: L) ([t] ++ flatT (m :: L), flatW (m :: L))
        rw [flatW_eq]
        exact .had (T0 := m.T) (y := t)
    | bn hb hnb hb1 =>
      obtain ⟨u, hu, rfl⟩ : ∃ u, u < 5 ∧ p = sg u := by
        rcases bin_in hb with rfl | rfl | rfl | rfl | rfl | rfl
        · exact absurd rfl hnb
        · exact ⟨0, by omega, rfl⟩
        · exact ⟨1, by omega, rfl⟩
        · exact ⟨2, by omega, rfl⟩
        · exact ⟨3, by omega, rfl⟩
        · exact ⟨4, by omega, rfl⟩
      obtain ⟨b1, b2, b3, b4, b5⟩ := bnd_sg hu
      have e1 : ∀ S : List Trm × List Tx, stepM S (sg u) = ((joinCl (bnd (sg u)) S.1 S.2).1, sg u :: (joinCl (bnd (sg u)) S.1 S.2).2) := fun S => by
        unfold stepM
        rw [if_neg (fun z => z.elim b3 b4), if_neg b5, if_pos (sg_bin hu)]
      have e2 : lstep (⟨turnN k y :: T0, W0, 0⟩ :: L) (sg u) = ⟨(fo (rkF u) (turnN k y :: T0) W0).1, u :: (fo (rkF u) (turnN k y :: T0) W0).2, 0⟩ :: L := by
        show (if sg u = tilde then _ else if sg u = opn then _ else if sg u = cls then _ else if isBin (sg u) = true then _ else _) = _
        rw [if_neg b4, if_neg b3, if_neg b5, if_pos (sg_bin hu), b2]
      -- a residue waits for no other
      have hres : u = 2 ∨ u = 3 → ¬ 2 ∈ W0 ∧ ¬ 3 ∈ W0 := fun z => by
        have : f = false := hb1 (by rcases z with rfl | rfl <;> decide)
        have hf := hd.f
        rw [this] at hf
        exact ⟨fun y => (Bool.noConfusion (hf.mpr (.inl y))), fun y => (Bool.noConfusion (hf.mpr (.inr y)))⟩
      have ef : fo (rk u) (turnN k y :: T0) W0 = fo (rkF u) (turnN k y :: T0) W0 := by
        rcases sg_cases hu with rfl | rfl | rfl | rfl | rfl
        · rfl
        · rfl
        · exact fo_23 _ _ hw (hres (.inl rfl)).1 (hres (.inl rfl)).2
        · exact fo_23 _ _ hw (hres (.inr rfl)).1 (hres (.inr rfl)).2
        · rfl
      have r4 : rk u ≤ 4 := by rcases sg_cases hu with rfl | rfl | rfl | rfl | rfl <;> decide
      rw [e1, e2, b1]
      show _ ∧ Sim _ _ ((joinCl (rk u) (y :: T0 ++ flatT L) (List.replicate k tilde ++ W0.map sg ++ tailW L)).1, sg u :: (joinCl (rk u) (y :: T0 ++ flatT L) (List.replicate k tilde ++ W0.map sg ++ tailW L)).2)
      rw [join _ r4, ef]
      obtain ⟨D, h1, h2, h3, _, _⟩ := fo_ok (rkF u) W0 (turnN k y :: T0) hn hw
      have low := fo_low (c := rkF u) hn hw hs
      have sub : ∀ v ∈ (fo (rkF u) (turnN k y :: T0) W0).2, v ∈ W0 := fun v hv => by rw [h1]; exact List.mem_append_right _ hv
      have hs2 : (fo (rkF u) (turnN k y :: T0) W0).2.Pairwise fun a b => rk b < rk a := by
        have := hs
        rw [h1] at this
        exact (List.pairwise_append.mp this).2.1
      have hh : (fo (rkF u) (turnN k y :: T0) W0).2.map sg ++ tailW L = (fo (rkF u) (turnN k y :: T0) W0).2.map sg ++ tailW L := rfl
      generalize fo (rkF u) (turnN k y :: T0) W0 = F at *
      refine ⟨i.set ⟨?_, ?_, ?_, ?_, fun z => by cases z⟩, ?_⟩
      · intro v hv
        rcases List.mem_cons.mp hv with rfl | hv
        · exact hu
        · exact hw v (sub v hv)
      · refine List.pairwise_cons.mpr ⟨fun v hv => ?_, hs2⟩
        have l := low v hv
        rcases sg_cases hu with rfl | rfl | rfl | rfl | rfl
        · exact absurd l (Nat.not_lt_zero _)
        · exact l
        · have l : rk v < 3 := l
          have v5 := hw v (sub v hv)
          have n := hres (.inl rfl)
          rcases sg_cases v5 with rfl | rfl | rfl | rfl | rfl
          · decide
          · decide
          · exact absurd (sub _ hv) n.1
          · exact absurd (sub _ hv) n.2
          · exact absurd l (by decide)
        · have l : rk v < 3 := l
          have v5 := hw v (sub v hv)
          have n := hres (.inr rfl)
          rcases sg_cases v5 with rfl | rfl | rfl | rfl | rfl
          · decide
          · decide
          · exact absurd (sub _ hv) n.1
          · exact absurd (sub _ hv) n.2
          · exact absurd l (by decide)
        · exact l
      · show F.1.length = F.2.length + 1 + 0
        rw [h2]
      · show flagB (sg u) f = true ↔ (2 ∈ u :: F.2 ∨ 3 ∈ u :: F.2)
        have mid : ∀ x, x ∈ F.2 → rk x < rkF u := low
        rcases sg_cases hu with rfl | rfl | rfl | rfl | rfl
        · refine ⟨fun z => absurd z (by show ¬ (false = true); decide), fun z => ?_⟩
          rcases z with z | z
          · rcases List.mem_cons.mp z with z | z
            · exact absurd z (by decide)
            · exact absurd (mid _ z) (by decide)
          · rcases List.mem_cons.mp z with z | z
            · exact absurd z (by decide)
            · exact absurd (mid _ z) (by decide)
        · refine ⟨fun z => absurd z (by show ¬ (false = true); decide), fun z => ?_⟩
          rcases z with z | z
          · rcases List.mem_cons.mp z with z | z
            · exact absurd z (by decide)
            · exact absurd (mid _ z) (by decide)
          · rcases List.mem_cons.mp z with z | z
            · exact absurd z (by decide)
            · exact absurd (mid _ z) (by decide)
        · exact ⟨fun _ => .inl (List.mem_cons_self ..), fun _ => rfl⟩
        · exact ⟨fun _ => .inr (List.mem_cons_self ..), fun _ => rfl⟩
        · have hf := hd.f
          have ff : flagB (sg 4) f = f := rfl
          rw [ff]
          have n2 : ∀ x, x = 2 ∨ x = 3 → (x ∈ W0 ↔ x ∈ 4 :: F.2) := fun x hx => by
            constructor
            · intro z
              rw [h1] at z
              rcases List.mem_append.mp z with z | z
              · have := h3 x z
                rcases hx with rfl | rfl
                · exact absurd this (by decide)
                · exact absurd this (by decide)
              · exact List.mem_cons_of_mem _ z
            · intro z
              rcases List.mem_cons.mp z with rfl | z
              · rcases hx with hx | hx
                · exact absurd hx (by decide)
                · exact absurd hx (by decide)
              · exact sub x z
          rw [← n2 2 (.inl rfl), ← n2 3 (.inr rfl)]
          exact hf
      · have : (F.1 ++ flatT L, sg u :: (F.2.map sg ++ tailW L)) = (flatT (⟨F.1, u :: F.2, 0⟩ :: L), flatW (⟨F.1, u :: F.2, 0⟩ :: L)) := by
          rw [flatW_eq]
          rfl
        rw [this]
        exact .due
theorem lstep_ok {e : Bool} {L : List Lvl} {st : List Bool} {S : List Trm × List Tx} {p : Tx} {r : List Tx} (i : LevI e L st) (m : Sim e L S) (h : scanOk e true st (p :: r)) :
    ∃ e' st', scanOk e' true st' r ∧ LevI e' (lstep L p) st' ∧ Sim e' (lstep L p) (stepM S p) := by
  obtain ⟨e', st', h1, h2⟩ := scan_step h
  exact ⟨e', st', h2, lstep1 i m h1⟩
/-- what stands before an operand -/
theorem lpre {st : List Bool} : ∀ {q : Tx} {L : List Lvl} {S : List Trm × List Tx} {st : List Bool}, (∀ c ∈ q, c = 126 ∨ c = 40) → LevI true L st → Sim true L S → LevI true ((q.map fun c => [c]).foldl lstep L) (List.replicate (q.count 40) false ++ st) ∧ Sim true ((q.map fun c => [c]).foldl lstep L) ((q.map fun c => [c]).foldl stepM S)
  | [], L, S, st, _, i, m => ⟨i, m⟩
  | c :: q, L, S, st, h, i, m => by
    rcases h c (List.mem_cons_self ..) with rfl | rfl
    · obtain ⟨i', m'⟩ := lstep1 i m .tl
      rw [List.count_cons_of_ne (by decide)]
      exact lpre (q := q) (st := []) (fun d hd => h d (List.mem_cons_of_mem _ hd)) i' m'
    · obtain ⟨i', m'⟩ := lstep1 i m .op
      rw [List.count_cons_self, List.replicate_succ', List.append_assoc]
      exact lpre (q := q) (st := []) (fun d hd => h d (List.mem_cons_of_mem _ hd)) i' m'
/-- the levels behind pieces -/
def lev (ps : List Tx) : List Lvl := ps.foldl lstep [⟨[], [], 0⟩]
theorem lev_ok : ∀ {ps : List Tx} {e : Bool} {L : List Lvl} {st : List Bool} {S : List Trm × List Tx}, LevI e L st → Sim e L S → scanOk e true st ps → ∃ st', st'.length = 1 ∧ LevI false (ps.foldl lstep L) st' ∧ Sim false (ps.foldl lstep L) (ps.foldl stepM S)
  | [], e, L, st, S, i, m, h => by
    have h : e = false ∧ true = true ∧ st.length = 1 := by
      cases e <;> exact h
    obtain ⟨rfl, _, h1⟩ := h
    exact ⟨st, h1, i, m⟩
  | p :: ps, e, L, st, S, i, m, h => by
    obtain ⟨e', st', h', i', m'⟩ := lstep_ok i m h
    exact lev_ok (ps := ps) i' m' h'
theorem lev_start : LevI true [⟨[], [], 0⟩] [false] := .one ⟨(fun u hu => (nomatch hu)), .nil, rfl, ⟨fun z => (by cases z), fun z => by rcases z with z | z <;> cases z⟩, fun z => by cases z⟩
theorem lev_read' {ps : List Tx} {st' : List Bool} (h1 : st'.length = 1) (i : LevI false (lev ps) st') (m : Sim false (lev ps) (ps.foldl stepM ([], []))) : ∃ l, lev ps = [l] ∧ fo 0 l.T l.W = ([rdT ps], []) := by
  have hl : (lev ps).length = 1 := by
    have := i.len
    rw [h1] at this
    exact this
  generalize lev ps = L at *
  unfold rdT
  generalize ps.foldl stepM ([], []) = S at *
  match L, hl with
  | [l], _ =>
    refine ⟨l, rfl, ?_⟩
    obtain ⟨f, rfl⟩ : ∃ f, st' = [f] := by
      match st', h1 with
      | [f], _ => exact ⟨f, rfl⟩
    have hd := i.hd
    have low := fo_low (c := 0) hd.n hd.w hd.s
    obtain ⟨D, _, h2, _, _, h5⟩ := fo_ok 0 l.W l.T hd.n hd.w
    have w0 : (fo 0 l.T l.W).2 = [] := by
      cases e : (fo 0 l.T l.W).2 with
      | nil => rfl
      | cons a b =>
        rw [e] at low
        exact absurd (low a (List.mem_cons_self ..)) (Nat.not_lt_zero _)
    have hj : joinCl 0 S.1 S.2 = ((fo 0 l.T l.W).1 ++ [], (fo 0 l.T l.W).2.map sg ++ []) := by
      cases m with
      | @had T0 W0 _ k y =>
        rw [← h5 [] [] (.inl rfl)]
        show joinCl 0 (y :: T0 ++ flatT []) (List.replicate k tilde ++ W0.map sg ++ tailW []) = _
        rw [List.append_assoc]
        show joinCl 0 (y :: (T0 ++ [])) _ = _
        rw [turn_cl (Nat.zero_le _)]
        rfl
    rw [hj]
    rw [w0] at h2
    refine Prod.ext ?_ w0
    generalize (fo 0 l.T l.W).1 = T1 at h2 ⊢
    match T1, h2 with
    | [t], _ => rfl
end TT
namespace TT
theorem lcp_ge : ∀ {s S : Tx} {k x : Nat}, k ≤ lcp s S → s[k]? = some x → S[k]? = some x → k + 1 ≤ lcp s S
  | [], S, k, x, _, h, _ => by cases h
  | a :: s, [], k, x, _, _, h => by cases h
  | a :: s, b :: S, 0, x, _, h1, h2 => by
    obtain rfl : a = x := Option.some.inj h1
    obtain rfl : b = a := Option.some.inj h2
    show 1 ≤ (if b = b then lcp s S + 1 else 0)
    rw [if_pos rfl]
    omega
  | a :: s, b :: S, k + 1, x, h, h1, h2 => by
    have h : k + 1 ≤ (if a = b then lcp s S + 1 else 0) := h
    show k + 1 + 1 ≤ (if a = b then lcp s S + 1 else 0)
    split at h
    · rename_i e
      rw [if_pos e]
      have := lcp_ge (s := s) (S := S) (k := k) (x := x) (by omega) h1 h2
      omega
    · omega
theorem lcp_at : ∀ {s S : Tx} {k x : Nat}, k ≤ lcp s S → S[k]? = some x → s[k]? ≠ some x → lcp s S = k
  | [], S, k, x, h, _, _ => by
    have h : k ≤ 0 := h
    show 0 = k
    omega
  | a :: s, [], k, x, _, h, _ => by cases h
  | a :: s, b :: S, 0, x, _, h1, h2 => by
    obtain rfl : b = x := Option.some.inj h1
    show (if a = b then lcp s S + 1 else 0) = 0
    rw [if_neg fun e => h2 (by rw [e]; rfl)]
  | a :: s, b :: S, k + 1, x, h, h1, h2 => by
    have h : k + 1 ≤ (if a = b then lcp s S + 1 else 0) := h
    show (if a = b then lcp s S + 1 else 0) = k + 1
    split at h
    · rename_i e
      rw [if_pos e, lcp_at (s := s) (S := S) (k := k) (x := x) (by omega) h1 h2]
    · omega
theorem find_only {p : Tx → Bool} : ∀ {l : List Tx} {j : Tx}, (∀ q ∈ l, q ≠ j → p q = false) → j ∈ l → p j = true → l.find? p = some j
  | [], j, _, h, _ => by cases h
  | a :: l, j, hn, h, hp => by
    rw [List.find?_cons]
    by_cases e : a = j
    · rw [e, hp]
    · rw [hn a (List.mem_cons_self ..) e]
      exact find_only (l := l) (fun q hq => hn q (List.mem_cons_of_mem _ hq)) ((List.mem_cons.mp h).resolve_left (Ne.symm e)) hp
theorem max_stay {g : Tx → Nat} {N : Nat} : ∀ {l : List Tx}, (∀ q ∈ l, g q ≤ N) → l.foldl (fun m j => max m (g j)) N = N
  | [], _ => rfl
  | a :: l, h => by
    rw [List.foldl_cons, Nat.max_eq_left (h a (List.mem_cons_self ..))]
    exact max_stay fun q hq => h q (List.mem_cons_of_mem _ hq)
theorem max_only {g : Tx → Nat} : ∀ {l : List Tx} {j : Tx} {m : Nat}, (∀ q ∈ l, q ≠ j → g q = 0) → j ∈ l → m ≤ g j → l.foldl (fun m j => max m (g j)) m = g j
  | [], j, m, _, h, _ => by cases h
  | a :: l, j, m, hn, h, hm => by
    rw [List.foldl_cons]
    by_cases e : a = j
    · rw [e, Nat.max_eq_right hm]
      refine max_stay fun q hq => ?_
      by_cases eq : q = j
      · rw [eq]
        exact Nat.le_refl _
      · rw [hn q (List.mem_cons_of_mem _ hq) eq]
        exact Nat.zero_le _
    · rw [hn a (List.mem_cons_self ..) e, Nat.max_eq_left (Nat.zero_le _)]
      exact max_only (l := l) (fun q hq => hn q (List.mem_cons_of_mem _ hq)) ((List.mem_cons.mp h).resolve_left (Ne.symm e)) hm
/-- the joint is told by its first letter -/
theorem jntS_one {js : List Tx} {d : Nat} {s j : Tx} (hb : ∀ p ∈ js, isBin p = true) (hj : j ∈ js) (hd : hd1 j = d) :
    jntS js (d :: s) = if lcp (d :: s) (j ++ [32]) = j.length + 1 then .inr j else .inl (1 + lcp (d :: s) (j ++ [32])) := by
  have other : ∀ q ∈ js, q ≠ j → lcp (d :: s) (q ++ [32]) = 0 := fun q hq n => lcp_hd (hb q hq) fun e => n (hd_inj (hb q hq) (hb j hj) (by rw [← e, hd]))
  have l := lcp_le (d :: s) (j ++ [32])
  have l : lcp (d :: s) (j ++ [32]) ≤ j.length + 1 := by rw [List.length_append] at l; exact l
  by_cases h : lcp (d :: s) (j ++ [32]) = j.length + 1
  · rw [if_pos h]
    refine jntS_some (find_only (p := fun j => decide (j.length < lcp (d :: s) (j ++ [32]))) (fun q hq n => ?_) hj (decide_eq_true (by omega)))
    show decide (q.length < lcp (d :: s) (q ++ [32])) = false
    rw [other q hq n]
    exact decide_eq_false (Nat.not_lt_zero _)
  · rw [if_neg h, jntS_none fun q hq => ?_]
    · congr 2
      exact max_only (g := fun j => lcp (d :: s) (j ++ [32])) other hj (Nat.zero_le _)
    · by_cases e : q = j
      · rw [e]
        omega
      · rw [other q hq e]
        exact Nat.not_lt_zero _
theorem jntS_no {js : List Tx} {s : Tx} (hb : ∀ p ∈ js, isBin p = true) (hd : ∀ d s', s = d :: s' → ∀ p ∈ js, hd1 p ≠ d) : jntS js s = .inl 1 := by
  have other : ∀ q ∈ js, lcp s (q ++ [32]) = 0 := fun q hq => by
    cases s with
    | nil => rfl
    | cons d s' => exact lcp_hd (hb q hq) (Ne.symm (hd d s' rfl q hq))
  rw [jntS_none fun q hq => by rw [other q hq]; exact Nat.not_lt_zero _]
  congr 1
  rw [max_stay (N := 0) fun q hq => Nat.le_of_eq (other q hq)]
end TT
namespace TT
theorem LvI.fo0 {l : Lvl} {f : Bool} (h : LvI false l f) : ∃ x, fo 0 l.T l.W = ([x], []) := by
  have low := fo_low (c := 0) h.n h.w h.s
  obtain ⟨D, _, h2, _, _, _⟩ := fo_ok 0 l.W l.T h.n h.w
  have w0 : (fo 0 l.T l.W).2 = [] := by
    cases e : (fo 0 l.T l.W).2 with
    | nil => rfl
    | cons a b =>
      rw [e] at low
      exact absurd (low a (List.mem_cons_self ..)) (Nat.not_lt_zero _)
  rw [w0] at h2
  match e : (fo 0 l.T l.W).1, h2 with
  | [x], _ => exact ⟨x, Prod.ext e w0⟩
end TT
namespace TT
/-! ### what is read is a term, of as many parts as there are pieces but brackets -/
theorem depth_parts : ∀ t, depth t ≤ parts t
  | .nm _ => Nat.le_refl _
  | .sh _ => Nat.le_refl _
  | .tn a => Nat.succ_le_succ (depth_parts a)
  | .bi _ a b => by
    have h1 := depth_parts a
    have h2 := depth_parts b
    show max (depth a) (depth b) + 1 ≤ parts a + parts b + 1
    omega
theorem wr_len6 : ∀ {t : Trm}, TmOk t → ∀ l, (wr t l).length + 3 ≤ 6 * parts t
  | .nm s, h, l => by
    obtain ⟨c, r, rfl, _, hr, _⟩ := h
    show (c :: r).length + 3 ≤ 6 * 1
    rw [List.length_cons]
    omega
  | .sh k, _, l => by
    show 2 + 3 ≤ 6 * 1
    decide
  | .tn a, h, l => by
    have := wr_len6 (t := a) h 4
    show (wr a 4).length + 1 + 3 ≤ 6 * (parts a + 1)
    omega
  | .bi w a b, h, l => by
    have h1 := wr_len6 h.2.1 (lft w)
    have h2 := wr_len6 h.2.2 (rk w + 1)
    have h3 : (sg w).length ≤ 5 := by rcases sg_cases h.1 with rfl | rfl | rfl | rfl | rfl <;> decide
    rw [wr_bi]
    show _ ≤ 6 * (parts a + parts b + 1)
    split <;> simp only [List.length_cons, List.length_append, List.length_nil] <;> omega
def sumP (T : List Trm) : Nat := (T.map parts).sum
theorem sumP_cons (t : Trm) (T : List Trm) : sumP (t :: T) = parts t + sumP T := by
  unfold sumP
  rw [List.map_cons, List.sum_cons]
theorem fo_all (c : Nat) : ∀ (T : List Trm) (W : List Nat), (∀ t ∈ T, TmOk t) → (∀ u ∈ W, u < 5) → (∀ t ∈ (fo c T W).1, TmOk t) ∧ sumP (fo c T W).1 + (fo c T W).2.length = sumP T + W.length
  | [], W, h, _ => by cases W <;> exact ⟨h, rfl⟩
  | [a], W, h, _ => by cases W <;> exact ⟨h, rfl⟩
  | b :: a :: T, [], h, _ => ⟨h, rfl⟩
  | b :: a :: T, u :: W, h, hw => by
    by_cases hc : c ≤ rk u
    · have e : fo c (b :: a :: T) (u :: W) = fo c (.bi u a b :: T) W := if_pos hc
      rw [e]
      obtain ⟨h1, h2⟩ := fo_all c (.bi u a b :: T) W (fun t ht => by
        rcases List.mem_cons.mp ht with rfl | ht
        · exact ⟨hw u (List.mem_cons_self ..), h a (by simp), h b (by simp)⟩
        · exact h t (List.mem_cons_of_mem _ (List.mem_cons_of_mem _ ht))) fun v hv => hw v (List.mem_cons_of_mem _ hv)
      refine ⟨h1, ?_⟩
      rw [h2, sumP_cons, sumP_cons, sumP_cons, List.length_cons]
      show parts a + parts b + 1 + sumP T + W.length = _
      omega
    · have e : fo c (b :: a :: T) (u :: W) = (b :: a :: T, u :: W) := if_neg hc
      rw [e]
      exact ⟨h, rfl⟩
def cntL (L : List Lvl) : Nat := (L.map fun l => sumP l.T + l.W.length + l.k).sum
theorem cntL_cons (l : Lvl) (L : List Lvl) : cntL (l :: L) = sumP l.T + l.W.length + l.k + cntL L := by
  unfold cntL
  rw [List.map_cons, List.sum_cons]
def TmL (L : List Lvl) : Prop := ∀ l ∈ L, ∀ t ∈ l.T, TmOk t
theorem turn_ok : ∀ (k : Nat) {t : Trm}, TmOk t → TmOk (turnN k t) ∧ parts (turnN k t) = parts t + k
  | 0, t, h => ⟨h, rfl⟩
  | k + 1, t, h => by
    obtain ⟨h1, h2⟩ := turn_ok k (t := .tn t) h
    refine ⟨h1, ?_⟩
    show parts (turnN k (.tn t)) = _
    rw [h2]
    show parts t + 1 + k = _
    omega
theorem leafT_ok {p : Tx} (h : Leaf p) : TmOk (leafT p) ∧ parts (leafT p) = 1 := by
  rcases h with h | ⟨k, hk, rfl⟩
  · rw [leaf_nm h]
    exact ⟨h, rfl⟩
  · rw [leaf_sh]
    exact ⟨hk, rfl⟩
theorem takeL_all {x : Trm} {l : Lvl} {L : List Lvl} (h : TmL (l :: L)) (hx : TmOk x) : TmL (takeL x (l :: L)) ∧ cntL (takeL x (l :: L)) = cntL (l :: L) + parts x := by
  obtain ⟨h1, h2⟩ := turn_ok l.k hx
  refine ⟨fun m hm t ht => ?_, ?_⟩
  · rcases List.mem_cons.mp hm with rfl | hm
    · rcases List.mem_cons.mp ht with rfl | ht
      · exact h1
      · exact h l (List.mem_cons_self ..) t ht
    · exact h m (List.mem_cons_of_mem _ hm) t ht
  · show cntL (⟨turnN l.k x :: l.T, l.W, 0⟩ :: L) = _
    rw [cntL_cons, cntL_cons, sumP_cons, h2]
    show parts x + l.k + sumP l.T + l.W.length + 0 + cntL L = _
    omega
theorem lstep_all {e e' : Bool} {L : List Lvl} {st st' : List Bool} {p : Tx} (i : LevI e L st) (h : Step1 e st p e' st') (tm : TmL L) : TmL (lstep L p) ∧ cntL (lstep L p) = cntL L + if notBr p then 1 else 0 := by
  obtain ⟨l, L, rfl⟩ : ∃ l L', L = l :: L' := by
    cases i with
    | one => exact ⟨_, _, rfl⟩
    | more => exact ⟨_, _, rfl⟩
  have tl : TmL L := fun m hm => tm m (List.mem_cons_of_mem _ hm)
  have t0 := tm l (List.mem_cons_self ..)
  cases h with
  | tl =>
    refine ⟨fun m hm t ht => ?_, ?_⟩
    · rcases List.mem_cons.mp hm with rfl | hm
      · exact t0 t ht
      · exact tl m hm t ht
    · show cntL (⟨l.T, l.W, l.k + 1⟩ :: L) = cntL (l :: L) + 1
      rw [cntL_cons, cntL_cons]
      show sumP l.T + l.W.length + (l.k + 1) + cntL L = _
      omega
  | op =>
    refine ⟨fun m hm t ht => ?_, ?_⟩
    · rcases List.mem_cons.mp hm with rfl | hm
      · cases ht
      · exact tm m hm t ht
    · show cntL (⟨[], [], 0⟩ :: l :: L) = cntL (l :: L) + 0
      rw [cntL_cons]
      show 0 + 0 + 0 + _ = _
      omega
  | lf hl =>
    have n : p ≠ opn ∧ p ≠ tilde ∧ p ≠ cls ∧ isBin p = false := by
      rcases hl with hn | ⟨k, _, rfl⟩
      · exact ⟨(nm_not hn).2.2.1, (nm_not hn).2.1, (nm_not hn).2.2.2, (nm_not hn).1⟩
      · exact ⟨shT_not.2.2.1, shT_not.2.1, shT_not.2.2.2, shT_not.1⟩
    have e2 : lstep (l :: L) p = takeL (leafT p) (l :: L) := by
      show (if p = tilde then _ else if p = opn then _ else if p = cls then _ else if isBin p = true then _ else _) = _
      rw [if_neg n.2.1, if_neg n.1, if_neg n.2.2.1, if_neg (by rw [n.2.2.2]; decide)]
    obtain ⟨h1, h2⟩ := leafT_ok hl
    obtain ⟨h3, h4⟩ := takeL_all tm h1
    rw [e2]
    refine ⟨h3, ?_⟩
    rw [h4, h2]
    have : notBr p = true := by
      unfold notBr
      rw [beq_eq_false_iff_ne.mpr n.1, beq_eq_false_iff_ne.mpr n.2.2.1]
      rfl
    rw [this]
    rfl
  | cl h1 =>
    obtain ⟨f, tl', rfl⟩ : ∃ f tl', st = f :: tl' := by
      cases st with
      | nil => exact absurd h1 (by decide)
      | cons a b => exact ⟨a, b, rfl⟩
    have hd := i.hd
    obtain ⟨x, ex⟩ := hd.fo0
    obtain ⟨a1, a2⟩ := fo_all 0 l.T l.W t0 hd.w
    rw [ex] at a1 a2
    have a2 : sumP [x] + 0 = sumP l.T + l.W.length := a2
    rw [sumP_cons] at a2
    have a2 : parts x + 0 + 0 = sumP l.T + l.W.length := a2
    have ell := i.len
    obtain ⟨l2, L, rfl⟩ : ∃ l2 L', L = l2 :: L' := by
      cases L with
      | nil =>
        rw [← ell] at h1
        exact absurd h1 (by show ¬ 1 < 0 + 1; omega)
      | cons a b => exact ⟨a, b, rfl⟩
    obtain ⟨h3, h4⟩ := takeL_all tl (a1 x (List.mem_singleton.mpr rfl))
    have e2 : lstep (l :: l2 :: L) cls = takeL x (l2 :: L) := by
      show takeL ((fo 0 l.T l.W).1.headD (.nm [])) (l2 :: L) = _
      rw [ex]
      rfl
    rw [e2]
    refine ⟨h3, ?_⟩
    rw [h4, cntL_cons l, hd.k rfl]
    show _ = _ + 0
    omega
  | @bn f tl' _ hb hnb hb1 =>
    have hd := i.hd
    obtain ⟨u, hu, rfl⟩ : ∃ u, u < 5 ∧ p = sg u := by
      rcases bin_in hb with rfl | rfl | rfl | rfl | rfl | rfl
      · exact absurd rfl hnb
      · exact ⟨0, by omega, rfl⟩
      · exact ⟨1, by omega, rfl⟩
      · exact ⟨2, by omega, rfl⟩
      · exact ⟨3, by omega, rfl⟩
      · exact ⟨4, by omega, rfl⟩
    obtain ⟨b1, b2, b3, b4, b5⟩ := bnd_sg hu
    have e2 : lstep (l :: L) (sg u) = ⟨(fo (rkF u) l.T l.W).1, u :: (fo (rkF u) l.T l.W).2, l.k⟩ :: L := by
      show (if sg u = tilde then _ else if sg u = opn then _ else if sg u = cls then _ else if isBin (sg u) = true then _ else _) = _
      rw [if_neg b4, if_neg b3, if_neg b5, if_pos hb, b2]
    obtain ⟨a1, a2⟩ := fo_all (rkF u) l.T l.W t0 hd.w
    rw [e2]
    refine ⟨fun m hm t ht => ?_, ?_⟩
    · rcases List.mem_cons.mp hm with rfl | hm
      · exact a1 t ht
      · exact tl m hm t ht
    · rw [cntL_cons, cntL_cons]
      show sumP (fo (rkF u) l.T l.W).1 + ((fo (rkF u) l.T l.W).2.length + 1) + l.k + cntL L = _
      have : notBr (sg u) = true := by
        unfold notBr
        rw [beq_eq_false_iff_ne.mpr b3, beq_eq_false_iff_ne.mpr b5]
        rfl
      rw [this]
      show _ = _ + 1
      omega
theorem lev_all : ∀ {ps : List Tx} {e : Bool} {L : List Lvl} {st : List Bool} {S : List Trm × List Tx}, LevI e L st → Sim e L S → scanOk e true st ps → TmL L → TmL (ps.foldl lstep L) ∧ cntL (ps.foldl lstep L) = cntL L + ps.countP notBr
  | [], e, L, st, S, i, m, h, t => ⟨t, rfl⟩
  | p :: ps, e, L, st, S, i, m, h, t => by
    obtain ⟨e', st', h1, h2⟩ := scan_step h
    obtain ⟨i', m'⟩ := lstep1 i m h1
    obtain ⟨t', c'⟩ := lstep_all i h1 t
    obtain ⟨t2, c2⟩ := lev_all (ps := ps) i' m' h2 t'
    refine ⟨t2, ?_⟩
    show cntL (ps.foldl lstep (lstep L p)) = _
    rw [c2, c', List.countP_cons]
    omega
theorem lev_read {ps : List Tx} (h : scanOk true true [false] ps) : ∃ l, lev ps = [l] ∧ fo 0 l.T l.W = ([rdT ps], []) := by
  obtain ⟨st', h1, i, m⟩ := lev_ok lev_start (S := ([], [])) .due h
  exact lev_read' h1 i m
theorem rd_ok {ps : List Tx} (h : scanOk true true [false] ps) : TmOk (rdT ps) ∧ parts (rdT ps) = ps.countP notBr := by
  obtain ⟨t, c⟩ := lev_all lev_start (S := ([], [])) .due h (fun l hl t ht => by
    rw [List.mem_singleton.mp hl] at ht
    cases ht)
  obtain ⟨st', h1, i, m⟩ := lev_ok lev_start (S := ([], [])) .due h
  obtain ⟨l, el, ef⟩ := lev_read h
  have e : ps.foldl lstep [⟨[], [], 0⟩] = [l] := el
  rw [e] at t c i
  obtain ⟨f, rfl⟩ : ∃ f, st' = [f] := by
    match st', h1 with
    | [f], _ => exact ⟨f, rfl⟩
  have hd := i.hd
  obtain ⟨a1, a2⟩ := fo_all 0 l.T l.W (t l (List.mem_singleton.mpr rfl)) hd.w
  rw [ef] at a1 a2
  have a2 : sumP [rdT ps] + 0 = sumP l.T + l.W.length := a2
  rw [sumP_cons] at a2
  have a2 : parts (rdT ps) + 0 + 0 = sumP l.T + l.W.length := a2
  refine ⟨a1 _ (List.mem_singleton.mpr rfl), ?_⟩
  rw [cntL_cons, hd.k rfl] at c
  have c : sumP l.T + l.W.length + 0 + 0 = 0 + 0 + 0 + 0 + ps.countP notBr := c
  omega
end TT
set_option Elab.async false
set_option linter.all false
set_option maxRecDepth 100000
set_option maxHeartbeats 4000000
/-! The law's own reader: folding, taking. -/
namespace K13
open PySem PySem.Spec PyProof.Rows L2 He NF RZ TT
/-- a heap and the data in it grow: all but Z stands -/
structure Gr (Z : Addr → Prop) (H G H' G' : Hp) : Prop where
  fr : ∀ a, ¬ Z a → H a ≠ none → H' a = H a
  al : ∀ a, H a ≠ none → H' a ≠ none
  g : Same G G'
  gh : Same G' H'
  n : ∀ a, H a ≠ none → G' a = G a
theorem Gr.refl {Z : Addr → Prop} {H G : Hp} (s : Same G H) : Gr Z H G H G := ⟨fun _ _ _ => rfl, fun _ h => h, Same.refl _, s, fun _ _ => rfl⟩
theorem Gr.trans {Z : Addr → Prop} {H G H1 G1 H2 G2 : Hp} (a : Gr Z H G H1 G1) (b : Gr Z H1 G1 H2 G2) : Gr Z H G H2 G2 :=
  ⟨fun x hz hx => (b.fr x hz (a.al x hx)).trans (a.fr x hz hx), fun x hx => b.al x (a.al x hx), Same.trans a.g b.g, b.gh, fun x hx => (b.n x (a.al x hx)).trans (a.n x hx)⟩
theorem Gr.wide {Z Z' : Addr → Prop} {H G H1 G1 : Hp} (a : Gr Z H G H1 G1) (h : ∀ x, Z x → H x ≠ none → Z' x) : Gr Z' H G H1 G1 :=
  ⟨fun x hz hx => a.fr x (fun z => hz (h x z hx)) hx, a.al, a.g, a.gh, a.n⟩
theorem Gr.new {Z : Addr → Prop} {H G : Hp} {p : Addr} {o : HO} (s : Same G H) (hp : H p = none) : Gr Z H G (upd H p o) G :=
  ⟨fun a _ ha => upd_ne fun e => ha (by rw [e]; exact hp), fun a ha => by rw [upd_ne fun e => ha (by rw [e]; exact hp)]; exact ha, Same.refl _, NF.Same.new s hp, fun _ _ => rfl⟩
theorem Gr.newD {Z : Addr → Prop} {H G : Hp} {p : Addr} {o : HO} (s : Same G H) (hp : H p = none) : Gr Z H G (upd H p o) (upd G p o) :=
  ⟨fun a _ ha => upd_ne fun e => ha (by rw [e]; exact hp), fun a ha => by rw [upd_ne fun e => ha (by rw [e]; exact hp)]; exact ha, NF.Same.new (Same.refl G) (L2.Same.free s hp), same_both s, fun a ha => upd_ne fun e => ha (by rw [e]; exact hp)⟩
theorem Gr.mut {Z : Addr → Prop} {H G : Hp} {p : Addr} {o : HO} (s : Same G H) (hz : Z p) (hg : G p = none) : Gr Z H G (upd H p o) G :=
  ⟨fun a ha _ => upd_ne fun e => ha (by rw [e]; exact hz), fun a ha => by
    by_cases e : a = p
    · rw [e, upd_same]
      exact Option.some_ne_none _
    · rw [upd_ne e]
      exact ha, Same.refl _, NF.Same.mut s hg, fun _ _ => rfl⟩
theorem Gr.keep {Z : Addr → Prop} {H G H' G' : Hp} (a : Gr Z H G H' G') {x : Addr} {o : HO} (hz : ¬ Z x) (h : H x = some o) : H' x = some o := by
  rw [a.fr x hz (by rw [h]; exact Option.some_ne_none _)]
  exact h
def wdV (u : Nat) : V := .str (wordS u)
def wdL (W : List Nat) : HO := .lst (W.reverse.map wdV)
def tmL (K : PySem.W.Frag) (G : Hp) (xs : List V) (T : List Trm) : Prop := DpAll K G xs (T.reverse.map (tmP false))
theorem tmL.mono {K : PySem.W.Frag} {G G' : Hp} {xs : List V} {T : List Trm} (h : tmL K G xs T) (s : Same G G') : tmL K G' xs T := dpall_mono s _ h
theorem tmL.len {K : PySem.W.Frag} {G : Hp} {xs : List V} {T : List Trm} (h : tmL K G xs T) : xs.length = T.length := by
  have := dpall_len h
  rw [List.length_map, List.length_reverse] at this
  exact this
theorem tmL.top {K : PySem.W.Frag} {G : Hp} {xs : List V} {t : Trm} {T : List Trm} (h : tmL K G xs (t :: T)) : ∃ ys x, xs = ys ++ [x] ∧ tmL K G ys T ∧ Dp K G x (tmP false t) := by
  unfold tmL at h
  rw [List.reverse_cons, List.map_append] at h
  obtain ⟨ys, zs, rfl, hy, hz⟩ := dpall_split h
  obtain ⟨x, rfl, hx⟩ := dpall_one hz
  exact ⟨ys, x, rfl, hy, hx⟩
theorem tmL.push {K : PySem.W.Frag} {G : Hp} {xs : List V} {t : Trm} {T : List Trm} {x : V} (h : tmL K G xs T) (hx : Dp K G x (tmP false t)) : tmL K G (xs ++ [x]) (t :: T) := by
  unfold tmL
  rw [List.reverse_cons, List.map_append]
  exact dpall_app h (.cons hx .nil)
def spFold (K : PySem.W.Frag) : Sp := fun vs H Q _ => ∃ (A B : Addr) (G : Hp) (xs : List V) (T : List Trm) (W : List Nat) (c : Nat), vs = [.ref A, .ref B, .int ((c : Nat) : Int)] ∧ A ≠ B ∧ Same G H ∧ G A = none ∧ G B = none ∧ H A = some (.lst xs) ∧ tmL K G xs T ∧ H B = some (wdL W) ∧ (∀ u ∈ W, u < 5) ∧ T.length = W.length + 1 ∧ W.length ≤ 1000 ∧
  ∀ H' G' xs', Gr (fun a => a = A ∨ a = B) H G H' G' → H' A = some (.lst xs') → tmL K G' xs' (fo c T W).1 → H' B = some (wdL (fo c T W).2) → Q .non H'
def spTakeL (K : PySem.W.Frag) : Sp := fun vs H Q _ => ∃ (L A B : Addr) (G : Hp) (xs : List V) (T : List Trm) (x : V) (t : Trm) (k : Nat), vs = [.ref L, x] ∧ L ≠ A ∧ Same G H ∧ G L = none ∧ G A = none ∧ H L = some (.lst [.ref A, .ref B, .int (k : Int)]) ∧ H A = some (.lst xs) ∧ tmL K G xs T ∧ Dp K G x (tmP false t) ∧ k ≤ 1000 ∧ T.length ≤ 1000 ∧
  ∀ H' G' xs', Gr (fun a => a = L ∨ a = A) H G H' G' → H' L = some (.lst [.ref A, .ref B, .int 0]) → H' A = some (.lst xs') → tmL K G' xs' (turnN k t :: T) → Q .non H'
theorem sc__law_fold : FnScope ["_law_terms", "_law_words", "_law_rank_here", "_law_ranks", "_law_second", "_law_first"] ["_law_terms", "_law_words", "_law_rank_here"] (defScope s__law_fold) := ⟨rfl, rfl, rfl, by decide +kernel, rfl, by decide +kernel, by decide +kernel⟩
theorem sc__law_take : FnScope ["_law_level", "_law_term_here", "_law_turn"] ["_law_level", "_law_term_here"] (defScope s__law_take) := ⟨rfl, rfl, rfl, by decide +kernel, rfl, by decide +kernel, by decide +kernel⟩
section
variable {P : Program} {w : World} {K : PySem.W.Frag} {mg : Str → Option Value} {base : Heap} {gs fs : List Str} {C : Addr} {tok : Tok}
theorem ok__law_fold {f : Addr} {fd : FuncData} (F : FunD K "_law_fold" "_law_fold" (defArgs s__law_fold) (defBody s__law_fold) (defScope s__law_fold) [] [] f fd) (T : Txt K mg gs FS) : FnOk P w K mg base CX0 1 f fd ["_law_terms", "_law_words", "_law_rank_here"] (spFold K) := by
  refine F.ok sc__law_fold (fun vs H Q E h => ?_) (fun cdv A outer s H vs Q E hr h => ?_)
  · obtain ⟨A, B, G, xs, T, W, c, rfl, _⟩ := h
    rfl
  · have hu1 : (A.deeper (envOfC "_law_fold" (defScope s__law_fold) s.heap.objs.size f cdv)).units + 1 < cLine := by
      have := hr.un
      omega
    obtain ⟨Aa, B, G, xs, Ts, Ws, c, rfl, AB, sG, gA, gB, hA, hT, hB, hw, hl, lW, q⟩ := h
    refine ⟨_, PSs.nox (pss_cons (ps_set (i := 3) sc__law_fold.nd rfl (Or.inl rfl) (pe_disp (pps_cons pe_str pe_int (pps_cons pe_str pe_int (pps_cons pe_str pe_int (pps_cons pe_str pe_int (pps_cons pe_str pe_int pps_nil))))) rfl rfl (fun z => nomatch z) (by decide))) (pss_one (ps_while PassesOwn.never (PW.pt (pw_and (pt_cmpR op_gt (pe_callB call_len_seq rfl (T.fr _ (by decide +kernel)) boot_len (pa_cons (pv 1) pa_nil)) pe_int (nomark _)) (pw_and1 (pt_cmpR op_ge (pe_dget hu1 (pv 3) (pe_ix (ixl (K := K)) (pv 1) (pe_un un_neg pe_int) fun _ _ => rfl) (fun _ _ => rfl)) (pv 2) (nomark _))))) (pss_cons (ps_set (i := 4) sc__law_fold.nd rfl (Or.inl rfl) (pe_bm0 PySem.F.plainAttrs_list PySem.F.slot_list_pop PySem.F.type_list_pop mt_pop (pv 0))) (pss_cons (ps_set (i := 5) sc__law_fold.nd rfl (Or.inl rfl) (pe_bm0 PySem.F.plainAttrs_list PySem.F.slot_list_pop PySem.F.type_list_pop mt_pop (pv 0))) (pss_one (ps_expr (pe_bm PySem.F.plainAttrs_list PySem.F.slot_list_append PySem.F.type_list_append mt_append (pv 0) (pa_cons (pe_tup (pa_cons (pe_bm0 PySem.F.plainAttrs_list PySem.F.slot_list_pop PySem.F.type_list_pop mt_pop (pv 1)) (pa_cons (pv 5) (pa_cons (pv 4) pa_nil)))) pa_nil))))))))), ?_⟩
    refine fun M hM => ⟨upd_same, rkD, rfl, (by decide), ?_⟩
    have g1 : Gr (fun a => a = Aa ∨ a = B) H G (upd (upd H M (.dK [])) M (.dK (mergeK [] rkD))) G :=
      ⟨fun a _ ha => by
        have n : a ≠ M := fun e => ha (by rw [e]; exact hM)
        rw [upd_ne n, upd_ne n], fun a ha => by
        have n : a ≠ M := fun e => ha (by rw [e]; exact hM)
        rw [upd_ne n, upd_ne n]
        exact ha, Same.refl _, NF.Same.mut (NF.Same.new sG hM) (L2.Same.free sG hM), fun _ _ => rfl⟩
    have hM2 := upd_same (H := upd H M (.dK [])) (a := M) (o := .dK (mergeK [] rkD))
    have MA : M ≠ Aa := fun e => by rw [e, hA] at hM; cases hM
    have MB : M ≠ B := fun e => by rw [e, hB] at hM; cases hM
    have hA1 : upd (upd H M (.dK [])) M (.dK (mergeK [] rkD)) Aa = some (.lst xs) := by
      rw [upd_ne (Ne.symm MA), upd_ne (Ne.symm MA)]
      exact hA
    have hB1 : upd (upd H M (.dK [])) M (.dK (mergeK [] rkD)) B = some (wdL Ws) := by
      rw [upd_ne (Ne.symm MB), upd_ne (Ne.symm MB)]
      exact hB
    generalize upd (upd H M (.dK [])) M (.dK (mergeK [] rkD)) = H1 at g1 hM2 hA1 hB1
    refine ⟨fun m σ Hc => ∃ Gc xs' T' W', Gr (fun a => a = Aa ∨ a = B) H G Hc Gc ∧ Hc M = some (.dK (mergeK [] rkD)) ∧ Hc Aa = some (.lst xs') ∧ tmL K Gc xs' T' ∧ Hc B = some (wdL W') ∧ (∀ u ∈ W', u < 5) ∧ T'.length = W'.length + 1 ∧ W'.length ≤ 1000 ∧ fo c T' W' = fo c Ts Ws ∧ m = W'.length ∧ ∃ v4 v5, σ = [some (.ref Aa), some (.ref B), some (.int (c : Int)), some (.ref M), v4, v5], ⟨_, G, xs, Ts, Ws, g1, hM2, hA1, hT, hB1, hw, hl, lW, rfl, rfl, none, none, rfl⟩, ?_⟩
    rintro m σ Hc ⟨Gc, xs', T', W', gc, hMc, hAc, hTc, hBc, hwc, hlc, lWc, hfc, rfl, v4, v5, rfl⟩
    have gA' : Gc Aa = none := (gc.n Aa (by rw [hA]; exact Option.some_ne_none _)).trans gA
    have gB' : Gc B = none := (gc.n B (by rw [hB]; exact Option.some_ne_none _)).trans gB
    refine ⟨_, rfl, B, _, rfl, .inl (SqL.of hBc), _, _, rfl, rfl, _, rfl, ?_⟩
    rw [List.length_map, List.length_reverse]
    cases W' with
    | nil =>
      refine iteF' (by decide) ?_
      refine iteF ?_
      have hfc : (T', []) = fo c Ts Ws := by
        rw [← hfc]
        match T' with
        | [] => rfl
        | [a] => rfl
        | a :: b :: T => rfl
      refine q Hc Gc xs' gc hAc ?_ ?_
      · rw [← hfc]
        exact hTc
      · rw [← hfc]
        exact hBc
    | cons u W' =>
      refine iteT' (decide_eq_true (by rw [List.length_cons]; omega)) ?_
      have er : (u :: W').reverse.map wdV = W'.reverse.map wdV ++ [wdV u] := by rw [List.reverse_cons, List.map_append]; rfl
      have hBc' : Hc B = some (.lst (W'.reverse.map wdV ++ [wdV u])) := by
        rw [hBc]
        unfold wdL
        rw [er]
      have u5 := hwc u (List.mem_cons_self ..)
      refine ⟨_, rfl, _, rfl, _, rfl, B, _, _, _, rfl, rfl, SqL.of hBc', atI_last _ _, M, _, rfl, .inl ⟨_, Sum.inr (wordS u), .inl hMc, rfl, (rkD_at u5).symm⟩, _, rfl, _, _, rfl, rfl, _, rfl, ?_⟩
      match T', hlc, hTc, hfc with
      | b :: a :: T', hlc, hTc, hfc =>
        have hfc : (if c ≤ rk u then fo c (.bi u a b :: T') W' else (b :: a :: T', u :: W')) = fo c Ts Ws := hfc
        by_cases hcu : c ≤ rk u
        · rw [if_pos hcu] at hfc
          refine iteT' (decide_eq_true (by omega)) ?_
          refine ⟨fun σ' Hc' => ∃ m', m' < (u :: W').length ∧ ∃ Gc xs' T' W', Gr (fun a => a = Aa ∨ a = B) H G Hc' Gc ∧ Hc' M = some (.dK (mergeK [] rkD)) ∧ Hc' Aa = some (.lst xs') ∧ tmL K Gc xs' T' ∧ Hc' B = some (wdL W') ∧ (∀ u ∈ W', u < 5) ∧ T'.length = W'.length + 1 ∧ W'.length ≤ 1000 ∧ fo c T' W' = fo c Ts Ws ∧ m' = W'.length ∧ ∃ v4 v5, σ' = [some (.ref Aa), some (.ref B), some (.int (c : Int)), some (.ref M), v4, v5], fun σ' G' y => y, ?_⟩
          obtain ⟨ys, vb, rfl, hTy, hvb⟩ := hTc.top
          obtain ⟨zs, va, rfl, hTz, hva⟩ := hTy.top
          have lz := hTz.len
          rw [List.length_cons, List.length_cons, List.length_cons] at hlc
          rw [List.length_cons] at lWc
          refine ⟨_, rfl, .inl ⟨rfl, _, SqL.of hAc⟩, Aa, _, vb, rfl, rfl, hAc, by simp, ?_⟩
          rw [List.dropLast_concat]
          have g2 : Gr (fun a => a = Aa ∨ a = B) Hc Gc (upd Hc Aa (.lst (zs ++ [va]))) Gc := Gr.mut gc.gh (.inl rfl) gA'
          have hA2 := upd_same (H := Hc) (a := Aa) (o := .lst (zs ++ [va]))
          have hB2 : upd Hc Aa (.lst (zs ++ [va])) B = _ := (upd_ne (Ne.symm AB)).trans hBc'
          have hM3 : upd Hc Aa (.lst (zs ++ [va])) M = _ := (upd_ne MA).trans hMc
          generalize upd Hc Aa (.lst (zs ++ [va])) = H2 at g2 hA2 hB2 hM3
          refine ⟨_, rfl, .inl ⟨rfl, _, SqL.of hA2⟩, Aa, _, va, rfl, rfl, hA2, by simp, ?_⟩
          rw [List.dropLast_concat]
          have g3 : Gr (fun a => a = Aa ∨ a = B) H2 Gc (upd H2 Aa (.lst zs)) Gc := Gr.mut g2.gh (.inl rfl) gA'
          have hA3 := upd_same (H := H2) (a := Aa) (o := .lst zs)
          have hB3 : upd H2 Aa (.lst zs) B = _ := (upd_ne (Ne.symm AB)).trans hB2
          have hM4 : upd H2 Aa (.lst zs) M = _ := (upd_ne MA).trans hM3
          generalize upd H2 Aa (.lst zs) = H3 at g3 hA3 hB3 hM4
          refine ⟨_, rfl, .inl ⟨rfl, _, SqL.of hA3⟩, ?_⟩
          refine ⟨_, rfl, .inl ⟨rfl, _, SqL.of hB3⟩, B, _, wdV u, rfl, rfl, hB3, by simp, ?_⟩
          rw [List.dropLast_concat]
          have g4 : Gr (fun a => a = Aa ∨ a = B) H3 Gc (upd H3 B (.lst (W'.reverse.map wdV))) Gc := Gr.mut g3.gh (.inr rfl) gB'
          have hB4 := upd_same (H := H3) (a := B) (o := .lst (W'.reverse.map wdV))
          have hA4 : upd H3 B (.lst (W'.reverse.map wdV)) Aa = _ := (upd_ne AB).trans hA3
          have hM5 : upd H3 B (.lst (W'.reverse.map wdV)) M = _ := (upd_ne MB).trans hM4
          generalize upd H3 B (.lst (W'.reverse.map wdV)) = H4 at g4 hA4 hB4 hM5
          refine ⟨_, rfl, _, rfl, (by show 3 ≤ sizeLine; decide), fun p hp => ?_⟩
          have pA : Aa ≠ p := fun e => by rw [← e, hA4] at hp; cases hp
          have pB : B ≠ p := fun e => by rw [← e, hB4] at hp; cases hp
          have pM : M ≠ p := fun e => by rw [← e, hM5] at hp; cases hp
          have g5 : Gr (fun a => a = Aa ∨ a = B) H4 Gc (upd H4 p (.tup [wdV u, va, vb])) (upd Gc p (.tup [wdV u, va, vb])) := Gr.newD g4.gh hp
          have hA5 : upd H4 p (.tup [wdV u, va, vb]) Aa = _ := (upd_ne pA).trans hA4
          have hB5 : upd H4 p (.tup [wdV u, va, vb]) B = _ := (upd_ne pB).trans hB4
          have hM6 : upd H4 p (.tup [wdV u, va, vb]) M = _ := (upd_ne pM).trans hM5
          have gA5 : upd Gc p (.tup [wdV u, va, vb]) Aa = none := (upd_ne pA).trans gA'
          have hT5 := hTz.mono g5.g
          have hx5 : Dp K (upd Gc p (.tup [wdV u, va, vb])) (.ref p) (tmP false (.bi u a b)) := .tup (SqT.of upd_same) (.cons (.str _) (.cons (dp_mono g5.g _ hva) (.cons (dp_mono g5.g _ hvb) .nil)))
          generalize upd Gc p (.tup [wdV u, va, vb]) = G5 at g5 gA5 hT5 hx5
          generalize upd H4 p (.tup [wdV u, va, vb]) = H5 at g5 hA5 hB5 hM6
          refine ⟨Aa, _, _, rfl, rfl, hA5, Nat.lt_of_le_of_lt (show zs.length ≤ 2000 by omega) (by decide), ?_⟩
          have g6 : Gr (fun a => a = Aa ∨ a = B) H5 G5 (upd H5 Aa (.lst (zs ++ [.ref p]))) G5 := Gr.mut g5.gh (.inl rfl) gA5
          refine ⟨W'.length, Nat.lt_succ_self _, G5, zs ++ [.ref p], .bi u a b :: T', W', gc.trans (g2.trans (g3.trans (g4.trans (g5.trans g6)))), (upd_ne MA).trans hM6, upd_same, hT5.push hx5, (upd_ne (Ne.symm AB)).trans hB5, fun v hv => hwc v (List.mem_cons_of_mem _ hv), by rw [List.length_cons]; omega, by omega, hfc, rfl, _, _, rfl⟩
        · rw [if_neg hcu] at hfc
          refine iteF' (decide_eq_false (by omega)) ?_
          refine q Hc Gc xs' gc hAc ?_ ?_
          · rw [← hfc]
            exact hTc
          · rw [← hfc]
            exact hBc
theorem ok__law_take {f : Addr} {fd : FuncData} (F : FunD K "_law_take" "_law_take" (defArgs s__law_take) (defBody s__law_take) (defScope s__law_take) [] [] f fd) (T : Txt K mg gs FS) : FnOk P w K mg base CX0 1 f fd ["_law_level", "_law_term_here"] (spTakeL K) := by
  refine F.ok sc__law_take (fun vs H Q E h => ?_) (fun cdv A outer s H vs Q E hr h => ?_)
  · obtain ⟨L, A, B, G, xs, T, x, t, k, rfl, _⟩ := h
    rfl
  · obtain ⟨L, Aa, B, G, xs, Ts, x, t, k, rfl, LA, sG, gL, gA, hL, hA, hT, hx, hk, lT, q⟩ := h
    refine ⟨_, PSs.nox (pss_cons (ps_for PassesOwn.never rfl (pi_range1 rfl (T.fr _ (by decide +kernel)) (pa_cons (pe_ix (ixl (K := K)) (pv 0) pe_int fun _ _ => rfl) pa_nil)) (pg_name (i := 2) sc__law_take.nd rfl (Or.inl rfl)) (pss_one (ps_set (i := 1) sc__law_take.nd rfl (Or.inl rfl) (pe_tup (pa_cons pe_str (pa_cons (pv 1) pa_nil)))))) (pss_cons (ps_asg pe_int (pg_sub (pv 0) pe_int set_list)) (pss_one (ps_expr (pe_bm PySem.F.plainAttrs_list PySem.F.slot_list_append PySem.F.type_list_append mt_append (pe_ix (ixl (K := K)) (pv 0) pe_int fun _ _ => rfl) (pa_cons (pv 1) pa_nil)))))), ?_⟩
    refine ⟨_, rfl, L, _, _, _, rfl, rfl, SqL.of hL, atI_nat (j := 2) rfl, (k : Int), rfl, by omega, by omega, ?_⟩
    rw [Int.toNat_natCast]
    refine for_range (fun j σ Hc => ∃ Gc x' t', Gr (fun a => a = L ∨ a = Aa) H G Hc Gc ∧ Hc L = some (.lst [.ref Aa, .ref B, .int (k : Int)]) ∧ Hc Aa = some (.lst xs) ∧ Dp K Gc x' (tmP false t') ∧ turnN (k - j) t' = turnN k t ∧ ∃ v2, σ = [some (.ref L), some x', v2]) ⟨G, x, t, Gr.refl sG, hL, hA, hx, rfl, none, rfl⟩ ?_ ?_
    · rintro j σ Hc hj ⟨Gc, x', t', gc, hLc, hAc, hxc, ht, v2, rfl⟩
      refine ⟨_, rfl, (by show 2 ≤ sizeLine; decide), fun p hp => ?_⟩
      have pL : L ≠ p := fun e => by rw [← e, hLc] at hp; cases hp
      have pA : Aa ≠ p := fun e => by rw [← e, hAc] at hp; cases hp
      have g2 : Gr (fun a => a = L ∨ a = Aa) Hc Gc (upd Hc p (.tup [.str "turn", x'])) (upd Gc p (.tup [.str "turn", x'])) := Gr.newD gc.gh hp
      refine ⟨_, .ref p, .tn t', gc.trans g2, (upd_ne pL).trans hLc, (upd_ne pA).trans hAc, .tup (SqT.of upd_same) (.cons (.str _) (.cons (dp_mono g2.g _ hxc) .nil)), ?_, _, rfl⟩
      rw [← ht, show k - j = (k - (j + 1)) + 1 by omega]
      rfl
    · rintro σ Hc ⟨Gc, x', t', gc, hLc, hAc, hxc, ht, v2, rfl⟩
      rw [Nat.sub_self] at ht
      have ht : t' = turnN k t := ht
      subst ht
      have gL' : Gc L = none := (gc.n L (by rw [hL]; exact Option.some_ne_none _)).trans gL
      have gA' : Gc Aa = none := (gc.n Aa (by rw [hA]; exact Option.some_ne_none _)).trans gA
      refine ⟨_, rfl, L, _, 2, 2, rfl, rfl, hLc, rfl, ?_⟩
      have g2 : Gr (fun a => a = L ∨ a = Aa) Hc Gc (upd Hc L (.lst [.ref Aa, .ref B, .int 0])) Gc := Gr.mut gc.gh (.inl rfl) gL'
      have hL2 := upd_same (H := Hc) (a := L) (o := .lst [.ref Aa, .ref B, .int 0])
      have hA2 : upd Hc L (.lst [.ref Aa, .ref B, .int 0]) Aa = _ := (upd_ne (Ne.symm LA)).trans hAc
      rw [show ([V.ref Aa, V.ref B, V.int (k : Int)] : List V).set 2 (V.int 0) = [.ref Aa, .ref B, .int 0] from rfl]
      generalize upd Hc L (.lst [.ref Aa, .ref B, .int 0]) = H2 at g2 hL2 hA2
      refine ⟨_, rfl, L, _, _, _, rfl, rfl, SqL.of hL2, atI_nat (j := 0) rfl, .inl ⟨rfl, _, SqL.of hA2⟩, _, rfl, Aa, _, _, rfl, rfl, hA2, ?_, ?_⟩
      · have := hT.len
        exact Nat.lt_of_le_of_lt (show xs.length ≤ 1000 by omega) (by decide)
      · have g3 : Gr (fun a => a = L ∨ a = Aa) H2 Gc (upd H2 Aa (.lst (xs ++ [x']))) Gc := Gr.mut g2.gh (.inr rfl) gA'
        exact q _ Gc (xs ++ [x']) (gc.trans (g2.trans g3)) ((upd_ne LA).trans hL2) upd_same ((hT.mono gc.g).push hxc)
end
end K13
set_option Elab.async false
set_option linter.all false
set_option maxRecDepth 100000
set_option maxHeartbeats 4000000
/-! The law's own reader: levels, an operand. -/
namespace K13
open PySem PySem.Spec PyProof.Rows L2 He NF RZ TT
/-- a level's three objects -/
structure LvAt (K : PySem.W.Frag) (H G : Hp) (q : Addr × Addr × Addr) (l : Lvl) : Prop where
  hL : H q.1 = some (.lst [.ref q.2.1, .ref q.2.2, .int (l.k : Int)])
  hT : ∃ xs, H q.2.1 = some (.lst xs) ∧ tmL K G xs l.T
  hW : H q.2.2 = some (wdL l.W)
  nL : G q.1 = none
  nT : G q.2.1 = none
  nW : G q.2.2 = none
def adrs (qs : List (Addr × Addr × Addr)) : List Addr := qs.flatMap fun q => [q.1, q.2.1, q.2.2]
theorem adrs_cons (q : Addr × Addr × Addr) (qs : List (Addr × Addr × Addr)) : adrs (q :: qs) = [q.1, q.2.1, q.2.2] ++ adrs qs := by
  unfold adrs
  rw [List.flatMap_cons]
inductive LvAll (K : PySem.W.Frag) (H G : Hp) : List (Addr × Addr × Addr) → List Lvl → Prop
  | nil : LvAll K H G [] []
  | cons {q l qs L} : LvAt K H G q l → LvAll K H G qs L → LvAll K H G (q :: qs) (l :: L)
structure Lvs (K : PySem.W.Frag) (A : Addr) (H G : Hp) (qs : List (Addr × Addr × Addr)) (L : List Lvl) : Prop where
  gh : Same G H
  nA : G A = none
  hA : H A = some (.lst (qs.reverse.map fun q => .ref q.1))
  nd : (A :: adrs qs).Nodup
  all : LvAll K H G qs L
theorem LvAll.len {K : PySem.W.Frag} {H G : Hp} {qs : List (Addr × Addr × Addr)} {L : List Lvl} (h : LvAll K H G qs L) : qs.length = L.length := by
  induction h with
  | nil => rfl
  | cons _ _ ih => rw [List.length_cons, List.length_cons, ih]
theorem Gr.thn {Z Z' : Addr → Prop} {H G H1 G1 H2 G2 : Hp} (a : Gr Z H G H1 G1) (b : Gr Z' H1 G1 H2 G2) (h : ∀ x, Z' x → Z x ∨ H x = none) : Gr Z H G H2 G2 :=
  ⟨fun x hz hx => (b.fr x (fun z => (h x z).elim hz hx) (a.al x hx)).trans (a.fr x hz hx), fun x hx => b.al x (a.al x hx), Same.trans a.g b.g, b.gh, fun x hx => (b.n x (a.al x hx)).trans (a.n x hx)⟩
theorem some_ne {o : HO} {x : Option HO} (h : x = some o) : x ≠ none := by rw [h]; exact Option.some_ne_none _
theorem LvAt.keep {K : PySem.W.Frag} {Z : Addr → Prop} {H G H' G' : Hp} {q : Addr × Addr × Addr} {l : Lvl} (h : LvAt K H G q l) (g : Gr Z H G H' G') (n1 : ¬ Z q.1) (n2 : ¬ Z q.2.1) (n3 : ¬ Z q.2.2) : LvAt K H' G' q l := by
  obtain ⟨xs, hx, hd⟩ := h.hT
  exact ⟨g.keep n1 h.hL, ⟨xs, g.keep n2 hx, hd.mono g.g⟩, g.keep n3 h.hW, (g.n _ (some_ne h.hL)).trans h.nL, (g.n _ (some_ne hx)).trans h.nT, (g.n _ (some_ne h.hW)).trans h.nW⟩
theorem LvAll.keep {K : PySem.W.Frag} {Z : Addr → Prop} {H G H' G' : Hp} {qs : List (Addr × Addr × Addr)} {L : List Lvl} (h : LvAll K H G qs L) (g : Gr Z H G H' G') (n : ∀ x ∈ adrs qs, ¬ Z x) : LvAll K H' G' qs L := by
  induction h with
  | nil => exact .nil
  | @cons q l qs L h1 _ ih =>
    rw [adrs_cons] at n
    exact .cons (h1.keep g (n _ (List.mem_append_left _ (by simp))) (n _ (List.mem_append_left _ (by simp))) (n _ (List.mem_append_left _ (by simp)))) (ih fun x hx => n x (List.mem_append_right _ hx))
theorem LvAll.alive {K : PySem.W.Frag} {H G : Hp} {qs : List (Addr × Addr × Addr)} {L : List Lvl} (h : LvAll K H G qs L) : ∀ x ∈ adrs qs, H x ≠ none := by
  induction h with
  | nil => exact fun x hx => nomatch hx
  | @cons q l qs L h1 _ ih =>
    intro x hx
    rw [adrs_cons] at hx
    rcases List.mem_append.mp hx with hx | hx
    · simp only [List.mem_cons, List.not_mem_nil, or_false] at hx
      rcases hx with rfl | rfl | rfl
      · exact some_ne h1.hL
      · obtain ⟨xs, hx, _⟩ := h1.hT
        exact some_ne hx
      · exact some_ne h1.hW
    · exact ih x hx
/-- the addresses of the innermost level are apart -/
theorem Lvs.apart {K : PySem.W.Frag} {A : Addr} {H G : Hp} {q : Addr × Addr × Addr} {qs : List (Addr × Addr × Addr)} {L : List Lvl} (h : Lvs K A H G (q :: qs) L) :
    A ≠ q.1 ∧ A ≠ q.2.1 ∧ A ≠ q.2.2 ∧ q.1 ≠ q.2.1 ∧ q.1 ≠ q.2.2 ∧ q.2.1 ≠ q.2.2 ∧ (∀ x ∈ adrs qs, x ≠ q.1 ∧ x ≠ q.2.1 ∧ x ≠ q.2.2 ∧ x ≠ A) ∧ (A :: adrs qs).Nodup := by
  have := h.nd
  rw [adrs_cons] at this
  simp only [List.cons_append, List.nil_append, List.nodup_cons, List.mem_cons, not_or] at this
  obtain ⟨⟨h1, h2, h3, h4⟩, ⟨h5, h6, h7⟩, ⟨h8, h9⟩, h10, h11⟩ := this
  refine ⟨h1, h2, h3, h5, h6, h8, fun x hx => ⟨fun e => h7 (e ▸ hx), fun e => h9 (e ▸ hx), fun e => h10 (e ▸ hx), fun e => h4 (e ▸ hx)⟩, List.nodup_cons.mpr ⟨h4, h11⟩⟩
/-- the innermost level changes -/
theorem Lvs.set {K : PySem.W.Frag} {A : Addr} {Z : Addr → Prop} {H G H' G' : Hp} {q : Addr × Addr × Addr} {qs : List (Addr × Addr × Addr)} {l l' : Lvl} {L : List Lvl} (h : Lvs K A H G (q :: qs) (l :: L)) (g : Gr Z H G H' G') (hz : ∀ x, Z x → x = q.1 ∨ x = q.2.1 ∨ x = q.2.2) (hl : LvAt K H' G' q l') : Lvs K A H' G' (q :: qs) (l' :: L) := by
  obtain ⟨a1, a2, a3, _, _, _, a4, _⟩ := h.apart
  refine ⟨g.gh, (g.n A (some_ne h.hA)).trans h.nA, g.keep (fun z => (hz A z).elim a1 fun z => z.elim a2 a3) h.hA, h.nd, ?_⟩
  cases h.all with
  | cons _ h2 => exact .cons hl (h2.keep g fun x hx z => (hz x z).elim (a4 x hx).1 fun z => z.elim (a4 x hx).2.1 (a4 x hx).2.2.1)
theorem Lvs.hd {K : PySem.W.Frag} {A : Addr} {H G : Hp} {q : Addr × Addr × Addr} {qs : List (Addr × Addr × Addr)} {l : Lvl} {L : List Lvl} (h : Lvs K A H G (q :: qs) (l :: L)) : LvAt K H G q l := by
  cases h.all with
  | cons h _ => exact h
theorem Lvs.keep {K : PySem.W.Frag} {A : Addr} {Z : Addr → Prop} {H G H' G' : Hp} {qs : List (Addr × Addr × Addr)} {L : List Lvl} (h : Lvs K A H G qs L) (g : Gr Z H G H' G') (n : ∀ x ∈ A :: adrs qs, ¬ Z x) : Lvs K A H' G' qs L :=
  ⟨g.gh, (g.n A (some_ne h.hA)).trans h.nA, g.keep (n A (List.mem_cons_self ..)) h.hA, h.nd, h.all.keep g fun x hx => n x (List.mem_cons_of_mem _ hx)⟩
/-- bounds -/
def Bd (n : Nat) (L : List Lvl) : Prop := L.length ≤ n ∧ ∀ l ∈ L, l.k ≤ n ∧ l.T.length ≤ n ∧ l.W.length ≤ n
theorem fo_len (c : Nat) : ∀ (T : List Trm) (W : List Nat), (fo c T W).1.length ≤ T.length ∧ (fo c T W).2.length ≤ W.length
  | [], W => by cases W <;> exact ⟨Nat.le_refl _, Nat.le_refl _⟩
  | [a], W => by cases W <;> exact ⟨Nat.le_refl _, Nat.le_refl _⟩
  | b :: a :: T, [] => ⟨Nat.le_refl _, Nat.le_refl _⟩
  | b :: a :: T, u :: W => by
    show (if c ≤ rk u then fo c (.bi u a b :: T) W else (b :: a :: T, u :: W)).1.length ≤ _ ∧ (if c ≤ rk u then fo c (.bi u a b :: T) W else (b :: a :: T, u :: W)).2.length ≤ _
    split
    · obtain ⟨h1, h2⟩ := fo_len c (.bi u a b :: T) W
      rw [List.length_cons] at h1
      rw [List.length_cons, List.length_cons, List.length_cons]
      exact ⟨by omega, by omega⟩
    · exact ⟨Nat.le_refl _, Nat.le_refl _⟩
theorem takeL_bd {n : Nat} {L : List Lvl} {t : Trm} (h : Bd n L) : Bd (n + 1) (takeL t L) := by
  cases L with
  | nil => exact ⟨Nat.zero_le _, fun l hl => nomatch hl⟩
  | cons l L =>
    refine ⟨by have := h.1; show L.length + 1 ≤ _; rw [List.length_cons] at this; omega, fun m hm => ?_⟩
    rcases List.mem_cons.mp hm with rfl | hm
    · obtain ⟨a, b, c⟩ := h.2 l (List.mem_cons_self ..)
      exact ⟨Nat.zero_le _, by show l.T.length + 1 ≤ _; omega, by show l.W.length ≤ _; omega⟩
    · obtain ⟨a, b, c⟩ := h.2 m (List.mem_cons_of_mem _ hm)
      exact ⟨by omega, by omega, by omega⟩
theorem lstep_bd {n : Nat} {L : List Lvl} {p : TT.Tx} (h : Bd n L) : Bd (n + 1) (lstep L p) := by
  cases L with
  | nil => exact ⟨Nat.zero_le _, fun l hl => nomatch hl⟩
  | cons l L =>
    have h0 := h.2 l (List.mem_cons_self ..)
    have h1 := h.1
    rw [List.length_cons] at h1
    have hr : ∀ m ∈ L, m.k ≤ n + 1 ∧ m.T.length ≤ n + 1 ∧ m.W.length ≤ n + 1 := fun m hm => by
      obtain ⟨a, b, c⟩ := h.2 m (List.mem_cons_of_mem _ hm)
      exact ⟨by omega, by omega, by omega⟩
    show Bd (n + 1) (if p = tilde then _ else if p = opn then _ else if p = cls then _ else if isBin p = true then _ else _)
    split
    · refine ⟨by rw [List.length_cons]; omega, fun m hm => ?_⟩
      rcases List.mem_cons.mp hm with rfl | hm
      · exact ⟨Nat.succ_le_succ h0.1, Nat.le_succ_of_le h0.2.1, Nat.le_succ_of_le h0.2.2⟩
      · exact hr m hm
    · split
      · refine ⟨by rw [List.length_cons, List.length_cons]; omega, fun m hm => ?_⟩
        rcases List.mem_cons.mp hm with rfl | hm
        · exact ⟨Nat.zero_le _, Nat.zero_le _, Nat.zero_le _⟩
        · rcases List.mem_cons.mp hm with rfl | hm
          · exact ⟨by omega, by omega, by omega⟩
          · exact hr m hm
      · split
        · exact takeL_bd ⟨by omega, fun m hm => h.2 m (List.mem_cons_of_mem _ hm)⟩
        · split
          · refine ⟨by rw [List.length_cons]; omega, fun m hm => ?_⟩
            rcases List.mem_cons.mp hm with rfl | hm
            · obtain ⟨a, b⟩ := fo_len (rkF (wix p)) l.T l.W
              exact ⟨by show l.k ≤ _; omega, by show (fo (rkF (wix p)) l.T l.W).1.length ≤ _; omega, by show (fo (rkF (wix p)) l.T l.W).2.length + 1 ≤ _; omega⟩
            · exact hr m hm
          · exact takeL_bd h
theorem fold_bd : ∀ {ps : List TT.Tx} {n : Nat} {L : List Lvl}, Bd n L → Bd (n + ps.length) (ps.foldl lstep L)
  | [], n, L, h => h
  | p :: ps, n, L, h => by
    have := fold_bd (ps := ps) (lstep_bd (p := p) h)
    rw [List.length_cons, show n + (ps.length + 1) = n + 1 + ps.length by omega]
    exact this
theorem Bd.mono {m n : Nat} {L : List Lvl} (h : Bd m L) (l : m ≤ n) : Bd n L := ⟨Nat.le_trans h.1 l, fun x hx => ⟨Nat.le_trans (h.2 x hx).1 l, Nat.le_trans (h.2 x hx).2.1 l, Nat.le_trans (h.2 x hx).2.2 l⟩⟩
/-- a level more -/
theorem Lvs.push {K : PySem.W.Frag} {A : Addr} {H G : Hp} {qs : List (Addr × Addr × Addr)} {L : List Lvl} (h : Lvs K A H G qs L) {a b c : Addr} (ha : H a = none) (hb : upd H a (.lst []) b = none) (hc : upd (upd H a (.lst []) ) b (.lst []) c = none) :
    Lvs K A (upd (upd (upd (upd H a (.lst [])) b (.lst [])) c (.lst [.ref a, .ref b, .int 0])) A (.lst (qs.reverse.map (fun q => V.ref q.1) ++ [.ref c]))) G ((c, a, b) :: qs) (⟨[], [], 0⟩ :: L) := by
  have ab : a ≠ b := fun e => by rw [← e, upd_same] at hb; cases hb
  have hb0 : H b = none := by rwa [upd_ne (Ne.symm ab)] at hb
  have bc : b ≠ c := fun e => by rw [← e, upd_same] at hc; cases hc
  have hc1 : upd H a (.lst []) c = none := by rwa [upd_ne (Ne.symm bc)] at hc
  have ac : a ≠ c := fun e => by rw [← e, upd_same] at hc1; cases hc1
  have hc0 : H c = none := by rwa [upd_ne (Ne.symm ac)] at hc1
  have Aa : A ≠ a := fun e => by rw [← e, h.hA] at ha; cases ha
  have Ab : A ≠ b := fun e => by rw [← e, h.hA] at hb0; cases hb0
  have Ac : A ≠ c := fun e => by rw [← e, h.hA] at hc0; cases hc0
  have al := h.all.alive
  have g : Gr (fun x => x = A) H G (upd (upd (upd (upd H a (.lst [])) b (.lst [])) c (.lst [.ref a, .ref b, .int 0])) A (.lst (qs.reverse.map (fun q => V.ref q.1) ++ [.ref c]))) G := by
    have g1 : Gr (fun x => x = A) H G (upd H a (.lst [])) G := Gr.new h.gh ha
    have g2 : Gr (fun x => x = A) (upd H a (.lst [])) G (upd (upd H a (.lst [])) b (.lst [])) G := Gr.new g1.gh hb
    have g3 : Gr (fun x => x = A) (upd (upd H a (.lst [])) b (.lst [])) G (upd (upd (upd H a (.lst [])) b (.lst [])) c (.lst [.ref a, .ref b, .int 0])) G := Gr.new g2.gh hc
    exact g1.trans (g2.trans (g3.trans (Gr.mut g3.gh rfl h.nA)))
  have nd := h.nd
  have Anq : A ∉ adrs qs := (List.nodup_cons.mp nd).1
  refine ⟨g.gh, h.nA, ?_, ?_, .cons ⟨?_, ⟨[], ?_, .nil⟩, ?_, L2.Same.free h.gh hc0, L2.Same.free h.gh ha, L2.Same.free h.gh hb0⟩ (h.all.keep g fun x hx e => Anq (by rw [← e]; exact hx))⟩
  · rw [upd_same, List.reverse_cons, List.map_append]
    rfl
  · rw [adrs_cons]
    simp only [List.cons_append, List.nil_append, List.nodup_cons, List.mem_cons, not_or]
    refine ⟨⟨Ac, Aa, Ab, Anq⟩, ⟨Ne.symm ac, Ne.symm bc, fun z => al c z hc0⟩, ⟨ab, fun z => al a z ha⟩, fun z => al b z hb0, (List.nodup_cons.mp nd).2⟩
  · show upd _ A _ c = _
    rw [upd_ne (Ne.symm Ac), upd_same]
    rfl
  · show upd _ A _ a = _
    rw [upd_ne (Ne.symm Aa), upd_ne ac, upd_ne ab, upd_same]
  · show upd _ A _ b = _
    rw [upd_ne (Ne.symm Ab), upd_ne bc, upd_same]
    rfl
def ZL (A : Addr) (qs : List (Addr × Addr × Addr)) (x : Addr) : Prop := x ∈ A :: adrs qs
/-- the law's levels behind an operand -/
def lopQ (K : PySem.W.Frag) (A : Addr) (H G : Hp) (qs : List (Addr × Addr × Addr)) (L : List Lvl) (i : Nat) (r : TT.Tx) (Q : VK) : Nat ⊕ Nat → Prop
  | .inl k => ∀ p H' G', Gr (ZL A qs) H G H' G' → SqT K H' p [.int ((i + (pre r).length + k : Nat) : Int), .bl false] → Q (.ref p) H'
  | .inr m => ∀ p H' G' qs', Gr (ZL A qs) H G H' G' → (∀ x ∈ adrs qs', x ∈ adrs qs ∨ H x = none) → Lvs K A H' G' qs' (lstep (((pre r).map fun c => [c]).foldl lstep L) ((aft r).take m)) → SqT K H' p [.int ((i + (pre r).length + m : Nat) : Int), .bl true] → Q (.ref p) H'
def spLOper (K : PySem.W.Frag) : Sp := fun vs H Q _ => ∃ (A : Addr) (G : Hp) (qs : List (Addr × Addr × Addr)) (L : List Lvl) (t : TT.Tx) (i : Nat) (r : TT.Tx), vs = [.str (tx t), .int (i : Int), .ref A] ∧ Lvs K A H G qs L ∧ L ≠ [] ∧ Bd (i + 1) L ∧ t.length ≤ 900 ∧ t.drop i = r ∧ i ≤ t.length ∧ lopQ K A H G qs L i r Q (leafN (aft r))
theorem sc__law_operand : FnScope ["_law_text", "_law_place", "_law_levels", "_law_sign", "_law_end", "_law_figure"] ["_law_text", "_law_place", "_law_levels"] (defScope s__law_operand) := ⟨rfl, rfl, rfl, by decide +kernel, rfl, by decide +kernel, by decide +kernel⟩
theorem eqV_tx (p q : TT.Tx) : eqV (V.str (tx p)) (V.str (tx q)) = (q == p) := by
  show decide (tx p = tx q) = _
  by_cases e : q = p
  · rw [e, decide_eq_true rfl, beq_self_eq_true]
  · rw [decide_eq_false fun z => e (tx_inj z).symm, beq_eq_false_iff_ne.mpr e]
theorem in_pre (p : TT.Tx) : inV (V.str (tx p)) [.str "~", .str "("] = (p == [126] || p == [40]) := by
  show (eqV (V.str (tx [126])) (V.str (tx p)) || (eqV (V.str (tx [40])) (V.str (tx p)) || false)) = _
  rw [eqV_tx, eqV_tx, Bool.or_false]
theorem in_pm (p : TT.Tx) : inV (V.str (tx p)) [.str "+", .str "-"] = (p == [43] || p == [45]) := by
  show (eqV (V.str (tx [43])) (V.str (tx p)) || (eqV (V.str (tx [45])) (V.str (tx p)) || false)) = _
  rw [eqV_tx, eqV_tx, Bool.or_false]
/-- one sign of a text, as a slice -/
theorem cut_one {t : TT.Tx} (i : Nat) : cutS (tx t) (some (i : Int)) (some ((i : Int) + 1)) = tx ((t.drop i).take 1) := by
  have := cut_tx (t := t) (a := i) (b := i + 1) (by omega)
  rw [Nat.add_sub_cancel_left] at this
  exact this
def OpL (K : PySem.W.Frag) (A : Addr) (H G : Hp) (qs : List (Addr × Addr × Addr)) (L : List Lvl) (t : TT.Tx) (i : Nat) (p : TT.Tx) (m : Nat) (σ : L2.St) (Hc : Hp) : Prop := ∃ k Gc qs', k ≤ p.length ∧ Gr (ZL A qs) H G Hc Gc ∧ (∀ x ∈ adrs qs', x ∈ adrs qs ∨ H x = none) ∧ Lvs K A Hc Gc qs' (((p.take k).map fun c => [c]).foldl lstep L) ∧ m = p.length - k ∧ ∃ v3 v4 v5, σ = [some (.str (tx t)), some (.int ((i + k : Nat) : Int)), some (.ref A), v3, v4, v5]
theorem tw_long : ∀ {l : TT.Tx} {j c : Nat}, l[j]? = some c → (∀ k d, k < j → l[k]? = some d → isLF d = true) → isLF c = true → j < (l.takeWhile isLF).length
  | [], j, c, h, _, _ => by cases h
  | a :: l, 0, c, h, _, n => by
    obtain rfl : a = c := Option.some.inj h
    rw [List.takeWhile_cons, n]
    exact Nat.succ_pos _
  | a :: l, j + 1, c, h, p, n => by
    rw [List.takeWhile_cons, p 0 a (Nat.succ_pos _) rfl]
    exact Nat.succ_lt_succ (tw_long (l := l) h (fun k d hk e => p (k + 1) d (Nat.succ_lt_succ hk) e) n)
theorem lf_iff (d : Nat) : d ∈ ("abcdefghijklmnopqrstuvwxyz0123456789" : Str).cps.toList ↔ isLF d = true := by
  have e : ("abcdefghijklmnopqrstuvwxyz0123456789" : Str).cps.toList = ("abcdefghijklmnopqrstuvwxyz" : Str).cps.toList ++ ("0123456789" : Str).cps.toList := by decide +kernel
  rw [e, List.mem_append, let_iff, fig_iff]
  unfold isLF
  rw [Bool.or_eq_true]
theorem lstep_ne {L : List Lvl} {p : TT.Tx} (h : p = tilde ∨ p = opn) (n : L ≠ []) : lstep L p ≠ [] := by
  cases L with
  | nil => exact absurd rfl n
  | cons l L =>
    rcases h with rfl | rfl
    · exact List.cons_ne_nil _ _
    · exact List.cons_ne_nil _ _
theorem pre_ne : ∀ {q : TT.Tx} {L : List Lvl}, (∀ c ∈ q, c = 126 ∨ c = 40) → L ≠ [] → (q.map fun c => [c]).foldl lstep L ≠ []
  | [], L, _, n => n
  | c :: q, L, h, n => by
    refine pre_ne (q := q) (fun d hd => h d (List.mem_cons_of_mem _ hd)) (lstep_ne ?_ n)
    rcases h c (List.mem_cons_self ..) with rfl | rfl
    · exact .inl rfl
    · exact .inr rfl
theorem lstep_leaf {L : List Lvl} {p : TT.Tx} (h : Leaf p) : lstep L p = takeL (leafT p) L := by
  have n : p ≠ opn ∧ p ≠ tilde ∧ p ≠ cls ∧ isBin p = false := by
    rcases h with hn | ⟨k, _, rfl⟩
    · exact ⟨(nm_not hn).2.2.1, (nm_not hn).2.1, (nm_not hn).2.2.2, (nm_not hn).1⟩
    · exact ⟨shT_not.2.2.1, shT_not.2.1, shT_not.2.2.2, shT_not.1⟩
  cases L with
  | nil => rfl
  | cons l L =>
    show (if p = tilde then _ else if p = opn then _ else if p = cls then _ else if isBin p = true then _ else _) = _
    rw [if_neg n.2.1, if_neg n.1, if_neg n.2.2.1, if_neg (by rw [n.2.2.2]; decide)]
section
variable {P : Program} {w : World} {K : PySem.W.Frag} {mg : Str → Option Value} {base : Heap} {gs fs : List Str} {C : Addr} {tok : Tok}
theorem ok__law_operand {f : Addr} {fd : FuncData} (F : FunD K "_law_operand" "_law_operand" (defArgs s__law_operand) (defBody s__law_operand) (defScope s__law_operand) [] [] f fd) (T : Txt K mg gs FS) (c__law_take : Cal P w K mg base 1 "_law_take" (spTakeL K)) : FnOk P w K mg base CX0 2 f fd ["_law_text", "_law_place", "_law_levels"] (spLOper K) := by
  refine F.ok sc__law_operand (fun vs H Q E h => ?_) (fun cdv A outer s H vs Q E hr h => ?_)
  · obtain ⟨A, G, qs, L, t, i, r, rfl, _⟩ := h
    rfl
  · obtain ⟨Aa, G, qs, L, t, i, r, rfl, z, Ln, bd, tl, ht, it, q⟩ := h
    refine ⟨_, PSs.nox (pss_cons (ps_while PassesOwn.never (pt_cmpR op_in_seq (pe_slice sl_str (pv 0) (po_some (pv 1)) (po_some (pe_op op_add (pv 1) pe_int))) (pe_tup (pa_cons pe_str (pa_cons pe_str pa_nil))) rfl) (pss_cons (ps_if (pt_cmpR op_eq (pe_ix ix_str (pv 0) (pv 1) fun _ _ => rfl) pe_str (nomark _)) (pss_one (ps_asg (pe_op op_add (pe_ix (ixl (K := K)) (pe_ix (ixl (K := K)) (pv 2) (pe_un un_neg pe_int) fun _ _ => rfl) pe_int fun _ _ => rfl) pe_int) (pg_sub (pe_ix (ixl (K := K)) (pv 2) (pe_un un_neg pe_int) fun _ _ => rfl) pe_int set_list))) (pss_one (ps_expr (pe_bm PySem.F.plainAttrs_list PySem.F.slot_list_append PySem.F.type_list_append mt_append (pv 2) (pa_cons (pe_lst (pa_cons (pe_lst pa_nil) (pa_cons (pe_lst pa_nil) (pa_cons pe_int pa_nil)))) pa_nil))))) (pss_one (ps_set (i := 1) sc__law_operand.nd rfl (Or.inl rfl) (pe_op op_add (pv 1) pe_int))))) (pss_cons (ps_set (i := 3) sc__law_operand.nd rfl (Or.inl rfl) (pe_slice sl_str (pv 0) (po_some (pv 1)) (po_some (pe_op op_add (pv 1) pe_int)))) (pss_cons (ps_if (PW.pt (pw_and (pt_cmpR op_ne (pv 3) pe_str (nomark _)) (pw_and1 (pt_cmpR op_in_sign (pv 3) pe_str rfl)))) (pss_cons (ps_set (i := 4) sc__law_operand.nd rfl (Or.inl rfl) (pe_op op_add (pv 1) pe_int)) (pss_cons (ps_while PassesOwn.never (PW.pt (pw_and (pt_cmpR op_lt (pv 4) (pe_op op_add (pv 1) pe_int) (nomark _)) (pw_and (pt_cmpR op_ne (pe_slice sl_str (pv 0) (po_some (pv 4)) (po_some (pe_op op_add (pv 4) pe_int))) pe_str (nomark _)) (pw_and1 (pt_cmpR op_in_sign (pe_ix ix_str (pv 0) (pv 4) fun _ _ => rfl) pe_str rfl))))) (pss_one (ps_set (i := 4) sc__law_operand.nd rfl (Or.inl rfl) (pe_op op_add (pv 4) pe_int)))) (pss_cons (ps_expr (pe_c c__law_take hr (by decide) rfl (pa_cons (pe_ix (ixl (K := K)) (pv 2) (pe_un un_neg pe_int) fun _ _ => rfl) (pa_cons (pe_slice sl_str (pv 0) (po_some (pv 1)) (po_some (pv 4))) pa_nil)))) (pss_one (ps_ret (pe_tup (pa_cons (pv 4) (pa_cons pe_bl pa_nil)))))))) pss_nil) (pss_cons (ps_if (pt_cmpR op_in_seq (pv 3) (pe_tup (pa_cons pe_str (pa_cons pe_str pa_nil))) rfl) (pss_cons (ps_set (i := 5) sc__law_operand.nd rfl (Or.inl rfl) (pe_slice sl_str (pv 0) (po_some (pe_op op_add (pv 1) pe_int)) (po_some (pe_op op_add (pv 1) pe_int)))) (pss_cons (ps_if (PW.pt (pw_or (pt_cmpR op_eq (pv 5) pe_str (nomark _)) (pw_or (pt_cmpR op_notIn_sign (pv 5) pe_str rfl) (pw_or1 (PW.pt (pw_and (pt_cmpR op_eq (pv 5) pe_str (nomark _)) (pw_and1 (pt_cmpR op_eq (pv 3) pe_str (nomark _))))))))) (pss_one (ps_ret (pe_tup (pa_cons (pe_op op_add (pv 1) pe_int) (pa_cons pe_bl pa_nil))))) pss_nil) (pss_cons (ps_expr (pe_c c__law_take hr (by decide) rfl (pa_cons (pe_ix (ixl (K := K)) (pv 2) (pe_un un_neg pe_int) fun _ _ => rfl) (pa_cons (pe_tup (pa_cons pe_str (pa_cons (pe_ifExp (pt_cmpR op_eq (pv 3) pe_str (nomark _)) (pe_callTy call_int_str rfl (T.fr _ (by decide +kernel)) (by decide +kernel) (pa_cons (pv 5) pa_nil)) (pe_un un_neg (pe_callTy call_int_str rfl (T.fr _ (by decide +kernel)) (by decide +kernel) (pa_cons (pv 5) pa_nil)))) pa_nil))) pa_nil)))) (pss_one (ps_ret (pe_tup (pa_cons (pe_op op_add (pv 1) pe_int) (pa_cons pe_bl pa_nil)))))))) pss_nil) (pss_one (ps_ret (pe_tup (pa_cons (pv 1) (pa_cons pe_bl pa_nil))))))))), ?_⟩
    have tlS : t.length ≤ sizeLine := Nat.le_trans tl (by decide)
    have hpa : t.drop i = pre r ++ aft r := by rw [ht]; exact pre_aft r
    have hpin : ∀ c ∈ pre r, c = 126 ∨ c = 40 := fun c hc => pre_in hc
    generalize hp : pre r = p at *
    have hpl : i + p.length ≤ t.length := by
      have e := congrArg List.length hpa
      rw [List.length_drop, List.length_append] at e
      omega
    refine ⟨OpL K Aa H G qs L t i p, ⟨_, 0, G, qs, Nat.zero_le _, Gr.refl z.gh, fun x hx => .inl hx, z, rfl, none, none, none, rfl⟩, ?_⟩
    rintro m σ Hc ⟨k, Gc, qs', hk, gc, hq', zc, rfl, v3, v4, v5, rfl⟩
    have hdk : t.drop (i + k) = p.drop k ++ aft r := by
      rw [← List.drop_drop, hpa, List.drop_append_of_le_length hk]
    have bdc : Bd (i + 1 + k) (((p.take k).map fun c => [c]).foldl lstep L) := by
      have := fold_bd (ps := (p.take k).map fun c => [c]) bd
      rw [List.length_map, List.length_take, Nat.min_eq_left hk] at this
      exact this
    have Lnc : ((p.take k).map fun c => [c]).foldl lstep L ≠ [] := pre_ne (fun c hc => hpin c (List.mem_of_mem_take hc)) Ln
    refine ⟨_, rfl, _, rfl, _, rfl, _, rfl, _, _, rfl, rfl, _, rfl, ?_⟩
    refine ⟨tx t, rfl, by rw [tx_len]; exact tlS, ?_⟩
    rw [cut_one]
    refine ⟨(by show 2 ≤ sizeLine; decide), fun tp htp => ?_⟩
    refine ⟨tp, _, rfl, .inr (SqT.of upd_same), rfl, rfl, _, rfl, ?_⟩
    rw [if_neg (by decide), in_pre]
    have gt : Gr (ZL Aa qs) Hc Gc (upd Hc tp (.tup [.str "~", .str "("])) Gc := Gr.new gc.gh htp
    have zt : Lvs K Aa (upd Hc tp (.tup [.str "~", .str "("])) Gc qs' (((p.take k).map fun c => [c]).foldl lstep L) := zc.keep (Gr.new (Z := fun _ => False) gc.gh htp) fun x _ y => y
    generalize upd Hc tp (.tup [.str "~", .str "("]) = Hd at gt zt
    have gd := gc.trans gt
    clear gt zc gc htp
    obtain ⟨l, L', eL⟩ : ∃ l L', ((p.take k).map fun c => [c]).foldl lstep L = l :: L' := by
      cases e : ((p.take k).map fun c => [c]).foldl lstep L with
      | nil => exact absurd e Lnc
      | cons a b => exact ⟨a, b, rfl⟩
    obtain ⟨qh, qs2, rfl⟩ : ∃ qh qs2, qs' = qh :: qs2 := by
      rw [eL] at zt
      have := zt.all.len
      cases qs' with
      | nil => cases this
      | cons a b => exact ⟨a, b, rfl⟩
    have hAe : Hd Aa = some (.lst (qs2.reverse.map (fun q => V.ref q.1) ++ [.ref qh.1])) := by
      rw [zt.hA, List.reverse_cons, List.map_append]
      rfl
    by_cases c1 : k < p.length
    · have gk : t[i + k]? = some p[k] := by
        have : t[i + k]? = (t.drop i)[k]? := by rw [List.getElem?_drop]
        rw [this, hpa, List.getElem?_append_left c1, List.getElem?_eq_getElem c1]
      have ik : i + k < t.length := (List.getElem?_eq_some_iff.mp gk).1
      have e1 : (t.drop (i + k)).take 1 = [p[k]] := by
        rw [List.drop_eq_getElem_cons ik]
        have : t[i + k] = p[k] := by rw [List.getElem?_eq_getElem ik] at gk; exact Option.some.inj gk
        rw [this]
        rfl
      have et : (p.take (k + 1)).map (fun c => [c]) = (p.take k).map (fun c => [c]) ++ [[p[k]]] := by
        rw [List.take_succ, List.getElem?_eq_getElem c1, List.map_append]
        rfl
      rw [e1]
      have hc := hpin p[k] (List.getElem_mem c1)
      refine iteT' (by rcases hc with hc | hc <;> rw [hc] <;> decide) ?_
      refine ⟨fun σ' G' => ∃ m', m' < p.length - k ∧ OpL K Aa H G qs L t i p m' σ' G', fun σ' G' y => y, ?_⟩
      refine ⟨_, rfl, _, rfl, ix_tx tlS gk ⟨rfl, _, rfl, ?_⟩⟩
      rcases hc with hc | hc
      · refine iteT' (by rw [hc]; decide +kernel) ?_
        rw [eL] at zt bdc
        have hl := zt.hd
        refine ⟨_, rfl, _, rfl, Aa, _, _, _, rfl, rfl, SqL.of hAe, atI_last _ _, qh.1, _, _, _, rfl, rfl, SqL.of hl.hL, atI_nat (j := 2) rfl, _, _, rfl, rfl, ?_⟩
        refine ⟨_, rfl, _, rfl, Aa, _, _, _, rfl, rfl, SqL.of hAe, atI_last _ _, qh.1, _, 2, 2, rfl, rfl, hl.hL, rfl, ?_⟩
        rw [show ([V.ref qh.2.1, V.ref qh.2.2, V.int (l.k : Int)] : List V).set 2 (V.int ((l.k : Int) + 1)) = [.ref qh.2.1, .ref qh.2.2, .int ((l.k + 1 : Nat) : Int)] from rfl]
        have g2 : Gr (fun x => x = qh.1) Hd Gc (upd Hd qh.1 (.lst [.ref qh.2.1, .ref qh.2.2, .int ((l.k + 1 : Nat) : Int)])) Gc := Gr.mut gd.gh rfl hl.nL
        obtain ⟨_, _, _, n12, n13, _⟩ := zt.apart
        obtain ⟨xs, hx, hdp⟩ := hl.hT
        have z2 := zt.set (l' := ⟨l.T, l.W, l.k + 1⟩) g2 (fun x hx => .inl hx) ⟨upd_same, ⟨xs, (upd_ne (Ne.symm n12)).trans hx, hdp⟩, (upd_ne (Ne.symm n13)).trans hl.hW, hl.nL, hl.nT, hl.nW⟩
        refine ⟨_, rfl, _, _, rfl, rfl, ?_⟩
        refine ⟨p.length - (k + 1), by omega, k + 1, Gc, qh :: qs2, c1, gd.thn g2 (fun x hx => ?_), hq', ?_, rfl, _, _, _, rfl⟩
        · rcases hq' qh.1 (by rw [adrs_cons]; simp) with h | h
          · exact .inl (by rw [hx]; exact List.mem_cons_of_mem _ h)
          · exact .inr (by rw [hx]; exact h)
        · rw [et, List.foldl_append, eL, hc]
          exact z2
      · refine iteF' (by rw [hc]; decide +kernel) ?_
        refine ⟨_, rfl, .inl ⟨rfl, _, SqL.of zt.hA⟩, ?_⟩
        refine ⟨(by show 0 ≤ sizeLine; decide), fun a1 ha1 => ?_⟩
        refine ⟨(by show 0 ≤ sizeLine; decide), fun a2 ha2 => ?_⟩
        refine ⟨(by show 3 ≤ sizeLine; decide), fun a3 ha3 => ?_⟩
        have z2 := zt.push ha1 ha2 ha3
        have n3A : a3 ≠ Aa := fun e => by
          have : (upd (upd Hd a1 (.lst [])) a2 (.lst [])) Aa = none := by rw [← e]; exact ha3
          have n1 : Aa ≠ a1 := fun e => by rw [← e, zt.hA] at ha1; cases ha1
          have n2 : Aa ≠ a2 := fun e => by rw [← e, upd_ne n1, zt.hA] at ha2; cases ha2
          rw [upd_ne n2, upd_ne n1, zt.hA] at this
          cases this
        have hA3 : (upd (upd (upd Hd a1 (.lst [])) a2 (.lst [])) a3 (.lst [.ref a1, .ref a2, .int 0])) Aa = some (.lst ((qh :: qs2).reverse.map fun q => .ref q.1)) := by
          have n1 : Aa ≠ a1 := fun e => by rw [← e, zt.hA] at ha1; cases ha1
          have n2 : Aa ≠ a2 := fun e => by rw [← e, upd_ne n1, zt.hA] at ha2; cases ha2
          rw [upd_ne (Ne.symm n3A), upd_ne n2, upd_ne n1, zt.hA]
        refine ⟨Aa, _, _, rfl, rfl, hA3, ?_, ?_⟩
        · have e := zt.all.len
          have := bdc.1
          rw [List.length_map, List.length_reverse, e]
          exact Nat.lt_of_le_of_lt (show _ ≤ 902 by omega) (by decide)
        · have g1 : Gr (ZL Aa qs) Hd Gc (upd Hd a1 (.lst [])) Gc := Gr.new gd.gh ha1
          have g2 : Gr (ZL Aa qs) (upd Hd a1 (.lst [])) Gc (upd (upd Hd a1 (.lst [])) a2 (.lst [])) Gc := Gr.new g1.gh ha2
          have g3 : Gr (ZL Aa qs) (upd (upd Hd a1 (.lst [])) a2 (.lst [])) Gc (upd (upd (upd Hd a1 (.lst [])) a2 (.lst [])) a3 (.lst [.ref a1, .ref a2, .int 0])) Gc := Gr.new g2.gh ha3
          have g4 : Gr (ZL Aa qs) (upd (upd (upd Hd a1 (.lst [])) a2 (.lst [])) a3 (.lst [.ref a1, .ref a2, .int 0])) Gc (upd (upd (upd (upd Hd a1 (.lst [])) a2 (.lst [])) a3 (.lst [.ref a1, .ref a2, .int 0])) Aa (.lst ((qh :: qs2).reverse.map (fun q => V.ref q.1) ++ [.ref a3]))) Gc := Gr.mut g3.gh (List.mem_cons_self ..) zt.nA
          have g14 := g1.trans (g2.trans (g3.trans g4))
          refine ⟨_, rfl, _, _, rfl, rfl, ?_⟩
          refine ⟨p.length - (k + 1), by omega, k + 1, Gc, (a3, a1, a2) :: qh :: qs2, c1, gd.trans g14, fun x hx => ?_, ?_, rfl, _, _, _, rfl⟩
          · rw [adrs_cons] at hx
            have fresh : ∀ y, Hd y = none → H y = none := fun y hy => by
              cases e : H y with
              | none => rfl
              | some o => exact absurd hy (gd.al y (some_ne e))
            have h2 : Hd a2 = none := by
              have : a1 ≠ a2 := fun e => by rw [← e, upd_same] at ha2; cases ha2
              rwa [upd_ne (Ne.symm this)] at ha2
            have h3 : Hd a3 = none := by
              have n2 : a2 ≠ a3 := fun e => by rw [← e, upd_same] at ha3; cases ha3
              rw [upd_ne (Ne.symm n2)] at ha3
              have n1 : a1 ≠ a3 := fun e => by rw [← e, upd_same] at ha3; cases ha3
              rwa [upd_ne (Ne.symm n1)] at ha3
            rcases List.mem_append.mp hx with hx | hx
            · simp only [List.mem_cons, List.not_mem_nil, or_false] at hx
              rcases hx with rfl | rfl | rfl
              · exact .inr (fresh _ h3)
              · exact .inr (fresh _ ha1)
              · exact .inr (fresh _ h2)
            · exact hq' x hx
          · rw [et, List.foldl_append, hc]
            have : [[40]].foldl lstep (((p.take k).map fun c => [c]).foldl lstep L) = ⟨[], [], 0⟩ :: ((p.take k).map fun c => [c]).foldl lstep L := by
              rw [eL]
              rfl
            rw [this]
            exact z2
    · obtain rfl : k = p.length := by omega
      rw [List.take_length] at eL bdc zt
      rw [List.drop_length, List.nil_append] at hdk
      have s0 : (t.drop (i + p.length)).take 1 = (aft r).take 1 := by rw [hdk]
      rw [s0]
      have hno : ((aft r).take 1 == [126] || (aft r).take 1 == [40]) = false := by
        cases ea : aft r with
        | nil => rfl
        | cons c s =>
          obtain ⟨h1, h2⟩ := aft_hd ea
          show (([c] : TT.Tx) == [126] || [c] == [40]) = false
          rw [beq_eq_false_iff_ne.mpr (fun e => h1 (by injection e)), beq_eq_false_iff_ne.mpr (fun e => h2 (by injection e))]
          rfl
      refine iteF' hno ?_
      refine ⟨_, rfl, _, rfl, _, rfl, _, rfl, _, _, rfl, rfl, _, rfl, ?_⟩
      refine ⟨tx t, rfl, by rw [tx_len]; exact tlS, ?_⟩
      rw [cut_one, s0]
      rw [eL] at zt bdc
      have hl := zt.hd
      obtain ⟨xs, hx, hdp⟩ := hl.hT
      obtain ⟨bk, bT, bW⟩ := bdc.2 l (List.mem_cons_self ..)
      obtain ⟨_, _, _, n12, n13, n23, _⟩ := zt.apart
      cases ea : aft r with
      | nil =>
        rw [ea] at q
        have q : ∀ p' H' G', Gr (ZL Aa qs) H G H' G' → SqT K H' p' [.int ((i + (pre r).length + 0 : Nat) : Int), .bl false] → Q (.ref p') H' := q
        rw [hp, Nat.add_zero] at q
        refine ⟨_, rfl, rfl, _, rfl, iteF' (by decide +kernel) ?_⟩
        refine iteF ?_
        refine ⟨_, rfl, (by show 2 ≤ sizeLine; decide), fun tp htp => ?_⟩
        refine ⟨tp, _, rfl, .inr (SqT.of upd_same), rfl, rfl, _, rfl, ?_⟩
        rw [if_neg (by decide), in_pm]
        refine iteF' (by decide) ?_
        have g2 : Gr (ZL Aa qs) Hd Gc (upd Hd tp (.tup [.str "+", .str "-"])) Gc := Gr.new gd.gh htp
        generalize upd Hd tp (.tup [.str "+", .str "-"]) = He at g2
        refine ⟨_, rfl, (by show 2 ≤ sizeLine; decide), fun rp hrp => ?_⟩
        have g3 : Gr (ZL Aa qs) He Gc (upd He rp (.tup [.int ((i + p.length : Nat) : Int), .bl false])) Gc := Gr.new g2.gh hrp
        exact q rp _ _ (gd.trans (g2.trans g3)) (SqT.of upd_same)
      | cons c s =>
        rw [ea] at q hdk
        have g0 : t[i + p.length]? = some c := by
          rw [← Nat.add_zero (i + p.length), drop_at hdk]
          rfl
        have hlen : t.length = i + p.length + (s.length + 1) := by
          have e : (t.drop (i + p.length)).length = s.length + 1 := by rw [hdk]; rfl
          rw [List.length_drop] at e
          omega
        have ne0 : V.str (tx [c]) ≠ V.str "" := fun e => by
          have := tx_inj (show tx [c] = tx [] from V.str.inj e)
          cases this
        refine ⟨_, rfl, rfl, _, rfl, iteT' (by rw [Bool.not_eq_true']; exact decide_eq_false ne0) ?_⟩
        refine ⟨_, rfl, c, _, rfl, rfl, _, rfl, ?_⟩
        have lit : decide (c ∈ ("abcdefghijklmnopqrstuvwxyz" : Str).cps.toList) = isLet c := by
          cases e : isLet c with
          | true => exact decide_eq_true ((let_iff c).mpr e)
          | false => exact decide_eq_false fun z => by rw [(let_iff c).mp z] at e; cases e
        rw [lit]
        by_cases hlt : isLet c = true
        · have hc43 : ¬ (c = 43 ∨ c = 45) := fun e => by rcases e with rfl | rfl <;> exact absurd hlt (by decide)
          have el : leafN (c :: s) = .inr (nmN (c :: s)) := by
            show (if c = 43 ∨ c = 45 then _ else if isLet c = true then _ else _) = _
            rw [if_neg hc43, if_pos hlt]
          have lok := (leafN_ok el).1
          rw [el] at q
          have q : ∀ p' H' G' qs', Gr (ZL Aa qs) H G H' G' → (∀ x ∈ adrs qs', x ∈ adrs qs ∨ H x = none) → Lvs K Aa H' G' qs' (lstep (((pre r).map fun c => [c]).foldl lstep L) ((aft r).take (nmN (c :: s)))) → SqT K H' p' [.int ((i + (pre r).length + nmN (c :: s) : Nat) : Int), .bl true] → Q (.ref p') H' := q
          rw [hp, ea, eL, lstep_leaf lok] at q
          refine iteT' hlt ?_
          refine ⟨_, rfl, _, _, rfl, rfl, ?_⟩
          have en : nmN (c :: s) = 1 + ((s.take 2).takeWhile isLF).length := rfl
          obtain ⟨qq, hqq⟩ : ∃ qq, qq = s.take 2 := ⟨_, rfl⟩
          have ql : qq.length ≤ 2 := by rw [hqq, List.length_take]; omega
          have qs0 : ∀ j, j < 2 → t[i + p.length + 1 + j]? = qq[j]? := fun j hj => by
            rw [hqq, List.getElem?_take, if_pos hj, Nat.add_assoc, drop_at hdk, Nat.add_comm 1 j]
            rfl
          have nmk : NmOk ((c :: s).take (nmN (c :: s))) := by
            rcases lok with h | ⟨k, _, h⟩
            · exact h
            · exfalso
              rw [en, Nat.add_comm] at h
              have h : c :: s.take _ = [if k < 0 then 45 else 43, 48 + k.natAbs] := h
              injection h with h _
              refine hc43 ?_
              by_cases hk : k < 0
              · rw [if_pos hk] at h
                exact .inr h
              · rw [if_neg hk] at h
                exact .inl h
          rw [leaf_nm nmk] at q
          have hZ : ∀ x, (x = qh.1 ∨ x = qh.2.1) → ZL Aa qs x ∨ H x = none := fun x hx => by
            have hm : x ∈ adrs (qh :: qs2) := by
              rw [adrs_cons]
              rcases hx with rfl | rfl <;> simp
            exact (hq' x hm).imp (fun h => List.mem_cons_of_mem _ h) id
          have cutnm : cutS (tx t) (some ((i + p.length : Nat) : Int)) (some ((i + p.length + nmN (c :: s) : Nat) : Int)) = tx ((c :: s).take (nmN (c :: s))) := by
            rw [cut_tx (by omega), hdk, Nat.add_sub_cancel_left]
          generalize hnm : (c :: s).take (nmN (c :: s)) = nm at *
          obtain ⟨N, hN⟩ : ∃ N, N = (qq.takeWhile isLF).length := ⟨_, rfl⟩
          have enN : nmN (c :: s) = 1 + N := by rw [en, hN, hqq]
          have N2 : N ≤ qq.length := by rw [hN]; exact (List.takeWhile_prefix _).length_le
          have inN : ∀ j, j < N → ∃ d, qq[j]? = some d ∧ isLF d = true := fun j hj => by
            have hj' : j < (qq.takeWhile isLF).length := by omega
            refine ⟨(qq.takeWhile isLF)[j], ?_, tw_in (List.getElem_mem hj')⟩
            obtain ⟨z, hz⟩ := List.takeWhile_prefix (p := isLF) (l := qq)
            have : (qq.takeWhile isLF ++ z)[j]? = some (qq.takeWhile isLF)[j] := by rw [List.getElem?_append_left hj', List.getElem?_eq_getElem hj']
            rw [hz] at this
            exact this
          have atN : ∀ d, qq[N]? = some d → isLF d = false := fun d hd => by
            cases e : isLF d with
            | false => rfl
            | true =>
              exfalso
              have := tw_long hd (fun k d' hk e' => by
                obtain ⟨d2, h1, h2⟩ := inN k hk
                rw [h1] at e'
                cases e'
                exact h2) e
              omega
          rw [enN] at q cutnm
          refine ⟨fun m σ G' => ∃ j, j ≤ N ∧ m = N - j ∧ Hd = G' ∧ σ = [some (.str (tx t)), some (.int ((i + p.length : Nat) : Int)), some (.ref Aa), some (.str (tx [c])), some (.int ((i + p.length + (1 + j) : Nat) : Int)), v5], ⟨_, 0, Nat.zero_le _, rfl, rfl, rfl⟩, ?_⟩
          rintro m σ G' ⟨j, hj, rfl, rfl, rfl⟩
          refine ⟨_, rfl, _, rfl, _, _, rfl, rfl, _, _, rfl, rfl, _, rfl, ?_⟩
          by_cases hjN : j < N
          · obtain ⟨d, hd, hdl⟩ := inN j hjN
            have gd1 : t[i + p.length + (1 + j)]? = some d := by rw [← Nat.add_assoc, qs0 j (by omega)]; exact hd
            have idl := (List.getElem?_eq_some_iff.mp gd1).1
            refine iteT' (decide_eq_true (by omega)) ?_
            refine ⟨_, rfl, _, rfl, _, rfl, _, rfl, _, _, rfl, rfl, _, rfl, ?_⟩
            refine ⟨tx t, rfl, by rw [tx_len]; exact tlS, ?_⟩
            rw [cut_one]
            have e1 : (t.drop (i + p.length + (1 + j))).take 1 = [d] := by
              rw [List.drop_eq_getElem_cons idl]
              have : t[i + p.length + (1 + j)] = d := by rw [List.getElem?_eq_getElem idl] at gd1; exact Option.some.inj gd1
              rw [this]
              rfl
            rw [e1]
            refine ⟨rfl, _, rfl, iteT' (by
              rw [Bool.not_eq_true']
              exact decide_eq_false fun e => by
                have := tx_inj (show tx [d] = tx [] from V.str.inj e)
                cases this) ?_⟩
            refine ⟨_, rfl, _, rfl, ix_tx tlS gd1 ⟨d, _, rfl, rfl, _, rfl, iteT' (decide_eq_true ((lf_iff d).mpr hdl)) ?_⟩⟩
            refine ⟨fun σ' G' => ∃ m', m' < N - j ∧ ∃ j, j ≤ N ∧ m' = N - j ∧ Hd = G' ∧ σ' = [some (.str (tx t)), some (.int ((i + p.length : Nat) : Int)), some (.ref Aa), some (.str (tx [c])), some (.int ((i + p.length + (1 + j) : Nat) : Int)), v5], fun σ' G' y => y, ?_⟩
            exact ⟨_, rfl, _, _, rfl, rfl, N - (j + 1), by omega, j + 1, hjN, rfl, rfl, rfl⟩
          · obtain rfl : j = N := by omega
            by_cases h2 : j = 2
            · refine iteF' (decide_eq_false (by omega)) ?_
              refine ⟨_, rfl, _, rfl, Aa, _, _, _, rfl, rfl, SqL.of hAe, atI_last _ _, ?_⟩
              refine ⟨_, rfl, _, rfl, _, rfl, _, rfl, _, rfl, ?_⟩
              refine ⟨tx t, rfl, by rw [tx_len]; exact tlS, ?_⟩
              rw [cutnm]
              refine ⟨qh.1, qh.2.1, qh.2.2, Gc, xs, l.T, _, .nm nm, l.k, rfl, n12, gd.gh, hl.nL, hl.nT, hl.hL, hx, hdp, .str _, by omega, by omega, fun H2 G2 xs2 g2 hL2 hx2 hd2 => ?_⟩
              have hW2 := g2.keep (fun e => e.elim (Ne.symm n13) (Ne.symm n23)) hl.hW
              have z2 := zt.set (l' := ⟨turnN l.k (.nm nm) :: l.T, l.W, 0⟩) g2 (fun x hx => hx.elim .inl fun e => .inr (.inl e)) ⟨hL2, ⟨xs2, hx2, hd2⟩, hW2, (g2.n _ (some_ne hl.hL)).trans hl.nL, (g2.n _ (some_ne hx)).trans hl.nT, (g2.n _ (some_ne hl.hW)).trans hl.nW⟩
              refine ⟨_, rfl, (by show 2 ≤ sizeLine; decide), fun rp hrp => ?_⟩
              exact q rp _ G2 (qh :: qs2) ((gd.thn g2 hZ).trans (Gr.new g2.gh hrp)) hq' (z2.keep (Gr.new (Z := fun _ => False) g2.gh hrp) fun x _ y => y) (SqT.of upd_same)
            · refine iteT' (decide_eq_true (by omega)) ?_
              refine ⟨_, rfl, _, rfl, _, rfl, _, rfl, _, _, rfl, rfl, _, rfl, ?_⟩
              refine ⟨tx t, rfl, by rw [tx_len]; exact tlS, ?_⟩
              rw [cut_one]
              cases eq : qq[j]? with
              | none =>
                have gn : t[i + p.length + (1 + j)]? = none := by rw [← Nat.add_assoc, qs0 j (by omega)]; exact eq
                have e1 : (t.drop (i + p.length + (1 + j))).take 1 = [] := by
                  rw [List.drop_of_length_le (List.getElem?_eq_none_iff.mp gn)]
                  rfl
                rw [e1]
                refine ⟨rfl, _, rfl, iteF' (by decide +kernel) ?_⟩
                refine ⟨_, rfl, _, rfl, Aa, _, _, _, rfl, rfl, SqL.of hAe, atI_last _ _, ?_⟩
                refine ⟨_, rfl, _, rfl, _, rfl, _, rfl, _, rfl, ?_⟩
                refine ⟨tx t, rfl, by rw [tx_len]; exact tlS, ?_⟩
                rw [cutnm]
                refine ⟨qh.1, qh.2.1, qh.2.2, Gc, xs, l.T, _, .nm nm, l.k, rfl, n12, gd.gh, hl.nL, hl.nT, hl.hL, hx, hdp, .str _, by omega, by omega, fun H2 G2 xs2 g2 hL2 hx2 hd2 => ?_⟩
                have hW2 := g2.keep (fun e => e.elim (Ne.symm n13) (Ne.symm n23)) hl.hW
                have z2 := zt.set (l' := ⟨turnN l.k (.nm nm) :: l.T, l.W, 0⟩) g2 (fun x hx => hx.elim .inl fun e => .inr (.inl e)) ⟨hL2, ⟨xs2, hx2, hd2⟩, hW2, (g2.n _ (some_ne hl.hL)).trans hl.nL, (g2.n _ (some_ne hx)).trans hl.nT, (g2.n _ (some_ne hl.hW)).trans hl.nW⟩
                refine ⟨_, rfl, (by show 2 ≤ sizeLine; decide), fun rp hrp => ?_⟩
                exact q rp _ G2 (qh :: qs2) ((gd.thn g2 hZ).trans (Gr.new g2.gh hrp)) hq' (z2.keep (Gr.new (Z := fun _ => False) g2.gh hrp) fun x _ y => y) (SqT.of upd_same)
              | some d =>
                have gd1 : t[i + p.length + (1 + j)]? = some d := by rw [← Nat.add_assoc, qs0 j (by omega)]; exact eq
                have idl := (List.getElem?_eq_some_iff.mp gd1).1
                have e1 : (t.drop (i + p.length + (1 + j))).take 1 = [d] := by
                  rw [List.drop_eq_getElem_cons idl]
                  have : t[i + p.length + (1 + j)] = d := by rw [List.getElem?_eq_getElem idl] at gd1; exact Option.some.inj gd1
                  rw [this]
                  rfl
                rw [e1]
                refine ⟨rfl, _, rfl, iteT' (by
                  rw [Bool.not_eq_true']
                  exact decide_eq_false fun e => by
                    have := tx_inj (show tx [d] = tx [] from V.str.inj e)
                    cases this) ?_⟩
                refine ⟨_, rfl, _, rfl, ix_tx tlS gd1 ⟨d, _, rfl, rfl, _, rfl, iteF' (decide_eq_false fun e => by
                  have := atN d eq
                  rw [(lf_iff d).mp e] at this
                  cases this) ?_⟩⟩
                refine ⟨_, rfl, _, rfl, Aa, _, _, _, rfl, rfl, SqL.of hAe, atI_last _ _, ?_⟩
                refine ⟨_, rfl, _, rfl, _, rfl, _, rfl, _, rfl, ?_⟩
                refine ⟨tx t, rfl, by rw [tx_len]; exact tlS, ?_⟩
                rw [cutnm]
                refine ⟨qh.1, qh.2.1, qh.2.2, Gc, xs, l.T, _, .nm nm, l.k, rfl, n12, gd.gh, hl.nL, hl.nT, hl.hL, hx, hdp, .str _, by omega, by omega, fun H2 G2 xs2 g2 hL2 hx2 hd2 => ?_⟩
                have hW2 := g2.keep (fun e => e.elim (Ne.symm n13) (Ne.symm n23)) hl.hW
                have z2 := zt.set (l' := ⟨turnN l.k (.nm nm) :: l.T, l.W, 0⟩) g2 (fun x hx => hx.elim .inl fun e => .inr (.inl e)) ⟨hL2, ⟨xs2, hx2, hd2⟩, hW2, (g2.n _ (some_ne hl.hL)).trans hl.nL, (g2.n _ (some_ne hx)).trans hl.nT, (g2.n _ (some_ne hl.hW)).trans hl.nW⟩
                refine ⟨_, rfl, (by show 2 ≤ sizeLine; decide), fun rp hrp => ?_⟩
                exact q rp _ G2 (qh :: qs2) ((gd.thn g2 hZ).trans (Gr.new g2.gh hrp)) hq' (z2.keep (Gr.new (Z := fun _ => False) g2.gh hrp) fun x _ y => y) (SqT.of upd_same)
        · have hl0 : isLet c = false := by
            cases e : isLet c with
            | true => exact absurd e hlt
            | false => rfl
          refine iteF' hl0 ?_
          refine ⟨_, rfl, (by show 2 ≤ sizeLine; decide), fun tp htp => ?_⟩
          refine ⟨tp, _, rfl, .inr (SqT.of upd_same), rfl, rfl, _, rfl, ?_⟩
          rw [if_neg (by decide), in_pm]
          have g2 : Gr (ZL Aa qs) Hd Gc (upd Hd tp (.tup [.str "+", .str "-"])) Gc := Gr.new gd.gh htp
          have zt2 : Lvs K Aa (upd Hd tp (.tup [.str "+", .str "-"])) Gc (qh :: qs2) (l :: L') := zt.keep (Gr.new (Z := fun _ => False) gd.gh htp) fun x _ y => y
          generalize upd Hd tp (.tup [.str "+", .str "-"]) = He at g2 zt2
          have hAe2 : He Aa = some (.lst (qs2.reverse.map (fun q => V.ref q.1) ++ [.ref qh.1])) := by
            rw [zt2.hA, List.reverse_cons, List.map_append]
            rfl
          have hZ : ∀ x, (x = qh.1 ∨ x = qh.2.1) → ZL Aa qs x ∨ H x = none := fun x hx => by
            have hm : x ∈ adrs (qh :: qs2) := by
              rw [adrs_cons]
              rcases hx with rfl | rfl <;> simp
            exact (hq' x hm).imp (fun h => List.mem_cons_of_mem _ h) id
          by_cases hc43 : c = 43 ∨ c = 45
          rotate_left
          · have el : leafN (c :: s) = .inl 0 := by
              show (if c = 43 ∨ c = 45 then _ else if isLet c = true then _ else _) = _
              rw [if_neg hc43, if_neg hlt]
            rw [el] at q
            have q : ∀ p' H' G', Gr (ZL Aa qs) H G H' G' → SqT K H' p' [.int ((i + (pre r).length + 0 : Nat) : Int), .bl false] → Q (.ref p') H' := q
            rw [hp, Nat.add_zero] at q
            refine iteF' (by
              rw [beq_eq_false_iff_ne.mpr (fun e => hc43 (.inl (by injection e))), beq_eq_false_iff_ne.mpr (fun e => hc43 (.inr (by injection e)))]
              rfl) ?_
            refine ⟨_, rfl, (by show 2 ≤ sizeLine; decide), fun rp hrp => ?_⟩
            exact q rp _ _ (gd.trans (g2.trans (Gr.new g2.gh hrp))) (SqT.of upd_same)
          refine iteT' (by rcases hc43 with rfl | rfl <;> rfl) ?_
          refine ⟨_, rfl, _, rfl, _, _, rfl, rfl, _, rfl, _, rfl, _, _, rfl, rfl, _, rfl, ?_⟩
          refine ⟨tx t, rfl, by rw [tx_len]; exact tlS, ?_⟩
          have cutf : cutS (tx t) (some (((i + p.length : Nat) : Int) + 1)) (some (((i + p.length : Nat) : Int) + 2)) = tx (s.take 1) := by
            have := cut_tx (t := t) (a := i + p.length + 1) (b := i + p.length + 2) (by omega)
            rw [show i + p.length + 2 - (i + p.length + 1) = 1 by omega, ← List.drop_drop, hdk] at this
            exact this
          rw [cutf]
          have elf : ∀ s', leafN (c :: s') = (match s' with
            | f :: _ => if isFig f = true ∧ ¬ (c = 45 ∧ f = 48) then .inr 2 else .inl 1
            | [] => .inl 1) := fun s' => if_pos hc43
          rw [elf] at q
          have qbad : (∀ p' H' G', Gr (ZL Aa qs) H G H' G' → SqT K H' p' [.int ((i + (pre r).length + 1 : Nat) : Int), .bl false] → Q (.ref p') H') → ∀ p' H' G', Gr (ZL Aa qs) H G H' G' → SqT K H' p' [.int ((i + p.length + 1 : Nat) : Int), .bl false] → Q (.ref p') H' := fun q => by
            rw [hp] at q
            exact q
          cases s with
          | nil =>
            have q := qbad q
            refine ⟨_, rfl, rfl, _, rfl, iteT' (by decide +kernel) ?_⟩
            refine ⟨_, rfl, _, _, rfl, rfl, (by show 2 ≤ sizeLine; decide), fun rp hrp => ?_⟩
            exact q rp _ _ (gd.trans (g2.trans (Gr.new g2.gh hrp))) (SqT.of upd_same)
          | cons f s =>
            have q : lopQ K Aa H G qs L i r Q (if isFig f = true ∧ ¬ (c = 45 ∧ f = 48) then .inr 2 else .inl 1) := q
            have nf0 : V.str (tx [f]) ≠ V.str "" := fun e => by
              have := tx_inj (show tx [f] = tx [] from V.str.inj e)
              cases this
            refine ⟨_, rfl, rfl, _, rfl, iteF' (decide_eq_false nf0) ?_⟩
            refine ⟨_, rfl, f, _, rfl, rfl, _, rfl, ?_⟩
            by_cases hf : isFig f = true
            rotate_left
            · rw [if_neg (fun z => hf z.1)] at q
              have q := qbad q
              refine iteT' (by rw [decide_eq_false fun e => hf ((fig_iff f).mp e)]; rfl) ?_
              refine ⟨_, rfl, _, _, rfl, rfl, (by show 2 ≤ sizeLine; decide), fun rp hrp => ?_⟩
              exact q rp _ _ (gd.trans (g2.trans (Gr.new g2.gh hrp))) (SqT.of upd_same)
            refine iteF' (by rw [decide_eq_true ((fig_iff f).mpr hf)]; rfl) ?_
            have f48 : 48 ≤ f ∧ f ≤ 57 := by
              unfold isFig at hf
              simpa using hf
            have hi : PySem.intText? (tx [f]) = some ((f : Int) - 48) := by
              have : f = 48 ∨ f = 49 ∨ f = 50 ∨ f = 51 ∨ f = 52 ∨ f = 53 ∨ f = 54 ∨ f = 55 ∨ f = 56 ∨ f = 57 := by omega
              rcases this with rfl | rfl | rfl | rfl | rfl | rfl | rfl | rfl | rfl | rfl <;> decide +kernel
            have e0 : decide (V.str (tx [f]) = V.str "0") = decide (f = 48) := by
              by_cases e : f = 48
              · rw [e]
                decide +kernel
              · rw [decide_eq_false e]
                exact decide_eq_false fun z => e (by
                  have := tx_inj (show tx [f] = tx [48] from V.str.inj z)
                  injection this)
            refine ⟨_, rfl, rfl, _, rfl, ?_⟩
            rcases hc43 with rfl | rfl
            · rw [if_pos ⟨hf, fun z => absurd z.1 (by decide)⟩] at q
              have q : ∀ p' H' G' qs', Gr (ZL Aa qs) H G H' G' → (∀ x ∈ adrs qs', x ∈ adrs qs ∨ H x = none) → Lvs K Aa H' G' qs' (lstep (((pre r).map fun c => [c]).foldl lstep L) ((aft r).take 2)) → SqT K H' p' [.int ((i + (pre r).length + 2 : Nat) : Int), .bl true] → Q (.ref p') H' := q
              have lf : lstep (l :: L') [43, f] = ⟨turnN l.k (.sh ((f : Int) - 48)) :: l.T, l.W, 0⟩ :: L' := rfl
              rw [hp, ea, eL, show (43 :: f :: s).take 2 = [43, f] from rfl, lf] at q
              by_cases hf0 : f = 48
              · refine iteT' (show decide (V.str (tx [f]) = V.str "0") = true by rw [e0]; exact decide_eq_true hf0) ?_
                refine ⟨_, rfl, rfl, _, rfl, iteF' (show decide (V.str (tx [43]) = V.str "-") = false by decide +kernel) ?_⟩
                refine ⟨_, rfl, _, rfl, Aa, _, _, _, rfl, rfl, SqL.of hAe2, atI_last _ _, ?_⟩
                refine ⟨_, rfl, rfl, _, rfl, iteT' (show decide (V.str (tx [43]) = V.str "+") = true by decide +kernel) ?_⟩
                refine ⟨_, rfl, tx [f], (f : Int) - 48, rfl, hi, by rw [tx_len]; exact (by decide : 1 ≤ 640), ?_⟩
                refine ⟨(by show 2 ≤ sizeLine; decide), fun tq htq => ?_⟩
                have g3 : Gr (ZL Aa qs) He Gc (upd He tq (.tup [.str "shift", .int ((f : Int) - 48)])) (upd Gc tq (.tup [.str "shift", .int ((f : Int) - 48)])) := Gr.newD g2.gh htq
                have z3 : Lvs K Aa (upd He tq (.tup [.str "shift", .int ((f : Int) - 48)])) (upd Gc tq (.tup [.str "shift", .int ((f : Int) - 48)])) (qh :: qs2) (l :: L') := zt2.keep (Gr.newD (Z := fun _ => False) g2.gh htq) fun x _ y => y
                have hD : Dp K (upd Gc tq (.tup [.str "shift", .int ((f : Int) - 48)])) (.ref tq) (tmP false (.sh ((f : Int) - 48))) := .tup (SqT.of upd_same) (.cons (.str _) (.cons (.int _) .nil))
                generalize upd He tq (.tup [.str "shift", .int ((f : Int) - 48)]) = Hf at g3 z3
                generalize upd Gc tq (.tup [.str "shift", .int ((f : Int) - 48)]) = Gf at g3 z3 hD
                have hl3 := z3.hd
                obtain ⟨xs3, hx3, hdp3⟩ := hl3.hT
                have gf := gd.trans (g2.trans g3)
                refine ⟨qh.1, qh.2.1, qh.2.2, Gf, xs3, l.T, _, .sh ((f : Int) - 48), l.k, rfl, n12, g3.gh, hl3.nL, hl3.nT, hl3.hL, hx3, hdp3, hD, by omega, by omega, fun H2 G2 xs2 g4 hL2 hx2 hd2 => ?_⟩
                have hW2 := g4.keep (fun e => e.elim (Ne.symm n13) (Ne.symm n23)) hl3.hW
                have z4 := z3.set (l' := ⟨turnN l.k (.sh ((f : Int) - 48)) :: l.T, l.W, 0⟩) g4 (fun x hx => hx.elim .inl fun e => .inr (.inl e)) ⟨hL2, ⟨xs2, hx2, hd2⟩, hW2, (g4.n _ (some_ne hl3.hL)).trans hl3.nL, (g4.n _ (some_ne hx3)).trans hl3.nT, (g4.n _ (some_ne hl3.hW)).trans hl3.nW⟩
                refine ⟨_, rfl, _, _, rfl, rfl, (by show 2 ≤ sizeLine; decide), fun rp hrp => ?_⟩
                exact q rp _ G2 (qh :: qs2) ((gf.thn g4 hZ).trans (Gr.new g4.gh hrp)) hq' (z4.keep (Gr.new (Z := fun _ => False) g4.gh hrp) fun x _ y => y) (SqT.of upd_same)
              · refine iteF' (show decide (V.str (tx [f]) = V.str "0") = false by rw [e0]; exact decide_eq_false hf0) ?_
                refine ⟨_, rfl, _, rfl, Aa, _, _, _, rfl, rfl, SqL.of hAe2, atI_last _ _, ?_⟩
                refine ⟨_, rfl, rfl, _, rfl, iteT' (show decide (V.str (tx [43]) = V.str "+") = true by decide +kernel) ?_⟩
                refine ⟨_, rfl, tx [f], (f : Int) - 48, rfl, hi, by rw [tx_len]; exact (by decide : 1 ≤ 640), ?_⟩
                refine ⟨(by show 2 ≤ sizeLine; decide), fun tq htq => ?_⟩
                have g3 : Gr (ZL Aa qs) He Gc (upd He tq (.tup [.str "shift", .int ((f : Int) - 48)])) (upd Gc tq (.tup [.str "shift", .int ((f : Int) - 48)])) := Gr.newD g2.gh htq
                have z3 : Lvs K Aa (upd He tq (.tup [.str "shift", .int ((f : Int) - 48)])) (upd Gc tq (.tup [.str "shift", .int ((f : Int) - 48)])) (qh :: qs2) (l :: L') := zt2.keep (Gr.newD (Z := fun _ => False) g2.gh htq) fun x _ y => y
                have hD : Dp K (upd Gc tq (.tup [.str "shift", .int ((f : Int) - 48)])) (.ref tq) (tmP false (.sh ((f : Int) - 48))) := .tup (SqT.of upd_same) (.cons (.str _) (.cons (.int _) .nil))
                generalize upd He tq (.tup [.str "shift", .int ((f : Int) - 48)]) = Hf at g3 z3
                generalize upd Gc tq (.tup [.str "shift", .int ((f : Int) - 48)]) = Gf at g3 z3 hD
                have hl3 := z3.hd
                obtain ⟨xs3, hx3, hdp3⟩ := hl3.hT
                have gf := gd.trans (g2.trans g3)
                refine ⟨qh.1, qh.2.1, qh.2.2, Gf, xs3, l.T, _, .sh ((f : Int) - 48), l.k, rfl, n12, g3.gh, hl3.nL, hl3.nT, hl3.hL, hx3, hdp3, hD, by omega, by omega, fun H2 G2 xs2 g4 hL2 hx2 hd2 => ?_⟩
                have hW2 := g4.keep (fun e => e.elim (Ne.symm n13) (Ne.symm n23)) hl3.hW
                have z4 := z3.set (l' := ⟨turnN l.k (.sh ((f : Int) - 48)) :: l.T, l.W, 0⟩) g4 (fun x hx => hx.elim .inl fun e => .inr (.inl e)) ⟨hL2, ⟨xs2, hx2, hd2⟩, hW2, (g4.n _ (some_ne hl3.hL)).trans hl3.nL, (g4.n _ (some_ne hx3)).trans hl3.nT, (g4.n _ (some_ne hl3.hW)).trans hl3.nW⟩
                refine ⟨_, rfl, _, _, rfl, rfl, (by show 2 ≤ sizeLine; decide), fun rp hrp => ?_⟩
                exact q rp _ G2 (qh :: qs2) ((gf.thn g4 hZ).trans (Gr.new g4.gh hrp)) hq' (z4.keep (Gr.new (Z := fun _ => False) g4.gh hrp) fun x _ y => y) (SqT.of upd_same)
            · by_cases hf0 : f = 48
              · rw [if_neg (fun z => z.2 ⟨rfl, hf0⟩)] at q
                have q := qbad q
                refine iteT' (show decide (V.str (tx [f]) = V.str "0") = true by rw [e0]; exact decide_eq_true hf0) ?_
                refine ⟨_, rfl, rfl, _, rfl, iteT' (show decide (V.str (tx [45]) = V.str "-") = true by decide +kernel) ?_⟩
                refine ⟨_, rfl, _, _, rfl, rfl, (by show 2 ≤ sizeLine; decide), fun rp hrp => ?_⟩
                exact q rp _ _ (gd.trans (g2.trans (Gr.new g2.gh hrp))) (SqT.of upd_same)
              · rw [if_pos ⟨hf, fun z => hf0 z.2⟩] at q
                have q : ∀ p' H' G' qs', Gr (ZL Aa qs) H G H' G' → (∀ x ∈ adrs qs', x ∈ adrs qs ∨ H x = none) → Lvs K Aa H' G' qs' (lstep (((pre r).map fun c => [c]).foldl lstep L) ((aft r).take 2)) → SqT K H' p' [.int ((i + (pre r).length + 2 : Nat) : Int), .bl true] → Q (.ref p') H' := q
                have lf : lstep (l :: L') [45, f] = ⟨turnN l.k (.sh (-((f : Int) - 48))) :: l.T, l.W, 0⟩ :: L' := by
                  rw [show -((f : Int) - 48) = 48 - (f : Int) by omega]
                  rfl
                rw [hp, ea, eL, show (45 :: f :: s).take 2 = [45, f] from rfl, lf] at q
                refine iteF' (show decide (V.str (tx [f]) = V.str "0") = false by rw [e0]; exact decide_eq_false hf0) ?_
                refine ⟨_, rfl, _, rfl, Aa, _, _, _, rfl, rfl, SqL.of hAe2, atI_last _ _, ?_⟩
                refine ⟨_, rfl, rfl, _, rfl, iteF' (show decide (V.str (tx [45]) = V.str "+") = false by decide +kernel) ?_⟩
                refine ⟨_, rfl, tx [f], (f : Int) - 48, rfl, hi, by rw [tx_len]; exact (by decide : 1 ≤ 640), _, rfl, ?_⟩
                refine ⟨(by show 2 ≤ sizeLine; decide), fun tq htq => ?_⟩
                have g3 : Gr (ZL Aa qs) He Gc (upd He tq (.tup [.str "shift", .int (-((f : Int) - 48))])) (upd Gc tq (.tup [.str "shift", .int (-((f : Int) - 48))])) := Gr.newD g2.gh htq
                have z3 : Lvs K Aa (upd He tq (.tup [.str "shift", .int (-((f : Int) - 48))])) (upd Gc tq (.tup [.str "shift", .int (-((f : Int) - 48))])) (qh :: qs2) (l :: L') := zt2.keep (Gr.newD (Z := fun _ => False) g2.gh htq) fun x _ y => y
                have hD : Dp K (upd Gc tq (.tup [.str "shift", .int (-((f : Int) - 48))])) (.ref tq) (tmP false (.sh (-((f : Int) - 48)))) := .tup (SqT.of upd_same) (.cons (.str _) (.cons (.int _) .nil))
                generalize upd He tq (.tup [.str "shift", .int (-((f : Int) - 48))]) = Hf at g3 z3
                generalize upd Gc tq (.tup [.str "shift", .int (-((f : Int) - 48))]) = Gf at g3 z3 hD
                have hl3 := z3.hd
                obtain ⟨xs3, hx3, hdp3⟩ := hl3.hT
                have gf := gd.trans (g2.trans g3)
                refine ⟨qh.1, qh.2.1, qh.2.2, Gf, xs3, l.T, _, .sh (-((f : Int) - 48)), l.k, rfl, n12, g3.gh, hl3.nL, hl3.nT, hl3.hL, hx3, hdp3, hD, by omega, by omega, fun H2 G2 xs2 g4 hL2 hx2 hd2 => ?_⟩
                have hW2 := g4.keep (fun e => e.elim (Ne.symm n13) (Ne.symm n23)) hl3.hW
                have z4 := z3.set (l' := ⟨turnN l.k (.sh (-((f : Int) - 48))) :: l.T, l.W, 0⟩) g4 (fun x hx => hx.elim .inl fun e => .inr (.inl e)) ⟨hL2, ⟨xs2, hx2, hd2⟩, hW2, (g4.n _ (some_ne hl3.hL)).trans hl3.nL, (g4.n _ (some_ne hx3)).trans hl3.nT, (g4.n _ (some_ne hl3.hW)).trans hl3.nW⟩
                refine ⟨_, rfl, _, _, rfl, rfl, (by show 2 ≤ sizeLine; decide), fun rp hrp => ?_⟩
                exact q rp _ G2 (qh :: qs2) ((gf.thn g4 hZ).trans (Gr.new g4.gh hrp)) hq' (z4.keep (Gr.new (Z := fun _ => False) g4.gh hrp) fun x _ y => y) (SqT.of upd_same)
end
end K13
set_option Elab.async false
set_option linter.all false
set_option maxRecDepth 100000
set_option maxHeartbeats 4000000
/-! The law's own reader: a link. -/
namespace K13
open PySem PySem.Spec PyProof.Rows L2 He NF RZ TT
def wdJ (j : TT.Tx) : Str := if j = blw then "<=" else wordS (wix j)
def lkD : List (L2.Key × V) := [(Sum.inr "|", .str "either"), (Sum.inr "&", .str "both"), (Sum.inr "u", .str "under"), (Sum.inr "o", .str "over"), (Sum.inr "*", .str "behind"), (Sum.inr "<", .str "<=")]
def lsD : List (L2.Key × V) := [(Sum.inr "either", .str "| "), (Sum.inr "both", .str "& "), (Sum.inr "under", .str "under "), (Sum.inr "over", .str "over "), (Sum.inr "behind", .str "* "), (Sum.inr "<=", .str "<= ")]
theorem lk_at {j : TT.Tx} (h : isBin j = true) : valV (mergeK [] lkD) (Sum.inr (tx [hd1 j])) = some (.str (wdJ j)) := by
  rcases bin_in h with rfl | rfl | rfl | rfl | rfl | rfl <;> decide +kernel
theorem ls_at {j : TT.Tx} (h : isBin j = true) : valV (mergeK [] lsD) (Sum.inr (wdJ j)) = some (.str (tx (j ++ [32]))) := by
  rcases bin_in h with rfl | rfl | rfl | rfl | rfl | rfl <;> decide +kernel
theorem lk_eq : mergeK [] lkD = lkD := by decide +kernel
theorem lk_no {d : Nat} (h : ∀ j, isBin j = true → hd1 j ≠ d) : valV (mergeK [] lkD) (Sum.inr (tx [d])) = none := by
  have e : ∀ c : Nat, c ≠ d → decide ((Sum.inr (tx [c]) : L2.Key) = Sum.inr (tx [d])) = false := fun c n => decide_eq_false fun z => n (by
    have := tx_inj (Sum.inr.inj z)
    injection this)
  have h0 := e 124 (h (sg 0) (by decide))
  have h1 := e 38 (h (sg 1) (by decide))
  have h2 := e 117 (h (sg 2) (by decide))
  have h3 := e 111 (h (sg 3) (by decide))
  have h4 := e 42 (h (sg 4) (by decide))
  have h5 := e 60 (h blw (by decide))
  rw [lk_eq]
  unfold valV lkD
  have k0 : decide ((Sum.inr ("|" : Str) : L2.Key) = Sum.inr (tx [d])) = false := h0
  have k1 : decide ((Sum.inr ("&" : Str) : L2.Key) = Sum.inr (tx [d])) = false := h1
  have k2 : decide ((Sum.inr ("u" : Str) : L2.Key) = Sum.inr (tx [d])) = false := h2
  have k3 : decide ((Sum.inr ("o" : Str) : L2.Key) = Sum.inr (tx [d])) = false := h3
  have k4 : decide ((Sum.inr ("*" : Str) : L2.Key) = Sum.inr (tx [d])) = false := h4
  have k5 : decide ((Sum.inr ("<" : Str) : L2.Key) = Sum.inr (tx [d])) = false := h5
  rw [List.find?_cons, k0, List.find?_cons, k1, List.find?_cons, k2, List.find?_cons, k3, List.find?_cons, k4, List.find?_cons, k5]
  rfl
theorem wd_blw {j : TT.Tx} (h : isBin j = true) : decide (V.str (wdJ j) = V.str "<=") = (j == blw) := by
  rcases bin_in h with rfl | rfl | rfl | rfl | rfl | rfl <;> decide +kernel
theorem wd_res {j : TT.Tx} (h : isBin j = true) : inV (V.str (wdJ j)) [.str "under", .str "over"] = isRes j := by
  rcases bin_in h with rfl | rfl | rfl | rfl | rfl | rfl <;> decide +kernel
theorem word_inj {u v : Nat} (hu : u < 5) (hv : v < 5) (h : wordS u = wordS v) : u = v := by
  rcases sg_cases hu with rfl | rfl | rfl | rfl | rfl <;> rcases sg_cases hv with rfl | rfl | rfl | rfl | rfl <;> first | rfl | exact absurd h (by decide +kernel)
theorem in_wd {u : Nat} (hu : u < 5) : ∀ {W : List Nat}, (∀ v ∈ W, v < 5) → inV (V.str (wordS u)) (W.map wdV) = decide (u ∈ W)
  | [], _ => by rw [decide_eq_false (fun z => nomatch z)]; rfl
  | v :: W, h => by
    have ih := in_wd hu (W := W) fun x hx => h x (List.mem_cons_of_mem _ hx)
    show (eqV (V.str (wordS v)) (V.str (wordS u)) || inV (V.str (wordS u)) (W.map wdV)) = _
    rw [ih]
    have : eqV (V.str (wordS v)) (V.str (wordS u)) = decide (v = u) := by
      show decide (wordS v = wordS u) = _
      by_cases e : v = u
      · rw [e, decide_eq_true rfl, decide_eq_true rfl]
      · rw [decide_eq_false e]
        exact decide_eq_false fun z => e (word_inj (h v (List.mem_cons_self ..)) hu z)
    rw [this]
    by_cases e : v = u
    · rw [decide_eq_true e, Bool.true_or]
      exact (decide_eq_true (by rw [e]; exact List.mem_cons_self ..)).symm
    · rw [decide_eq_false e, Bool.false_or]
      by_cases m : u ∈ W
      · rw [decide_eq_true m, decide_eq_true (List.mem_cons_of_mem _ m)]
      · rw [decide_eq_false m, decide_eq_false fun z => (List.mem_cons.mp z).elim (fun z => e z.symm) m]
theorem in_wdr {u : Nat} (hu : u < 5) {W : List Nat} (h : ∀ v ∈ W, v < 5) : inV (V.str (wordS u)) (W.reverse.map wdV) = decide (u ∈ W) := by
  rw [in_wd hu fun v hv => h v (List.mem_reverse.mp hv)]
  by_cases m : u ∈ W
  · rw [decide_eq_true m, decide_eq_true (List.mem_reverse.mpr m)]
  · rw [decide_eq_false m, decide_eq_false fun z => m (List.mem_reverse.mp z)]
theorem Lvs.top {K : PySem.W.Frag} {A : Addr} {H G : Hp} {q : Addr × Addr × Addr} {qs : List (Addr × Addr × Addr)} {L : List Lvl} (h : Lvs K A H G (q :: qs) L) : H A = some (.lst (qs.reverse.map (fun q => V.ref q.1) ++ [.ref q.1])) := by
  rw [h.hA, List.reverse_cons, List.map_append]
  rfl
def lkV (i : Nat) : Nat ⊕ TT.Tx → List V
  | .inl k => [.int ((i + k : Nat) : Int), .non]
  | .inr j => [.int ((i + j.length + 2 : Nat) : Int), .str (wdJ j)]
def spLink (K : PySem.W.Frag) : Sp := fun vs H Q _ => ∃ (A : Addr) (G : Hp) (qs : List (Addr × Addr × Addr)) (l : Lvl) (L : List Lvl) (f : Bool) (st : List Bool) (b : Bool) (t : TT.Tx) (i : Nat) (c : Nat) (s : TT.Tx), vs = [.str (tx t), .int (i : Int), .ref A, .bl b] ∧ Lvs K A H G qs (l :: L) ∧ LvI false l f ∧ L.length = st.length ∧ t.length ≤ 900 ∧ t.drop i = c :: s ∧
  ∀ p H', Gr (fun _ => False) H G H' G → SqT K H' p (lkV i (jntN (jns (f :: st) (!b)) (c :: s))) → Q (.ref p) H'
theorem sc__law_link : FnScope ["_law_text", "_law_place", "_law_levels", "_law_both", "_law_sign", "_law_words", "_law_word", "_law_signs", "_law_k"] ["_law_text", "_law_place", "_law_levels", "_law_both"] (defScope s__law_link) := ⟨rfl, rfl, rfl, by decide +kernel, rfl, by decide +kernel, by decide +kernel⟩
section
variable {P : Program} {w : World} {K : PySem.W.Frag} {mg : Str → Option Value} {base : Heap} {gs fs : List Str} {C : Addr} {tok : Tok}
theorem ok__law_link {f : Addr} {fd : FuncData} (F : FunD K "_law_link" "_law_link" (defArgs s__law_link) (defBody s__law_link) (defScope s__law_link) [] [] f fd) (T : Txt K mg gs FS) : FnOk P w K mg base CX0 1 f fd ["_law_text", "_law_place", "_law_levels", "_law_both"] (spLink K) := by
  refine F.ok sc__law_link (fun vs H Q E h => ?_) (fun cdv A outer s H vs Q E hr h => ?_)
  · obtain ⟨A, G, qs, l, L, f, st, b, t, i, c, s, rfl, _⟩ := h
    rfl
  · have hu1 : (A.deeper (envOfC "_law_link" (defScope s__law_link) s.heap.objs.size f cdv)).units + 1 < cLine := by
      have := hr.un
      omega
    obtain ⟨Aa, G, qs, l, L, f, st, b, t, i, c, s, rfl, z, li, lst, tl, ht, q⟩ := h
    refine ⟨_, PSs.nox (pss_cons (ps_if (pt_cmpR op_ne (pe_slice sl_str (pv 0) (po_some (pv 1)) (po_some (pe_op op_add (pv 1) pe_int))) pe_str (nomark _)) (pss_one (ps_ret (pe_tup (pa_cons (pv 1) (pa_cons pe_non pa_nil))))) pss_nil) (pss_cons (ps_set (i := 4) sc__law_link.nd rfl (Or.inl rfl) (pe_slice sl_str (pv 0) (po_some (pe_op op_add (pv 1) pe_int)) (po_some (pe_op op_add (pv 1) pe_int)))) (pss_cons (ps_set (i := 5) sc__law_link.nd rfl (Or.inl rfl) (pe_disp (pps_cons pe_str pe_str (pps_cons pe_str pe_str (pps_cons pe_str pe_str (pps_cons pe_str pe_str (pps_cons pe_str pe_str (pps_cons pe_str pe_str pps_nil)))))) rfl rfl (fun z => nomatch z) (by decide))) (pss_cons (ps_if (PW.pt (pw_or (pt_cmpR op_eq (pv 4) pe_str (nomark _)) (pw_or1 (pt_cmp (pc_dnotin hu1 (pv 4) (pv 5)))))) (pss_one (ps_ret (pe_tup (pa_cons (pe_op op_add (pv 1) pe_int) (pa_cons pe_non pa_nil))))) pss_nil) (pss_cons (ps_set (i := 6) sc__law_link.nd rfl (Or.inl rfl) (pe_dget hu1 (pv 5) (pv 4) (fun _ _ => rfl))) (pss_cons (ps_if (PW.pt (pw_and (pt_cmpR op_eq (pv 6) pe_str (nomark _)) (pw_and1 (PW.pt (pw_or (pt_not (pt_val (pv 3))) (pw_or1 (pt_cmpR op_gt (pe_callB call_len_seq rfl (T.fr _ (by decide +kernel)) boot_len (pa_cons (pv 2) pa_nil)) pe_int (nomark _)))))))) (pss_one (ps_ret (pe_tup (pa_cons (pe_op op_add (pv 1) pe_int) (pa_cons pe_non pa_nil))))) pss_nil) (pss_cons (ps_if (PW.pt (pw_and (pt_cmpR op_in_seq (pv 6) (pe_tup (pa_cons pe_str (pa_cons pe_str pa_nil))) rfl) (pw_and1 (PW.pt (pw_or (pt_cmpR op_in_seq pe_str (pe_ix (ixl (K := K)) (pe_ix (ixl (K := K)) (pv 2) (pe_un un_neg pe_int) fun _ _ => rfl) pe_int fun _ _ => rfl) rfl) (pw_or1 (pt_cmpR op_in_seq pe_str (pe_ix (ixl (K := K)) (pe_ix (ixl (K := K)) (pv 2) (pe_un un_neg pe_int) fun _ _ => rfl) pe_int fun _ _ => rfl) rfl))))))) (pss_one (ps_ret (pe_tup (pa_cons (pe_op op_add (pv 1) pe_int) (pa_cons pe_non pa_nil))))) pss_nil) (pss_cons (ps_set (i := 7) sc__law_link.nd rfl (Or.inl rfl) (pe_dget hu1 (pe_disp (pps_cons pe_str pe_str (pps_cons pe_str pe_str (pps_cons pe_str pe_str (pps_cons pe_str pe_str (pps_cons pe_str pe_str (pps_cons pe_str pe_str pps_nil)))))) rfl rfl (fun z => nomatch z) (by decide)) (pv 6) (fun _ _ => rfl))) (pss_cons (ps_for PassesOwn.never rfl (pi_range1 rfl (T.fr _ (by decide +kernel)) (pa_cons (pe_callB call_len_str rfl (T.fr _ (by decide +kernel)) boot_len (pa_cons (pv 7) pa_nil)) pa_nil)) (pg_name (i := 8) sc__law_link.nd rfl (Or.inl rfl)) (pss_one (ps_if (pt_cmpR op_ne (pe_slice sl_str (pv 0) (po_some (pe_op op_add (pe_op op_add (pv 1) pe_int) (pv 8))) (po_some (pe_op op_add (pe_op op_add (pv 1) pe_int) (pv 8)))) (pe_ix ix_str (pv 7) (pv 8) fun _ _ => rfl) (nomark _)) (pss_one (ps_ret (pe_tup (pa_cons (pe_op op_add (pe_op op_add (pv 1) pe_int) (pv 8)) (pa_cons pe_non pa_nil))))) pss_nil))) (pss_one (ps_ret (pe_tup (pa_cons (pe_op op_add (pe_op op_add (pv 1) pe_int) (pe_callB call_len_str rfl (T.fr _ (by decide +kernel)) boot_len (pa_cons (pv 7) pa_nil))) (pa_cons (pv 6) pa_nil)))))))))))))), ?_⟩
    have tlS : t.length ≤ sizeLine := Nat.le_trans tl (by decide)
    have hb : ∀ p ∈ jns (f :: st) (!b), isBin p = true := fun p hp => (jns_in hp).1
    refine ⟨_, rfl, _, rfl, _, rfl, _, rfl, _, _, rfl, rfl, _, rfl, ?_⟩
    refine ⟨tx t, rfl, by rw [tx_len]; exact tlS, ?_⟩
    rw [cut_one, ht, show (c :: s).take 1 = [c] from rfl]
    by_cases hc : c = 32
    rotate_left
    · have eq : jntN (jns (f :: st) (!b)) (c :: s) = .inl 0 := if_neg hc
      rw [eq] at q
      refine ⟨rfl, _, rfl, iteT' (by
        rw [Bool.not_eq_true']
        exact decide_eq_false fun e => hc (by
          have := tx_inj (show tx [c] = tx [32] from V.str.inj e)
          injection this)) ?_⟩
      refine ⟨_, rfl, (by show 2 ≤ sizeLine; decide), fun rp hrp => ?_⟩
      exact q rp _ (Gr.new z.gh hrp) (SqT.of upd_same)
    subst hc
    rw [jntN_32] at q
    refine ⟨rfl, _, rfl, iteF' (by decide +kernel) ?_⟩
    refine ⟨_, rfl, _, rfl, _, _, rfl, rfl, _, rfl, _, rfl, _, _, rfl, rfl, _, rfl, ?_⟩
    refine ⟨tx t, rfl, by rw [tx_len]; exact tlS, ?_⟩
    have cut1 : cutS (tx t) (some ((i : Int) + 1)) (some ((i : Int) + 2)) = tx (s.take 1) := by
      have := cut_tx (t := t) (a := i + 1) (b := i + 2) (by omega)
      rw [show i + 2 - (i + 1) = 1 by omega, ← List.drop_drop, ht] at this
      exact this
    rw [cut1]
    refine fun M hM => ⟨upd_same, lkD, rfl, (by decide), ?_⟩
    have g1 : Gr (fun _ => False) H G (upd (upd H M (.dK [])) M (.dK (mergeK [] lkD))) G :=
      ⟨fun a _ ha => by
        have n : a ≠ M := fun e => ha (by rw [e]; exact hM)
        rw [upd_ne n, upd_ne n], fun a ha => by
        have n : a ≠ M := fun e => ha (by rw [e]; exact hM)
        rw [upd_ne n, upd_ne n]
        exact ha, Same.refl _, NF.Same.mut (NF.Same.new z.gh hM) (L2.Same.free z.gh hM), fun _ _ => rfl⟩
    have hM2 := upd_same (H := upd H M (.dK [])) (a := M) (o := .dK (mergeK [] lkD))
    generalize upd (upd H M (.dK [])) M (.dK (mergeK [] lkD)) = H1 at g1 hM2
    cases s with
    | nil =>
      rw [jntS_no hb fun d s' e => by cases e] at q
      refine ⟨_, rfl, rfl, _, rfl, iteT' (by decide +kernel) ?_⟩
      refine ⟨_, rfl, _, _, rfl, rfl, (by show 2 ≤ sizeLine; decide), fun rp hrp => ?_⟩
      exact q rp _ (g1.trans (Gr.new g1.gh hrp)) (SqT.of upd_same)
    | cons d s =>
      have nd0 : V.str (tx [d]) ≠ V.str "" := fun e => by
        have := tx_inj (show tx [d] = tx [] from V.str.inj e)
        cases this
      refine ⟨_, rfl, rfl, _, rfl, iteF' (decide_eq_false nd0) ?_⟩
      by_cases hx : ∃ j, isBin j = true ∧ hd1 j = d
      rotate_left
      · have hx : ∀ j, isBin j = true → hd1 j ≠ d := fun j hj e => hx ⟨j, hj, e⟩
        rw [jntS_no hb fun d' s' e p hp => by
          injection e with e _
          rw [← e]
          exact hx p (hb p hp)] at q
        refine ⟨_, rfl, _, rfl, M, _, rfl, .inl ⟨_, Sum.inr (tx [d]), .inl hM2, rfl, (lk_no hx).symm⟩, _, rfl, iteT' rfl ?_⟩
        refine ⟨_, rfl, _, _, rfl, rfl, (by show 2 ≤ sizeLine; decide), fun rp hrp => ?_⟩
        exact q rp _ (g1.trans (Gr.new g1.gh hrp)) (SqT.of upd_same)
      obtain ⟨j, hjb, rfl⟩ := hx
      refine ⟨_, rfl, _, rfl, M, _, rfl, .inl ⟨_, Sum.inr (tx [hd1 j]), .inl hM2, rfl, (lk_at hjb).symm⟩, _, rfl, iteF' rfl ?_⟩
      refine ⟨_, rfl, _, rfl, M, _, rfl, .inl ⟨_, Sum.inr (tx [hd1 j]), .inl hM2, rfl, (lk_at hjb).symm⟩, ?_⟩
      have z1 := z.keep g1 fun x _ y => y
      have hlen : ((qs.reverse.map fun q => V.ref q.1)).length = st.length + 1 := by
        rw [List.length_map, List.length_reverse, z.all.len, List.length_cons, lst]
      refine ⟨_, rfl, rfl, _, rfl, ?_⟩
      obtain ⟨qh, qs2, rfl⟩ : ∃ qh qs2, qs = qh :: qs2 := by
        have := z.all.len
        cases qs with
        | nil => cases this
        | cons a b => exact ⟨a, b, rfl⟩
      have fl5 : (l.W.reverse.map wdV).all flatV = true := List.all_eq_true.mpr fun v hv => by
        obtain ⟨u, _, rfl⟩ := List.mem_map.mp hv
        rfl
      have d2 := in_wdr (u := 2) (by decide) li.w
      have d3 := in_wdr (u := 3) (by decide) li.w
      by_cases hin : j ∈ jns (f :: st) (!b)
      · obtain ⟨_, j2, j3⟩ := jns_in hin
        have res : isRes j = true → ¬ 2 ∈ l.W ∧ ¬ 3 ∈ l.W := fun h => by
          have : some f = some false := j2 h
          have := Option.some.inj this
          have hf := li.f
          rw [this] at hf
          exact ⟨fun z => Bool.noConfusion (hf.mpr (.inl z)), fun z => Bool.noConfusion (hf.mpr (.inr z))⟩
        by_cases hj : j = blw
        · obtain ⟨b1, b2⟩ := j3 hj
          obtain rfl : b = true := by simpa using b1
          have stl : st.length = 0 := by rw [List.length_cons] at b2; omega
          refine iteT' (by rw [wd_blw hjb, hj]; rfl) ?_
          refine ⟨_, rfl, true, rfl, ?_⟩
          refine iteF ?_
          refine ⟨_, rfl, Aa, _, rfl, .inl (SqL.of z1.hA), _, _, rfl, rfl, _, rfl, iteF' (decide_eq_false (by rw [hlen, stl]; decide)) ?_⟩
          refine ⟨_, rfl, (by show 2 ≤ sizeLine; decide), fun tp htp => ?_⟩
          refine ⟨tp, _, rfl, .inr (SqT.of upd_same), rfl, rfl, _, rfl, ?_⟩
          rw [if_neg (by decide), wd_res hjb]
          have g2 : Gr (fun _ => False) H1 G (upd H1 tp (.tup [.str "under", .str "over"])) G := Gr.new g1.gh htp
          have z2 := z1.keep g2 fun x _ y => y
          generalize upd H1 tp (.tup [.str "under", .str "over"]) = H2 at g2 z2
          have hAe := z2.top
          have hl := z2.hd
          cases hre : isRes j with
          | true =>
            obtain ⟨m2, m3⟩ := res hre
            refine iteT ?_
            refine ⟨_, rfl, _, rfl, Aa, _, _, _, rfl, rfl, SqL.of hAe, atI_last _ _, qh.1, _, _, _, rfl, rfl, SqL.of hl.hL, atI_nat (j := 1) rfl, qh.2.2, _, rfl, .inl (SqL.of hl.hW), rfl, fl5, _, rfl, ?_⟩
            rw [if_neg (by decide), show inV (V.str "under") (l.W.reverse.map wdV) = _ from d2]
            refine iteF' (decide_eq_false m2) ?_
            refine ⟨_, rfl, _, rfl, Aa, _, _, _, rfl, rfl, SqL.of hAe, atI_last _ _, qh.1, _, _, _, rfl, rfl, SqL.of hl.hL, atI_nat (j := 1) rfl, qh.2.2, _, rfl, .inl (SqL.of hl.hW), rfl, fl5, _, rfl, ?_⟩
            rw [if_neg (by decide), show inV (V.str "over") (l.W.reverse.map wdV) = _ from d3]
            refine iteF' (decide_eq_false m3) ?_
            refine fun M2 hM3 => ⟨upd_same, lsD, rfl, (by decide), ?_⟩
            have g3 : Gr (fun _ => False) H2 G (upd (upd H2 M2 (.dK [])) M2 (.dK (mergeK [] lsD))) G :=
              ⟨fun a _ ha => by
                have n : a ≠ M2 := fun e => ha (by rw [e]; exact hM3)
                rw [upd_ne n, upd_ne n], fun a ha => by
                have n : a ≠ M2 := fun e => ha (by rw [e]; exact hM3)
                rw [upd_ne n, upd_ne n]
                exact ha, Same.refl _, NF.Same.mut (NF.Same.new g2.gh hM3) (L2.Same.free g2.gh hM3), fun _ _ => rfl⟩
            have hM4 := upd_same (H := upd H2 M2 (.dK [])) (a := M2) (o := .dK (mergeK [] lsD))
            generalize upd (upd H2 M2 (.dK [])) M2 (.dK (mergeK [] lsD)) = H3 at g3 hM4
            have g13 := g1.trans (g2.trans g3)
            refine ⟨_, rfl, M2, _, rfl, .inl ⟨_, Sum.inr (wdJ j), .inl hM4, rfl, (ls_at hjb).symm⟩, ?_⟩
            have jl := jnt_len hjb
            have Sl : (j ++ [32]).length = j.length + 1 := by rw [List.length_append]; rfl
            have SS : (j ++ [32]).length ≤ sizeLine := by rw [Sl]; exact Nat.le_trans (show j.length + 1 ≤ 6 by omega) (by decide)
            refine ⟨_, rfl, tx (j ++ [32]), rfl, by rw [tx_len]; exact SS, ?_⟩
            rw [tx_len]
            refine ⟨(((j ++ [32]).length : Nat) : Int), rfl, by omega, by omega, ?_⟩
            rw [Int.toNat_natCast]
            refine for_range (fun k σ Hc => Hc = H3 ∧ k ≤ lcp (hd1 j :: s) (j ++ [32]) ∧ ∃ v8, σ = [some (.str (tx t)), some (.int (i : Int)), some (.ref Aa), some (.bl true), some (.str (tx [hd1 j])), some (.ref M), some (.str (wdJ j)), some (.str (tx (j ++ [32]))), v8]) ⟨rfl, Nat.zero_le _, none, rfl⟩ ?_ ?_
            · rintro k σ Hc hk ⟨rfl, hkl, v8, rfl⟩
              refine ⟨_, rfl, _, rfl, _, _, rfl, rfl, _, rfl, _, _, rfl, rfl, _, rfl, _, rfl, _, _, rfl, rfl, _, rfl, _, _, rfl, rfl, _, rfl, ?_⟩
              refine ⟨tx t, rfl, by rw [tx_len]; exact tlS, ?_⟩
              have cutk : cutS (tx t) (some ((i : Int) + 1 + ((0 : Int) + (k : Int)))) (some ((i : Int) + 2 + ((0 : Int) + (k : Int)))) = tx (((hd1 j :: s).drop k).take 1) := by
                have := cut_tx (t := t) (a := i + 1 + k) (b := i + 2 + k) (by omega)
                rw [show i + 2 + k - (i + 1 + k) = 1 by omega, ← List.drop_drop, ← List.drop_drop, ht] at this
                rw [Int.zero_add]
                exact this
              rw [cutk]
              obtain ⟨x, hx⟩ : ∃ x, (j ++ [32])[k]? = some x := ⟨_, List.getElem?_eq_getElem hk⟩
              have hxi : ∀ {Hq : Hp} {Qq : VK}, Qq (.str ⟨#[x]⟩) Hq → rIxS (.str (tx (j ++ [32]))) (.int ((0 : Int) + (k : Int))) Hq Qq := fun {Hq Qq} qq => by
                rw [Int.zero_add]
                exact ix_tx SS hx qq
              refine ⟨_, rfl, _, rfl, hxi ⟨rfl, _, rfl, ?_⟩⟩
              by_cases hm : (hd1 j :: s)[k]? = some x
              · have e1 : ((hd1 j :: s).drop k).take 1 = [x] := by
                  obtain ⟨h1, h2⟩ := List.getElem?_eq_some_iff.mp hm
                  rw [List.drop_eq_getElem_cons h1, h2]
                  rfl
                refine iteF' (by
                  rw [e1]
                  show (!decide (V.str (tx [x]) = V.str (tx [x]))) = false
                  rw [decide_eq_true rfl]
                  rfl) ?_
                exact ⟨rfl, lcp_ge hkl hm hx, _, rfl⟩
              · have en : ((hd1 j :: s).drop k).take 1 ≠ [x] := fun e => hm (by
                  have : (((hd1 j :: s).drop k).take 1)[0]? = some x := by rw [e]; rfl
                  rw [List.getElem?_take, if_pos (by decide), List.getElem?_drop, Nat.add_zero] at this
                  exact this)
                have el := lcp_at hkl hx hm
                refine iteT' (by
                  show (!decide (V.str (tx (((hd1 j :: s).drop k).take 1)) = V.str (tx [x]))) = true
                  rw [decide_eq_false fun e => en (tx_inj (V.str.inj e))]
                  rfl) ?_
                rw [jntS_one hb hin rfl, el, if_neg (by omega)] at q
                have q : ∀ p H', Gr (fun _ => False) H G H' G → SqT K H' p [.int ((i + (1 + k) : Nat) : Int), .non] → Q (.ref p) H' := q
                refine ⟨_, rfl, _, _, rfl, rfl, _, rfl, _, _, rfl, rfl, (by show 2 ≤ sizeLine; decide), fun rp hrp => ?_⟩
                refine q rp _ (g13.trans (Gr.new g3.gh hrp)) ?_
                rw [show ((i + (1 + k) : Nat) : Int) = (i : Int) + 1 + ((0 : Int) + (k : Int)) by omega]
                exact SqT.of upd_same
            · rintro σ Hc ⟨rfl, hkl, v8, rfl⟩
              have l := lcp_le (hd1 j :: s) (j ++ [32])
              rw [jntS_one hb hin rfl, if_pos (by omega)] at q
              have q : ∀ p H', Gr (fun _ => False) H G H' G → SqT K H' p [.int ((i + j.length + 2 : Nat) : Int), .str (wdJ j)] → Q (.ref p) H' := q
              refine ⟨_, rfl, _, _, rfl, rfl, _, rfl, tx (j ++ [32]), rfl, by rw [tx_len]; exact SS, ?_⟩
              rw [tx_len]
              refine ⟨_, _, rfl, rfl, _, rfl, (by show 2 ≤ sizeLine; decide), fun rp hrp => ?_⟩
              refine q rp _ (g13.trans (Gr.new g3.gh hrp)) ?_
              rw [show ((i + j.length + 2 : Nat) : Int) = (i : Int) + 1 + (((j ++ [32]).length : Nat) : Int) by rw [Sl]; omega]
              exact SqT.of upd_same
          | false =>
            refine iteF ?_
            refine fun M2 hM3 => ⟨upd_same, lsD, rfl, (by decide), ?_⟩
            have g3 : Gr (fun _ => False) H2 G (upd (upd H2 M2 (.dK [])) M2 (.dK (mergeK [] lsD))) G :=
              ⟨fun a _ ha => by
                have n : a ≠ M2 := fun e => ha (by rw [e]; exact hM3)
                rw [upd_ne n, upd_ne n], fun a ha => by
                have n : a ≠ M2 := fun e => ha (by rw [e]; exact hM3)
                rw [upd_ne n, upd_ne n]
                exact ha, Same.refl _, NF.Same.mut (NF.Same.new g2.gh hM3) (L2.Same.free g2.gh hM3), fun _ _ => rfl⟩
            have hM4 := upd_same (H := upd H2 M2 (.dK [])) (a := M2) (o := .dK (mergeK [] lsD))
            generalize upd (upd H2 M2 (.dK [])) M2 (.dK (mergeK [] lsD)) = H3 at g3 hM4
            have g13 := g1.trans (g2.trans g3)
            refine ⟨_, rfl, M2, _, rfl, .inl ⟨_, Sum.inr (wdJ j), .inl hM4, rfl, (ls_at hjb).symm⟩, ?_⟩
            have jl := jnt_len hjb
            have Sl : (j ++ [32]).length = j.length + 1 := by rw [List.length_append]; rfl
            have SS : (j ++ [32]).length ≤ sizeLine := by rw [Sl]; exact Nat.le_trans (show j.length + 1 ≤ 6 by omega) (by decide)
            refine ⟨_, rfl, tx (j ++ [32]), rfl, by rw [tx_len]; exact SS, ?_⟩
            rw [tx_len]
            refine ⟨(((j ++ [32]).length : Nat) : Int), rfl, by omega, by omega, ?_⟩
            rw [Int.toNat_natCast]
            refine for_range (fun k σ Hc => Hc = H3 ∧ k ≤ lcp (hd1 j :: s) (j ++ [32]) ∧ ∃ v8, σ = [some (.str (tx t)), some (.int (i : Int)), some (.ref Aa), some (.bl true), some (.str (tx [hd1 j])), some (.ref M), some (.str (wdJ j)), some (.str (tx (j ++ [32]))), v8]) ⟨rfl, Nat.zero_le _, none, rfl⟩ ?_ ?_
            · rintro k σ Hc hk ⟨rfl, hkl, v8, rfl⟩
              refine ⟨_, rfl, _, rfl, _, _, rfl, rfl, _, rfl, _, _, rfl, rfl, _, rfl, _, rfl, _, _, rfl, rfl, _, rfl, _, _, rfl, rfl, _, rfl, ?_⟩
              refine ⟨tx t, rfl, by rw [tx_len]; exact tlS, ?_⟩
              have cutk : cutS (tx t) (some ((i : Int) + 1 + ((0 : Int) + (k : Int)))) (some ((i : Int) + 2 + ((0 : Int) + (k : Int)))) = tx (((hd1 j :: s).drop k).take 1) := by
                have := cut_tx (t := t) (a := i + 1 + k) (b := i + 2 + k) (by omega)
                rw [show i + 2 + k - (i + 1 + k) = 1 by omega, ← List.drop_drop, ← List.drop_drop, ht] at this
                rw [Int.zero_add]
                exact this
              rw [cutk]
              obtain ⟨x, hx⟩ : ∃ x, (j ++ [32])[k]? = some x := ⟨_, List.getElem?_eq_getElem hk⟩
              have hxi : ∀ {Hq : Hp} {Qq : VK}, Qq (.str ⟨#[x]⟩) Hq → rIxS (.str (tx (j ++ [32]))) (.int ((0 : Int) + (k : Int))) Hq Qq := fun {Hq Qq} qq => by
                rw [Int.zero_add]
                exact ix_tx SS hx qq
              refine ⟨_, rfl, _, rfl, hxi ⟨rfl, _, rfl, ?_⟩⟩
              by_cases hm : (hd1 j :: s)[k]? = some x
              · have e1 : ((hd1 j :: s).drop k).take 1 = [x] := by
                  obtain ⟨h1, h2⟩ := List.getElem?_eq_some_iff.mp hm
                  rw [List.drop_eq_getElem_cons h1, h2]
                  rfl
                refine iteF' (by
                  rw [e1]
                  show (!decide (V.str (tx [x]) = V.str (tx [x]))) = false
                  rw [decide_eq_true rfl]
                  rfl) ?_
                exact ⟨rfl, lcp_ge hkl hm hx, _, rfl⟩
              · have en : ((hd1 j :: s).drop k).take 1 ≠ [x] := fun e => hm (by
                  have : (((hd1 j :: s).drop k).take 1)[0]? = some x := by rw [e]; rfl
                  rw [List.getElem?_take, if_pos (by decide), List.getElem?_drop, Nat.add_zero] at this
                  exact this)
                have el := lcp_at hkl hx hm
                refine iteT' (by
                  show (!decide (V.str (tx (((hd1 j :: s).drop k).take 1)) = V.str (tx [x]))) = true
                  rw [decide_eq_false fun e => en (tx_inj (V.str.inj e))]
                  rfl) ?_
                rw [jntS_one hb hin rfl, el, if_neg (by omega)] at q
                have q : ∀ p H', Gr (fun _ => False) H G H' G → SqT K H' p [.int ((i + (1 + k) : Nat) : Int), .non] → Q (.ref p) H' := q
                refine ⟨_, rfl, _, _, rfl, rfl, _, rfl, _, _, rfl, rfl, (by show 2 ≤ sizeLine; decide), fun rp hrp => ?_⟩
                refine q rp _ (g13.trans (Gr.new g3.gh hrp)) ?_
                rw [show ((i + (1 + k) : Nat) : Int) = (i : Int) + 1 + ((0 : Int) + (k : Int)) by omega]
                exact SqT.of upd_same
            · rintro σ Hc ⟨rfl, hkl, v8, rfl⟩
              have l := lcp_le (hd1 j :: s) (j ++ [32])
              rw [jntS_one hb hin rfl, if_pos (by omega)] at q
              have q : ∀ p H', Gr (fun _ => False) H G H' G → SqT K H' p [.int ((i + j.length + 2 : Nat) : Int), .str (wdJ j)] → Q (.ref p) H' := q
              refine ⟨_, rfl, _, _, rfl, rfl, _, rfl, tx (j ++ [32]), rfl, by rw [tx_len]; exact SS, ?_⟩
              rw [tx_len]
              refine ⟨_, _, rfl, rfl, _, rfl, (by show 2 ≤ sizeLine; decide), fun rp hrp => ?_⟩
              refine q rp _ (g13.trans (Gr.new g3.gh hrp)) ?_
              rw [show ((i + j.length + 2 : Nat) : Int) = (i : Int) + 1 + (((j ++ [32]).length : Nat) : Int) by rw [Sl]; omega]
              exact SqT.of upd_same
        · refine iteF' (by rw [wd_blw hjb]; exact beq_eq_false_iff_ne.mpr hj) ?_
          refine ⟨_, rfl, (by show 2 ≤ sizeLine; decide), fun tp htp => ?_⟩
          refine ⟨tp, _, rfl, .inr (SqT.of upd_same), rfl, rfl, _, rfl, ?_⟩
          rw [if_neg (by decide), wd_res hjb]
          have g2 : Gr (fun _ => False) H1 G (upd H1 tp (.tup [.str "under", .str "over"])) G := Gr.new g1.gh htp
          have z2 := z1.keep g2 fun x _ y => y
          generalize upd H1 tp (.tup [.str "under", .str "over"]) = H2 at g2 z2
          have hAe := z2.top
          have hl := z2.hd
          cases hre : isRes j with
          | true =>
            obtain ⟨m2, m3⟩ := res hre
            refine iteT ?_
            refine ⟨_, rfl, _, rfl, Aa, _, _, _, rfl, rfl, SqL.of hAe, atI_last _ _, qh.1, _, _, _, rfl, rfl, SqL.of hl.hL, atI_nat (j := 1) rfl, qh.2.2, _, rfl, .inl (SqL.of hl.hW), rfl, fl5, _, rfl, ?_⟩
            rw [if_neg (by decide), show inV (V.str "under") (l.W.reverse.map wdV) = _ from d2]
            refine iteF' (decide_eq_false m2) ?_
            refine ⟨_, rfl, _, rfl, Aa, _, _, _, rfl, rfl, SqL.of hAe, atI_last _ _, qh.1, _, _, _, rfl, rfl, SqL.of hl.hL, atI_nat (j := 1) rfl, qh.2.2, _, rfl, .inl (SqL.of hl.hW), rfl, fl5, _, rfl, ?_⟩
            rw [if_neg (by decide), show inV (V.str "over") (l.W.reverse.map wdV) = _ from d3]
            refine iteF' (decide_eq_false m3) ?_
            refine fun M2 hM3 => ⟨upd_same, lsD, rfl, (by decide), ?_⟩
            have g3 : Gr (fun _ => False) H2 G (upd (upd H2 M2 (.dK [])) M2 (.dK (mergeK [] lsD))) G :=
              ⟨fun a _ ha => by
                have n : a ≠ M2 := fun e => ha (by rw [e]; exact hM3)
                rw [upd_ne n, upd_ne n], fun a ha => by
                have n : a ≠ M2 := fun e => ha (by rw [e]; exact hM3)
                rw [upd_ne n, upd_ne n]
                exact ha, Same.refl _, NF.Same.mut (NF.Same.new g2.gh hM3) (L2.Same.free g2.gh hM3), fun _ _ => rfl⟩
            have hM4 := upd_same (H := upd H2 M2 (.dK [])) (a := M2) (o := .dK (mergeK [] lsD))
            generalize upd (upd H2 M2 (.dK [])) M2 (.dK (mergeK [] lsD)) = H3 at g3 hM4
            have g13 := g1.trans (g2.trans g3)
            refine ⟨_, rfl, M2, _, rfl, .inl ⟨_, Sum.inr (wdJ j), .inl hM4, rfl, (ls_at hjb).symm⟩, ?_⟩
            have jl := jnt_len hjb
            have Sl : (j ++ [32]).length = j.length + 1 := by rw [List.length_append]; rfl
            have SS : (j ++ [32]).length ≤ sizeLine := by rw [Sl]; exact Nat.le_trans (show j.length + 1 ≤ 6 by omega) (by decide)
            refine ⟨_, rfl, tx (j ++ [32]), rfl, by rw [tx_len]; exact SS, ?_⟩
            rw [tx_len]
            refine ⟨(((j ++ [32]).length : Nat) : Int), rfl, by omega, by omega, ?_⟩
            rw [Int.toNat_natCast]
            refine for_range (fun k σ Hc => Hc = H3 ∧ k ≤ lcp (hd1 j :: s) (j ++ [32]) ∧ ∃ v8, σ = [some (.str (tx t)), some (.int (i : Int)), some (.ref Aa), some (.bl b), some (.str (tx [hd1 j])), some (.ref M), some (.str (wdJ j)), some (.str (tx (j ++ [32]))), v8]) ⟨rfl, Nat.zero_le _, none, rfl⟩ ?_ ?_
            · rintro k σ Hc hk ⟨rfl, hkl, v8, rfl⟩
              refine ⟨_, rfl, _, rfl, _, _, rfl, rfl, _, rfl, _, _, rfl, rfl, _, rfl, _, rfl, _, _, rfl, rfl, _, rfl, _, _, rfl, rfl, _, rfl, ?_⟩
              refine ⟨tx t, rfl, by rw [tx_len]; exact tlS, ?_⟩
              have cutk : cutS (tx t) (some ((i : Int) + 1 + ((0 : Int) + (k : Int)))) (some ((i : Int) + 2 + ((0 : Int) + (k : Int)))) = tx (((hd1 j :: s).drop k).take 1) := by
                have := cut_tx (t := t) (a := i + 1 + k) (b := i + 2 + k) (by omega)
                rw [show i + 2 + k - (i + 1 + k) = 1 by omega, ← List.drop_drop, ← List.drop_drop, ht] at this
                rw [Int.zero_add]
                exact this
              rw [cutk]
              obtain ⟨x, hx⟩ : ∃ x, (j ++ [32])[k]? = some x := ⟨_, List.getElem?_eq_getElem hk⟩
              have hxi : ∀ {Hq : Hp} {Qq : VK}, Qq (.str ⟨#[x]⟩) Hq → rIxS (.str (tx (j ++ [32]))) (.int ((0 : Int) + (k : Int))) Hq Qq := fun {Hq Qq} qq => by
                rw [Int.zero_add]
                exact ix_tx SS hx qq
              refine ⟨_, rfl, _, rfl, hxi ⟨rfl, _, rfl, ?_⟩⟩
              by_cases hm : (hd1 j :: s)[k]? = some x
              · have e1 : ((hd1 j :: s).drop k).take 1 = [x] := by
                  obtain ⟨h1, h2⟩ := List.getElem?_eq_some_iff.mp hm
                  rw [List.drop_eq_getElem_cons h1, h2]
                  rfl
                refine iteF' (by
                  rw [e1]
                  show (!decide (V.str (tx [x]) = V.str (tx [x]))) = false
                  rw [decide_eq_true rfl]
                  rfl) ?_
                exact ⟨rfl, lcp_ge hkl hm hx, _, rfl⟩
              · have en : ((hd1 j :: s).drop k).take 1 ≠ [x] := fun e => hm (by
                  have : (((hd1 j :: s).drop k).take 1)[0]? = some x := by rw [e]; rfl
                  rw [List.getElem?_take, if_pos (by decide), List.getElem?_drop, Nat.add_zero] at this
                  exact this)
                have el := lcp_at hkl hx hm
                refine iteT' (by
                  show (!decide (V.str (tx (((hd1 j :: s).drop k).take 1)) = V.str (tx [x]))) = true
                  rw [decide_eq_false fun e => en (tx_inj (V.str.inj e))]
                  rfl) ?_
                rw [jntS_one hb hin rfl, el, if_neg (by omega)] at q
                have q : ∀ p H', Gr (fun _ => False) H G H' G → SqT K H' p [.int ((i + (1 + k) : Nat) : Int), .non] → Q (.ref p) H' := q
                refine ⟨_, rfl, _, _, rfl, rfl, _, rfl, _, _, rfl, rfl, (by show 2 ≤ sizeLine; decide), fun rp hrp => ?_⟩
                refine q rp _ (g13.trans (Gr.new g3.gh hrp)) ?_
                rw [show ((i + (1 + k) : Nat) : Int) = (i : Int) + 1 + ((0 : Int) + (k : Int)) by omega]
                exact SqT.of upd_same
            · rintro σ Hc ⟨rfl, hkl, v8, rfl⟩
              have l := lcp_le (hd1 j :: s) (j ++ [32])
              rw [jntS_one hb hin rfl, if_pos (by omega)] at q
              have q : ∀ p H', Gr (fun _ => False) H G H' G → SqT K H' p [.int ((i + j.length + 2 : Nat) : Int), .str (wdJ j)] → Q (.ref p) H' := q
              refine ⟨_, rfl, _, _, rfl, rfl, _, rfl, tx (j ++ [32]), rfl, by rw [tx_len]; exact SS, ?_⟩
              rw [tx_len]
              refine ⟨_, _, rfl, rfl, _, rfl, (by show 2 ≤ sizeLine; decide), fun rp hrp => ?_⟩
              refine q rp _ (g13.trans (Gr.new g3.gh hrp)) ?_
              rw [show ((i + j.length + 2 : Nat) : Int) = (i : Int) + 1 + (((j ++ [32]).length : Nat) : Int) by rw [Sl]; omega]
              exact SqT.of upd_same
          | false =>
            refine iteF ?_
            refine fun M2 hM3 => ⟨upd_same, lsD, rfl, (by decide), ?_⟩
            have g3 : Gr (fun _ => False) H2 G (upd (upd H2 M2 (.dK [])) M2 (.dK (mergeK [] lsD))) G :=
              ⟨fun a _ ha => by
                have n : a ≠ M2 := fun e => ha (by rw [e]; exact hM3)
                rw [upd_ne n, upd_ne n], fun a ha => by
                have n : a ≠ M2 := fun e => ha (by rw [e]; exact hM3)
                rw [upd_ne n, upd_ne n]
                exact ha, Same.refl _, NF.Same.mut (NF.Same.new g2.gh hM3) (L2.Same.free g2.gh hM3), fun _ _ => rfl⟩
            have hM4 := upd_same (H := upd H2 M2 (.dK [])) (a := M2) (o := .dK (mergeK [] lsD))
            generalize upd (upd H2 M2 (.dK [])) M2 (.dK (mergeK [] lsD)) = H3 at g3 hM4
            have g13 := g1.trans (g2.trans g3)
            refine ⟨_, rfl, M2, _, rfl, .inl ⟨_, Sum.inr (wdJ j), .inl hM4, rfl, (ls_at hjb).symm⟩, ?_⟩
            have jl := jnt_len hjb
            have Sl : (j ++ [32]).length = j.length + 1 := by rw [List.length_append]; rfl
            have SS : (j ++ [32]).length ≤ sizeLine := by rw [Sl]; exact Nat.le_trans (show j.length + 1 ≤ 6 by omega) (by decide)
            refine ⟨_, rfl, tx (j ++ [32]), rfl, by rw [tx_len]; exact SS, ?_⟩
            rw [tx_len]
            refine ⟨(((j ++ [32]).length : Nat) : Int), rfl, by omega, by omega, ?_⟩
            rw [Int.toNat_natCast]
            refine for_range (fun k σ Hc => Hc = H3 ∧ k ≤ lcp (hd1 j :: s) (j ++ [32]) ∧ ∃ v8, σ = [some (.str (tx t)), some (.int (i : Int)), some (.ref Aa), some (.bl b), some (.str (tx [hd1 j])), some (.ref M), some (.str (wdJ j)), some (.str (tx (j ++ [32]))), v8]) ⟨rfl, Nat.zero_le _, none, rfl⟩ ?_ ?_
            · rintro k σ Hc hk ⟨rfl, hkl, v8, rfl⟩
              refine ⟨_, rfl, _, rfl, _, _, rfl, rfl, _, rfl, _, _, rfl, rfl, _, rfl, _, rfl, _, _, rfl, rfl, _, rfl, _, _, rfl, rfl, _, rfl, ?_⟩
              refine ⟨tx t, rfl, by rw [tx_len]; exact tlS, ?_⟩
              have cutk : cutS (tx t) (some ((i : Int) + 1 + ((0 : Int) + (k : Int)))) (some ((i : Int) + 2 + ((0 : Int) + (k : Int)))) = tx (((hd1 j :: s).drop k).take 1) := by
                have := cut_tx (t := t) (a := i + 1 + k) (b := i + 2 + k) (by omega)
                rw [show i + 2 + k - (i + 1 + k) = 1 by omega, ← List.drop_drop, ← List.drop_drop, ht] at this
                rw [Int.zero_add]
                exact this
              rw [cutk]
              obtain ⟨x, hx⟩ : ∃ x, (j ++ [32])[k]? = some x := ⟨_, List.getElem?_eq_getElem hk⟩
              have hxi : ∀ {Hq : Hp} {Qq : VK}, Qq (.str ⟨#[x]⟩) Hq → rIxS (.str (tx (j ++ [32]))) (.int ((0 : Int) + (k : Int))) Hq Qq := fun {Hq Qq} qq => by
                rw [Int.zero_add]
                exact ix_tx SS hx qq
              refine ⟨_, rfl, _, rfl, hxi ⟨rfl, _, rfl, ?_⟩⟩
              by_cases hm : (hd1 j :: s)[k]? = some x
              · have e1 : ((hd1 j :: s).drop k).take 1 = [x] := by
                  obtain ⟨h1, h2⟩ := List.getElem?_eq_some_iff.mp hm
                  rw [List.drop_eq_getElem_cons h1, h2]
                  rfl
                refine iteF' (by
                  rw [e1]
                  show (!decide (V.str (tx [x]) = V.str (tx [x]))) = false
                  rw [decide_eq_true rfl]
                  rfl) ?_
                exact ⟨rfl, lcp_ge hkl hm hx, _, rfl⟩
              · have en : ((hd1 j :: s).drop k).take 1 ≠ [x] := fun e => hm (by
                  have : (((hd1 j :: s).drop k).take 1)[0]? = some x := by rw [e]; rfl
                  rw [List.getElem?_take, if_pos (by decide), List.getElem?_drop, Nat.add_zero] at this
                  exact this)
                have el := lcp_at hkl hx hm
                refine iteT' (by
                  show (!decide (V.str (tx (((hd1 j :: s).drop k).take 1)) = V.str (tx [x]))) = true
                  rw [decide_eq_false fun e => en (tx_inj (V.str.inj e))]
                  rfl) ?_
                rw [jntS_one hb hin rfl, el, if_neg (by omega)] at q
                have q : ∀ p H', Gr (fun _ => False) H G H' G → SqT K H' p [.int ((i + (1 + k) : Nat) : Int), .non] → Q (.ref p) H' := q
                refine ⟨_, rfl, _, _, rfl, rfl, _, rfl, _, _, rfl, rfl, (by show 2 ≤ sizeLine; decide), fun rp hrp => ?_⟩
                refine q rp _ (g13.trans (Gr.new g3.gh hrp)) ?_
                rw [show ((i + (1 + k) : Nat) : Int) = (i : Int) + 1 + ((0 : Int) + (k : Int)) by omega]
                exact SqT.of upd_same
            · rintro σ Hc ⟨rfl, hkl, v8, rfl⟩
              have l := lcp_le (hd1 j :: s) (j ++ [32])
              rw [jntS_one hb hin rfl, if_pos (by omega)] at q
              have q : ∀ p H', Gr (fun _ => False) H G H' G → SqT K H' p [.int ((i + j.length + 2 : Nat) : Int), .str (wdJ j)] → Q (.ref p) H' := q
              refine ⟨_, rfl, _, _, rfl, rfl, _, rfl, tx (j ++ [32]), rfl, by rw [tx_len]; exact SS, ?_⟩
              rw [tx_len]
              refine ⟨_, _, rfl, rfl, _, rfl, (by show 2 ≤ sizeLine; decide), fun rp hrp => ?_⟩
              refine q rp _ (g13.trans (Gr.new g3.gh hrp)) ?_
              rw [show ((i + j.length + 2 : Nat) : Int) = (i : Int) + 1 + (((j ++ [32]).length : Nat) : Int) by rw [Sl]; omega]
              exact SqT.of upd_same
      · have eno : jntS (jns (f :: st) (!b)) (hd1 j :: s) = .inl 1 := jntS_no hb fun d' s' e p hp z => by
          injection e with e _
          exact hin (by rw [← hd_inj (hb p hp) hjb (by rw [z, e])]; exact hp)
        rw [eno] at q
        by_cases hj : j = blw
        · refine iteT' (by rw [wd_blw hjb, hj]; rfl) ?_
          refine ⟨_, rfl, b, rfl, ?_⟩
          cases b with
          | false =>
            refine iteT ?_
            refine ⟨_, rfl, _, _, rfl, rfl, (by show 2 ≤ sizeLine; decide), fun rp hrp => ?_⟩
            exact q rp _ (g1.trans (Gr.new g1.gh hrp)) (SqT.of upd_same)
          | true =>
            have sl : 1 ≤ st.length := by
              refine Nat.pos_of_ne_zero fun e => hin ?_
              rw [hj]
              exact in_jns (by decide) (fun z => absurd z (by decide)) fun _ => ⟨rfl, by rw [List.length_cons, e]⟩
            refine iteF ?_
            refine ⟨_, rfl, Aa, _, rfl, .inl (SqL.of z1.hA), _, _, rfl, rfl, _, rfl, iteT' (decide_eq_true (by rw [hlen]; omega)) ?_⟩
            refine ⟨_, rfl, _, _, rfl, rfl, (by show 2 ≤ sizeLine; decide), fun rp hrp => ?_⟩
            exact q rp _ (g1.trans (Gr.new g1.gh hrp)) (SqT.of upd_same)
        · refine iteF' (by rw [wd_blw hjb]; exact beq_eq_false_iff_ne.mpr hj) ?_
          refine ⟨_, rfl, (by show 2 ≤ sizeLine; decide), fun tp htp => ?_⟩
          refine ⟨tp, _, rfl, .inr (SqT.of upd_same), rfl, rfl, _, rfl, ?_⟩
          rw [if_neg (by decide), wd_res hjb]
          have g2 : Gr (fun _ => False) H1 G (upd H1 tp (.tup [.str "under", .str "over"])) G := Gr.new g1.gh htp
          have z2 := z1.keep g2 fun x _ y => y
          generalize upd H1 tp (.tup [.str "under", .str "over"]) = H2 at g2 z2
          have hAe := z2.top
          have hl := z2.hd
          have hre : isRes j = true := by
            cases e : isRes j with
            | true => rfl
            | false => exact absurd (in_jns hjb (fun z => by rw [e] at z; cases z) fun z => absurd z hj) hin
          have hf : f = true := by
            cases e : f with
            | true => rfl
            | false => exact absurd (in_jns hjb (fun _ => by rw [e]; rfl) fun z => absurd z hj) hin
          refine iteT' hre ?_
          refine ⟨_, rfl, _, rfl, Aa, _, _, _, rfl, rfl, SqL.of hAe, atI_last _ _, qh.1, _, _, _, rfl, rfl, SqL.of hl.hL, atI_nat (j := 1) rfl, qh.2.2, _, rfl, .inl (SqL.of hl.hW), rfl, fl5, _, rfl, ?_⟩
          rw [if_neg (by decide), show inV (V.str "under") (l.W.reverse.map wdV) = _ from d2]
          by_cases m2 : 2 ∈ l.W
          · refine iteT' (decide_eq_true m2) ?_
            refine ⟨_, rfl, _, _, rfl, rfl, (by show 2 ≤ sizeLine; decide), fun rp hrp => ?_⟩
            exact q rp _ (g1.trans (g2.trans (Gr.new g2.gh hrp))) (SqT.of upd_same)
          · refine iteF' (decide_eq_false m2) ?_
            refine ⟨_, rfl, _, rfl, Aa, _, _, _, rfl, rfl, SqL.of hAe, atI_last _ _, qh.1, _, _, _, rfl, rfl, SqL.of hl.hL, atI_nat (j := 1) rfl, qh.2.2, _, rfl, .inl (SqL.of hl.hW), rfl, fl5, _, rfl, ?_⟩
            rw [if_neg (by decide), show inV (V.str "over") (l.W.reverse.map wdV) = _ from d3]
            refine iteT' (decide_eq_true ((li.f.mp hf).resolve_left m2)) ?_
            refine ⟨_, rfl, _, _, rfl, rfl, (by show 2 ≤ sizeLine; decide), fun rp hrp => ?_⟩
            exact q rp _ (g1.trans (g2.trans (Gr.new g2.gh hrp))) (SqT.of upd_same)
end
end K13
set_option Elab.async false
set_option linter.all false
set_option maxRecDepth 100000
set_option maxHeartbeats 4000000
/-! The law's own reader: a whole text. -/
namespace K13
open PySem PySem.Spec PyProof.Rows L2 He NF RZ TT
def trmsB (b : Bool) (ps : List TT.Tx) : List Trm := if b then [rdT (fstB ps), rdT (sndB ps)] else [rdT ps]
def prsQ (K : PySem.W.Frag) (H : Hp) (Q : VK) (b : Bool) : Nat ⊕ List TT.Tx → Prop
  | .inl i => ∀ p D xs H', Same H H' → SqT K H' p [.int (i : Int), .ref D] → H' D = some (.lst xs) → Q (.ref p) H'
  | .inr ps => ∀ p D xs H', Same H H' → SqT K H' p [.non, .ref D] → H' D = some (.lst xs) → DpAll K H' xs ((trmsB b ps).map (tmP false)) → Q (.ref p) H'
def spParsed (K : PySem.W.Frag) : Sp := fun vs H Q _ => ∃ (t : TT.Tx) (b : Bool), vs = [.str (tx t), .bl b] ∧ t.length ≤ 900 ∧ prsQ K H Q b (scanG (scN t) true t 0 [] [false] (!b))
theorem sc__law_parsed : FnScope ["_law_text", "_law_both", "_law_levels", "_law_told", "_law_place", "_law_turn", "_law_right_here", "_law_inner", "_law_word"] ["_law_text", "_law_both"] (defScope s__law_parsed) := ⟨rfl, rfl, rfl, by decide +kernel, rfl, by decide +kernel, by decide +kernel⟩
def rfD : List (L2.Key × V) := [(Sum.inr "either", .int 0), (Sum.inr "both", .int 1), (Sum.inr "under", .int 3), (Sum.inr "over", .int 3), (Sum.inr "behind", .int 3)]
theorem rf_at {u : Nat} (h : u < 5) : valV (mergeK [] rfD) (Sum.inr (wordS u)) = some (.int (rkF u : Nat)) := by
  rcases sg_cases h with rfl | rfl | rfl | rfl | rfl <;> decide +kernel
def Cut (b hv : Bool) (ps cur : List TT.Tx) (told : List Trm) : Prop := (told = [] ∧ cur = ps ∧ hv = !b ∧ ¬ blw ∈ ps) ∨ (b = true ∧ hv = true ∧ ∃ a, ¬ blw ∈ a ∧ ps = a ++ blw :: cur ∧ told = [rdT a])
theorem Cut.app {b hv : Bool} {ps cur qs : List TT.Tx} {told : List Trm} (h : Cut b hv ps cur told) (n : ∀ p ∈ qs, p ≠ blw) : Cut b hv (ps ++ qs) (cur ++ qs) told := by
  rcases h with ⟨h1, h2, h3, h4⟩ | ⟨h1, h2, a, h3, h4, h5⟩
  · exact .inl ⟨h1, by rw [h2], h3, fun z => (List.mem_append.mp z).elim h4 fun z => n _ z rfl⟩
  · exact .inr ⟨h1, h2, a, h3, by rw [h4, List.append_assoc]; rfl, h5⟩
theorem Cut.len {b hv : Bool} {ps cur : List TT.Tx} {told : List Trm} (h : Cut b hv ps cur told) : cur.length ≤ ps.length := by
  rcases h with ⟨_, h2, _⟩ | ⟨_, _, a, _, h4, _⟩
  · rw [h2]
    exact Nat.le_refl _
  · rw [h4, List.length_append, List.length_cons]
    omega
structure PrI (K : PySem.W.Frag) (H0 : Hp) (t : TT.Tx) (b : Bool) (res : Nat ⊕ List TT.Tx) (A D : Addr) (e : Bool) (i n : Nat) (ps cur : List TT.Tx) (f : Bool) (tl : List Bool) (hv : Bool) (qs : List (Addr × Addr × Addr)) (G : Hp) (xs : List V) (told : List Trm) (Hc : Hp) : Prop where
  s0 : Same H0 G
  z : Lvs K A Hc G qs (lev cur)
  li : LevI e (lev cur) (f :: tl)
  sm : Sim e (lev cur) (cur.foldl stepM ([], []))
  ct : Cut b hv ps cur told
  hD : Hc D = some (.lst xs)
  gD : G D = none
  dx : DpAll K G xs (told.map (tmP false))
  nD : ¬ D ∈ A :: adrs qs
  hs : scanG (n + 1) e (t.drop i) i ps (f :: tl) hv = res
  hn : 2 * (t.length - i) + (if e then 1 else 0) ≤ n
  pl : ps.length ≤ i
  il : i ≤ t.length
theorem PrI.bd {K : PySem.W.Frag} {H0 : Hp} {t : TT.Tx} {b : Bool} {res : Nat ⊕ List TT.Tx} {A D : Addr} {e : Bool} {i n : Nat} {ps cur : List TT.Tx} {f : Bool} {tl : List Bool} {hv : Bool} {qs : List (Addr × Addr × Addr)} {G : Hp} {xs : List V} {told : List Trm} {Hc : Hp} (pi : PrI K H0 t b res A D e i n ps cur f tl hv qs G xs told Hc) : Bd (i + 1) (lev cur) := by
  have h0 : Bd 1 [⟨[], [], 0⟩] := ⟨Nat.le_refl _, fun l hl => by
    rw [List.mem_singleton.mp hl]
    exact ⟨Nat.zero_le _, Nat.zero_le _, Nat.zero_le _⟩⟩
  have cl := pi.ct.len
  have := pi.pl
  exact Bd.mono (fold_bd (ps := cur) h0) (by omega)
theorem Lvs.init {K : PySem.W.Frag} {H G : Hp} {a1 a2 a3 a4 : Addr} (s : Same G H) (h1 : H a1 = none) (h2 : upd H a1 (.lst []) a2 = none) (h3 : upd (upd H a1 (.lst [])) a2 (.lst []) a3 = none) (h4 : upd (upd (upd H a1 (.lst [])) a2 (.lst [])) a3 (.lst [.ref a1, .ref a2, .int 0]) a4 = none) :
    Lvs K a4 (upd (upd (upd (upd H a1 (.lst [])) a2 (.lst [])) a3 (.lst [.ref a1, .ref a2, .int 0])) a4 (.lst [.ref a3])) G [(a3, a1, a2)] [⟨[], [], 0⟩] ∧ Gr (fun _ => False) H G (upd (upd (upd (upd H a1 (.lst [])) a2 (.lst [])) a3 (.lst [.ref a1, .ref a2, .int 0])) a4 (.lst [.ref a3])) G ∧ (∀ x ∈ [a4, a3, a1, a2], H x = none) := by
  have n12 : a1 ≠ a2 := fun e => by rw [← e, upd_same] at h2; cases h2
  have e2 : H a2 = none := by rwa [upd_ne (Ne.symm n12)] at h2
  have n23 : a2 ≠ a3 := fun e => by rw [← e, upd_same] at h3; cases h3
  have e3' : upd H a1 (.lst []) a3 = none := by rwa [upd_ne (Ne.symm n23)] at h3
  have n13 : a1 ≠ a3 := fun e => by rw [← e, upd_same] at e3'; cases e3'
  have e3 : H a3 = none := by rwa [upd_ne (Ne.symm n13)] at e3'
  have n34 : a3 ≠ a4 := fun e => by rw [← e, upd_same] at h4; cases h4
  have e4a : upd (upd H a1 (.lst [])) a2 (.lst []) a4 = none := by rwa [upd_ne (Ne.symm n34)] at h4
  have n24 : a2 ≠ a4 := fun e => by rw [← e, upd_same] at e4a; cases e4a
  have e4b : upd H a1 (.lst []) a4 = none := by rwa [upd_ne (Ne.symm n24)] at e4a
  have n14 : a1 ≠ a4 := fun e => by rw [← e, upd_same] at e4b; cases e4b
  have e4 : H a4 = none := by rwa [upd_ne (Ne.symm n14)] at e4b
  have g1 : Gr (fun _ => False) H G (upd H a1 (.lst [])) G := Gr.new s h1
  have g2 : Gr (fun _ => False) (upd H a1 (.lst [])) G (upd (upd H a1 (.lst [])) a2 (.lst [])) G := Gr.new g1.gh h2
  have g3 : Gr (fun _ => False) (upd (upd H a1 (.lst [])) a2 (.lst [])) G (upd (upd (upd H a1 (.lst [])) a2 (.lst [])) a3 (.lst [.ref a1, .ref a2, .int 0])) G := Gr.new g2.gh h3
  have g4 : Gr (fun _ => False) (upd (upd (upd H a1 (.lst [])) a2 (.lst [])) a3 (.lst [.ref a1, .ref a2, .int 0])) G (upd (upd (upd (upd H a1 (.lst [])) a2 (.lst [])) a3 (.lst [.ref a1, .ref a2, .int 0])) a4 (.lst [.ref a3])) G := Gr.new g3.gh h4
  refine ⟨⟨g4.gh, L2.Same.free s e4, upd_same, ?_, .cons ⟨?_, ⟨[], ?_, .nil⟩, ?_, L2.Same.free s e3, L2.Same.free s h1, L2.Same.free s e2⟩ .nil⟩, g1.trans (g2.trans (g3.trans g4)), ?_⟩
  · rw [adrs_cons]
    simp only [List.cons_append, List.nil_append, List.nodup_cons, List.mem_cons, not_or]
    exact ⟨⟨Ne.symm n34, Ne.symm n14, Ne.symm n24, List.not_mem_nil⟩, ⟨Ne.symm n13, Ne.symm n23, List.not_mem_nil⟩, ⟨n12, List.not_mem_nil⟩, List.not_mem_nil, List.nodup_nil⟩
  · show upd _ a4 _ a3 = _
    rw [upd_ne n34, upd_same]
    rfl
  · show upd _ a4 _ a1 = _
    rw [upd_ne n14, upd_ne n13, upd_ne n12, upd_same]
  · show upd _ a4 _ a2 = _
    rw [upd_ne n24, upd_ne n23, upd_same]
    rfl
  · intro x hx
    simp only [List.mem_cons, List.not_mem_nil, or_false] at hx
    rcases hx with rfl | rfl | rfl | rfl
    · exact e4
    · exact e3
    · exact h1
    · exact e2
section
variable {P : Program} {w : World} {K : PySem.W.Frag} {mg : Str → Option Value} {base : Heap} {gs fs : List Str} {C : Addr} {tok : Tok}
theorem ok__law_parsed {f : Addr} {fd : FuncData} (F : FunD K "_law_parsed" "_law_parsed" (defArgs s__law_parsed) (defBody s__law_parsed) (defScope s__law_parsed) [] [] f fd) (T : Txt K mg gs FS) (c__law_fold : Cal P w K mg base 1 "_law_fold" (spFold K)) (c__law_take : Cal P w K mg base 1 "_law_take" (spTakeL K)) (c__law_operand : Cal P w K mg base 2 "_law_operand" (spLOper K)) (c__law_link : Cal P w K mg base 1 "_law_link" (spLink K)) : FnOk P w K mg base CX0 3 f fd ["_law_text", "_law_both"] (spParsed K) := by
  refine F.ok sc__law_parsed (fun vs H Q E h => ?_) (fun cdv A outer s H vs Q E hr h => ?_)
  · obtain ⟨t, b, rfl, _⟩ := h
    rfl
  · have hu1 : (A.deeper (envOfC "_law_parsed" (defScope s__law_parsed) s.heap.objs.size f cdv)).units + 1 < cLine := by
      have := hr.un
      omega
    obtain ⟨t, b, rfl, tl9, q⟩ := h
    refine ⟨_, PSs.nox (pss_cons (ps_set (i := 2) sc__law_parsed.nd rfl (Or.inl rfl) (pe_lst (pa_cons (pe_lst (pa_cons (pe_lst pa_nil) (pa_cons (pe_lst pa_nil) (pa_cons pe_int pa_nil)))) pa_nil))) (pss_cons (ps_set (i := 3) sc__law_parsed.nd rfl (Or.inl rfl) (pe_lst pa_nil)) (pss_cons (ps_set (i := 4) sc__law_parsed.nd rfl (Or.inl rfl) pe_int) (pss_cons (ps_for PassesOwn.never rfl (pi_range1 rfl (T.fr _ (by decide +kernel)) (pa_cons (pe_op op_add (pe_callB call_len_str rfl (T.fr _ (by decide +kernel)) boot_len (pa_cons (pv 0) pa_nil)) pe_int) pa_nil)) (pg_name (i := 5) sc__law_parsed.nd rfl (Or.inl rfl)) (pss_cons (ps_asg (pe_c c__law_operand hr (by decide) rfl (pa_cons (pv 0) (pa_cons (pv 4) (pa_cons (pv 2) pa_nil)))) (pgt (K := K) (n := 2) rfl rfl (pgs_cons (pg_name (i := 4) sc__law_parsed.nd rfl (Or.inl rfl)) (pgs_cons (pg_name (i := 6) sc__law_parsed.nd rfl (Or.inl rfl)) pgs_nil)))) (pss_cons (ps_if (pt_not (pt_val (pv 6))) (pss_one (ps_ret (pe_tup (pa_cons (pv 4) (pa_cons (pv 3) pa_nil))))) pss_nil) (pss_cons (ps_while PassesOwn.never (PW.pt (pw_and (pt_cmpR op_eq (pe_slice sl_str (pv 0) (po_some (pv 4)) (po_some (pe_op op_add (pv 4) pe_int))) pe_str (nomark _)) (pw_and1 (pt_cmpR op_gt (pe_callB call_len_seq rfl (T.fr _ (by decide +kernel)) boot_len (pa_cons (pv 2) pa_nil)) pe_int (nomark _))))) (pss_cons (ps_set (i := 7) sc__law_parsed.nd rfl (Or.inl rfl) (pe_bm0 PySem.F.plainAttrs_list PySem.F.slot_list_pop PySem.F.type_list_pop mt_pop (pv 2))) (pss_cons (ps_expr (pe_c c__law_fold hr (by decide) rfl (pa_cons (pe_ix (ixl (K := K)) (pv 7) pe_int fun _ _ => rfl) (pa_cons (pe_ix (ixl (K := K)) (pv 7) pe_int fun _ _ => rfl) (pa_cons pe_int pa_nil))))) (pss_cons (ps_expr (pe_c c__law_take hr (by decide) rfl (pa_cons (pe_ix (ixl (K := K)) (pv 2) (pe_un un_neg pe_int) fun _ _ => rfl) (pa_cons (pe_ix (ixl (K := K)) (pe_ix (ixl (K := K)) (pv 7) pe_int fun _ _ => rfl) pe_int fun _ _ => rfl) pa_nil)))) (pss_one (ps_set (i := 4) sc__law_parsed.nd rfl (Or.inl rfl) (pe_op op_add (pv 4) pe_int))))))) (pss_cons (ps_if (pt_cmpR op_eq (pv 4) (pe_callB call_len_str rfl (T.fr _ (by decide +kernel)) boot_len (pa_cons (pv 0) pa_nil)) (nomark _)) (pss_one ps_break) pss_nil) (pss_cons (ps_asg (pe_c c__law_link hr (by decide) rfl (pa_cons (pv 0) (pa_cons (pv 4) (pa_cons (pv 2) (pa_cons (pe_and (pv 1) (pe_one (pe_cmpR op_eq (pe_callB call_len_seq rfl (T.fr _ (by decide +kernel)) boot_len (pa_cons (pv 3) pa_nil)) pe_int (nomark _)))) pa_nil))))) (pgt (K := K) (n := 2) rfl rfl (pgs_cons (pg_name (i := 4) sc__law_parsed.nd rfl (Or.inl rfl)) (pgs_cons (pg_name (i := 8) sc__law_parsed.nd rfl (Or.inl rfl)) pgs_nil)))) (pss_cons (ps_if (pt_cmpR op_isN (pv 8) pe_non (nomark _)) (pss_one (ps_ret (pe_tup (pa_cons (pv 4) (pa_cons (pv 3) pa_nil))))) pss_nil) (pss_one (ps_if (pt_cmpR op_eq (pv 8) pe_str (nomark _)) (pss_cons (ps_expr (pe_c c__law_fold hr (by decide) rfl (pa_cons (pe_ix (ixl (K := K)) (pe_ix (ixl (K := K)) (pv 2) pe_int fun _ _ => rfl) pe_int fun _ _ => rfl) (pa_cons (pe_ix (ixl (K := K)) (pe_ix (ixl (K := K)) (pv 2) pe_int fun _ _ => rfl) pe_int fun _ _ => rfl) (pa_cons pe_int pa_nil))))) (pss_cons (ps_expr (pe_bm PySem.F.plainAttrs_list PySem.F.slot_list_append PySem.F.type_list_append mt_append (pv 3) (pa_cons (pe_ix (ixl (K := K)) (pe_ix (ixl (K := K)) (pe_ix (ixl (K := K)) (pv 2) pe_int fun _ _ => rfl) pe_int fun _ _ => rfl) pe_int fun _ _ => rfl) pa_nil))) (pss_one (ps_set (i := 2) sc__law_parsed.nd rfl (Or.inl rfl) (pe_lst (pa_cons (pe_lst (pa_cons (pe_lst pa_nil) (pa_cons (pe_lst pa_nil) (pa_cons pe_int pa_nil)))) pa_nil)))))) (pss_cons (ps_expr (pe_c c__law_fold hr (by decide) rfl (pa_cons (pe_ix (ixl (K := K)) (pe_ix (ixl (K := K)) (pv 2) (pe_un un_neg pe_int) fun _ _ => rfl) pe_int fun _ _ => rfl) (pa_cons (pe_ix (ixl (K := K)) (pe_ix (ixl (K := K)) (pv 2) (pe_un un_neg pe_int) fun _ _ => rfl) pe_int fun _ _ => rfl) (pa_cons (pe_dget hu1 (pe_disp (pps_cons pe_str pe_int (pps_cons pe_str pe_int (pps_cons pe_str pe_int (pps_cons pe_str pe_int (pps_cons pe_str pe_int pps_nil))))) rfl rfl (fun z => nomatch z) (by decide)) (pv 8) (fun _ _ => rfl)) pa_nil))))) (pss_one (ps_expr (pe_bm PySem.F.plainAttrs_list PySem.F.slot_list_append PySem.F.type_list_append mt_append (pe_ix (ixl (K := K)) (pe_ix (ixl (K := K)) (pv 2) (pe_un un_neg pe_int) fun _ _ => rfl) pe_int fun _ _ => rfl) (pa_cons (pv 8) pa_nil)))))))))))))) (pss_cons (ps_if (PW.pt (pw_or (pt_cmpR op_gt (pe_callB call_len_seq rfl (T.fr _ (by decide +kernel)) boot_len (pa_cons (pv 2) pa_nil)) pe_int (nomark _)) (pw_or1 (PW.pt (pw_and (pt_val (pv 1)) (pw_and1 (pt_cmpR op_eq (pe_callB call_len_seq rfl (T.fr _ (by decide +kernel)) boot_len (pa_cons (pv 3) pa_nil)) pe_int (nomark _)))))))) (pss_one (ps_ret (pe_tup (pa_cons (pe_callB call_len_str rfl (T.fr _ (by decide +kernel)) boot_len (pa_cons (pv 0) pa_nil)) (pa_cons (pv 3) pa_nil))))) pss_nil) (pss_cons (ps_expr (pe_c c__law_fold hr (by decide) rfl (pa_cons (pe_ix (ixl (K := K)) (pe_ix (ixl (K := K)) (pv 2) pe_int fun _ _ => rfl) pe_int fun _ _ => rfl) (pa_cons (pe_ix (ixl (K := K)) (pe_ix (ixl (K := K)) (pv 2) pe_int fun _ _ => rfl) pe_int fun _ _ => rfl) (pa_cons pe_int pa_nil))))) (pss_one (ps_ret (pe_tup (pa_cons pe_non (pa_cons (pe_op op_cat (pv 3) (pe_lst (pa_cons (pe_ix (ixl (K := K)) (pe_ix (ixl (K := K)) (pe_ix (ixl (K := K)) (pv 2) pe_int fun _ _ => rfl) pe_int fun _ _ => rfl) pe_int fun _ _ => rfl) pa_nil))) pa_nil))))))))))), ?_⟩
    have tlS : t.length ≤ sizeLine := Nat.le_trans tl9 (by decide)
    obtain ⟨res, hres⟩ : ∃ res, res = scanG (scN t) true t 0 [] [false] (!b) := ⟨_, rfl⟩
    rw [← hres] at q
    refine ⟨(by show 0 ≤ sizeLine; decide), fun a1 h1 => ?_⟩
    refine ⟨(by show 0 ≤ sizeLine; decide), fun a2 h2 => ?_⟩
    refine ⟨(by show 3 ≤ sizeLine; decide), fun a3 h3 => ?_⟩
    refine ⟨(by show 1 ≤ sizeLine; decide), fun a4 h4 => ?_⟩
    obtain ⟨z0, g0, fr0⟩ := Lvs.init (K := K) (Same.refl H) h1 h2 h3 h4
    generalize upd (upd (upd (upd H a1 (.lst [])) a2 (.lst [])) a3 (.lst [.ref a1, .ref a2, .int 0])) a4 (.lst [.ref a3]) = H1 at z0 g0
    refine ⟨(by show 0 ≤ sizeLine; decide), fun D hD => ?_⟩
    have gD : Gr (fun _ => False) H1 H (upd H1 D (.lst [])) H := Gr.new g0.gh hD
    have z1 := z0.keep gD fun x _ y => y
    have nD : ¬ D ∈ a4 :: adrs [(a3, a1, a2)] := fun hx => by
      rcases List.mem_cons.mp hx with rfl | hx
      · rw [z0.hA] at hD
        cases hD
      · exact z0.all.alive D hx hD
    have hD0 : H D = none := L2.Same.free g0.gh hD
    have hD1 := upd_same (H := H1) (a := D) (o := .lst [])
    generalize upd H1 D (.lst []) = H2 at gD z1 hD1
    refine ⟨_, rfl, tx t, rfl, by rw [tx_len]; exact tlS, ?_⟩
    rw [tx_len]
    refine ⟨_, _, rfl, rfl, ((t.length + 2 : Nat) : Int), rfl, by omega, by omega, ?_⟩
    rw [Int.toNat_natCast]
    have p0 : PrI K H t b res a4 D true 0 (2 * t.length + 2) [] [] false [] (!b) [(a3, a1, a2)] H [] [] H2 :=
      ⟨Same.refl H, z1, lev_start, .due, .inl ⟨rfl, rfl, rfl, fun z => nomatch z⟩, hD1, hD0, .nil, nD, hres.symm, by show 2 * (t.length - 0) + 1 ≤ _; omega, Nat.le_refl _, Nat.zero_le _⟩
    refine for_range (fun j σ Hc => ∃ A i n ps cur f tl hv qs G xs told, PrI K H t b res A D true i n ps cur f tl hv qs G xs told Hc ∧ j ≤ i ∧ ∃ v5 v6 v7 v8, σ = [some (.str (tx t)), some (.bl b), some (.ref A), some (.ref D), some (.int (i : Int)), v5, v6, v7, v8]) ⟨a4, 0, _, _, _, _, _, _, _, _, _, _, p0, Nat.le_refl _, none, none, none, none, rfl⟩ ?_ ?_
    rotate_left
    · rintro σ Hc ⟨Ac, i, n, ps, cur, f, tl, hv, qs, G, xs, told, pi, hji, _⟩
      have := pi.il
      omega
    rintro j σ Hc hj ⟨Ac, i, n, ps, cur, f, tl, hv, qs, G, xs, told, pi, hji, v5, v6, v7, v8, rfl⟩
    have bd : Bd (i + 1) (lev cur) := by
      have h0 : Bd 1 [⟨[], [], 0⟩] := ⟨Nat.le_refl _, fun l hl => by
        rw [List.mem_singleton.mp hl]
        exact ⟨Nat.zero_le _, Nat.zero_le _, Nat.zero_le _⟩⟩
      have := fold_bd (ps := cur) h0
      have cl := pi.ct.len
      have := pi.pl
      exact Bd.mono (fold_bd (ps := cur) h0) (by omega)
    have Lne : lev cur ≠ [] := fun e => by
      have := pi.li.len
      rw [e] at this
      cases this
    refine ⟨_, rfl, _, rfl, _, rfl, Ac, G, qs, lev cur, t, i, t.drop i, rfl, pi.z, Lne, bd, tl9, rfl, pi.il, ?_⟩
    obtain ⟨r, hr'⟩ : ∃ r, r = t.drop i := ⟨_, rfl⟩
    rw [← hr']
    have hs := pi.hs
    rw [← hr'] at hs
    have hs : (match leafN (aft r) with
      | .inl k => (Sum.inl (i + (pre r).length + k) : Nat ⊕ List TT.Tx)
      | .inr m => scanG n false ((aft r).drop m) (i + (pre r).length + m) (ps ++ (pre r).map (fun c => [c]) ++ [(aft r).take m]) (List.replicate ((pre r).count 40) false ++ (f :: tl)) hv) = res := hs
    cases hl : leafN (aft r) with
    | inl k =>
      rw [hl] at hs
      have hs : Sum.inl (i + (pre r).length + k) = res := hs
      rw [← hs] at q
      intro p H' G' g' hp
      refine ⟨p, _, rfl, hp, rfl, _, _, rfl, ?_⟩
      refine ⟨_, _, rfl, rfl, ?_⟩
      refine ⟨_, rfl, _, rfl, iteT ?_⟩
      refine ⟨_, rfl, _, rfl, (by show 2 ≤ sizeLine; decide), fun rp hrp => ?_⟩
      have hD' := g'.keep pi.nD pi.hD
      have nr : D ≠ rp := fun e => by rw [← e, hD'] at hrp; cases hrp
      exact q rp D xs _ (Same.trans (Same.trans pi.s0 g'.g) (Same.trans g'.gh (NF.Same.new (Same.refl _) hrp))) (SqT.of upd_same) ((upd_ne nr).trans hD')
    | inr m =>
      rw [hl] at hs
      have hs : scanG n false ((aft r).drop m) (i + (pre r).length + m) (ps ++ (pre r).map (fun c => [c]) ++ [(aft r).take m]) (List.replicate ((pre r).count 40) false ++ (f :: tl)) hv = res := hs
      obtain ⟨lf, m1, m2, m3⟩ := leafN_ok hl
      have hd2 : (aft r).drop m = t.drop (i + (pre r).length + m) := by
        rw [aft_eq, List.drop_drop, hr', List.drop_drop, ← hr', ← Nat.add_assoc]
      rw [hd2] at hs
      have cp : (pre r).length + (aft r).length = t.length - i := by
        rw [← List.length_append, ← pre_aft, hr', List.length_drop]
      have pil := pi.il
      intro p H' G' qs' g' hq' z' hp
      obtain ⟨l1, s1⟩ := lpre (st := []) (fun c hc => pre_in hc) pi.li pi.sm
      obtain ⟨l2, s2⟩ := lstep1 l1 s1 (.lf lf)
      have ecur : lstep (((pre r).map fun c => [c]).foldl lstep (lev cur)) ((aft r).take m) = lev (cur ++ ((pre r).map (fun c => [c]) ++ [(aft r).take m])) := by
        unfold lev
        rw [List.foldl_append, List.foldl_append]
        rfl
      have ecur2 : stepM (((pre r).map fun c => [c]).foldl stepM (cur.foldl stepM ([], []))) ((aft r).take m) = (cur ++ ((pre r).map (fun c => [c]) ++ [(aft r).take m])).foldl stepM ([], []) := by
        rw [List.foldl_append, List.foldl_append]
        rfl
      rw [ecur] at z' l2 s2
      rw [ecur2] at s2
      obtain ⟨f2, tl2, e2, lt2⟩ := rep_cons ((pre r).count 40) f tl
      rw [e2] at hs l2
      rw [List.append_assoc] at hs
      have hn1 : 2 * (t.length - i) + 1 ≤ n := pi.hn
      obtain ⟨n, rfl⟩ : ∃ n', n = n' + 1 := ⟨n - 1, by omega⟩
      have nob : ∀ x ∈ (pre r).map (fun c => [c]) ++ [(aft r).take m], x ≠ blw := by
        intro x hx
        rcases List.mem_append.mp hx with hx | hx
        · obtain ⟨c, _, rfl⟩ := List.mem_map.mp hx
          exact fun e => by
            have := congrArg List.length e
            exact absurd this (by decide : ¬ (1 : Nat) = 2)
        · rw [List.mem_singleton.mp hx]
          intro e
          have := leaf_no lf
          rw [e] at this
          exact absurd this (by decide)
      have aliveD : Hc D ≠ none := some_ne pi.hD
      have pi1 : PrI K H t b res Ac D false (i + (pre r).length + m) n (ps ++ ((pre r).map (fun c => [c]) ++ [(aft r).take m])) (cur ++ ((pre r).map (fun c => [c]) ++ [(aft r).take m])) f2 tl2 hv qs' G' xs told H' :=
        ⟨Same.trans pi.s0 g'.g, z', l2, s2, pi.ct.app nob, g'.keep pi.nD pi.hD, (g'.n D aliveD).trans pi.gD, dpall_mono g'.g _ pi.dx, fun hx => (by
          rcases List.mem_cons.mp hx with rfl | hx
          · exact pi.nD (List.mem_cons_self ..)
          · exact (hq' D hx).elim (fun h => pi.nD (List.mem_cons_of_mem _ h)) aliveD), hs, by show 2 * (t.length - (i + (pre r).length + m)) + 0 ≤ n; omega, by
          rw [List.length_append, List.length_append, List.length_map, List.length_singleton]
          have := pi.pl
          omega, by omega⟩
      have hji1 : j + 1 ≤ i + (pre r).length + m := by omega
      clear pi l1 s1 l2 s2 ecur ecur2 hs z' g' nob cp hn1 hl bd Lne hd2 hq' lf
      generalize i + (pre r).length + m = i1 at pi1 hp hji1
      generalize ps ++ ((pre r).map (fun c => [c]) ++ [(aft r).take m]) = ps1 at pi1
      generalize cur ++ ((pre r).map (fun c => [c]) ++ [(aft r).take m]) = cur1 at pi1
      clear hr' e2 lt2 m1 m2 m3 pil
      refine ⟨p, _, rfl, hp, rfl, _, _, rfl, ?_⟩
      refine ⟨_, _, rfl, rfl, ?_⟩
      refine ⟨_, rfl, _, rfl, iteF ?_⟩
      refine ⟨fun mm σ Hc => ∃ i n ps cur f tl hv qs G, PrI K H t b res Ac D false i n ps cur f tl hv qs G xs told Hc ∧ j + 1 ≤ i ∧ mm = t.length - i ∧ ∃ v7 v8, σ = [some (.str (tx t)), some (.bl b), some (.ref Ac), some (.ref D), some (.int (i : Int)), some (.int ((0 : Int) + (j : Int))), some (.bl true), v7, v8], ⟨_, i1, n, ps1, cur1, f2, tl2, hv, qs', G', pi1, hji1, rfl, v7, v8, rfl⟩, ?_⟩
      clear pi1
      rintro mm σ Hc2 ⟨i, n, ps, cur, f, tl, hv, qs, G, pi, hji2, rfl, v7, v8, rfl⟩
      refine ⟨_, rfl, _, rfl, _, rfl, _, rfl, _, _, rfl, rfl, _, rfl, ?_⟩
      refine ⟨tx t, rfl, by rw [tx_len]; exact tlS, ?_⟩
      rw [cut_one]
      refine ⟨rfl, _, rfl, ?_⟩
      have hs := pi.hs
      cases hd : t.drop i with
      | nil =>
        have il : t.length = i := by
          have e : (t.drop i).length = 0 := by rw [hd]; rfl
          rw [List.length_drop] at e
          have := pi.il
          omega
        rw [hd] at hs
        have hs : (if 1 < (f :: tl).length ∨ hv = false then Sum.inl i else Sum.inr ps) = res := hs
        refine iteF' (by decide +kernel) ?_
        refine ⟨_, rfl, _, rfl, tx t, rfl, by rw [tx_len]; exact tlS, rfl, _, rfl, ?_⟩
        rw [tx_len]
        refine iteT' (decide_eq_true (by rw [il])) ?_
        have hlen : ((qs.reverse.map fun q => V.ref q.1)).length = (f :: tl).length := by
          rw [List.length_map, List.length_reverse, pi.z.all.len, pi.li.len]
        refine ⟨_, rfl, Ac, _, rfl, .inl (SqL.of pi.z.hA), _, _, rfl, rfl, _, rfl, ?_⟩
        rw [hlen]
        by_cases h1 : 1 < (f :: tl).length
        · rw [if_pos (.inl h1)] at hs
          refine iteT' (decide_eq_true (by omega)) ?_
          refine iteT ?_
          refine ⟨_, rfl, tx t, rfl, by rw [tx_len]; exact tlS, ?_⟩
          rw [tx_len]
          refine ⟨_, rfl, (by show 2 ≤ sizeLine; decide), fun rp hrp => ?_⟩
          have nr : D ≠ rp := fun e => by rw [← e, pi.hD] at hrp; cases hrp
          rw [← hs] at q
          refine q rp D xs _ (Same.trans pi.s0 (Same.trans pi.z.gh (NF.Same.new (Same.refl _) hrp))) ?_ ((upd_ne nr).trans pi.hD)
          rw [← il]
          exact SqT.of upd_same
        have hst : (f :: tl).length = 1 := by rw [List.length_cons] at h1 ⊢; omega
        refine iteF' (decide_eq_false (by omega)) ?_
        refine ⟨_, rfl, b, rfl, ?_⟩
        rcases pi.ct with ⟨t0, c0, hv0, nb⟩ | ⟨b0, hv0, a, na, ea, t0⟩
        · subst t0
          subst c0
          cases b with
          | false =>
            obtain rfl : hv = true := hv0
            rw [if_neg (fun y => y.elim h1 fun y => by cases y)] at hs
            refine iteF ?_
            refine iteF ?_
            have etr : trmsB false cur = [] ++ [rdT cur] := rfl
            obtain ⟨l, el, ef⟩ := lev_read' (st' := f :: tl) (by omega) pi.li pi.sm
            have zz := pi.z
            rw [el] at zz
            obtain ⟨qh, rfl⟩ : ∃ qh, qs = [qh] := by
              have := zz.all.len
              match qs, this with
              | [qh], _ => exact ⟨qh, rfl⟩
            have hl := zz.hd
            obtain ⟨ys, hy, hyd⟩ := hl.hT
            have lii := pi.li
            rw [el] at lii
            have li := lii.hd
            have bd := pi.bd
            rw [el] at bd
            obtain ⟨_, bT, bW⟩ := bd.2 l (List.mem_cons_self ..)
            have pil := pi.il
            obtain ⟨a1, a2, a3, n12, n13, n23, _⟩ := zz.apart
            have nD := pi.nD
            rw [adrs_cons] at nD
            have nD1 : D ≠ qh.1 := fun e => nD (by rw [e]; simp)
            have nD2 : D ≠ qh.2.1 := fun e => nD (by rw [e]; simp)
            have nD3 : D ≠ qh.2.2 := fun e => nD (by rw [e]; simp)
            refine ⟨_, rfl, Ac, _, _, _, rfl, rfl, SqL.of zz.hA, atI_nat (j := 0) rfl, qh.1, _, _, _, rfl, rfl, SqL.of hl.hL, atI_nat (j := 0) rfl, ?_⟩
            refine ⟨_, rfl, Ac, _, _, _, rfl, rfl, SqL.of zz.hA, atI_nat (j := 0) rfl, qh.1, _, _, _, rfl, rfl, SqL.of hl.hL, atI_nat (j := 1) rfl, ?_⟩
            refine ⟨qh.2.1, qh.2.2, G, ys, l.T, l.W, 0, rfl, n23, zz.gh, hl.nT, hl.nW, hy, hyd, hl.hW, li.w, li.n, by omega, fun H3 G3 ys3 g3 hy3 hd3 hw3 => ?_⟩
            rw [ef] at hd3
            obtain ⟨ys', v, rfl, hnil, hv3⟩ := hd3.top
            obtain rfl : ys' = [] := List.eq_nil_of_length_eq_zero hnil.len
            have hA3 := g3.keep (fun e => e.elim a2 a3) zz.hA
            have hL3 := g3.keep (fun e => e.elim n12 n13) hl.hL
            have hD3 := g3.keep (fun e => e.elim nD2 nD3) pi.hD
            refine ⟨_, rfl, _, rfl, Ac, _, _, _, rfl, rfl, SqL.of hA3, atI_nat (j := 0) rfl, qh.1, _, _, _, rfl, rfl, SqL.of hL3, atI_nat (j := 0) rfl, qh.2.1, _, _, _, rfl, rfl, SqL.of hy3, atI_nat (j := 0) rfl, ?_⟩
            refine ⟨(by show 1 ≤ sizeLine; decide), fun lp hlp => ?_⟩
            have nl : D ≠ lp := fun e => by rw [← e, hD3] at hlp; cases hlp
            have hD4 : upd H3 lp (.lst [v]) D = some (.lst xs) := (upd_ne nl).trans hD3
            have xl := dpall_len pi.dx
            rw [List.length_map] at xl
            refine ⟨D, lp, xs, [v], rfl, rfl, hD4, upd_same, ?_, fun cp hcp => ?_⟩
            · rw [xl]
              exact Nat.le_trans (show 0 + 1 ≤ 2 by decide) (by decide)
            have s4 : Same G3 (upd (upd H3 lp (.lst [v])) cp (.lst (xs ++ [v]))) := NF.Same.new (NF.Same.new g3.gh hlp) hcp
            have hcp2 := upd_same (H := upd H3 lp (.lst [v])) (a := cp) (o := .lst (xs ++ [v]))
            generalize upd (upd H3 lp (.lst [v])) cp (.lst (xs ++ [v])) = H5 at s4 hcp2
            refine ⟨(by show 2 ≤ sizeLine; decide), fun rp hrp => ?_⟩
            have nr : cp ≠ rp := fun e => by rw [← e, hcp2] at hrp; cases hrp
            have s5 := Same.trans s4 (NF.Same.new (o := .tup [V.non, .ref cp]) (Same.refl _) hrp)
            rw [← hs] at q
            refine q rp cp (xs ++ [v]) _ (Same.trans (Same.trans pi.s0 g3.g) s5) (SqT.of upd_same) ((upd_ne nr).trans hcp2) ?_
            have e : trmsB false cur = [] ++ [rdT cur] := etr
            rw [e, List.map_append]
            exact dpall_app (dpall_mono (Same.trans g3.g s5) _ pi.dx) (.cons (dp_mono s5 _ hv3) .nil)
          | true =>
            obtain rfl : hv = false := hv0
            rw [if_pos (.inr rfl)] at hs
            have xl := dpall_len pi.dx
            refine iteT ?_
            refine ⟨_, rfl, D, _, rfl, .inl (SqL.of pi.hD), rfl, _, rfl, iteT' (decide_eq_true (by rw [xl]; rfl)) ?_⟩
            refine ⟨_, rfl, tx t, rfl, by rw [tx_len]; exact tlS, ?_⟩
            rw [tx_len]
            refine ⟨_, rfl, (by show 2 ≤ sizeLine; decide), fun rp hrp => ?_⟩
            have nr : D ≠ rp := fun e => by rw [← e, pi.hD] at hrp; cases hrp
            rw [← hs] at q
            refine q rp D xs _ (Same.trans pi.s0 (Same.trans pi.z.gh (NF.Same.new (Same.refl _) hrp))) ?_ ((upd_ne nr).trans pi.hD)
            rw [← il]
            exact SqT.of upd_same
        · subst b0
          subst hv0
          subst t0
          rw [if_neg (fun y => y.elim h1 fun y => by cases y)] at hs
          have xl := dpall_len pi.dx
          refine iteT ?_
          refine ⟨_, rfl, D, _, rfl, .inl (SqL.of pi.hD), rfl, _, rfl, iteF' (decide_eq_false (by rw [xl]; exact fun e => absurd (V.int.inj e) (by show ¬ ((1 : Nat) : Int) = 0; decide))) ?_⟩
          have etr : trmsB true ps = [rdT a] ++ [rdT cur] := by
            show [rdT (fstB ps), rdT (sndB ps)] = _
            rw [ea, (split_eq na).1, (split_eq na).2]
            rfl
          obtain ⟨l, el, ef⟩ := lev_read' (st' := f :: tl) (by omega) pi.li pi.sm
          have zz := pi.z
          rw [el] at zz
          obtain ⟨qh, rfl⟩ : ∃ qh, qs = [qh] := by
            have := zz.all.len
            match qs, this with
            | [qh], _ => exact ⟨qh, rfl⟩
          have hl := zz.hd
          obtain ⟨ys, hy, hyd⟩ := hl.hT
          have lii := pi.li
          rw [el] at lii
          have li := lii.hd
          have bd := pi.bd
          rw [el] at bd
          obtain ⟨_, bT, bW⟩ := bd.2 l (List.mem_cons_self ..)
          have pil := pi.il
          obtain ⟨a1, a2, a3, n12, n13, n23, _⟩ := zz.apart
          have nD := pi.nD
          rw [adrs_cons] at nD
          have nD1 : D ≠ qh.1 := fun e => nD (by rw [e]; simp)
          have nD2 : D ≠ qh.2.1 := fun e => nD (by rw [e]; simp)
          have nD3 : D ≠ qh.2.2 := fun e => nD (by rw [e]; simp)
          refine ⟨_, rfl, Ac, _, _, _, rfl, rfl, SqL.of zz.hA, atI_nat (j := 0) rfl, qh.1, _, _, _, rfl, rfl, SqL.of hl.hL, atI_nat (j := 0) rfl, ?_⟩
          refine ⟨_, rfl, Ac, _, _, _, rfl, rfl, SqL.of zz.hA, atI_nat (j := 0) rfl, qh.1, _, _, _, rfl, rfl, SqL.of hl.hL, atI_nat (j := 1) rfl, ?_⟩
          refine ⟨qh.2.1, qh.2.2, G, ys, l.T, l.W, 0, rfl, n23, zz.gh, hl.nT, hl.nW, hy, hyd, hl.hW, li.w, li.n, by omega, fun H3 G3 ys3 g3 hy3 hd3 hw3 => ?_⟩
          rw [ef] at hd3
          obtain ⟨ys', v, rfl, hnil, hv3⟩ := hd3.top
          obtain rfl : ys' = [] := List.eq_nil_of_length_eq_zero hnil.len
          have hA3 := g3.keep (fun e => e.elim a2 a3) zz.hA
          have hL3 := g3.keep (fun e => e.elim n12 n13) hl.hL
          have hD3 := g3.keep (fun e => e.elim nD2 nD3) pi.hD
          refine ⟨_, rfl, _, rfl, Ac, _, _, _, rfl, rfl, SqL.of hA3, atI_nat (j := 0) rfl, qh.1, _, _, _, rfl, rfl, SqL.of hL3, atI_nat (j := 0) rfl, qh.2.1, _, _, _, rfl, rfl, SqL.of hy3, atI_nat (j := 0) rfl, ?_⟩
          refine ⟨(by show 1 ≤ sizeLine; decide), fun lp hlp => ?_⟩
          have nl : D ≠ lp := fun e => by rw [← e, hD3] at hlp; cases hlp
          have hD4 : upd H3 lp (.lst [v]) D = some (.lst xs) := (upd_ne nl).trans hD3
          have xl := dpall_len pi.dx
          rw [List.length_map] at xl
          refine ⟨D, lp, xs, [v], rfl, rfl, hD4, upd_same, ?_, fun cp hcp => ?_⟩
          · rw [xl]
            exact Nat.le_trans (show 1 + 1 ≤ 2 by decide) (by decide)
          have s4 : Same G3 (upd (upd H3 lp (.lst [v])) cp (.lst (xs ++ [v]))) := NF.Same.new (NF.Same.new g3.gh hlp) hcp
          have hcp2 := upd_same (H := upd H3 lp (.lst [v])) (a := cp) (o := .lst (xs ++ [v]))
          generalize upd (upd H3 lp (.lst [v])) cp (.lst (xs ++ [v])) = H5 at s4 hcp2
          refine ⟨(by show 2 ≤ sizeLine; decide), fun rp hrp => ?_⟩
          have nr : cp ≠ rp := fun e => by rw [← e, hcp2] at hrp; cases hrp
          have s5 := Same.trans s4 (NF.Same.new (o := .tup [V.non, .ref cp]) (Same.refl _) hrp)
          rw [← hs] at q
          refine q rp cp (xs ++ [v]) _ (Same.trans (Same.trans pi.s0 g3.g) s5) (SqT.of upd_same) ((upd_ne nr).trans hcp2) ?_
          have e : trmsB true ps = [rdT a] ++ [rdT cur] := etr
          rw [e, List.map_append]
          exact dpall_app (dpall_mono (Same.trans g3.g s5) _ pi.dx) (.cons (dp_mono s5 _ hv3) .nil)
      | cons c r =>
        have il : t.length = i + (r.length + 1) := by
          have e : (t.drop i).length = r.length + 1 := by rw [hd]; rfl
          rw [List.length_drop] at e
          have := pi.il
          omega
        rw [hd] at hs
        have hs : (if c = 41 ∧ 1 < (f :: tl).length then scanG n false r (i + 1) (ps ++ [cls]) tl hv else
          match jntN (jns (f :: tl) hv) (c :: r) with
          | .inl k => (Sum.inl (i + k) : Nat ⊕ List TT.Tx)
          | .inr j => scanG n true (r.drop (j.length + 1)) (i + j.length + 2) (ps ++ [j]) (flagB j f :: tl) (hv || j == blw)) = res := hs
        have hlen : ((qs.reverse.map fun q => V.ref q.1)).length = (f :: tl).length := by
          rw [List.length_map, List.length_reverse, pi.z.all.len, pi.li.len]
        by_cases hc : c = 41
        · subst hc
          refine iteT' (show decide (V.str (tx [41]) = V.str ")") = true by decide +kernel) ?_
          refine ⟨_, rfl, Ac, _, rfl, .inl (SqL.of pi.z.hA), _, _, rfl, rfl, _, rfl, ?_⟩
          rw [hlen]
          by_cases h1 : 1 < (f :: tl).length
          · refine iteT' (decide_eq_true (by omega)) ?_
            rw [if_pos ⟨rfl, h1⟩] at hs
            obtain ⟨f2, tl2, rfl⟩ : ∃ f2 tl2, tl = f2 :: tl2 := by
              cases tl with
              | nil => exact absurd h1 (by show ¬ 1 < 0 + 1; omega)
              | cons a b => exact ⟨a, b, rfl⟩
            have hn1 : 2 * (t.length - i) + 0 ≤ n := pi.hn
            obtain ⟨n, rfl⟩ : ∃ n', n = n' + 1 := ⟨n - 1, by omega⟩
            obtain ⟨li', sm'⟩ := lstep1 pi.li pi.sm (.cl h1)
            have ell := pi.li.len
            obtain ⟨l1, l2, L, eL⟩ : ∃ l1 l2 L, lev cur = l1 :: l2 :: L := by
              match e : lev cur, ell with
              | l1 :: l2 :: L, _ => exact ⟨l1, l2, L, rfl⟩
            have zz := pi.z
            have lii := pi.li
            have bd := pi.bd
            rw [eL] at zz lii bd
            have eqn := zz.all.len
            obtain ⟨q1, q2, qs2, rfl⟩ : ∃ q1 q2 qs2, qs = q1 :: q2 :: qs2 := by
              match qs, eqn with
              | q1 :: q2 :: qs2, _ => exact ⟨q1, q2, qs2, rfl⟩
            obtain ⟨x, ex⟩ := lii.hd.fo0
            obtain ⟨_, bT1, bW1⟩ := bd.2 l1 (List.mem_cons_self ..)
            obtain ⟨bk2, bT2, _⟩ := bd.2 l2 (List.mem_cons_of_mem _ (List.mem_cons_self ..))
            refine ⟨fun σ' G' => ∃ m', m' < t.length - i ∧ ∃ i n ps cur f tl hv qs G, PrI K H t b res Ac D false i n ps cur f tl hv qs G xs told G' ∧ j + 1 ≤ i ∧ m' = t.length - i ∧ ∃ v7 v8, σ' = [some (.str (tx t)), some (.bl b), some (.ref Ac), some (.ref D), some (.int (i : Int)), some (.int ((0 : Int) + (j : Int))), some (.bl true), v7, v8], fun σ' G' y => y, ?_⟩
            have hAe := zz.top
            refine ⟨_, rfl, .inl ⟨rfl, _, SqL.of hAe⟩, Ac, _, .ref q1.1, rfl, rfl, hAe, by simp, ?_⟩
            rw [List.dropLast_concat]
            have g1 : Gr (fun x => x = Ac) Hc2 G (upd Hc2 Ac (.lst ((q2 :: qs2).reverse.map fun q => V.ref q.1))) G := Gr.mut zz.gh rfl zz.nA
            obtain ⟨a1, a2, a3, n12, n13, n23, hap, nd2⟩ := zz.apart
            have hl1 := zz.hd.keep g1 (Ne.symm a1) (Ne.symm a2) (Ne.symm a3)
            have z1 : Lvs K Ac (upd Hc2 Ac (.lst ((q2 :: qs2).reverse.map fun q => V.ref q.1))) G (q2 :: qs2) (l2 :: L) := by
              refine ⟨g1.gh, zz.nA, upd_same, nd2, ?_⟩
              cases zz.all with
              | cons _ h => exact h.keep g1 fun y hy e => (hap y hy).2.2.2 e
            have nD := pi.nD
            rw [adrs_cons] at nD
            have nDA : D ≠ Ac := fun e => nD (by rw [e]; exact List.mem_cons_self ..)
            have nD2 : D ≠ q1.2.1 := fun e => nD (by rw [e]; simp)
            have nD3 : D ≠ q1.2.2 := fun e => nD (by rw [e]; simp)
            have nDq : ¬ D ∈ Ac :: adrs (q2 :: qs2) := fun hx => (List.mem_cons.mp hx).elim nDA fun hx => nD (List.mem_cons_of_mem _ (List.mem_append_right _ hx))
            have hD1 := g1.keep nDA pi.hD
            generalize upd Hc2 Ac (.lst ((q2 :: qs2).reverse.map fun q => V.ref q.1)) = H1 at g1 hl1 z1 hD1
            obtain ⟨ys1, hy1, hyd1⟩ := hl1.hT
            refine ⟨_, rfl, q1.1, _, _, _, rfl, rfl, SqL.of hl1.hL, atI_nat (j := 0) rfl, ?_⟩
            refine ⟨_, rfl, q1.1, _, _, _, rfl, rfl, SqL.of hl1.hL, atI_nat (j := 1) rfl, ?_⟩
            refine ⟨q1.2.1, q1.2.2, G, ys1, l1.T, l1.W, 0, rfl, n23, z1.gh, hl1.nT, hl1.nW, hy1, hyd1, hl1.hW, lii.hd.w, lii.hd.n, by omega, fun H3 G3 ys3 g3 hy3 hd3 hw3 => ?_⟩
            rw [ex] at hd3
            obtain ⟨ys', v, rfl, hnil, hv3⟩ := hd3.top
            obtain rfl : ys' = [] := List.eq_nil_of_length_eq_zero hnil.len
            have hL3 := g3.keep (fun e => e.elim n12 n13) hl1.hL
            have hD3 := g3.keep (fun e => e.elim nD2 nD3) hD1
            have z3 := z1.keep g3 fun y hy e => by
              rcases List.mem_cons.mp hy with rfl | hy
              · exact e.elim a2 a3
              · exact e.elim (hap y hy).2.1 (hap y hy).2.2.1
            have hl2 := z3.hd
            obtain ⟨ys2, hy2, hyd2⟩ := hl2.hT
            obtain ⟨_, _, _, m12, m13, m23, _⟩ := z3.apart
            refine ⟨_, rfl, _, rfl, Ac, _, _, _, rfl, rfl, SqL.of z3.top, atI_last _ _, ?_⟩
            refine ⟨_, rfl, q1.1, _, _, _, rfl, rfl, SqL.of hL3, atI_nat (j := 0) rfl, q1.2.1, _, _, _, rfl, rfl, SqL.of hy3, atI_nat (j := 0) rfl, ?_⟩
            refine ⟨q2.1, q2.2.1, q2.2.2, G3, ys2, l2.T, v, x, l2.k, rfl, m12, z3.gh, hl2.nL, hl2.nT, hl2.hL, hy2, hyd2, hv3, by omega, by omega, fun H4 G4 ys4 g4 hL4 hy4 hd4 => ?_⟩
            have hW4 := g4.keep (fun e => e.elim (Ne.symm m13) (Ne.symm m23)) hl2.hW
            have z4 := z3.set (l' := ⟨turnN l2.k x :: l2.T, l2.W, 0⟩) g4 (fun y hy => hy.elim .inl fun e => .inr (.inl e)) ⟨hL4, ⟨ys4, hy4, hd4⟩, hW4, (g4.n _ (some_ne hl2.hL)).trans hl2.nL, (g4.n _ (some_ne hy2)).trans hl2.nT, (g4.n _ (some_ne hl2.hW)).trans hl2.nW⟩
            have el : lev (cur ++ [cls]) = ⟨turnN l2.k x :: l2.T, l2.W, 0⟩ :: L := by
              have : lev (cur ++ [cls]) = lstep (lev cur) cls := by
                unfold lev
                rw [List.foldl_append]
                rfl
              rw [this, eL]
              show takeL ((fo 0 l1.T l1.W).1.headD (.nm [])) (l2 :: L) = _
              rw [ex]
              rfl
            have el2 : lstep (lev cur) cls = lev (cur ++ [cls]) := by
              unfold lev
              rw [List.foldl_append]
              rfl
            rw [el2] at li' sm'
            rw [← el] at z4
            have sm' : Sim false (lev (cur ++ [cls])) ((cur ++ [cls]).foldl stepM ([], [])) := by
              rw [List.foldl_append]
              exact sm'
            have nD4 : ¬ (D = q2.1 ∨ D = q2.2.1) := fun e => nDq (by
              rw [adrs_cons]
              rcases e with e | e <;> rw [e] <;> simp)
            have hD4 := g4.keep nD4 hD3
            have hd1 : t.drop (i + 1) = r := by
              rw [← List.drop_drop, hd]
              rfl
            have aD : Hc2 D ≠ none := some_ne pi.hD
            have gt := (g3.n D (some_ne hD1)).trans pi.gD
            refine ⟨_, rfl, _, _, rfl, rfl, ?_⟩
            refine ⟨t.length - (i + 1), by omega, i + 1, n, ps ++ [cls], cur ++ [cls], f2, tl2, hv, q2 :: qs2, G4, ⟨Same.trans pi.s0 (Same.trans g3.g g4.g), z4, li', sm', pi.ct.app fun p hp => (by rw [List.mem_singleton.mp hp]; decide), hD4, (g4.n D (some_ne hD3)).trans gt, dpall_mono (Same.trans g3.g g4.g) _ pi.dx, nDq, by rw [hd1]; exact hs, (by show 2 * (t.length - (i + 1)) + 0 ≤ n; omega), (by rw [List.length_append]; exact Nat.succ_le_succ pi.pl), by omega⟩, by omega, rfl, _, _, rfl⟩
          · rw [if_neg (fun y => h1 y.2)] at hs
            refine iteF' (decide_eq_false (by omega)) ?_
            refine ⟨_, rfl, _, rfl, tx t, rfl, by rw [tx_len]; exact tlS, rfl, _, rfl, ?_⟩
            rw [tx_len]
            refine iteF' (decide_eq_false fun e => by have e := V.int.inj e; omega) ?_
            obtain ⟨l, L, eL⟩ : ∃ l L, lev cur = l :: L := by
              have ell := pi.li.len
              match e : lev cur, ell with
              | l :: L, _ => exact ⟨l, L, rfl⟩
            have zz := pi.z
            have lii := pi.li
            have bd := pi.bd
            rw [eL] at zz lii bd
            have leL : L.length = tl.length := by
              have := lii.len
              rw [List.length_cons, List.length_cons] at this
              omega
            obtain ⟨bk, bT, bW⟩ := bd.2 l (List.mem_cons_self ..)
            have hn1 : 2 * (t.length - i) + 0 ≤ n := pi.hn
            obtain ⟨n, rfl⟩ : ∃ n', n = n' + 1 := ⟨n - 1, by omega⟩
            refine ⟨_, rfl, _, rfl, _, rfl, ?_⟩
            have xl := dpall_len pi.dx
            rw [List.length_map] at xl
            have hand : ∀ Q1 : VK, Q1 (.bl (!hv)) Hc2 → tAndV (tVar 1) (tOp rEq (tCB (fun xs H_1 Q => ∃ p ys, xs = [V.ref p] ∧ (SqL K H_1 p ys ∨ SqT K H_1 p ys) ∧ Q (V.int ys.length) H_1) (tCons (tVar 3) tNil)) (tC (V.int 0))) [some (V.str (tx t)), some (V.bl b), some (V.ref Ac), some (V.ref D), some (V.int (i : Int)), some (V.int (0 + (j : Int))), some (V.bl true), v7, v8] Hc2 Q1 := fun Q1 q1 => by
              refine ⟨_, rfl, b, rfl, ?_⟩
              rcases pi.ct with ⟨t0, c0, hv0, nb⟩ | ⟨b0, hv0, a, na, ea, t0⟩
              · cases b with
                | false =>
                  rw [hv0] at q1
                  exact iteF q1
                | true =>
                  rw [hv0] at q1
                  refine iteT ⟨_, rfl, D, _, rfl, .inl (SqL.of pi.hD), rfl, ?_⟩
                  rw [xl, t0]
                  exact q1
              · rw [b0]
                rw [hv0] at q1
                refine iteT ⟨_, rfl, D, _, rfl, .inl (SqL.of pi.hD), rfl, ?_⟩
                rw [xl, t0]
                rw [show decide (V.int (([rdT a] : List Trm).length : Int) = V.int 0) = false from decide_eq_false fun e => absurd (V.int.inj e) (by show ¬ ((1 : Nat) : Int) = 0; decide)]
                exact q1
            refine hand _ ?_
            refine ⟨Ac, G, qs, l, L, f, tl, !hv, t, i, 41, r, rfl, zz, lii.hd, leL, tl9, hd, fun p H3 g3 hp => ?_⟩
            rw [Bool.not_not] at hp
            have z3 := zz.keep g3 fun y _ e => e
            have hD3 := g3.keep (fun e => e) pi.hD
            cases hj : jntN (jns (f :: tl) hv) (41 :: r) with
            | inl k =>
              rw [hj] at hs hp
              have hs : Sum.inl (i + k) = res := hs
              rw [← hs] at q
              refine ⟨p, _, rfl, hp, rfl, _, _, rfl, ?_⟩
              refine ⟨_, _, rfl, rfl, ?_⟩
              refine ⟨_, rfl, rfl, _, rfl, iteT' (by rfl) ?_⟩
              refine ⟨_, rfl, _, rfl, (by show 2 ≤ sizeLine; decide), fun rp hrp => ?_⟩
              have nr : D ≠ rp := fun e => by rw [← e, hD3] at hrp; cases hrp
              exact q rp D xs _ (Same.trans pi.s0 (Same.trans g3.gh (NF.Same.new (Same.refl _) hrp))) (SqT.of upd_same) ((upd_ne nr).trans hD3)
            | inr jt =>
              rw [hj] at hs hp
              have hs : scanG (n + 1) true (r.drop (jt.length + 1)) (i + jt.length + 2) (ps ++ [jt]) (flagB jt f :: tl) (hv || jt == blw) = res := hs
              obtain ⟨_, hj2, r2, er⟩ := jntN_ok hj
              obtain ⟨jb, j2, j3⟩ := jns_in hj2
              have jl := jnt_len jb
              have hrl : r.length = jt.length + (r2.length + 1) := by rw [er, List.length_append, List.length_cons]
              have hdj : t.drop (i + jt.length + 2) = r.drop (jt.length + 1) := by
                have : t.drop (i + (jt.length + 2)) = (t.drop i).drop (jt.length + 2) := (List.drop_drop ..).symm
                rw [Nat.add_assoc, this, hd]
                rfl
              rw [← hdj] at hs
              refine ⟨p, _, rfl, hp, rfl, _, _, rfl, ?_⟩
              refine ⟨_, _, rfl, rfl, ?_⟩
              refine ⟨_, rfl, rfl, _, rfl, iteF' (by rfl) ?_⟩
              refine ⟨_, rfl, rfl, _, rfl, ?_⟩
              by_cases hjb : jt = blw
              · refine iteT' (by rw [wd_blw jb, hjb]; rfl) ?_
                subst hjb
                obtain ⟨hv0, h1⟩ := j3 rfl
                subst hv0
                obtain rfl : tl = [] := List.eq_nil_of_length_eq_zero (by rw [List.length_cons] at h1; omega)
                obtain ⟨l', el, ef⟩ := lev_read' (st' := [f]) rfl pi.li pi.sm
                obtain ⟨rfl, rfl⟩ : l' = l ∧ L = [] := by
                  rw [eL] at el
                  injection el with e1 e2
                  exact ⟨e1.symm, e2⟩
                obtain ⟨qh, rfl⟩ : ∃ qh, qs = [qh] := by
                  have := zz.all.len
                  match qs, this with
                  | [qh], _ => exact ⟨qh, rfl⟩
                have hl := z3.hd
                obtain ⟨ys, hy, hyd⟩ := hl.hT
                have li := lii.hd
                obtain ⟨a1, a2, a3, n12, n13, n23, _⟩ := z3.apart
                have nD := pi.nD
                rw [adrs_cons] at nD
                have nDA : D ≠ Ac := fun e => nD (by rw [e]; exact List.mem_cons_self ..)
                have nD1 : D ≠ qh.1 := fun e => nD (by rw [e]; simp)
                have nD2 : D ≠ qh.2.1 := fun e => nD (by rw [e]; simp)
                have nD3 : D ≠ qh.2.2 := fun e => nD (by rw [e]; simp)
                have pil := pi.il
                have told0 : told = [] ∧ cur = ps ∧ b = true ∧ ¬ blw ∈ ps := by
                  rcases pi.ct with ⟨t0, c0, hv0, nb⟩ | ⟨b0, hv0, _⟩
                  · exact ⟨t0, c0, by simpa using hv0.symm, nb⟩
                  · cases hv0
                obtain ⟨t0, c0, b0, nb⟩ := told0
                subst t0 c0 b0
                refine ⟨_, rfl, Ac, _, _, _, rfl, rfl, SqL.of z3.hA, atI_nat (j := 0) rfl, qh.1, _, _, _, rfl, rfl, SqL.of hl.hL, atI_nat (j := 0) rfl, ?_⟩
                refine ⟨_, rfl, Ac, _, _, _, rfl, rfl, SqL.of z3.hA, atI_nat (j := 0) rfl, qh.1, _, _, _, rfl, rfl, SqL.of hl.hL, atI_nat (j := 1) rfl, ?_⟩
                refine ⟨qh.2.1, qh.2.2, G, ys, l'.T, l'.W, 0, rfl, n23, z3.gh, hl.nT, hl.nW, hy, hyd, hl.hW, li.w, li.n, by omega, fun H4 G4 ys4 g4 hy4 hd4 hw4 => ?_⟩
                rw [ef] at hd4
                obtain ⟨ys', v, rfl, hnil, hv4⟩ := hd4.top
                obtain rfl : ys' = [] := List.eq_nil_of_length_eq_zero hnil.len
                have hA4 := g4.keep (fun e => e.elim a2 a3) z3.hA
                have hL4 := g4.keep (fun e => e.elim n12 n13) hl.hL
                have hD4 := g4.keep (fun e => e.elim nD2 nD3) hD3
                have gD4 : G4 D = none := (g4.n D (some_ne hD3)).trans pi.gD
                refine ⟨_, rfl, .inl ⟨rfl, _, SqL.of hD4⟩, ?_⟩
                refine ⟨_, rfl, Ac, _, _, _, rfl, rfl, SqL.of hA4, atI_nat (j := 0) rfl, qh.1, _, _, _, rfl, rfl, SqL.of hL4, atI_nat (j := 0) rfl, qh.2.1, _, _, _, rfl, rfl, SqL.of hy4, atI_nat (j := 0) rfl, ?_⟩
                obtain rfl : xs = [] := List.eq_nil_of_length_eq_zero xl
                refine ⟨D, _, _, rfl, rfl, hD4, (by decide), ?_⟩
                have g5 : Gr (fun x => x = D) H4 G4 (upd H4 D (.lst [v])) G4 := Gr.mut g4.gh rfl gD4
                have hD5 := upd_same (H := H4) (a := D) (o := .lst [v])
                show _
                generalize hH5 : upd H4 D (.lst ([] ++ [v])) = H5
                have hH5 : upd H4 D (.lst [v]) = H5 := hH5
                rw [hH5] at g5 hD5
                refine ⟨(by show 0 ≤ sizeLine; decide), fun b1 k1 => ?_⟩
                refine ⟨(by show 0 ≤ sizeLine; decide), fun b2 k2 => ?_⟩
                refine ⟨(by show 3 ≤ sizeLine; decide), fun b3 k3 => ?_⟩
                refine ⟨(by show 1 ≤ sizeLine; decide), fun b4 k4 => ?_⟩
                obtain ⟨z6, g6, fr6⟩ := Lvs.init (K := K) g5.gh k1 k2 k3 k4
                have hD6 := g6.keep (fun e => e) hD5
                have nD6 : ¬ D ∈ b4 :: adrs [(b3, b1, b2)] := fun hx => by
                  have : H5 D = none := fr6 D (by simpa [adrs] using hx)
                  rw [hD5] at this
                  cases this
                generalize upd (upd (upd (upd H5 b1 (.lst [])) b2 (.lst [])) b3 (.lst [.ref b1, .ref b2, .int 0])) b4 (.lst [.ref b3]) = H6 at z6 g6 hD6
                have ff : flagB blw f = false := rfl
                rw [ff] at hs
                refine ⟨b4, i + blw.length + 2, n, cur ++ [blw], [], false, [], true, [(b3, b1, b2)], G4, [v], [rdT cur], ⟨Same.trans pi.s0 g4.g, z6, lev_start, .due, .inr ⟨rfl, rfl, cur, nb, rfl, rfl⟩, hD6, gD4, .cons hv4 .nil, nD6, hs, (by show 2 * (t.length - (i + blw.length + 2)) + 1 ≤ n; omega), (by rw [List.length_append]; have := pi.pl; show cur.length + 1 ≤ _; omega), by omega⟩, by omega, _, _, _, _, rfl⟩
              · refine iteF' (by rw [wd_blw jb]; exact beq_eq_false_iff_ne.mpr hjb) ?_
                obtain ⟨u, hu, rfl⟩ : ∃ u, u < 5 ∧ jt = sg u := by
                  rcases bin_in jb with rfl | rfl | rfl | rfl | rfl | rfl
                  · exact absurd rfl hjb
                  · exact ⟨0, by omega, rfl⟩
                  · exact ⟨1, by omega, rfl⟩
                  · exact ⟨2, by omega, rfl⟩
                  · exact ⟨3, by omega, rfl⟩
                  · exact ⟨4, by omega, rfl⟩
                have wj : wdJ (sg u) = wordS u := by rcases sg_cases hu with rfl | rfl | rfl | rfl | rfl <;> decide +kernel
                obtain ⟨li', sm'⟩ := lstep1 pi.li pi.sm (.bn jb hjb fun z => Option.some.inj (j2 z))
                have el2 : lstep (lev cur) (sg u) = lev (cur ++ [sg u]) := by
                  unfold lev
                  rw [List.foldl_append]
                  rfl
                obtain ⟨b1, b2, b3, b4, b5⟩ := bnd_sg hu
                have el : lev (cur ++ [sg u]) = ⟨(fo (rkF u) l.T l.W).1, u :: (fo (rkF u) l.T l.W).2, l.k⟩ :: L := by
                  rw [← el2, eL]
                  show (if sg u = tilde then _ else if sg u = opn then _ else if sg u = cls then _ else if isBin (sg u) = true then _ else _) = _
                  rw [if_neg b4, if_neg b3, if_neg b5, if_pos jb, b2]
                rw [el2] at li' sm'
                have sm' : Sim true (lev (cur ++ [sg u])) ((cur ++ [sg u]).foldl stepM ([], [])) := by
                  rw [List.foldl_append]
                  exact sm'
                obtain ⟨qh, qs2, rfl⟩ : ∃ qh qs2, qs = qh :: qs2 := by
                  have := zz.all.len
                  match qs, this with
                  | qh :: qs2, _ => exact ⟨qh, qs2, rfl⟩
                have hl3 := z3.hd
                have li := lii.hd
                obtain ⟨a1, a2, a3, n12, n13, n23, _⟩ := z3.apart
                have nD := pi.nD
                rw [adrs_cons] at nD
                have nDA : D ≠ Ac := fun e => nD (by rw [e]; exact List.mem_cons_self ..)
                have nD1 : D ≠ qh.1 := fun e => nD (by rw [e]; simp)
                have nD2 : D ≠ qh.2.1 := fun e => nD (by rw [e]; simp)
                have nD3 : D ≠ qh.2.2 := fun e => nD (by rw [e]; simp)
                have pil := pi.il
                refine ⟨_, rfl, _, rfl, Ac, _, _, _, rfl, rfl, SqL.of z3.top, atI_last _ _, qh.1, _, _, _, rfl, rfl, SqL.of hl3.hL, atI_nat (j := 0) rfl, ?_⟩
                refine ⟨_, rfl, _, rfl, Ac, _, _, _, rfl, rfl, SqL.of z3.top, atI_last _ _, qh.1, _, _, _, rfl, rfl, SqL.of hl3.hL, atI_nat (j := 1) rfl, ?_⟩
                refine fun M hM => ⟨upd_same, rfD, rfl, (by decide), ?_⟩
                have gm : Gr (fun _ => False) H3 G (upd (upd H3 M (.dK [])) M (.dK (mergeK [] rfD))) G :=
                  ⟨fun a _ ha => by
                    have n : a ≠ M := fun e => ha (by rw [e]; exact hM)
                    rw [upd_ne n, upd_ne n], fun a ha => by
                    have n : a ≠ M := fun e => ha (by rw [e]; exact hM)
                    rw [upd_ne n, upd_ne n]
                    exact ha, Same.refl _, NF.Same.mut (NF.Same.new g3.gh hM) (L2.Same.free g3.gh hM), fun _ _ => rfl⟩
                have hM2 := upd_same (H := upd H3 M (.dK [])) (a := M) (o := .dK (mergeK [] rfD))
                generalize upd (upd H3 M (.dK [])) M (.dK (mergeK [] rfD)) = H4 at gm hM2
                have z4 := z3.keep gm fun y _ e => e
                have hD4 := gm.keep (fun e => e) hD3
                have hl := z4.hd
                obtain ⟨ys, hy, hyd⟩ := hl.hT
                rw [wj]
                refine ⟨_, rfl, M, _, rfl, .inl ⟨_, Sum.inr (wordS u), .inl hM2, rfl, (rf_at hu).symm⟩, ?_⟩
                refine ⟨qh.2.1, qh.2.2, G, ys, l.T, l.W, rkF u, rfl, n23, z4.gh, hl.nT, hl.nW, hy, hyd, hl.hW, li.w, li.n, by omega, fun H5 G5 ys5 g5 hy5 hd5 hw5 => ?_⟩
                have hA5 := g5.keep (fun e => e.elim a2 a3) z4.top
                have hL5 := g5.keep (fun e => e.elim n12 n13) hl.hL
                have hD5 := g5.keep (fun e => e.elim nD2 nD3) hD4
                refine ⟨_, rfl, _, rfl, Ac, _, _, _, rfl, rfl, SqL.of hA5, atI_last _ _, qh.1, _, _, _, rfl, rfl, SqL.of hL5, atI_nat (j := 1) rfl, ?_⟩
                refine ⟨.inl ⟨rfl, _, SqL.of hw5⟩, _, rfl, qh.2.2, _, _, rfl, rfl, hw5, ?_, ?_⟩
                · have := (fo_len (rkF u) l.T l.W).2
                  rw [List.length_map, List.length_reverse]
                  exact Nat.lt_of_le_of_lt (show _ ≤ 1000 by omega) (by decide)
                have gW5 : G5 qh.2.2 = none := (g5.n _ (some_ne hl.hW)).trans hl.nW
                have g6 : Gr (fun x => x = qh.2.2) H5 G5 (upd H5 qh.2.2 (.lst ((fo (rkF u) l.T l.W).2.reverse.map wdV ++ [.str (wordS u)]))) G5 := Gr.mut g5.gh rfl gW5
                have hW6 : upd H5 qh.2.2 (.lst ((fo (rkF u) l.T l.W).2.reverse.map wdV ++ [.str (wordS u)])) qh.2.2 = some (wdL (u :: (fo (rkF u) l.T l.W).2)) := by
                  rw [upd_same]
                  unfold wdL
                  rw [List.reverse_cons, List.map_append]
                  rfl
                generalize upd H5 qh.2.2 (.lst ((fo (rkF u) l.T l.W).2.reverse.map wdV ++ [.str (wordS u)])) = H6 at g6 hW6
                have g56 : Gr (fun x => x = qh.2.1 ∨ x = qh.2.2) H4 G H6 G5 := g5.trans (g6.wide fun x hx _ => .inr hx)
                have z6 := z4.set (l' := ⟨(fo (rkF u) l.T l.W).1, u :: (fo (rkF u) l.T l.W).2, l.k⟩) g56 (fun y hy => .inr hy) ⟨g6.keep n13 hL5, ⟨ys5, g6.keep n23 hy5, hd5⟩, hW6, (g56.n _ (some_ne hl.hL)).trans hl.nL, (g56.n _ (some_ne hy)).trans hl.nT, gW5⟩
                rw [← el] at z6
                have hD6 := g6.keep nD3 hD5
                have nob : (sg u == blw) = false := beq_eq_false_iff_ne.mpr hjb
                rw [nob, Bool.or_false] at hs
                have nDq : ¬ D ∈ Ac :: adrs (qh :: qs2) := pi.nD
                refine ⟨Ac, i + (sg u).length + 2, n, ps ++ [sg u], cur ++ [sg u], flagB (sg u) f, tl, hv, qh :: qs2, G5, xs, told, ⟨Same.trans pi.s0 g56.g, z6, li', sm', pi.ct.app fun p hp => (by rw [List.mem_singleton.mp hp]; exact hjb), hD6, (g56.n D (some_ne hD4)).trans pi.gD, dpall_mono g56.g _ pi.dx, nDq, hs, (by show 2 * (t.length - (i + (sg u).length + 2)) + 1 ≤ n; omega), (by rw [List.length_append]; have := pi.pl; show ps.length + 1 ≤ _; omega), by omega⟩, by omega, _, _, _, _, rfl⟩
        · rw [if_neg (fun y => hc y.1)] at hs
          refine iteF' (show decide (V.str (tx [c]) = V.str ")") = false from decide_eq_false fun e => hc (by
            have := tx_inj (show tx [c] = tx [41] from V.str.inj e)
            injection this)) ?_
          refine ⟨_, rfl, _, rfl, tx t, rfl, by rw [tx_len]; exact tlS, rfl, _, rfl, ?_⟩
          rw [tx_len]
          refine iteF' (decide_eq_false fun e => by have e := V.int.inj e; omega) ?_
          obtain ⟨l, L, eL⟩ : ∃ l L, lev cur = l :: L := by
            have ell := pi.li.len
            match e : lev cur, ell with
            | l :: L, _ => exact ⟨l, L, rfl⟩
          have zz := pi.z
          have lii := pi.li
          have bd := pi.bd
          rw [eL] at zz lii bd
          have leL : L.length = tl.length := by
            have := lii.len
            rw [List.length_cons, List.length_cons] at this
            omega
          obtain ⟨bk, bT, bW⟩ := bd.2 l (List.mem_cons_self ..)
          have hn1 : 2 * (t.length - i) + 0 ≤ n := pi.hn
          obtain ⟨n, rfl⟩ : ∃ n', n = n' + 1 := ⟨n - 1, by omega⟩
          refine ⟨_, rfl, _, rfl, _, rfl, ?_⟩
          have xl := dpall_len pi.dx
          rw [List.length_map] at xl
          have hand : ∀ Q1 : VK, Q1 (.bl (!hv)) Hc2 → tAndV (tVar 1) (tOp rEq (tCB (fun xs H_1 Q => ∃ p ys, xs = [V.ref p] ∧ (SqL K H_1 p ys ∨ SqT K H_1 p ys) ∧ Q (V.int ys.length) H_1) (tCons (tVar 3) tNil)) (tC (V.int 0))) [some (V.str (tx t)), some (V.bl b), some (V.ref Ac), some (V.ref D), some (V.int (i : Int)), some (V.int (0 + (j : Int))), some (V.bl true), v7, v8] Hc2 Q1 := fun Q1 q1 => by
            refine ⟨_, rfl, b, rfl, ?_⟩
            rcases pi.ct with ⟨t0, c0, hv0, nb⟩ | ⟨b0, hv0, a, na, ea, t0⟩
            · cases b with
              | false =>
                rw [hv0] at q1
                exact iteF q1
              | true =>
                rw [hv0] at q1
                refine iteT ⟨_, rfl, D, _, rfl, .inl (SqL.of pi.hD), rfl, ?_⟩
                rw [xl, t0]
                exact q1
            · rw [b0]
              rw [hv0] at q1
              refine iteT ⟨_, rfl, D, _, rfl, .inl (SqL.of pi.hD), rfl, ?_⟩
              rw [xl, t0]
              rw [show decide (V.int (([rdT a] : List Trm).length : Int) = V.int 0) = false from decide_eq_false fun e => absurd (V.int.inj e) (by show ¬ ((1 : Nat) : Int) = 0; decide)]
              exact q1
          refine hand _ ?_
          refine ⟨Ac, G, qs, l, L, f, tl, !hv, t, i, c, r, rfl, zz, lii.hd, leL, tl9, hd, fun p H3 g3 hp => ?_⟩
          rw [Bool.not_not] at hp
          have z3 := zz.keep g3 fun y _ e => e
          have hD3 := g3.keep (fun e => e) pi.hD
          cases hj : jntN (jns (f :: tl) hv) (c :: r) with
          | inl k =>
            rw [hj] at hs hp
            have hs : Sum.inl (i + k) = res := hs
            rw [← hs] at q
            refine ⟨p, _, rfl, hp, rfl, _, _, rfl, ?_⟩
            refine ⟨_, _, rfl, rfl, ?_⟩
            refine ⟨_, rfl, rfl, _, rfl, iteT' (by rfl) ?_⟩
            refine ⟨_, rfl, _, rfl, (by show 2 ≤ sizeLine; decide), fun rp hrp => ?_⟩
            have nr : D ≠ rp := fun e => by rw [← e, hD3] at hrp; cases hrp
            exact q rp D xs _ (Same.trans pi.s0 (Same.trans g3.gh (NF.Same.new (Same.refl _) hrp))) (SqT.of upd_same) ((upd_ne nr).trans hD3)
          | inr jt =>
            rw [hj] at hs hp
            have hs : scanG (n + 1) true (r.drop (jt.length + 1)) (i + jt.length + 2) (ps ++ [jt]) (flagB jt f :: tl) (hv || jt == blw) = res := hs
            obtain ⟨_, hj2, r2, er⟩ := jntN_ok hj
            obtain ⟨jb, j2, j3⟩ := jns_in hj2
            have jl := jnt_len jb
            have hrl : r.length = jt.length + (r2.length + 1) := by rw [er, List.length_append, List.length_cons]
            have hdj : t.drop (i + jt.length + 2) = r.drop (jt.length + 1) := by
              have : t.drop (i + (jt.length + 2)) = (t.drop i).drop (jt.length + 2) := (List.drop_drop ..).symm
              rw [Nat.add_assoc, this, hd]
              rfl
            rw [← hdj] at hs
            refine ⟨p, _, rfl, hp, rfl, _, _, rfl, ?_⟩
            refine ⟨_, _, rfl, rfl, ?_⟩
            refine ⟨_, rfl, rfl, _, rfl, iteF' (by rfl) ?_⟩
            refine ⟨_, rfl, rfl, _, rfl, ?_⟩
            by_cases hjb : jt = blw
            · refine iteT' (by rw [wd_blw jb, hjb]; rfl) ?_
              subst hjb
              obtain ⟨hv0, h1⟩ := j3 rfl
              subst hv0
              obtain rfl : tl = [] := List.eq_nil_of_length_eq_zero (by rw [List.length_cons] at h1; omega)
              obtain ⟨l', el, ef⟩ := lev_read' (st' := [f]) rfl pi.li pi.sm
              obtain ⟨rfl, rfl⟩ : l' = l ∧ L = [] := by
                rw [eL] at el
                injection el with e1 e2
                exact ⟨e1.symm, e2⟩
              obtain ⟨qh, rfl⟩ : ∃ qh, qs = [qh] := by
                have := zz.all.len
                match qs, this with
                | [qh], _ => exact ⟨qh, rfl⟩
              have hl := z3.hd
              obtain ⟨ys, hy, hyd⟩ := hl.hT
              have li := lii.hd
              obtain ⟨a1, a2, a3, n12, n13, n23, _⟩ := z3.apart
              have nD := pi.nD
              rw [adrs_cons] at nD
              have nDA : D ≠ Ac := fun e => nD (by rw [e]; exact List.mem_cons_self ..)
              have nD1 : D ≠ qh.1 := fun e => nD (by rw [e]; simp)
              have nD2 : D ≠ qh.2.1 := fun e => nD (by rw [e]; simp)
              have nD3 : D ≠ qh.2.2 := fun e => nD (by rw [e]; simp)
              have pil := pi.il
              have told0 : told = [] ∧ cur = ps ∧ b = true ∧ ¬ blw ∈ ps := by
                rcases pi.ct with ⟨t0, c0, hv0, nb⟩ | ⟨b0, hv0, _⟩
                · exact ⟨t0, c0, by simpa using hv0.symm, nb⟩
                · cases hv0
              obtain ⟨t0, c0, b0, nb⟩ := told0
              subst t0 c0 b0
              refine ⟨_, rfl, Ac, _, _, _, rfl, rfl, SqL.of z3.hA, atI_nat (j := 0) rfl, qh.1, _, _, _, rfl, rfl, SqL.of hl.hL, atI_nat (j := 0) rfl, ?_⟩
              refine ⟨_, rfl, Ac, _, _, _, rfl, rfl, SqL.of z3.hA, atI_nat (j := 0) rfl, qh.1, _, _, _, rfl, rfl, SqL.of hl.hL, atI_nat (j := 1) rfl, ?_⟩
              refine ⟨qh.2.1, qh.2.2, G, ys, l'.T, l'.W, 0, rfl, n23, z3.gh, hl.nT, hl.nW, hy, hyd, hl.hW, li.w, li.n, by omega, fun H4 G4 ys4 g4 hy4 hd4 hw4 => ?_⟩
              rw [ef] at hd4
              obtain ⟨ys', v, rfl, hnil, hv4⟩ := hd4.top
              obtain rfl : ys' = [] := List.eq_nil_of_length_eq_zero hnil.len
              have hA4 := g4.keep (fun e => e.elim a2 a3) z3.hA
              have hL4 := g4.keep (fun e => e.elim n12 n13) hl.hL
              have hD4 := g4.keep (fun e => e.elim nD2 nD3) hD3
              have gD4 : G4 D = none := (g4.n D (some_ne hD3)).trans pi.gD
              refine ⟨_, rfl, .inl ⟨rfl, _, SqL.of hD4⟩, ?_⟩
              refine ⟨_, rfl, Ac, _, _, _, rfl, rfl, SqL.of hA4, atI_nat (j := 0) rfl, qh.1, _, _, _, rfl, rfl, SqL.of hL4, atI_nat (j := 0) rfl, qh.2.1, _, _, _, rfl, rfl, SqL.of hy4, atI_nat (j := 0) rfl, ?_⟩
              obtain rfl : xs = [] := List.eq_nil_of_length_eq_zero xl
              refine ⟨D, _, _, rfl, rfl, hD4, (by decide), ?_⟩
              have g5 : Gr (fun x => x = D) H4 G4 (upd H4 D (.lst [v])) G4 := Gr.mut g4.gh rfl gD4
              have hD5 := upd_same (H := H4) (a := D) (o := .lst [v])
              show _
              generalize hH5 : upd H4 D (.lst ([] ++ [v])) = H5
              have hH5 : upd H4 D (.lst [v]) = H5 := hH5
              rw [hH5] at g5 hD5
              refine ⟨(by show 0 ≤ sizeLine; decide), fun b1 k1 => ?_⟩
              refine ⟨(by show 0 ≤ sizeLine; decide), fun b2 k2 => ?_⟩
              refine ⟨(by show 3 ≤ sizeLine; decide), fun b3 k3 => ?_⟩
              refine ⟨(by show 1 ≤ sizeLine; decide), fun b4 k4 => ?_⟩
              obtain ⟨z6, g6, fr6⟩ := Lvs.init (K := K) g5.gh k1 k2 k3 k4
              have hD6 := g6.keep (fun e => e) hD5
              have nD6 : ¬ D ∈ b4 :: adrs [(b3, b1, b2)] := fun hx => by
                have : H5 D = none := fr6 D (by simpa [adrs] using hx)
                rw [hD5] at this
                cases this
              generalize upd (upd (upd (upd H5 b1 (.lst [])) b2 (.lst [])) b3 (.lst [.ref b1, .ref b2, .int 0])) b4 (.lst [.ref b3]) = H6 at z6 g6 hD6
              have ff : flagB blw f = false := rfl
              rw [ff] at hs
              refine ⟨b4, i + blw.length + 2, n, cur ++ [blw], [], false, [], true, [(b3, b1, b2)], G4, [v], [rdT cur], ⟨Same.trans pi.s0 g4.g, z6, lev_start, .due, .inr ⟨rfl, rfl, cur, nb, rfl, rfl⟩, hD6, gD4, .cons hv4 .nil, nD6, hs, (by show 2 * (t.length - (i + blw.length + 2)) + 1 ≤ n; omega), (by rw [List.length_append]; have := pi.pl; show cur.length + 1 ≤ _; omega), by omega⟩, by omega, _, _, _, _, rfl⟩
            · refine iteF' (by rw [wd_blw jb]; exact beq_eq_false_iff_ne.mpr hjb) ?_
              obtain ⟨u, hu, rfl⟩ : ∃ u, u < 5 ∧ jt = sg u := by
                rcases bin_in jb with rfl | rfl | rfl | rfl | rfl | rfl
                · exact absurd rfl hjb
                · exact ⟨0, by omega, rfl⟩
                · exact ⟨1, by omega, rfl⟩
                · exact ⟨2, by omega, rfl⟩
                · exact ⟨3, by omega, rfl⟩
                · exact ⟨4, by omega, rfl⟩
              have wj : wdJ (sg u) = wordS u := by rcases sg_cases hu with rfl | rfl | rfl | rfl | rfl <;> decide +kernel
              obtain ⟨li', sm'⟩ := lstep1 pi.li pi.sm (.bn jb hjb fun z => Option.some.inj (j2 z))
              have el2 : lstep (lev cur) (sg u) = lev (cur ++ [sg u]) := by
                unfold lev
                rw [List.foldl_append]
                rfl
              obtain ⟨b1, b2, b3, b4, b5⟩ := bnd_sg hu
              have el : lev (cur ++ [sg u]) = ⟨(fo (rkF u) l.T l.W).1, u :: (fo (rkF u) l.T l.W).2, l.k⟩ :: L := by
                rw [← el2, eL]
                show (if sg u = tilde then _ else if sg u = opn then _ else if sg u = cls then _ else if isBin (sg u) = true then _ else _) = _
                rw [if_neg b4, if_neg b3, if_neg b5, if_pos jb, b2]
              rw [el2] at li' sm'
              have sm' : Sim true (lev (cur ++ [sg u])) ((cur ++ [sg u]).foldl stepM ([], [])) := by
                rw [List.foldl_append]
                exact sm'
              obtain ⟨qh, qs2, rfl⟩ : ∃ qh qs2, qs = qh :: qs2 := by
                have := zz.all.len
                match qs, this with
                | qh :: qs2, _ => exact ⟨qh, qs2, rfl⟩
              have hl3 := z3.hd
              have li := lii.hd
              obtain ⟨a1, a2, a3, n12, n13, n23, _⟩ := z3.apart
              have nD := pi.nD
              rw [adrs_cons] at nD
              have nDA : D ≠ Ac := fun e => nD (by rw [e]; exact List.mem_cons_self ..)
              have nD1 : D ≠ qh.1 := fun e => nD (by rw [e]; simp)
              have nD2 : D ≠ qh.2.1 := fun e => nD (by rw [e]; simp)
              have nD3 : D ≠ qh.2.2 := fun e => nD (by rw [e]; simp)
              have pil := pi.il
              refine ⟨_, rfl, _, rfl, Ac, _, _, _, rfl, rfl, SqL.of z3.top, atI_last _ _, qh.1, _, _, _, rfl, rfl, SqL.of hl3.hL, atI_nat (j := 0) rfl, ?_⟩
              refine ⟨_, rfl, _, rfl, Ac, _, _, _, rfl, rfl, SqL.of z3.top, atI_last _ _, qh.1, _, _, _, rfl, rfl, SqL.of hl3.hL, atI_nat (j := 1) rfl, ?_⟩
              refine fun M hM => ⟨upd_same, rfD, rfl, (by decide), ?_⟩
              have gm : Gr (fun _ => False) H3 G (upd (upd H3 M (.dK [])) M (.dK (mergeK [] rfD))) G :=
                ⟨fun a _ ha => by
                  have n : a ≠ M := fun e => ha (by rw [e]; exact hM)
                  rw [upd_ne n, upd_ne n], fun a ha => by
                  have n : a ≠ M := fun e => ha (by rw [e]; exact hM)
                  rw [upd_ne n, upd_ne n]
                  exact ha, Same.refl _, NF.Same.mut (NF.Same.new g3.gh hM) (L2.Same.free g3.gh hM), fun _ _ => rfl⟩
              have hM2 := upd_same (H := upd H3 M (.dK [])) (a := M) (o := .dK (mergeK [] rfD))
              generalize upd (upd H3 M (.dK [])) M (.dK (mergeK [] rfD)) = H4 at gm hM2
              have z4 := z3.keep gm fun y _ e => e
              have hD4 := gm.keep (fun e => e) hD3
              have hl := z4.hd
              obtain ⟨ys, hy, hyd⟩ := hl.hT
              rw [wj]
              refine ⟨_, rfl, M, _, rfl, .inl ⟨_, Sum.inr (wordS u), .inl hM2, rfl, (rf_at hu).symm⟩, ?_⟩
              refine ⟨qh.2.1, qh.2.2, G, ys, l.T, l.W, rkF u, rfl, n23, z4.gh, hl.nT, hl.nW, hy, hyd, hl.hW, li.w, li.n, by omega, fun H5 G5 ys5 g5 hy5 hd5 hw5 => ?_⟩
              have hA5 := g5.keep (fun e => e.elim a2 a3) z4.top
              have hL5 := g5.keep (fun e => e.elim n12 n13) hl.hL
              have hD5 := g5.keep (fun e => e.elim nD2 nD3) hD4
              refine ⟨_, rfl, _, rfl, Ac, _, _, _, rfl, rfl, SqL.of hA5, atI_last _ _, qh.1, _, _, _, rfl, rfl, SqL.of hL5, atI_nat (j := 1) rfl, ?_⟩
              refine ⟨.inl ⟨rfl, _, SqL.of hw5⟩, _, rfl, qh.2.2, _, _, rfl, rfl, hw5, ?_, ?_⟩
              · have := (fo_len (rkF u) l.T l.W).2
                rw [List.length_map, List.length_reverse]
                exact Nat.lt_of_le_of_lt (show _ ≤ 1000 by omega) (by decide)
              have gW5 : G5 qh.2.2 = none := (g5.n _ (some_ne hl.hW)).trans hl.nW
              have g6 : Gr (fun x => x = qh.2.2) H5 G5 (upd H5 qh.2.2 (.lst ((fo (rkF u) l.T l.W).2.reverse.map wdV ++ [.str (wordS u)]))) G5 := Gr.mut g5.gh rfl gW5
              have hW6 : upd H5 qh.2.2 (.lst ((fo (rkF u) l.T l.W).2.reverse.map wdV ++ [.str (wordS u)])) qh.2.2 = some (wdL (u :: (fo (rkF u) l.T l.W).2)) := by
                rw [upd_same]
                unfold wdL
                rw [List.reverse_cons, List.map_append]
                rfl
              generalize upd H5 qh.2.2 (.lst ((fo (rkF u) l.T l.W).2.reverse.map wdV ++ [.str (wordS u)])) = H6 at g6 hW6
              have g56 : Gr (fun x => x = qh.2.1 ∨ x = qh.2.2) H4 G H6 G5 := g5.trans (g6.wide fun x hx _ => .inr hx)
              have z6 := z4.set (l' := ⟨(fo (rkF u) l.T l.W).1, u :: (fo (rkF u) l.T l.W).2, l.k⟩) g56 (fun y hy => .inr hy) ⟨g6.keep n13 hL5, ⟨ys5, g6.keep n23 hy5, hd5⟩, hW6, (g56.n _ (some_ne hl.hL)).trans hl.nL, (g56.n _ (some_ne hy)).trans hl.nT, gW5⟩
              rw [← el] at z6
              have hD6 := g6.keep nD3 hD5
              have nob : (sg u == blw) = false := beq_eq_false_iff_ne.mpr hjb
              rw [nob, Bool.or_false] at hs
              have nDq : ¬ D ∈ Ac :: adrs (qh :: qs2) := pi.nD
              refine ⟨Ac, i + (sg u).length + 2, n, ps ++ [sg u], cur ++ [sg u], flagB (sg u) f, tl, hv, qh :: qs2, G5, xs, told, ⟨Same.trans pi.s0 g56.g, z6, li', sm', pi.ct.app fun p hp => (by rw [List.mem_singleton.mp hp]; exact hjb), hD6, (g56.n D (some_ne hD4)).trans pi.gD, dpall_mono g56.g _ pi.dx, nDq, hs, (by show 2 * (t.length - (i + (sg u).length + 2)) + 1 ≤ n; omega), (by rw [List.length_append]; have := pi.pl; show ps.length + 1 ≤ _; omega), by omega⟩, by omega, _, _, _, _, rfl⟩
end
end K13
set_option Elab.async false
set_option linter.all false
set_option maxRecDepth 100000
set_option maxHeartbeats 4000000
/-! Parts of a term; texts changed; texts of pieces. -/
namespace K13
open PySem PySem.Spec PyProof.Rows L2 He NF RZ TT
def spLParts (n : Nat) (K : PySem.W.Frag) : Sp := fun vs H Q _ => ∃ v t, vs = [v] ∧ Dp K H v (tmP false t) ∧ TmOk t ∧ depth t ≤ n ∧ ∀ H', Same H H' → Q (.int (parts t : Nat)) H'
theorem sum_cast : ∀ k : List Trm, (k.map fun u => ((parts u : Nat) : Int)).sum = (((k.map parts).sum : Nat) : Int)
  | [] => rfl
  | a :: k => by
    rw [List.map_cons, List.map_cons, List.sum_cons, List.sum_cons, sum_cast k]
    omega
def kidsT : Trm → List Trm
  | .tn a => [a]
  | .bi _ a b => [a, b]
  | _ => []
theorem kidsT_sum : ∀ t, parts t = 1 + ((kidsT t).map parts).sum
  | .nm _ => rfl
  | .sh _ => rfl
  | .tn a => by
    show parts a + 1 = 1 + (parts a + 0)
    omega
  | .bi _ a b => by
    show parts a + parts b + 1 = 1 + (parts a + (parts b + 0))
    omega
theorem kidsT_depth {t u : Trm} (h : u ∈ kidsT t) : depth u + 1 ≤ depth t := by
  cases t with
  | nm _ => cases h
  | sh _ => cases h
  | tn a =>
    rw [List.mem_singleton.mp h]
    exact Nat.le_refl _
  | bi w a b =>
    show _ ≤ max (depth a) (depth b) + 1
    rcases List.mem_cons.mp h with rfl | h
    · omega
    · rw [List.mem_singleton.mp h]
      omega
theorem kidsT_ok {t : Trm} (h : TmOk t) : ∀ u ∈ kidsT t, TmOk u := by
  cases t with
  | nm s => exact fun u hu => nomatch hu
  | sh k => exact fun u hu => nomatch hu
  | tn a => exact fun u hu => by rw [List.mem_singleton.mp hu]; exact h
  | bi w a b => exact fun u hu => (List.mem_cons.mp hu).elim (fun e => e ▸ h.2.1) fun hu => by rw [List.mem_singleton.mp hu]; exact h.2.2
theorem dpall_at {K : PySem.W.Frag} {H : Hp} : ∀ {ds : List PyData} {xs : List V} {j : Nat} {x : V}, DpAll K H xs ds → xs[j]? = some x → ∃ d, ds[j]? = some d ∧ Dp K H x d
  | _, _, _, _, .nil, h => by cases h
  | d :: ds, y :: xs, 0, x, .cons h1 _, h => by
    obtain rfl : y = x := Option.some.inj h
    exact ⟨d, rfl, h1⟩
  | d :: ds, y :: xs, j + 1, x, .cons _ h2, h => dpall_at (xs := xs) (j := j) h2 h
theorem sc__law_parts : FnScope ["_law_term_here", "_law_one"] ["_law_term_here"] (defScope s__law_parts) := ⟨rfl, rfl, rfl, by decide +kernel, rfl, by decide +kernel, by decide +kernel⟩
section
variable {P : Program} {w : World} {K : PySem.W.Frag} {mg : Str → Option Value} {base : Heap} {gs fs : List Str} {C : Addr} {tok : Tok}
theorem ok__law_parts {n : Nat} {f : Addr} {fd : FuncData} (F : FunD K "_law_parts" "_law_parts" (defArgs s__law_parts) (defBody s__law_parts) (defScope s__law_parts) [] [] f fd) (T : Txt K mg gs FS) (c__law_parts : Cal P w K mg base (n + 1) "_law_parts" (spLParts n K)) : FnOk P w K mg base CX0 (n + 2) f fd ["_law_term_here"] (spLParts (n + 1) K) := by
  refine F.ok sc__law_parts (fun vs H Q E h => ?_) (fun cdv A outer s H vs Q E hr h => ?_)
  · obtain ⟨v, t, rfl, _⟩ := h
    rfl
  · obtain ⟨v, t, rfl, hv, tk, hd, q⟩ := h
    refine ⟨_, PSs.nox (pss_cons (ps_if (PW.pt (pw_or (pt_val (pe_callB call_isi rfl (T.fr _ (by decide +kernel)) (by decide +kernel) (pa_cons (pv 0) (pa_cons (pe_bltn (v := .ty "str") rfl (T.fr _ (by decide +kernel)) (by decide +kernel) rfl) pa_nil)))) (pw_or1 (pt_cmpR op_eq (pe_ix (ixs (K := K)) (pv 0) pe_int fun _ _ => rfl) pe_str (nomark _))))) (pss_one (ps_ret pe_int)) pss_nil) (pss_one (ps_ret (pe_op op_add pe_int (pe_callB (cr_sum rfl) rfl (T.fr _ (by decide +kernel)) (by decide +kernel) (pa_cons (pe_lc (own := [("_law_one", 1)]) rfl sc__law_parts.nd (pi_row (pe_slice sl_row (pv 0) (po_some pe_int) po_none)) (blkOk_by (N := ["_law_term_here", "_law_one"]) (sc := defScope s__law_parts) (by decide +kernel)) (fun _ _ _ _ _ => by exact (pg_name (i := 1) sc__law_parts.nd rfl (Or.inl rfl))) (fun _ _ _ _ _ => by exact pts_nil) (fun _ _ _ _ _ => by exact (pe_c c__law_parts hr (by omega) rfl (pa_cons (pv 1) pa_nil)))) pa_nil)))))), ?_⟩
    refine ⟨_, rfl, _, _, _, _, _, rfl, .ty "str", dp_ty hv, kit_p_str K _, ?_⟩
    cases t with
    | nm s =>
      obtain rfl := dp_nm hv
      exact ⟨true, rfl, iteT (q H (Same.refl H))⟩
    | sh k =>
      obtain ⟨a, rfl, ha⟩ := dp_sh hv
      refine ⟨false, rfl, iteF ?_⟩
      exact ⟨_, rfl, ix_done ha (atI_nat (j := 0) rfl) ⟨rfl, _, rfl, iteT' (by decide +kernel) (q H (Same.refl H))⟩⟩
    | tn t =>
      obtain ⟨a, x, rfl, ha, hx⟩ := dp_tn hv
      have hd : depth t + 1 ≤ n + 1 := hd
      refine ⟨false, rfl, iteF ?_⟩
      refine ⟨_, rfl, ix_done ha (atI_nat (j := 0) rfl) ⟨rfl, _, rfl, iteF' (by decide +kernel) ?_⟩⟩
      have ks := kidsT_sum (.tn t)
      have kd : ∀ u ∈ kidsT (.tn t), depth u ≤ n := fun u hu => by
        have := kidsT_depth hu
        omega
      have ko := kidsT_ok tk
      have hz : DpAll K H [x] ((kidsT (.tn t)).map (tmP false)) := .cons hx .nil
      generalize kidsT (.tn t) = kk at ks kd ko hz
      refine ⟨_, rfl, _, rfl, slr_rest ha (Nat.succ_le_succ (Nat.zero_le _)) fun p H1 s1 hp => ?_⟩
      have hz1 : DpAll K H1 [x] (kk.map (tmP false)) := dpall_mono s1 _ hz
      have lz := dpall_len hz1
      rw [List.length_map] at lz
      have hp : Row K H1 p [x] := hp
      refine ⟨p, rfl, ?_⟩
      refine lc_row hp (fun D j G => Same H G ∧ Same H1 G ∧ G D = some (.lst (((kk.take j).map fun u => ((parts u : Nat) : Int)).map V.int))) (fun D hD => ⟨NF.Same.new s1 hD, NF.Same.new (Same.refl _) hD, upd_same⟩) (fun D j G _ z => z.2.1) ?_ ?_
      · rintro D hD j x G hx ⟨sG, s1G, hG⟩
        obtain ⟨u, hu, hxu⟩ : ∃ u, kk[j]? = some u ∧ Dp K H1 x (tmP false u) := by
          obtain ⟨d, hd1, hd2⟩ := dpall_at hz1 hx
          rw [List.getElem?_map] at hd1
          cases z : kk[j]? with
          | none =>
            rw [z] at hd1
            cases hd1
          | some u =>
            rw [z] at hd1
            obtain rfl := (Option.some.inj hd1)
            exact ⟨u, rfl, hd2⟩
        have hum := List.mem_of_getElem? hu
        refine ⟨rfl, _, rfl, x, u, rfl, dp_mono s1G _ hxu, ko u hum, kd u hum, fun G2 s2 => ?_⟩
        refine ⟨_, s2 _ _ hG, Nat.lt_of_le_of_lt (show _ ≤ 2 by rw [List.length_map, List.length_map, List.length_take, ← lz]; exact Nat.le_trans (Nat.min_le_right _ _) (by simp)) (by decide), NF.Same.mut (Same.trans sG s2) (L2.Same.free s1 hD), NF.Same.mut (Same.trans s1G s2) hD, ?_⟩
        rw [upd_same, List.take_add_one, hu, List.map_append, List.map_append]
        rfl
      · rintro D hD G ⟨sG, s1G, hG⟩
        rw [List.take_of_length_le (Nat.le_of_eq lz.symm)] at hG
        refine ⟨D, _, rfl, SqL.of hG, ?_⟩
        refine ⟨1, _, rfl, rfl, ?_⟩
        have e : ((kk.map fun u => ((parts u : Nat) : Int)).sum : Int) = ((kk.map parts).sum : Nat) := sum_cast kk
        have qq := q G sG
        rw [show ((parts (.tn t) : Nat) : Int) = 1 + (kk.map fun u => ((parts u : Nat) : Int)).sum by rw [e, ks]; omega] at qq
        exact qq
    | bi w t u =>
      obtain ⟨a, x, y, rfl, ha, hx, hy⟩ := dp_bi hv
      refine ⟨false, rfl, iteF ?_⟩
      refine ⟨_, rfl, ix_done ha (atI_nat (j := 0) rfl) ⟨rfl, _, rfl, iteF' (decide_eq_false fun e => (word_no tk.1).1 (V.str.inj e)) ?_⟩⟩
      have ks := kidsT_sum (.bi w t u)
      have kd : ∀ v ∈ kidsT (.bi w t u), depth v ≤ n := fun u' hu => by
        have := kidsT_depth hu
        omega
      have ko := kidsT_ok tk
      have hz : DpAll K H [x, y] ((kidsT (.bi w t u)).map (tmP false)) := .cons hx (.cons hy .nil)
      generalize kidsT (.bi w t u) = kk at ks kd ko hz
      refine ⟨_, rfl, _, rfl, slr_rest ha (Nat.succ_le_succ (Nat.zero_le _)) fun p H1 s1 hp => ?_⟩
      have hz1 : DpAll K H1 [x, y] (kk.map (tmP false)) := dpall_mono s1 _ hz
      have lz := dpall_len hz1
      rw [List.length_map] at lz
      have hp : Row K H1 p [x, y] := hp
      refine ⟨p, rfl, ?_⟩
      refine lc_row hp (fun D j G => Same H G ∧ Same H1 G ∧ G D = some (.lst (((kk.take j).map fun u => ((parts u : Nat) : Int)).map V.int))) (fun D hD => ⟨NF.Same.new s1 hD, NF.Same.new (Same.refl _) hD, upd_same⟩) (fun D j G _ z => z.2.1) ?_ ?_
      · rintro D hD j x' G hx' ⟨sG, s1G, hG⟩
        obtain ⟨u', hu, hxu⟩ : ∃ u', kk[j]? = some u' ∧ Dp K H1 x' (tmP false u') := by
          obtain ⟨d, hd1, hd2⟩ := dpall_at hz1 hx'
          rw [List.getElem?_map] at hd1
          cases z : kk[j]? with
          | none =>
            rw [z] at hd1
            cases hd1
          | some u' =>
            rw [z] at hd1
            obtain rfl := (Option.some.inj hd1)
            exact ⟨u', rfl, hd2⟩
        have hum := List.mem_of_getElem? hu
        refine ⟨rfl, _, rfl, x', u', rfl, dp_mono s1G _ hxu, ko u' hum, kd u' hum, fun G2 s2 => ?_⟩
        refine ⟨_, s2 _ _ hG, Nat.lt_of_le_of_lt (show _ ≤ 2 by rw [List.length_map, List.length_map, List.length_take, ← lz]; exact Nat.le_trans (Nat.min_le_right _ _) (by simp)) (by decide), NF.Same.mut (Same.trans sG s2) (L2.Same.free s1 hD), NF.Same.mut (Same.trans s1G s2) hD, ?_⟩
        rw [upd_same, List.take_add_one, hu, List.map_append, List.map_append]
        rfl
      · rintro D hD G ⟨sG, s1G, hG⟩
        rw [List.take_of_length_le (Nat.le_of_eq lz.symm)] at hG
        refine ⟨D, _, rfl, SqL.of hG, ?_⟩
        refine ⟨1, _, rfl, rfl, ?_⟩
        have e : ((kk.map fun u => ((parts u : Nat) : Int)).sum : Int) = ((kk.map parts).sum : Nat) := sum_cast kk
        have qq := q G sG
        rw [show ((parts (.bi w t u) : Nat) : Int) = 1 + (kk.map fun u => ((parts u : Nat) : Int)).sum by rw [e, ks]; omega] at qq
        exact qq
end
end K13
set_option Elab.async false
set_option linter.all false
set_option maxRecDepth 100000
set_option maxHeartbeats 4000000
/-! Texts changed; texts of pieces. -/
namespace K13
open PySem PySem.Spec PyProof.Rows L2 He NF RZ TT
theorem cut_to {t : TT.Tx} {k : Nat} (hk : k ≤ t.length) : cutS (tx t) none (some (k : Int)) = tx (t.take k) := by
  unfold cutS
  rw [HT.sIx_none, tx_len, HT.sIx_nat, tx_cps, Nat.min_eq_left hk]
  rfl
theorem cut_fr {t : TT.Tx} {k : Nat} : cutS (tx t) (some (k : Int)) none = tx (t.drop k) := by
  unfold cutS
  rw [HT.sIx_none, tx_len, HT.sIx_nat, tx_cps]
  show tx _ = tx _
  congr 1
  by_cases c : k ≤ t.length
  · rw [Nat.min_eq_left c, List.take_of_length_le (by rw [List.length_drop]; omega)]
  · rw [Nat.min_eq_right (by omega), Nat.sub_self, List.drop_of_length_le (i := k) (by omega)]
    simp
def sgnT : TT.Tx := [32, 40, 41, 126, 42, 38, 124, 60, 61, 43, 45, 97, 98, 102, 103, 111, 117, 122, 48, 49, 57, 117, 32, 110, 100, 101, 114, 118, 120]
theorem sgn_eq : (" ()~*&|<=+-abfgouz019u ndervx" : Str) = tx sgnT := by decide +kernel
def spChg (K : PySem.W.Frag) : Sp := fun vs H Q _ => ∃ (H0 : Hp) (p : Addr) (t : TT.Tx), vs = [.ref p, .str (tx t)] ∧ Same H0 H ∧ H0 p = none ∧ Src H p ∧ t.length ≤ 800 ∧ ∀ t' H', t'.length ≤ t.length + 1 → Same H0 H' → Src H' p → Q (.str (tx t')) H'
theorem sc__law_changed : FnScope ["_law_source_here", "_law_text", "_law_signs", "_law_way", "_law_place", "_law_sign"] ["_law_source_here", "_law_text"] (defScope s__law_changed) := ⟨rfl, rfl, rfl, by decide +kernel, rfl, by decide +kernel, by decide +kernel⟩
section
variable {P : Program} {w : World} {K : PySem.W.Frag} {mg : Str → Option Value} {base : Heap} {gs fs : List Str} {C : Addr} {tok : Tok}
theorem ok__law_changed {f : Addr} {fd : FuncData} (F : FunD K "_law_changed" "_law_changed" (defArgs s__law_changed) (defBody s__law_changed) (defScope s__law_changed) [] [] f fd) (T : Txt K mg gs FS) (c__law_pick : Cal P w K mg base 1 "_law_pick" spPick) : FnOk P w K mg base CX0 2 f fd ["_law_source_here", "_law_text"] (spChg K) := by
  refine F.ok sc__law_changed (fun vs H Q E h => ?_) (fun cdv A outer s H vs Q E hr h => ?_)
  · obtain ⟨H0, p, t, rfl, _⟩ := h
    rfl
  · obtain ⟨H0, p, t, rfl, s0, hp0, hsrc, tl, q⟩ := h
    refine ⟨_, PSs.nox (pss_cons (ps_set (i := 2) sc__law_changed.nd rfl (Or.inl rfl) pe_str) (pss_cons (ps_set (i := 3) sc__law_changed.nd rfl (Or.inl rfl) (pe_c c__law_pick hr (by decide) rfl (pa_cons (pv 0) (pa_cons pe_int pa_nil)))) (pss_cons (ps_set (i := 4) sc__law_changed.nd rfl (Or.inl rfl) (pe_c c__law_pick hr (by decide) rfl (pa_cons (pv 0) (pa_cons (pe_op op_add (pe_callB call_len_str rfl (T.fr _ (by decide +kernel)) boot_len (pa_cons (pv 1) pa_nil)) pe_int) pa_nil)))) (pss_cons (ps_set (i := 5) sc__law_changed.nd rfl (Or.inl rfl) (pe_ix ix_str (pv 2) (pe_c c__law_pick hr (by decide) rfl (pa_cons (pv 0) (pa_cons (pe_callB call_len_str rfl (T.fr _ (by decide +kernel)) boot_len (pa_cons (pv 2) pa_nil)) pa_nil))) fun _ _ => rfl)) (pss_cons (ps_if (pt_cmpR op_eq (pv 3) pe_int (nomark _)) (pss_one (ps_ret (pe_op op_add_str (pe_slice sl_str (pv 1) po_none (po_some (pv 4))) (pe_slice sl_str (pv 1) (po_some (pe_op op_add (pv 4) pe_int)) po_none)))) pss_nil) (pss_cons (ps_if (pt_cmpR op_eq (pv 3) pe_int (nomark _)) (pss_one (ps_ret (pe_op op_add_str (pe_op op_add_str (pe_slice sl_str (pv 1) po_none (po_some (pv 4))) (pv 5)) (pe_slice sl_str (pv 1) (po_some (pv 4)) po_none)))) pss_nil) (pss_cons (ps_if (pt_cmpR op_eq (pv 3) pe_int (nomark _)) (pss_one (ps_ret (pe_op op_add_str (pe_op op_add_str (pe_op op_add_str (pe_slice sl_str (pv 1) po_none (po_some (pv 4))) (pe_slice sl_str (pv 1) (po_some (pe_op op_add (pv 4) pe_int)) (po_some (pe_op op_add (pv 4) pe_int)))) (pe_slice sl_str (pv 1) (po_some (pv 4)) (po_some (pe_op op_add (pv 4) pe_int)))) (pe_slice sl_str (pv 1) (po_some (pe_op op_add (pv 4) pe_int)) po_none)))) pss_nil) (pss_cons (ps_if (pt_cmpR op_eq (pv 3) pe_int (nomark _)) (pss_one (ps_ret (pe_slice sl_str (pv 1) po_none (po_some (pv 4))))) pss_nil) (pss_one (ps_ret (pe_op op_add_str (pe_op op_add_str (pe_slice sl_str (pv 1) po_none (po_some (pv 4))) (pv 5)) (pe_slice sl_str (pv 1) (po_some (pe_op op_add (pv 4) pe_int)) po_none)))))))))))), ?_⟩
    have tlS : ∀ n, n ≤ 900 → n ≤ sizeLine := fun n h => Nat.le_trans h (by decide)
    have qt : ∀ t' H' (z : Str), z = tx t' → t'.length ≤ t.length + 1 → Same H0 H' → Src H' p → Q (.str z) H' := fun t' H' z e a b c => by
      rw [e]
      exact q t' H' a b c
    refine ⟨_, rfl, H0, p, 5, rfl, s0, hp0, hsrc, by decide, by decide, fun way H1 w0 w1 s1 src1 => ?_⟩
    refine ⟨_, rfl, _, rfl, tx t, rfl, by rw [tx_len]; exact tlS _ (by omega), ?_⟩
    rw [tx_len]
    refine ⟨_, _, rfl, rfl, H0, p, ((t.length : Nat) : Int) + 1, rfl, s1, hp0, src1, by omega, by omega, fun pl H2 p0 p1 s2 src2 => ?_⟩
    obtain ⟨k, rfl⟩ : ∃ k : Nat, pl = (k : Int) := ⟨pl.toNat, by omega⟩
    have hk : k ≤ t.length := by omega
    refine ⟨_, rfl, _, rfl, _, rfl, tx sgnT, by rw [← sgn_eq], by decide, H0, p, 29, by rw [tx_len]; rfl, s2, hp0, src2, by decide, by decide, fun sd H3 d0 d1 s3 src3 => ?_⟩
    obtain ⟨dn, rfl⟩ : ∃ k : Nat, sd = (k : Int) := ⟨sd.toNat, by omega⟩
    obtain ⟨x, hx⟩ : ∃ x, sgnT[dn]? = some x := ⟨_, List.getElem?_eq_getElem (show dn < sgnT.length by show dn < 29; omega)⟩
    have hix : ∀ {Q1 : VK}, Q1 (.str ⟨#[x]⟩) H3 → rIxS (.str " ()~*&|<=+-abfgouz019u ndervx") (.int (dn : Int)) H3 Q1 := fun {Q1} q1 => by
      rw [sgn_eq]
      exact ix_tx (by decide) hx q1
    refine hix ?_
    have c1 := cut_to hk
    have c2 : cutS (tx t) (some ((k : Int) + 1)) none = tx (t.drop (k + 1)) := cut_fr (t := t) (k := k + 1)
    have c3 : cutS (tx t) (some (k : Int)) none = tx (t.drop k) := cut_fr
    have l1 : (t.take k).length = k := by rw [List.length_take]; omega
    have l2 : (t.drop (k + 1)).length = t.length - (k + 1) := List.length_drop
    have l3 : (t.drop k).length = t.length - k := List.length_drop
    have tlt : (tx t).length ≤ sizeLine := by rw [tx_len]; exact tlS _ (by omega)
    have ex : (⟨#[x]⟩ : Str) = tx [x] := rfl
    refine ⟨_, rfl, rfl, _, rfl, ?_⟩
    by_cases w0' : V.int way = V.int 0
    · refine iteT' (decide_eq_true w0') ?_
      refine ⟨_, rfl, _, rfl, _, rfl, tx t, rfl, tlt, ?_⟩
      rw [c1]
      refine ⟨_, rfl, _, rfl, _, _, rfl, rfl, _, rfl, tx t, rfl, tlt, ?_⟩
      rw [c2]
      refine ⟨_, _, rfl, rfl, by rw [tx_len, tx_len]; exact tlS _ (by omega), ?_⟩
      exact qt _ _ _ (tx_app _ _) (by rw [List.length_append]; omega) s3 src3
    refine iteF' (decide_eq_false w0') ?_
    refine ⟨_, rfl, rfl, _, rfl, ?_⟩
    by_cases w1' : V.int way = V.int 1
    · refine iteT' (decide_eq_true w1') ?_
      refine ⟨_, rfl, _, rfl, _, rfl, tx t, rfl, tlt, ?_⟩
      rw [c1]
      refine ⟨_, rfl, _, _, rfl, rfl, by rw [ex, tx_len, tx_len]; exact tlS _ (by show _ + 1 ≤ 900; omega), ?_⟩
      rw [ex, tx_app]
      refine ⟨_, rfl, _, rfl, _, rfl, tx t, rfl, tlt, ?_⟩
      rw [c3]
      refine ⟨_, _, rfl, rfl, by rw [tx_len, tx_len, List.length_append]; exact tlS _ (by show _ + 1 + _ ≤ 900; omega), ?_⟩
      exact qt _ _ _ (tx_app _ _) (by rw [List.length_append, List.length_append]; show _ + 1 + _ ≤ _; omega) s3 src3
    refine iteF' (decide_eq_false w1') ?_
    refine ⟨_, rfl, rfl, _, rfl, ?_⟩
    by_cases w2' : V.int way = V.int 2
    · refine iteT' (decide_eq_true w2') ?_
      have c4 : cutS (tx t) (some ((k : Int) + 1)) (some ((k : Int) + 2)) = tx ((t.drop (k + 1)).take 1) := by
        have := cut_tx (t := t) (a := k + 1) (b := k + 2) (by omega)
        rw [show k + 2 - (k + 1) = 1 by omega] at this
        exact this
      have c5 : cutS (tx t) (some ((k : Int) + 2)) none = tx (t.drop (k + 2)) := cut_fr (t := t) (k := k + 2)
      have l4 : ((t.drop (k + 1)).take 1).length = min 1 (t.length - (k + 1)) := by rw [List.length_take, List.length_drop]
      have l5 : ((t.drop k).take 1).length = min 1 (t.length - k) := by rw [List.length_take, List.length_drop]
      have l6 : (t.drop (k + 2)).length = t.length - (k + 2) := List.length_drop
      refine ⟨_, rfl, _, rfl, _, rfl, tx t, rfl, tlt, ?_⟩
      rw [c1]
      refine ⟨_, rfl, _, rfl, _, _, rfl, rfl, _, rfl, _, rfl, _, _, rfl, rfl, _, rfl, tx t, rfl, tlt, ?_⟩
      rw [c4]
      refine ⟨_, _, rfl, rfl, by rw [tx_len, tx_len]; exact tlS _ (by omega), ?_⟩
      rw [tx_app]
      refine ⟨_, rfl, _, rfl, _, rfl, _, rfl, _, _, rfl, rfl, _, rfl, tx t, rfl, tlt, ?_⟩
      rw [cut_one]
      refine ⟨_, _, rfl, rfl, by rw [tx_len, tx_len, List.length_append]; exact tlS _ (by omega), ?_⟩
      rw [tx_app]
      refine ⟨_, rfl, _, rfl, _, _, rfl, rfl, _, rfl, tx t, rfl, tlt, ?_⟩
      rw [c5]
      refine ⟨_, _, rfl, rfl, by rw [tx_len, tx_len, List.length_append, List.length_append]; exact tlS _ (by omega), ?_⟩
      exact qt _ _ _ (tx_app _ _) (by rw [List.length_append, List.length_append, List.length_append]; omega) s3 src3
    refine iteF' (decide_eq_false w2') ?_
    refine ⟨_, rfl, rfl, _, rfl, ?_⟩
    by_cases w3' : V.int way = V.int 3
    · refine iteT' (decide_eq_true w3') ?_
      refine ⟨_, rfl, _, rfl, _, rfl, tx t, rfl, tlt, ?_⟩
      rw [c1]
      exact qt _ _ _ rfl (by omega) s3 src3
    refine iteF' (decide_eq_false w3') ?_
    refine ⟨_, rfl, _, rfl, _, rfl, tx t, rfl, tlt, ?_⟩
    rw [c1]
    refine ⟨_, rfl, _, _, rfl, rfl, by rw [ex, tx_len, tx_len]; exact tlS _ (by show _ + 1 ≤ 900; omega), ?_⟩
    rw [ex, tx_app]
    refine ⟨_, rfl, _, rfl, _, _, rfl, rfl, _, rfl, tx t, rfl, tlt, ?_⟩
    rw [c2]
    refine ⟨_, _, rfl, rfl, by rw [tx_len, tx_len, List.length_append]; exact tlS _ (by show _ + 1 + _ ≤ 900; omega), ?_⟩
    exact qt _ _ _ (tx_app _ _) (by rw [List.length_append, List.length_append]; show _ + 1 + _ ≤ _; omega) s3 src3
end
end K13
set_option Elab.async false
set_option linter.all false
set_option maxRecDepth 100000
set_option maxHeartbeats 4000000
/-! A comprehension with two fors: the outer one, the inner one. -/
namespace NF
open PySem PySem.Spec PyProof.Rows L2
theorem pi_tupK {X : Cx} {K : PySem.W.Frag} {tg l : Expr} {tl : TE} (hl : PE X l tl) (h : X.K = K := by rfl) : PI X tg l (iTup K tl) := h ▸ pi_tup hl
theorem pi_listK {X : Cx} {K : PySem.W.Frag} {tg l : Expr} {tl : TE} (hl : PE X l tl) (h : X.K = K := by rfl) : PI X tg l (iList K tl) := h ▸ pi_list hl
theorem pe_fldK {X : Cx} {K : PySem.W.Frag} {e : Expr} {f : Str} {pos : Pos} {ta : TE} (he : PE X e ta) (hb : attributeBase e f X.env (eval e X.env) = eval e X.env) (h : X.K = K := by rfl) : PE X (.Attribute e f pos) (tFld K ta f) := h ▸ pe_fld he hb
theorem lc2_range {lo : Int} {n : Nat} {g g1 : TG} {tt tt1 : TT} {wi1 : TI} {te : TE} {vs vs1 : List Nat} {σ : L2.St} {H1 : Hp} {D : Addr} {Qd : Hp → Prop} (Pv : Nat → Hp → Prop) (h0 : Pv 0 (upd H1 D (.lst [])))
    (hs : ∀ i H, i < n → Pv i H → g (.int (lo + i)) (wipe σ vs) H fun σ2 H2 => wipe σ2 vs = wipe σ vs ∧ tt σ2 H2 fun b H3 =>
      if b = true then wi1 σ2 H3 fun J1 H4 => ∃ W1 : Nat → Nat → Hp → Prop, (∃ m, W1 0 m H4) ∧ ∀ j k H, W1 j k H →
        (J1.stop j H ∧ Pv (i + 1) H) ∨ (J1.go j H ∧ ∃ Nx1 : Hp → Prop, (∀ H', Nx1 H' → ∃ k', k' < k ∧ W1 (j + 1) k' H') ∧ ∀ x H', J1.yld j H x H' → g1 x (wipe σ2 vs1) H' fun σ3 H5 => wipe σ3 vs1 = wipe σ2 vs1 ∧ tt1 σ3 H5 fun b H6 =>
          if b = true then te σ3 H6 fun y H7 => ∃ acc, H7 D = some (.lst acc) ∧ acc.length < sizeLine ∧ Nx1 (upd H7 D (.lst (acc ++ [y]))) else Nx1 H6)
      else Pv (i + 1) H3) (hd : ∀ H, Pv n H → Qd H) :
    ∃ W : Nat → Nat → Hp → Prop, (∃ m, W 0 m (upd H1 D (.lst []))) ∧ ∀ i m H, W i m H →
      ((Itr lo n).stop i H ∧ Qd H) ∨ ((Itr lo n).go i H ∧ ∃ Nx : Hp → Prop, (∀ H', Nx H' → ∃ m', m' < m ∧ W (i + 1) m' H') ∧ ∀ x H', (Itr lo n).yld i H x H' → g x (wipe σ vs) H' fun σ2 H2 => wipe σ2 vs = wipe σ vs ∧ tt σ2 H2 fun b H3 =>
        if b = true then wi1 σ2 H3 fun J1 H4 => ∃ W1 : Nat → Nat → Hp → Prop, (∃ m, W1 0 m H4) ∧ ∀ j k H, W1 j k H →
          (J1.stop j H ∧ Nx H) ∨ (J1.go j H ∧ ∃ Nx1 : Hp → Prop, (∀ H', Nx1 H' → ∃ k', k' < k ∧ W1 (j + 1) k' H') ∧ ∀ x H', J1.yld j H x H' → g1 x (wipe σ2 vs1) H' fun σ3 H5 => wipe σ3 vs1 = wipe σ2 vs1 ∧ tt1 σ3 H5 fun b H6 =>
            if b = true then te σ3 H6 fun y H7 => ∃ acc, H7 D = some (.lst acc) ∧ acc.length < sizeLine ∧ Nx1 (upd H7 D (.lst (acc ++ [y]))) else Nx1 H6)
        else Nx H3) := by
  refine ⟨fun i m H => m = n - i ∧ i ≤ n ∧ Pv i H, ⟨n, by simp, Nat.zero_le _, h0⟩, ?_⟩
  rintro i m H ⟨rfl, hi, p⟩
  by_cases hlt : i < n
  · refine .inr ⟨hlt, Pv (i + 1), fun H' p' => ⟨n - (i + 1), by omega, rfl, hlt, p'⟩, fun x H' y => ?_⟩
    obtain ⟨e, y⟩ := y
    subst e y
    exact hs i _ hlt p
  · have e : i = n := by omega
    subst e
    exact .inl ⟨Nat.le_refl _, hd H p⟩
theorem in_it {J : It} {n : Nat} {G : Hp → Prop} {Y : Nat → Hp → V → Hp → Prop} (w : Walk J n G Y) {g : TG} {tt : TT} {te : TE} {vs : List Nat} {σ : L2.St} {H4 : Hp} {D : Addr} {Qd : Hp → Prop} (Pv : Nat → Hp → Prop) (h0 : Pv 0 H4) (hG : ∀ i H, i ≤ n → Pv i H → G H)
    (hs : ∀ i x H H', i < n → Pv i H → Y i H x H' → g x (wipe σ vs) H' fun σ2 H2 => wipe σ2 vs = wipe σ vs ∧ tt σ2 H2 fun b H3 =>
      if b = true then te σ2 H3 fun y H4 => ∃ acc, H4 D = some (.lst acc) ∧ acc.length < sizeLine ∧ Pv (i + 1) (upd H4 D (.lst (acc ++ [y]))) else Pv (i + 1) H3) (hd : ∀ H, Pv n H → Qd H) :
    ∃ W : Nat → Nat → Hp → Prop, (∃ m, W 0 m H4) ∧ ∀ i m H, W i m H →
      (J.stop i H ∧ Qd H) ∨ (J.go i H ∧ ∃ Nx : Hp → Prop, (∀ H', Nx H' → ∃ m', m' < m ∧ W (i + 1) m' H') ∧ ∀ x H', J.yld i H x H' → g x (wipe σ vs) H' fun σ2 H2 => wipe σ2 vs = wipe σ vs ∧ tt σ2 H2 fun b H3 =>
        if b = true then te σ2 H3 fun y H4 => ∃ acc, H4 D = some (.lst acc) ∧ acc.length < sizeLine ∧ Nx (upd H4 D (.lst (acc ++ [y]))) else Nx H3) := by
  refine ⟨fun i m H => m = n - i ∧ i ≤ n ∧ Pv i H, ⟨n, by simp, Nat.zero_le _, h0⟩, ?_⟩
  rintro i m H ⟨rfl, hi, p⟩
  have q := hG i H hi p
  by_cases hlt : i < n
  · exact .inr ⟨w.goes i H hlt q, Pv (i + 1), fun H' p' => ⟨n - (i + 1), by omega, rfl, hlt, p'⟩, fun x H' y => hs i x H H' hlt p (w.yields i H x H' hlt q y)⟩
  · have e : i = n := by omega
    subst e
    exact .inl ⟨w.stops H q, hd H p⟩
end NF
set_option Elab.async false
set_option linter.all false
/-! Rules within a comprehension: what is read is told by the class's K, not by the block's. -/
namespace NF
open PySem PySem.Spec PyProof.Rows L2 He RZ
theorem call_lenK {X : Cx} {K : PySem.W.Frag} (h : X.K = K := by rfl) : CallR X (.builtin "len") (fun xs H Q => ∃ p ys, xs = [.ref p] ∧ (SqL K H p ys ∨ SqT K H p ys) ∧ Q (.int ys.length) H) := h ▸ call_len_seq
theorem pt_truthK {X : Cx} {K : PySem.W.Frag} {a : Expr} {ta : TE} (ha : PE X a ta) (he : ∀ whole, isTrue a X.env whole = (do let v ← whole; standAt a.pos; holding [v] (truthy v))) (h : X.K = K := by rfl) :
    PT X a (fun σ H Q => ta σ H fun x H' => ∃ k, TruV K x H' k ∧ Q k H') := h ▸ pt_truth ha he
end NF
set_option Elab.async false
set_option linter.all false
set_option maxRecDepth 100000
set_option maxHeartbeats 4000000
/-! o.m(x) of a built-in type within a comprehension. -/
namespace NF
open PySem PySem.Spec PyProof.Rows L2 He
theorem pe_bmK {X : Cx} {K : PySem.W.Frag} {T id : String} {name : Str} {r : V → List V → Hp → VK → Prop} {o e : Expr} {es : List Expr} {to : TE} {t : TA} {apos cpos : Pos} (pa : PlainAttrs T) (slot : Slot T name id) (hty : typeOf (.builtin id) = pure (.type "method_descriptor")) (hm : MtR X id r) (ho : PE X o to) (ha : PA X (e :: es) t) (hK : X.K = K := by rfl)
    (hbase : attributeBase o name X.env (eval o X.env) = eval o X.env := by rfl)
    (hfew : ((backTo cpos (starEach (e :: es) X.env)).all (fun x => !x.1) && (backToKw cpos (keywordEach [] X.env)).all (fun x => x.1.isSome)
      && decide ((e :: es).length + ([] : List Keyword).length + (if ([] : List Keyword).isEmpty then 0 else 1) < 30)) = true := by rfl)
    (hline : (apos.endLine == cpos.line) = true := by rfl) (hs : starEach (e :: es) X.env = (false, eval e X.env) :: starEach es X.env := by rfl) (hplain : (backTo cpos (starEach es X.env)).any (·.1) = false := by rfl) :
    PE X (.Call (.Attribute o name apos) (e :: es) [] cpos) (tBM K T r to t) := hK ▸ pe_bm pa slot hty hm ho ha hbase hfew hline hs hplain
end NF
set_option Elab.async false
set_option linter.all false
set_option maxRecDepth 100000
set_option maxHeartbeats 4000000
/-! Texts of pieces. -/
namespace K13
open PySem PySem.Spec PyProof.Rows L2 He NF RZ TT
def mnS : List Str := ["f", " * ", " & ", " | ", " under ", " over ", "~", "(", ")", "+1", "-0", "g2", " <= ", "-3", "f1a", "z"]
theorem mn_vals : ([.str "f", .str " * ", .str " & ", .str " | ", .str " under ", .str " over ", .str "~", .str "(", .str ")", .str "+1", .str "-0", .str "g2", .str " <= ", .str "-3", .str "f1a", .str "z"] : List V) = mnS.map V.str := rfl
theorem mn_len {s : Str} (h : s ∈ mnS) : s.length ≤ 7 := by
  have : ∀ s ∈ mnS, s.length ≤ 7 := by decide +kernel
  exact this s h
theorem joinL_len : ∀ {l : List (List Nat)}, (∀ x ∈ l, x.length ≤ 7) → (TL.joinL [] l).length ≤ 7 * l.length
  | [], _ => Nat.zero_le _
  | [p], h => h p (List.mem_singleton.mpr rfl)
  | p :: q :: r, h => by
    have ih := joinL_len (l := q :: r) fun x hx => h x (List.mem_cons_of_mem _ hx)
    have hp := h p (List.mem_cons_self ..)
    show (p ++ ([] ++ TL.joinL [] (q :: r))).length ≤ _
    rw [List.nil_append, List.length_append, List.length_cons]
    omega
def spPcs (K : PySem.W.Frag) : Sp := fun vs H Q _ => ∃ (H0 : Hp) (p : Addr), vs = [.ref p] ∧ Same H0 H ∧ H0 p = none ∧ Src H p ∧ ∀ t' H', t'.length ≤ 80 → Same H0 H' → Src H' p → Q (.str (tx t')) H'
theorem sc__law_pieces : FnScope ["_law_source_here", "_law_menu", "_law_k"] ["_law_source_here"] (defScope s__law_pieces) := ⟨rfl, rfl, rfl, by decide +kernel, rfl, by decide +kernel, by decide +kernel⟩
section
variable {P : Program} {w : World} {K : PySem.W.Frag} {mg : Str → Option Value} {base : Heap} {gs fs : List Str} {C : Addr} {tok : Tok}
theorem ok__law_pieces {f : Addr} {fd : FuncData} (F : FunD K "_law_pieces" "_law_pieces" (defArgs s__law_pieces) (defBody s__law_pieces) (defScope s__law_pieces) [] [] f fd) (T : Txt K mg gs FS) (c__law_pick : Cal P w K mg base 1 "_law_pick" spPick) : FnOk P w K mg base CX0 2 f fd ["_law_source_here"] (spPcs K) := by
  refine F.ok sc__law_pieces (fun vs H Q E h => ?_) (fun cdv A outer s H vs Q E hr h => ?_)
  · obtain ⟨H0, p, rfl, _⟩ := h
    rfl
  · obtain ⟨H0, p, rfl, s0, hp0, hsrc, q⟩ := h
    refine ⟨_, PSs.nox (pss_cons (ps_set (i := 1) sc__law_pieces.nd rfl (Or.inr rfl) (pe_lst (pa_cons pe_str (pa_cons pe_str (pa_cons pe_str (pa_cons pe_str (pa_cons pe_str (pa_cons pe_str (pa_cons pe_str (pa_cons pe_str (pa_cons pe_str (pa_cons pe_str (pa_cons pe_str (pa_cons pe_str (pa_cons pe_str (pa_cons pe_str (pa_cons pe_str (pa_cons pe_str pa_nil)))))))))))))))))) (pss_one (ps_ret (pe_join pe_str (pe_lc (own := [("_law_k", 2)]) rfl sc__law_pieces.nd (pi_range1 rfl (T.fr _ (by decide +kernel)) (pa_cons (pe_c c__law_pick hr (by decide) rfl (pa_cons (pv 0) (pa_cons pe_int pa_nil))) pa_nil)) (blkOk_by (N := ["_law_source_here", "_law_menu", "_law_k"]) (sc := defScope s__law_pieces) (by decide +kernel)) (fun _ _ _ _ _ => by exact (pg_name (i := 2) sc__law_pieces.nd rfl (Or.inl rfl))) (fun _ _ _ _ _ => by exact pts_nil) (fun _ _ _ _ _ => by exact (pe_ix (ixl (K := K)) (pv 1) (pe_c c__law_pick hr (by decide) rfl (pa_cons (pv 0) (pa_cons (pe_callB (call_lenK (K := K)) rfl (T.fr _ (by decide +kernel)) boot_len (pa_cons (pv 1) pa_nil)) pa_nil))) fun _ _ => rfl))))))), ?_⟩
    refine ⟨(by show 16 ≤ sizeLine; decide), fun m hm => ?_⟩
    rw [mn_vals]
    have mp := src_ne hsrc hm
    have mH := L2.Same.free s0 hm
    have s1 := NF.Same.new (o := .lst (mnS.map V.str)) s0 hm
    have src1 := src_put (o := .lst (mnS.map V.str)) hsrc mp
    have hm1 := upd_same (H := H) (a := m) (o := .lst (mnS.map V.str))
    generalize upd H m (.lst (mnS.map V.str)) = H1 at s1 src1 hm1
    refine ⟨⟨_, rfl⟩, _, rfl, wo H1 p, p, 12, rfl, wo_same', wo_none, src1, by decide, by decide, fun d H2 d0 d1 s2 src2 => ?_⟩
    have hm2 : H2 m = _ := s2 m _ ((wo_ne mp).trans hm1)
    have s02 := Same.trans (same_wo s1 hp0) s2
    obtain ⟨d, rfl⟩ := Int.eq_ofNat_of_zero_le d0
    refine ⟨_, rfl, by omega, by omega, fun D hD => ?_⟩
    have DneP := src_ne src2 hD
    have Dm : D ≠ m := fun e => by rw [e, hm2] at hD; cases hD
    have DH := L2.Same.free s02 hD
    refine lc_range (lo := 0) (n := d) (fun i G => Same H0 G ∧ Src G p ∧ G m = some (.lst (mnS.map V.str)) ∧ ∃ acc : List Str, G D = some (.lst (acc.map V.str)) ∧ acc.length = i ∧ ∀ s ∈ acc, s.length ≤ 7) ⟨NF.Same.new s02 hD, src_put src2 DneP, (upd_ne (Ne.symm Dm)).trans hm2, [], upd_same, rfl, fun s hs => nomatch hs⟩ ?_ ?_
    · rintro i G hi ⟨sG, srcG, hGm, acc, hGD, ha1, haok⟩
      refine ⟨rfl, _, rfl, _, rfl, _, rfl, m, _, rfl, .inl (SqL.of hGm), wo G p, p, 16, rfl, wo_same', wo_none, srcG, by decide, by decide, fun g G2 g0 g1 s4 src4 => ?_⟩
      obtain ⟨j, rfl⟩ := Int.eq_ofNat_of_zero_le g0
      have hGm2 : G2 m = _ := s4 m _ ((wo_ne mp).trans hGm)
      have hGD2 : G2 D = _ := s4 D _ ((wo_ne DneP).trans hGD)
      have s04 := Same.trans (same_wo sG hp0) s4
      have hj : j < mnS.length := by show j < 16; omega
      refine ⟨m, _, _, .str mnS[j], rfl, rfl, SqL.of hGm2, atI_nat (by rw [List.getElem?_map, List.getElem?_eq_getElem hj]; rfl), ?_⟩
      refine ⟨_, hGD2, ?_, NF.Same.mut s04 DH, src_put src4 DneP, (upd_ne (Ne.symm Dm)).trans hGm2, acc ++ [mnS[j]], ?_, ?_, ?_⟩
      · rw [List.length_map, ha1]
        exact Nat.lt_of_lt_of_le (show i < 12 by omega) (by decide)
      · rw [upd_same, List.map_append]
        rfl
      · rw [List.length_append, List.length_singleton, ha1]
      · intro s hs
        rcases List.mem_append.mp hs with h | h
        · exact haok s h
        · rw [List.mem_singleton.mp h]
          exact mn_len (List.getElem_mem hj)
    · rintro G ⟨sG, srcG, hGm, acc, hGD, ha1, haok⟩
      have hsum : ∀ l : List Str, (∀ s ∈ l, s.length ≤ 7) → (l.map (·.length)).sum ≤ 7 * l.length := by
        intro l
        induction l with
        | nil => exact fun _ => Nat.zero_le _
        | cons a l ih =>
          intro h
          have h1 := h a (List.mem_cons_self ..)
          have h2 := ih fun s hs => h s (List.mem_cons_of_mem _ hs)
          rw [List.map_cons, List.sum_cons, List.length_cons]
          omega
      have hs1 := hsum acc haok
      refine ⟨"", D, acc, rfl, rfl, .inl (SqL.of hGD), ?_, ?_⟩
      · rw [show ("" : Str).length = 0 from rfl, Nat.mul_zero, Nat.add_zero]
        exact Nat.le_trans hs1 (show 7 * acc.length ≤ 16777216 by omega)
      · have e : Txt.join "" acc = tx (TL.tl (Txt.join "" acc)) := tx_of _
        rw [e]
        refine q _ G ?_ sG srcG
        have e2 : TL.tl (Txt.join "" acc) = TL.joinL [] (acc.map TL.tl) := by rw [TL.join_eq]; exact TL.tl_join "" acc
        rw [e2]
        have := joinL_len (l := acc.map TL.tl) fun x hx => by
          obtain ⟨s, hs, rfl⟩ := List.mem_map.mp hx
          rw [← TL.len_tl]
          exact haok s hs
        rw [List.length_map] at this
        omega
end
end K13
set_option Elab.async false
set_option linter.all false
set_option maxRecDepth 100000
set_option maxHeartbeats 4000000
/-! try with several clauses 'except C as n', asked one behind the other. -/
namespace NF
open PySem PySem.Spec PyProof.Rows L2 He RZ
/-- a clause: its class, the slot of its name, its suite -/
abbrev Cls3 := Value × Nat × (Addr → Value → Option Addr → TS)
/-- what the clauses wish of an exception, one behind the other -/
def wAsM (K : PySem.W.Frag) (Wo : WX) (Z : Ends) : List Cls3 → WX
  | [] => Wo
  | (c, i, ts) :: r => wAs K c i ts (wAsM K Wo Z r) Z
inductive ClsOk (Y : Cx) : List ExceptHandler → List Cls3 → Prop
  | nil : ClsOk Y [] []
  | cons {x n : Str} {i : Nat} {c : Value} {ts : Addr → Value → Option Addr → TS} {b : Stmt} {su : List Stmt} {p q : Pos} {hs : List ExceptHandler} {l : List Cls3} (hi : Y.N[i]? = some n) (hl : Y.env.kindOf n = some .local) (hc : Names Y x c)
      (su_ok : ∀ (a : Addr) (oe : Obj) (cls : Value) (d : Option Addr) (pn : List (Addr × Obj)), Zc cls d oe → (∃ vs, oe.data = .fields vs) → PSs (Y.suite a ((a, oe) :: pn)) (b :: su) (ts a cls d)) (r : ClsOk Y hs l) :
      ClsOk Y (.ExceptHandler (some (.Name x p)) (some n) (b :: su) q :: hs) ((c, i, ts) :: l)
section
variable {Y : Cx} {bd : List Stmt} {h0 : ExceptHandler} {hs : List ExceptHandler} {l : List Cls3} {ps : Pos} {tb : WX → TS} {Wo : WX}
theorem ps_try_asM (e1 : Y.stack = Y.env :: Y.outer) (e2 : Y.env.frame = some Y.env.locals) (nd : Y.N.Nodup) (tk : Takes Y Wo)
    (hb : ∀ (W : WX) (pn : List (Addr × Obj)) (xe : Value → Shared → Prop), Takes (Y.tr pn xe) W → PassesOwn (model Y.prog Y.w) Y.A Y.env xe → PSs (Y.tr pn xe) bd (tb W))
    (hh : ClsOk Y (h0 :: hs) l) : PS Y (.Try bd (h0 :: hs) [] [] ps) (fun Z τ G => tb (wAsM Y.K Wo Z l) Z τ G) := by
  refine ⟨fun pins s τ G Z I want => ?_⟩
  have okY := I.ok
  have frY : Y.A.frames = some (Y.env :: Y.outer) := by rw [okY.frames, e1]
  refine wpAny_Try_except ?_
  refine wpAny_mono ((hb (wAsM Y.K Wo Z l) (Y.pn ++ pins) (fun e z₁ => wpAny (model Y.prog Y.w) Y.A (noteFrame e Y.env) (fun _ z₂ => wpAny (model Y.prog Y.w) Y.A (setFlight e none) (fun _ z₃ =>
    wpAny (model Y.prog Y.w) Y.A (handleBy e Y.env (h0 :: hs)) (SP Y pins Z) Y.xe z₃) Y.xe z₂) Y.xe z₁) (fun u s' xx => ?_) PassesOwn.looking).run [] s τ G Z (I.toTry _) want) (fun fl z1 got => ?_) (fun e z1 he => he)
  · -- an exception came out of the body
    obtain ⟨a, B, sI, pi2, τ2, G2, cls, d, rfl, J0, nb, up, sky, nG, os, ag, w⟩ := xx
    have J : Inv Y pins τ2 G2 sI := J0.ofTry okY
    have sky2 : Sky B (Y.env :: Y.outer) a (Zc cls d) Y.env.locals s'.heap := by rw [← e1]; exact sky
    show wpAny (model Y.prog Y.w) Y.A (noteFrame (.ref a) Y.env) _ _ _
    refine Sky.land Zc.steady frY e2 sky2 fun hp3 fl3 up3 => ?_
    have J3 : Inv Y pins τ2 G2 { s' with heap := hp3 } := J.landed nb fl3.1 (up.trans up3) os ag
    obtain ⟨oe3, vs3, at3, zc3, dat3⟩ := fl3.there
    have noFr : ∀ {hp : Heap} {o : Obj} {vs : Array Value}, hp.FunFrames B (Y.env :: Y.outer) → hp.get? a = some o → o.data = .fields vs → a ∉ frs (Y.env :: Y.outer) := fun {hp o vs} ff e dd hm => by
      obtain ⟨_, o2, e', hnf⟩ := ff.mem hm
      rw [e] at e'
      cases e'
      exact hnf _ dd
    have nfr := noFr fl3.2.2.1 at3 dat3
    have nL : a ≠ Y.env.locals := fun z => nfr (List.mem_filterMap.mpr ⟨Y.env, List.mem_cons_self, by rw [e2, z]⟩)
    have nF : a ∉ Y.fs := fun hm => by
      obtain ⟨e, he, q⟩ := List.mem_filterMap.mp hm
      exact nfr (List.mem_filterMap.mpr ⟨e, List.mem_cons_of_mem _ he, q⟩)
    have S3 := J3.suite at3 dat3 nG nL nF
    have go : ∀ {hs2 : List ExceptHandler} {l2 : List Cls3}, ClsOk Y hs2 l2 → wAsM Y.K Wo Z l2 cls d τ2 G2 → wpAny (model Y.prog Y.w) Y.A (handleBy (.ref a) Y.env hs2) (SP Y pins Z) Y.xe { s' with heap := hp3 } := by
      intro hs2 l2 hk
      induction hk with
      | nil =>
        intro w
        refine wpAny_handleBy_nil ?_
        obtain ⟨k1, k2, k3, oe, vs, T, oT, ts2, he, hz, hd, h1, hr⟩ := id fl3
        unfold PySem.passOn
        refine wpAny_bind (wpAny_field he hd h1 ?_)
        rw [if_neg (show ¬ ((Value.ref T == Value.none) = true) by simp)]
        have fin : wpAny (model Y.prog Y.w) Y.A (setFlight (.ref a) Y.env.frame) (fun _ z4 => wpAny (model Y.prog Y.w) Y.A (throw (.ref a) : Sem Flow) (SP Y pins Z) Y.xe z4) Y.xe { s' with heap := hp3 } := by
          rw [e2]
          refine HandSPX.setFlight_upZ fl3 fun hp4 at4 up4 => wpAny_throw (tk _ _ ?_)
          exact ⟨a, B, sI, pins, τ2, G2, cls, d, rfl, J, nb, (up.trans up3).trans up4, .inr (.inr (by rw [e1]; exact at4)), nG, os, ag, w⟩
        first
          | exact wpAny_bind (wpAny_pure (wpAny_bind fin))
          | exact wpAny_bind fin
      | @cons x n i c ts b su p q hs3 l3 hi hl hc su_ok r ih =>
        intro w
        obtain ⟨v, hv, yes, no⟩ := w
        refine wpAny_handleBy_cons (codeAny_handlers_test ?_) (by intro q; cases q)
        have LT : PySem.W.Looks (model Y.prog Y.w) hp3 (typeOf (.ref a)) cls := fun A Q E s k q => wpAny_typeOf_ref (k _ _ at3) (by rw [zc3.1]; exact q)
        have LM := PySem.W.exm_one (M := model Y.prog Y.w) (J3.kIn) LT hv
        have asks : ∀ {Q : Value → Shared → Prop} {E : Value → Shared → Prop}, Q c { s' with heap := hp3 } → wpAny (model Y.prog Y.w) (Y.A.mark (some (.ref a))) (eval (.Name x p) Y.env) Q E { s' with heap := hp3 } := fun {Q E} q => by
          obtain ⟨hg, hdb, hm | ⟨hm, hb, hnn⟩⟩ := hc
          · exact ld_glob (X := Y.suite a ((a, oe3) :: (Y.pn ++ pins))) S3 hg hm q hdb
          · exact ld_blt (X := Y.suite a ((a, oe3) :: (Y.pn ++ pins))) S3 hg hm hb q hnn hdb
        refine asks (LM.here ?_)
        cases v with
        | true =>
          refine codeAny_handlers_suite_as ?_
          refine HandSPX.lands_againZ fl3 fun hp4 fl4 up4 => ?_
          have J4 : Inv Y pins τ2 G2 { s' with heap := hp4 } := J.landed nb fl4.1 ((up.trans up3).trans up4) os ag
          obtain ⟨oe4, vs4, at4, zc4, dat4⟩ := fl4.there
          have S4 := J4.suite at4 dat4 nG nL nF
          refine store_ok (X := Y.suite a ((a, oe4) :: (Y.pn ++ pins))) (v := .ref a) S4 nd hi (.inl hl) rfl (fun z5 S5 => ?_) (.inr hl)
          refine wpAny_mono ((su_ok a oe4 cls d (Y.pn ++ pins) zc4 ⟨_, dat4⟩).run [] z5 _ G2 _ S5 (yes rfl a nG)) (fun fl z6 got => ?_) (fun _ _ z => False.elim z)
          have ends : ∀ {τ6 : L2.St} {G6 : Hp} {Q : Shared → Prop}, Inv (Y.suite a ((a, oe4) :: (Y.pn ++ pins))) [] τ6 G6 z6 → (∀ z7, Inv Y pins (τ6.set i none) G6 z7 → Q z7) →
              wpAny (model Y.prog Y.w) Y.A (do bindName Y.env n .none; unbindBehindTheSuite Y.env n q) (fun _ z7 => Q z7) Y.xe z6 := fun {τ6 G6 Q} S6 hq => gone_ok (S6.unsuite okY) nd hi hl hq
          cases fl with
          | next =>
            obtain ⟨τ6, G6, S6, q6⟩ := got
            exact ends S6 fun z7 J7 => ⟨_, _, J7, q6⟩
          | brk =>
            obtain ⟨τ6, G6, S6, q6⟩ := got
            exact ends S6 fun z7 J7 => ⟨_, _, J7, q6⟩
          | cont =>
            obtain ⟨τ6, G6, S6, q6⟩ := got
            exact ends S6 fun z7 J7 => ⟨_, _, J7, q6⟩
          | ret u =>
            obtain ⟨v6, τ6, G6, S6, r6, q6⟩ := got
            exact ends S6 fun z7 J7 => ⟨_, _, _, J7, r6, q6⟩
        | false =>
          show wpAny _ Y.A (handleBy (.ref a) Y.env hs3) _ _ _
          exact ih (no rfl)
    exact go hh w
  · cases fl with
    | next =>
      obtain ⟨τ2, G2, J2, q⟩ := got
      exact wpAny_execs_nil ⟨τ2, G2, J2.ofTry okY, q⟩
    | brk =>
      obtain ⟨τ2, G2, J2, q⟩ := got
      exact ⟨τ2, G2, J2.ofTry okY, q⟩
    | cont =>
      obtain ⟨τ2, G2, J2, q⟩ := got
      exact ⟨τ2, G2, J2.ofTry okY, q⟩
    | ret u =>
      obtain ⟨v, τ2, G2, J2, r, q⟩ := got
      exact ⟨v, τ2, G2, J2.ofTry okY, r, q⟩
end
end NF
set_option Elab.async false
set_option linter.all false
set_option maxRecDepth 100000
set_option maxHeartbeats 4000000
namespace NF
open PySem PySem.Spec PyProof.Rows L2 He RZ
/-- isinstance of the caught exception, which has a dict -/
def rIsX (K : PySem.W.Frag) (a : Addr) (cls : Value) (d : Option Addr) : List V → Hp → VK → Prop := fun xs H Q => ∃ (C dd : Addr) (fs : List (Str × V)) (c : V) (u : Value) (b : Bool), cls = .ref C ∧ d = some dd ∧ H dd = some (.xd fs) ∧ xs = [.ref a, c] ∧ ClsV c u ∧ ExcC K C ∧ PySem.W.kitOne K (.ref C) u = some b ∧ Q (.bl b) H
theorem call_isX {X : Cx} {a : Addr} {oe : Obj} {cls : Value} {d : Option Addr} {pn : List (Addr × Obj)} (hz : Zc cls d oe) (hf : ∃ vs, oe.data = .fields vs) : CallR (X.suite a ((a, oe) :: pn)) (.builtin "isinstance") (rIsX X.K a cls d) := by
  intro pins s σ H xs us Q I r h
  obtain ⟨C, dd, fs, c, u, b, rfl, rfl, ea, rfl, k, T, hk, q⟩ := h
  obtain ⟨u1, u2, rfl, r1, r2⟩ := vals2 r
  have e2 := k.eq r2
  subst e2
  cases (show u1 = Value.ref a from r1)
  have there := (I.pin (a, oe) (List.mem_append_left _ List.mem_cons_self)).1
  obtain ⟨fv, hfv⟩ := hf
  obtain ⟨mA, hns, _⟩ := (show ObjOk X.prog X.w H s.heap dd (.xd fs) from I.hok dd _ ea)
  obtain ⟨od, ho, _⟩ := lookIn_ns hns
  have J : PySem.W.InstAt s.heap a oe C (some od) := ⟨there, hz.1, by unfold PySem.W.notCls; rw [hfv] <;> rfl, by rw [hz.2]; exact ho⟩
  have hcl : (PySem.W.clsIn X.K C).isSome = true := by
    obtain ⟨cd, hc, _⟩ := PySem.W.any_some T.hd
    rw [hc] <;> rfl
  exact PySem.W.kia_one (PySem.W.kitx_exc (ox := oe) (od := some od) hcl T.hg T.hk T.hs T.ha T.hn T.ht T.hm) I.kIn J hk (fun z => nomatch z) fun tk => ⟨.bl b, H, I.tok tk, rfl, q⟩
end NF
set_option Elab.async false
set_option linter.all false
set_option maxRecDepth 100000
set_option maxHeartbeats 4000000
/-! What the law sees. -/
namespace K13
open PySem PySem.Spec PyProof.Rows L2 He NF RZ TT
def big (b : Bool) (ps : List TT.Tx) : Prop := if b then (60 < (fstB ps).countP notBr ∨ 60 < (sndB ps).countP notBr) else 60 < ps.countP notBr
def seenQ (K : PySem.W.Frag) (H : Hp) (Q : VK) (b : Bool) : Nat ⊕ List TT.Tx → Prop
  | .inl i => ∀ q H', Same H H' → SqT K H' q [.str "refused", .int (i : Int)] → Q (.ref q) H'
  | .inr ps => (big b ps → ∀ q H', Same H H' → SqT K H' q [.str "many", .str "part"] → Q (.ref q) H') ∧ (¬ big b ps → ∀ q xs H', Same H H' → H' q = some (.lst xs) → DpAll K H' xs ((trmsB b ps).map (tmP false)) → Q (.ref q) H')
def spSeen (K : PySem.W.Frag) : Sp := fun vs H Q _ => ∃ v b, vs = [v, .bl b] ∧ ((∃ t, v = .str (tx t) ∧ t.length ≤ 900 ∧ seenQ K H Q b (scanG (scN t) true t 0 [] [false] (!b))) ∨ (∃ d, Dp K H v d ∧ (∀ s, d ≠ .str s) ∧ ∀ q H', Same H H' → SqT K H' q [.str "refused", .int (-1)] → Q (.ref q) H'))
theorem sc__law_seen : FnScope ["_law_text", "_law_both", "error"] ["_law_text", "_law_both"] (defScope s__law_seen) := ⟨rfl, rfl, rfl, by decide +kernel, rfl, by decide +kernel, by decide +kernel⟩
section
variable {P : Program} {w : World} {K : PySem.W.Frag} {mg : Str → Option Value} {base : Heap} {gs fs : List Str} {C : Addr} {tok : Tok}
theorem ok__law_seen {f : Addr} {fd : FuncData} (F : FunD K "_law_seen" "_law_seen" (defArgs s__law_seen) (defBody s__law_seen) (defScope s__law_seen) [] [] f fd) (T : Txt K mg gs FS) (hgs : ("Unreadable" : Str) ∈ gs ∧ ("BadTerm" : Str) ∈ gs) (m_BadText : ExcI P w K mg base "BadText" "place") (xf_BadText : XfC K (ga K "BadText")) (no_BadText : PySem.W.findIn K (.ref (ga K "BadText")) "place" = some none) (m_TooMany : ExcI P w K mg base "TooMany" "word") (xf_TooMany : XfC K (ga K "TooMany")) (no_TooMany : PySem.W.findIn K (.ref (ga K "TooMany")) "word" = some none) (e00 : PySem.W.exmOne K (.ref (ga K "BadText")) (.ref (ga K "BadText")) = some true) (e10 : PySem.W.exmOne K (.ref (ga K "TooMany")) (.ref (ga K "BadText")) = some false) (e11 : PySem.W.exmOne K (.ref (ga K "TooMany")) (.ref (ga K "TooMany")) = some true) (xc : ExcC K (ga K "BadText")) (kU : PySem.W.kitOne K (.ref (ga K "BadText")) (.ref (ga K "Unreadable")) = some true) (kB : PySem.W.kitOne K (.ref (ga K "BadText")) (.ref (ga K "BadTerm")) = some false) (c_read_term : CalX P w K mg base 7 "read_term" (spReadT K)) (c_read_saying : CalX P w K mg base 7 "read_saying" (spReadS K)) : FnOk P w K mg base CX0 8 f fd ["_law_text", "_law_both"] (spSeen K) := by
  refine F.ok sc__law_seen (fun vs H Q E h => ?_) (fun cdv A outer s H vs Q E hr h => ?_)
  · obtain ⟨v, b, rfl, _⟩ := h
    rfl
  · obtain ⟨v, b, rfl, q⟩ := h
    refine ⟨_, PSs.nox (pss_one (ps_try_asM rfl rfl sc__law_seen.nd takes0 (fun W pn xe tk _ => (pss_one (ps_ret (pe_ifExp (pt_val (pv 1)) (pe_callTy (call_list_ofK (K := K)) rfl (T.fr _ (by decide +kernel)) (by decide +kernel) (pa_cons (pe_cX tk c_read_saying hr (by decide) rfl (pa_cons (pv 0) pa_nil)) pa_nil)) (pe_lst (pa_cons (pe_cX tk c_read_term hr (by decide) rfl (pa_cons (pv 0) pa_nil)) pa_nil)))))) (ClsOk.cons (i := 2) rfl rfl ⟨rfl, by decide, .inl m_BadText.gm⟩ (fun a oe cls d pn hz hf => (pss_cons (ps_if (PW.pt (pw_or (pt_not (pt_val (pe_callB (call_isX hz hf) rfl (T.fr _ (by decide +kernel)) (by decide +kernel) (pa_cons (pv 2) (pa_cons (pe_gl (T.gl _ hgs.1)) pa_nil))))) (pw_or1 (pt_val (pe_callB (call_isX hz hf) rfl (T.fr _ (by decide +kernel)) (by decide +kernel) (pa_cons (pv 2) (pa_cons (pe_gl (T.gl _ hgs.2)) pa_nil))))))) (pss_one (ps_ret (pe_tup (pa_cons pe_str (pa_cons pe_non pa_nil))))) pss_nil) (pss_one (ps_ret (pe_tup (pa_cons pe_str (pa_cons (pe_xf xf_BadText no_BadText hz hf (pv 2)) pa_nil))))))) (ClsOk.cons (i := 2) rfl rfl ⟨rfl, by decide, .inl m_TooMany.gm⟩ (fun a oe cls d pn hz hf => (pss_one (ps_ret (pe_tup (pa_cons pe_str (pa_cons (pe_xf xf_TooMany no_TooMany hz hf (pv 2)) pa_nil)))))) .nil)))), ?_⟩
    refine ⟨_, rfl, b, rfl, ?_⟩
    cases b with
    | true =>
      refine iteT ?_
      refine ⟨_, rfl, v, rfl, ?_⟩
      rcases q with ⟨t, rfl, tl, q⟩ | ⟨d, hd, hns, q⟩
      rotate_left
      · refine .inr ⟨d, hd, hns, ?_⟩
        intro d2 G s2 hd2 hx
        refine ⟨true, e00, fun _ a ha => ?_, fun z => Bool.noConfusion z⟩
        refine ⟨_, rfl, _, d2, _, _, _, true, rfl, rfl, hx, rfl, .own _, xc, kU, true, rfl, iteF ?_⟩
        refine ⟨_, rfl, _, d2, _, _, _, false, rfl, rfl, hx, rfl, .own _, xc, kB, false, rfl, iteF ?_⟩
        exact ⟨_, rfl, rfl, rfl, d2, _, _, rfl, hx, rfl, (by show 2 ≤ sizeLine; decide), fun p hp => q p _ (Same.trans s2 (NF.Same.new (Same.refl _) hp)) (SqT.of upd_same)⟩
      refine .inl ⟨t, rfl, by omega, ?_⟩
      revert q
      show seenQ K H Q true (scanG (scN t) true t 0 [] [false] false) → _
      cases scanG (scN t) true t 0 [] [false] false with
      | inl i =>
        intro q
        intro d2 G s2 hd2 hx
        refine ⟨true, e00, fun _ a ha => ?_, fun z => Bool.noConfusion z⟩
        refine ⟨_, rfl, _, d2, _, _, _, true, rfl, rfl, hx, rfl, .own _, xc, kU, true, rfl, iteF ?_⟩
        refine ⟨_, rfl, _, d2, _, _, _, false, rfl, rfl, hx, rfl, .own _, xc, kB, false, rfl, iteF ?_⟩
        exact ⟨_, rfl, rfl, rfl, d2, _, _, rfl, hx, rfl, (by show 2 ≤ sizeLine; decide), fun p hp => q p _ (Same.trans s2 (NF.Same.new (Same.refl _) hp)) (SqT.of upd_same)⟩
      | inr ps =>
        intro q
        refine ⟨fun c => ?_, fun c1 c2 v H' s' hv => ?_⟩
        · have c : big true ps := c
          intro d2 G s2 hd2 hx
          refine ⟨false, e10, (fun z => Bool.noConfusion z), fun _ => ⟨true, e11, fun _ a ha => ?_, fun z => Bool.noConfusion z⟩⟩
          exact ⟨_, rfl, rfl, rfl, d2, _, _, rfl, hx, rfl, (by show 2 ≤ sizeLine; decide), fun p hp => q.1 c p _ (Same.trans s2 (NF.Same.new (Same.refl _) hp)) (SqT.of upd_same)⟩
        · obtain ⟨a, xs, rfl, ha, hxs⟩ := dp_mk hv
          refine ⟨a, xs, rfl, ha, fun lp hlp => ?_⟩
          have s2 := NF.Same.new (o := .lst xs) (Same.refl H') hlp
          exact q.2 (fun c => c.elim (fun z => absurd c1 (Nat.not_le_of_lt z)) fun z => absurd c2 (Nat.not_le_of_lt z)) lp xs _ (Same.trans s' s2) upd_same (dpall_mono s2 _ hxs)
    | false =>
      refine iteF ?_
      refine ⟨_, rfl, v, rfl, ?_⟩
      rcases q with ⟨t, rfl, tl, q⟩ | ⟨d, hd, hns, q⟩
      rotate_left
      · refine .inr ⟨d, hd, hns, ?_⟩
        intro d2 G s2 hd2 hx
        refine ⟨true, e00, fun _ a ha => ?_, fun z => Bool.noConfusion z⟩
        refine ⟨_, rfl, _, d2, _, _, _, true, rfl, rfl, hx, rfl, .own _, xc, kU, true, rfl, iteF ?_⟩
        refine ⟨_, rfl, _, d2, _, _, _, false, rfl, rfl, hx, rfl, .own _, xc, kB, false, rfl, iteF ?_⟩
        exact ⟨_, rfl, rfl, rfl, d2, _, _, rfl, hx, rfl, (by show 2 ≤ sizeLine; decide), fun p hp => q p _ (Same.trans s2 (NF.Same.new (Same.refl _) hp)) (SqT.of upd_same)⟩
      refine .inl ⟨t, rfl, by omega, ?_⟩
      revert q
      show seenQ K H Q false (scanG (scN t) true t 0 [] [false] true) → _
      cases scanG (scN t) true t 0 [] [false] true with
      | inl i =>
        intro q
        intro d2 G s2 hd2 hx
        refine ⟨true, e00, fun _ a ha => ?_, fun z => Bool.noConfusion z⟩
        refine ⟨_, rfl, _, d2, _, _, _, true, rfl, rfl, hx, rfl, .own _, xc, kU, true, rfl, iteF ?_⟩
        refine ⟨_, rfl, _, d2, _, _, _, false, rfl, rfl, hx, rfl, .own _, xc, kB, false, rfl, iteF ?_⟩
        exact ⟨_, rfl, rfl, rfl, d2, _, _, rfl, hx, rfl, (by show 2 ≤ sizeLine; decide), fun p hp => q p _ (Same.trans s2 (NF.Same.new (Same.refl _) hp)) (SqT.of upd_same)⟩
      | inr ps =>
        intro q
        refine ⟨fun c => ?_, fun c1 v H' s' hv => ?_⟩
        · have c : big false ps := c
          intro d2 G s2 hd2 hx
          refine ⟨false, e10, (fun z => Bool.noConfusion z), fun _ => ⟨true, e11, fun _ a ha => ?_, fun z => Bool.noConfusion z⟩⟩
          exact ⟨_, rfl, rfl, rfl, d2, _, _, rfl, hx, rfl, (by show 2 ≤ sizeLine; decide), fun p hp => q.1 c p _ (Same.trans s2 (NF.Same.new (Same.refl _) hp)) (SqT.of upd_same)⟩
        · refine ⟨(by show 1 ≤ sizeLine; decide), fun lp hlp => ?_⟩
          have s2 := NF.Same.new (o := .lst [v]) (Same.refl H') hlp
          exact q.2 (fun c => absurd c1 (Nat.not_le_of_lt c)) lp [v] _ (Same.trans s' s2) upd_same (.cons (dp_mono s2 _ hv) .nil)
end
end K13
set_option Elab.async false
set_option linter.all false
set_option maxRecDepth 100000
set_option maxHeartbeats 4000000
/-! What the law holds of a text. -/
namespace K13
open PySem PySem.Spec PyProof.Rows L2 He NF RZ TT
theorem eqv_st (x : Str) : PyData.eqv (.str x) (.str x) = true := by
  show (x == x) = true
  exact beq_self_eq_true _
theorem eqv_it (k : Int) : PyData.eqv (.int k) (.int k) = true := by
  show (k == k) = true
  exact beq_self_eq_true _
theorem eqv_mk (l : Bool) (ds : List PyData) : PyData.eqv (mkP l ds) (mkP l ds) = PyData.eqvAll ds ds := by
  cases l <;> rfl
theorem eqvAll_cons (a b : PyData) (as bs : List PyData) : PyData.eqvAll (a :: as) (b :: bs) = (PyData.eqv a b && PyData.eqvAll as bs) := rfl
theorem eqv_tm : ∀ (t : Trm) (l : Bool), PyData.eqv (tmP l t) (tmP l t) = true
  | .nm s, l => eqv_st _
  | .sh k, l => by
    show PyData.eqv (mkP l _) (mkP l _) = true
    rw [eqv_mk, eqvAll_cons, eqvAll_cons, eqv_st, eqv_it]
    rfl
  | .tn t, l => by
    show PyData.eqv (mkP l _) (mkP l _) = true
    rw [eqv_mk, eqvAll_cons, eqvAll_cons, eqv_st, eqv_tm t l]
    rfl
  | .bi w t u, l => by
    show PyData.eqv (mkP l _) (mkP l _) = true
    rw [eqv_mk, eqvAll_cons, eqvAll_cons, eqvAll_cons, eqv_st, eqv_tm t l, eqv_tm u l]
    rfl
theorem nm_strOk {s : TT.Tx} (h : NmOk s) : PyData.strOk (tx s) = true := by
  obtain ⟨c, r, rfl, hc, _, hr⟩ := h
  have le : ∀ d, isLet d = true ∨ isFig d = true → d < 0x110000 := fun d h => by
    unfold isLet isFig at h
    simp only [Bool.and_eq_true, decide_eq_true_eq] at h
    omega
  have ha : ∀ d ∈ c :: r, d < 0x110000 := fun d hd => (List.mem_cons.mp hd).elim (fun e => le d (.inl (by rw [e]; exact hc))) fun h => le d (hr d h)
  unfold PyData.strOk tx
  simp only [List.all_toArray, List.all_eq_true, decide_eq_true_eq]
  exact ha
theorem word_strOk {w : Nat} (h : w < 5) : PyData.strOk (wordS w) = true := by
  rcases sg_cases h with rfl | rfl | rfl | rfl | rfl <;> decide +kernel
theorem lay_tm : ∀ {t : Trm}, TmOk t → PyData.canLay0 (tmP false t) = true
  | .nm s, h => nm_strOk h
  | .sh k, _ => by
    show (PyData.strOk "shift" && true) = true
    decide +kernel
  | .tn t, h => by
    show (PyData.strOk "turn" && (PyData.canLay0 (tmP false t) && true)) = true
    rw [lay_tm (t := t) h]
    decide +kernel
  | .bi w t u, h => by
    show (PyData.strOk (wordS w) && (PyData.canLay0 (tmP false t) && (PyData.canLay0 (tmP false u) && true))) = true
    rw [lay_tm h.2.1, lay_tm h.2.2, word_strOk h.1]
    rfl
theorem dep_tm : ∀ t : Trm, PyData.depth (tmP false t) ≤ depth t
  | .nm s => Nat.zero_le _
  | .sh k => by
    show max 0 (max 0 0) + 1 ≤ 1
    decide
  | .tn t => by
    have := dep_tm t
    show max 0 (max (PyData.depth (tmP false t)) 0) + 1 ≤ depth t + 1
    omega
  | .bi w t u => by
    have h1 := dep_tm t
    have h2 := dep_tm u
    show max 0 (max (PyData.depth (tmP false t)) (max (PyData.depth (tmP false u)) 0)) + 1 ≤ max (depth t) (depth u) + 1
    omega
theorem shaped_ref (i : Int) : SeqAt.shaped (.tuple [.str "refused", .int i]) = true := by
  have e : PyData.strOk "refused" = true := by decide +kernel
  show ((PyData.strOk "refused" && (true && true)) && decide (max 0 (max 0 0) + 1 ≤ 64)) = true
  rw [e]
  rfl
theorem shaped_many : SeqAt.shaped (.tuple [.str "many", .str "part"]) = true := by decide +kernel
theorem eqv_ref (i : Int) : PyData.eqv (.tuple [.str "refused", .int i]) (.tuple [.str "refused", .int i]) = true := by
  have := eqv_mk false [.str "refused", .int i]
  show PyData.eqv (mkP false [.str "refused", .int i]) (mkP false [.str "refused", .int i]) = true
  rw [this, eqvAll_cons, eqvAll_cons, eqv_st, eqv_it]
  rfl
theorem eqv_many : PyData.eqv (.tuple [.str "many", .str "part"]) (.tuple [.str "many", .str "part"]) = true := by
  show PyData.eqv (mkP false [.str "many", .str "part"]) (mkP false [.str "many", .str "part"]) = true
  rw [eqv_mk, eqvAll_cons, eqvAll_cons, eqv_st, eqv_st]
  rfl
theorem eqvAll_tm : ∀ ts : List Trm, PyData.eqvAll (ts.map (tmP false)) (ts.map (tmP false)) = true
  | [] => rfl
  | t :: ts => by
    rw [List.map_cons, eqvAll_cons, eqv_tm, eqvAll_tm ts]
    rfl
theorem eqv_trms (ts : List Trm) : PyData.eqv (.list (ts.map (tmP false))) (.list (ts.map (tmP false))) = true := by
  show PyData.eqv (mkP true _) (mkP true _) = true
  rw [eqv_mk]
  exact eqvAll_tm ts
theorem trms_le {b : Bool} {ps : List TT.Tx} : (trmsB b ps).length ≤ 2 := by
  cases b
  · exact Nat.le_succ _
  · exact Nat.le_refl _
theorem trms_pos {b : Bool} {ps : List TT.Tx} : 0 < (trmsB b ps).length := by
  cases b
  · exact Nat.succ_pos _
  · exact Nat.succ_pos _
theorem shaped_trms {b : Bool} {ps : List TT.Tx} (h : ∀ t ∈ trmsB b ps, TmOk t ∧ parts t ≤ 60) : SeqAt.shaped (.list ((trmsB b ps).map (tmP false))) = true := by
  cases b with
  | false =>
    obtain ⟨h1, h2⟩ := h (rdT ps) (List.mem_singleton.mpr rfl)
    have d1 := dep_tm (rdT ps)
    have d2 := depth_parts (rdT ps)
    show ((PyData.canLay0 (tmP false (rdT ps)) && true) && decide (max (PyData.depth (tmP false (rdT ps))) 0 + 1 ≤ 64)) = true
    rw [lay_tm h1, decide_eq_true (by omega)]
    rfl
  | true =>
    obtain ⟨h1, h2⟩ := h (rdT (fstB ps)) (List.mem_cons_self ..)
    obtain ⟨h3, h4⟩ := h (rdT (sndB ps)) (List.mem_cons_of_mem _ (List.mem_singleton.mpr rfl))
    have d1 := dep_tm (rdT (fstB ps))
    have d2 := depth_parts (rdT (fstB ps))
    have d3 := dep_tm (rdT (sndB ps))
    have d4 := depth_parts (rdT (sndB ps))
    show ((PyData.canLay0 (tmP false (rdT (fstB ps))) && (PyData.canLay0 (tmP false (rdT (sndB ps))) && true)) && decide (max (PyData.depth (tmP false (rdT (fstB ps)))) (max (PyData.depth (tmP false (rdT (sndB ps)))) 0) + 1 ≤ 64)) = true
    rw [lay_tm h1, lay_tm h3, decide_eq_true (by omega)]
    rfl
/-- terms of a text: right, and as large as the pieces are many -/
theorem trms_ok {b : Bool} {t : TT.Tx} {ps : List TT.Tx} (e : scanG (scN t) true t 0 [] [false] (!b) = .inr ps) : (∀ u ∈ trmsB b ps, TmOk u ∧ parts u ≤ t.length) ∧ (big b ps ↔ ∃ u ∈ trmsB b ps, 60 < parts u) := by
  obtain ⟨ps', e1, hs⟩ := scanG_ok (by simp) e
  have e1 : ps = ps' := e1
  subst e1
  have hl : ps.length ≤ 0 + t.length := scanG_len e
  cases b with
  | false =>
    obtain ⟨h1, h2⟩ := rd_ok (ps := ps) hs
    have c1 : ps.countP notBr ≤ ps.length := List.countP_le_length
    refine ⟨fun u hu => ?_, ⟨fun h => ⟨_, List.mem_singleton.mpr rfl, by rw [h2]; exact h⟩, fun ⟨u, hu, h⟩ => ?_⟩⟩
    · rw [List.mem_singleton.mp hu]
      exact ⟨h1, by omega⟩
    · rw [List.mem_singleton.mp hu, h2] at h
      exact h
  | true =>
    obtain ⟨a, b, rfl, ha, hb, hn⟩ := scan_split (ps := ps) hs
    obtain ⟨h1, h2⟩ := rd_ok ha
    obtain ⟨h3, h4⟩ := rd_ok hb
    have c1 : a.countP notBr ≤ a.length := List.countP_le_length
    have c2 : b.countP notBr ≤ b.length := List.countP_le_length
    rw [List.length_append, List.length_cons] at hl
    have et : trmsB true (a ++ blw :: b) = [rdT a, rdT b] := by
      show [rdT (fstB (a ++ blw :: b)), rdT (sndB (a ++ blw :: b))] = _
      rw [(split_eq hn).1, (split_eq hn).2]
    have eb : big true (a ++ blw :: b) ↔ (60 < a.countP notBr ∨ 60 < b.countP notBr) := by
      show (60 < (fstB (a ++ blw :: b)).countP notBr ∨ 60 < (sndB (a ++ blw :: b)).countP notBr) ↔ _
      rw [(split_eq hn).1, (split_eq hn).2]
    rw [et, eb]
    refine ⟨fun u hu => ?_, ⟨fun h => ?_, fun ⟨u, hu, h⟩ => ?_⟩⟩
    · rcases List.mem_cons.mp hu with rfl | hu
      · exact ⟨h1, by omega⟩
      · rw [List.mem_singleton.mp hu]
        exact ⟨h3, by omega⟩
    · rcases h with h | h
      · exact ⟨_, List.mem_cons_self .., by rw [h2]; exact h⟩
      · exact ⟨_, List.mem_cons_of_mem _ (List.mem_singleton.mpr rfl), by rw [h4]; exact h⟩
    · rcases List.mem_cons.mp hu with rfl | hu
      · exact .inl (by rw [h2] at h; exact h)
      · rw [List.mem_singleton.mp hu, h4] at h
        exact .inr h
def spRight (K : PySem.W.Frag) : Sp := fun vs H Q _ => ∃ t b, vs = [.str (tx t), .bl b] ∧ t.length ≤ 210 ∧ ∀ H', Same H H' → Q (.bl true) H'
theorem sc__law_right : FnScope ["_law_text", "_law_both", "_law_told", "_law_place", "_law_terms", "_law_one"] ["_law_text", "_law_both"] (defScope s__law_right) := ⟨rfl, rfl, rfl, by decide +kernel, rfl, by decide +kernel, by decide +kernel⟩
section
variable {P : Program} {w : World} {K : PySem.W.Frag} {mg : Str → Option Value} {base : Heap} {gs fs : List Str} {C : Addr} {tok : Tok}
theorem ok__law_right {f : Addr} {fd : FuncData} (F : FunD K "_law_right" "_law_right" (defArgs s__law_right) (defBody s__law_right) (defScope s__law_right) [] [] f fd) (T : Txt K mg gs FS) (c__law_parsed : Cal P w K mg base 3 "_law_parsed" (spParsed K)) (c__law_seen : Cal P w K mg base 8 "_law_seen" (spSeen K)) (c__law_is_integer : Cal P w K mg base 1 "_law_is_integer" spIsInt) (c__law_parts : Cal P w K mg base 211 "_law_parts" (spLParts 210 K)) : FnOk P w K mg base CX0 212 f fd ["_law_text", "_law_both"] (spRight K) := by
  refine F.ok sc__law_right (fun vs H Q E h => ?_) (fun cdv A outer s H vs Q E hr h => ?_)
  · obtain ⟨t, b, rfl, _⟩ := h
    rfl
  · have hu : (A.deeper (envOfC "_law_right" (defScope s__law_right) s.heap.objs.size f cdv)).units + 64 < cLine := by
      have := hr.un
      omega
    obtain ⟨t, b, rfl, tl, q⟩ := h
    refine ⟨_, PSs.nox (pss_cons (ps_asg (pe_c c__law_parsed hr (by decide) rfl (pa_cons (pv 0) (pa_cons (pv 1) pa_nil))) (pgt (K := K) (n := 2) rfl rfl (pgs_cons (pg_name (i := 3) sc__law_right.nd rfl (Or.inl rfl)) (pgs_cons (pg_name (i := 4) sc__law_right.nd rfl (Or.inl rfl)) pgs_nil)))) (pss_cons (ps_set (i := 2) sc__law_right.nd rfl (Or.inl rfl) (pe_c c__law_seen hr (by decide) rfl (pa_cons (pv 0) (pa_cons (pv 1) pa_nil)))) (pss_cons (ps_if (pt_cmpR op_notN (pv 3) pe_non (nomark _)) (pss_one (ps_ret (pe_and (pe_cmpR (op_eqD hu) (pv 2) (pe_tup (pa_cons pe_str (pa_cons (pv 3) pa_nil))) (nomark _)) (pe_one (pe_c c__law_is_integer hr (by decide) rfl (pa_cons (pe_ix (ixt (K := K)) (pv 2) pe_int fun _ _ => rfl) pa_nil)))))) pss_nil) (pss_cons (ps_if (pt_cmpR op_gt (pe_callB (cr_max rfl) rfl (T.fr _ (by decide +kernel)) (by decide +kernel) (pa_cons (pe_lc (own := [("_law_one", 5)]) rfl sc__law_right.nd (pi_row (pv 4)) (blkOk_by (N := ["_law_text", "_law_both", "_law_told", "_law_place", "_law_terms", "_law_one"]) (sc := defScope s__law_right) (by decide +kernel)) (fun _ _ _ _ _ => by exact (pg_name (i := 5) sc__law_right.nd rfl (Or.inl rfl))) (fun _ _ _ _ _ => by exact pts_nil) (fun _ _ _ _ _ => by exact (pe_c c__law_parts hr (by decide) rfl (pa_cons (pv 5) pa_nil)))) pa_nil)) pe_int (nomark _)) (pss_one (ps_ret (pe_cmpR (op_eqD hu) (pv 2) (pe_tup (pa_cons pe_str (pa_cons pe_str pa_nil))) (nomark _)))) pss_nil) (pss_one (ps_ret (pe_cmpR (op_eqD hu) (pv 2) (pv 4) (nomark _)))))))), ?_⟩
    refine ⟨_, rfl, _, rfl, t, b, rfl, by omega, ?_⟩
    cases e : scanG (scN t) true t 0 [] [false] (!b) with
    | inl i =>
      intro p D xs H1 s1 hp hD
      refine ⟨p, _, rfl, hp, rfl, _, _, rfl, ?_⟩
      refine ⟨_, _, rfl, rfl, ?_⟩
      refine ⟨_, rfl, _, rfl, .str (tx t), b, rfl, .inl ⟨t, rfl, by omega, ?_⟩⟩
      rw [e]
      intro q2 H2 s2 hq2
      refine ⟨_, rfl, rfl, _, rfl, iteT' (by rfl) ?_⟩
      refine ⟨_, rfl, _, rfl, (by show 2 ≤ sizeLine; decide), fun tp htp => ?_⟩
      have s3 := NF.Same.new (o := .tup [V.str "refused", .int (i : Int)]) (Same.refl H2) htp
      refine ⟨.tuple [.str "refused", .int (i : Int)], .tuple [.str "refused", .int (i : Int)], .tup (NF.Same.tup s3 hq2) (.cons (.str _) (.cons (.int _) .nil)), .tup (SqT.of upd_same) (.cons (.str _) (.cons (.int _) .nil)), shaped_ref _, shaped_ref _, ?_⟩
      refine ⟨_, rfl, iteT' (eqv_ref _) ?_⟩
      refine ⟨_, rfl, q2, _, _, _, rfl, rfl, NF.Same.tup s3 hq2, atI_nat (j := 1) rfl, (i : Int), rfl, ?_⟩
      exact q _ (Same.trans s1 (Same.trans s2 s3))
    | inr ps =>
      obtain ⟨tok0, bigT⟩ := trms_ok e
      have tok : ∀ u ∈ trmsB b ps, TmOk u ∧ depth u ≤ 210 := fun u hu => ⟨(tok0 u hu).1, by have := (tok0 u hu).2; have := depth_parts u; omega⟩
      intro p D xs H1 s1 hp hD hxs
      refine ⟨p, _, rfl, hp, rfl, _, _, rfl, ?_⟩
      refine ⟨_, _, rfl, rfl, ?_⟩
      refine ⟨_, rfl, _, rfl, .str (tx t), b, rfl, .inl ⟨t, rfl, by omega, ?_⟩⟩
      rw [e]
      refine ⟨fun c q2 H2 s2 hq2 => ?_, fun c q2 ys H2 s2 hq2 hq3 => ?_⟩
      · refine ⟨_, rfl, rfl, _, rfl, iteF' (by rfl) ?_⟩
        have s02 := Same.trans s1 s2
        have hD2 := s2 _ _ hD
        have hxs2 := dpall_mono s2 _ hxs
        have lx := dpall_len hxs2
        rw [List.length_map] at lx
        refine ⟨_, rfl, D, rfl, ?_⟩
        refine lc_row (.inl (SqL.of hD2)) (fun E2 j G => Same H2 G ∧ G E2 = some (.lst ((((trmsB b ps).take j).map fun u => ((parts u : Nat) : Int)).map V.int))) (fun E2 hE => ⟨NF.Same.new (Same.refl _) hE, upd_same⟩) (fun E2 j G _ z => z.1) ?_ ?_
        · rintro E2 hE j x G hx ⟨sG, hG⟩
          obtain ⟨u, hu, hxu⟩ : ∃ u, (trmsB b ps)[j]? = some u ∧ Dp K H2 x (tmP false u) := by
            obtain ⟨d, hd1, hd2⟩ := dpall_at hxs2 hx
            rw [List.getElem?_map] at hd1
            cases z : (trmsB b ps)[j]? with
            | none =>
              rw [z] at hd1
              cases hd1
            | some u =>
              rw [z] at hd1
              obtain rfl := (Option.some.inj hd1)
              exact ⟨u, rfl, hd2⟩
          have hum := List.mem_of_getElem? hu
          refine ⟨rfl, _, rfl, x, u, rfl, dp_mono sG _ hxu, (tok u hum).1, (tok u hum).2, fun G2 s3 => ?_⟩
          have tl2 : (trmsB b ps).length ≤ 2 := trms_le
          refine ⟨_, s3 _ _ hG, Nat.lt_of_le_of_lt (show _ ≤ 2 by rw [List.length_map, List.length_map, List.length_take]; omega) (by decide), NF.Same.mut (Same.trans sG s3) hE, ?_⟩
          rw [upd_same, List.take_add_one, hu, List.map_append, List.map_append]
          rfl
        · rintro E2 hE G ⟨sG, hG⟩
          rw [List.take_of_length_le (Nat.le_of_eq lx.symm)] at hG
          refine ⟨E2, _, rfl, SqL.of hG, ?_, ?_⟩
          · rw [List.length_map]
            exact trms_pos
          · intro m hm hmax
            refine ⟨_, _, rfl, rfl, _, rfl, ?_⟩
            have m60 : m > 60 := by
              obtain ⟨u, hu, hu60⟩ := bigT.mp c
              have := hmax _ (List.mem_map.mpr ⟨u, hu, rfl⟩)
              omega
            refine iteT' (decide_eq_true m60) ?_
            refine ⟨_, rfl, (by show 2 ≤ sizeLine; decide), fun tp htp => ?_⟩
            refine ⟨.tuple [.str "many", .str "part"], .tuple [.str "many", .str "part"], .tup (NF.Same.tup (Same.trans sG (NF.Same.new (Same.refl _) htp)) hq2) (.cons (.str _) (.cons (.str _) .nil)), .tup (SqT.of upd_same) (.cons (.str _) (.cons (.str _) .nil)), shaped_many, shaped_many, ?_⟩
            rw [eqv_many]
            exact q _ (Same.trans (Same.trans s02 sG) (NF.Same.new (Same.refl _) htp))
      · have ts : ∀ t ∈ trmsB b ps, TmOk t ∧ parts t ≤ 60 := fun u hu => ⟨(tok0 u hu).1, Nat.le_of_not_lt fun z => c (bigT.mpr ⟨u, hu, z⟩)⟩
        refine ⟨_, rfl, rfl, _, rfl, iteF' (by rfl) ?_⟩
        have s02 := Same.trans s1 s2
        have hD2 := s2 _ _ hD
        have hxs2 := dpall_mono s2 _ hxs
        have lx := dpall_len hxs2
        rw [List.length_map] at lx
        refine ⟨_, rfl, D, rfl, ?_⟩
        refine lc_row (.inl (SqL.of hD2)) (fun E2 j G => Same H2 G ∧ G E2 = some (.lst ((((trmsB b ps).take j).map fun u => ((parts u : Nat) : Int)).map V.int))) (fun E2 hE => ⟨NF.Same.new (Same.refl _) hE, upd_same⟩) (fun E2 j G _ z => z.1) ?_ ?_
        · rintro E2 hE j x G hx ⟨sG, hG⟩
          obtain ⟨u, hu, hxu⟩ : ∃ u, (trmsB b ps)[j]? = some u ∧ Dp K H2 x (tmP false u) := by
            obtain ⟨d, hd1, hd2⟩ := dpall_at hxs2 hx
            rw [List.getElem?_map] at hd1
            cases z : (trmsB b ps)[j]? with
            | none =>
              rw [z] at hd1
              cases hd1
            | some u =>
              rw [z] at hd1
              obtain rfl := (Option.some.inj hd1)
              exact ⟨u, rfl, hd2⟩
          have hum := List.mem_of_getElem? hu
          refine ⟨rfl, _, rfl, x, u, rfl, dp_mono sG _ hxu, (tok u hum).1, (tok u hum).2, fun G2 s3 => ?_⟩
          have tl2 : (trmsB b ps).length ≤ 2 := trms_le
          refine ⟨_, s3 _ _ hG, Nat.lt_of_le_of_lt (show _ ≤ 2 by rw [List.length_map, List.length_map, List.length_take]; omega) (by decide), NF.Same.mut (Same.trans sG s3) hE, ?_⟩
          rw [upd_same, List.take_add_one, hu, List.map_append, List.map_append]
          rfl
        · rintro E2 hE G ⟨sG, hG⟩
          rw [List.take_of_length_le (Nat.le_of_eq lx.symm)] at hG
          refine ⟨E2, _, rfl, SqL.of hG, ?_, ?_⟩
          · rw [List.length_map]
            exact trms_pos
          · intro m hm hmax
            refine ⟨_, _, rfl, rfl, _, rfl, ?_⟩
            have m60 : ¬ m > 60 := fun z => c (bigT.mpr (by
              obtain ⟨u, hu, e⟩ := List.mem_map.mp hm
              refine ⟨u, hu, ?_⟩
              omega))
            refine iteF' (decide_eq_false m60) ?_
            refine ⟨_, rfl, _, rfl, .list ((trmsB b ps).map (tmP false)), .list ((trmsB b ps).map (tmP false)), .lst (SqL.of (sG _ _ hq2)) (dpall_mono sG _ hq3), .lst (SqL.of (sG _ _ hD2)) (dpall_mono sG _ hxs2), shaped_trms ts, shaped_trms ts, ?_⟩
            rw [eqv_trms]
            exact q _ (Same.trans s02 sG)
end
end K13
set_option Elab.async false
set_option linter.all false
set_option maxRecDepth 100000
set_option maxHeartbeats 4000000
/-! f() of one's own def. -/
namespace NF
open PySem PySem.Spec PyProof.Rows L2 He RZ
theorem pe_c0 {X : Cx} {k j : Nat} {x : Str} {sp : Sp} {p pos : Pos} (c : Cal X.prog X.w X.K X.mg X.base k x sp) (hr : Room j X.A) (hk : k ≤ j) (hg : Gl X x) (hdb : (x == ("__debug__" : Str)) = false := by decide) :
    PE X (.Call (.Name x p) [] [] pos) (tCall sp [] E0 tNil) := by
  obtain ⟨f, fd, ps, F, hm, kp, b⟩ := c.ex
  exact pe_call0 F (hr.mono hk) hg hm kp b .nil pass0 hdb
end NF
set_option Elab.async false
set_option linter.all false
set_option maxRecDepth 100000
set_option maxHeartbeats 4000000
/-! Texts: words that are numbers, a text times a number. -/
namespace NF
open PySem PySem.Spec PyProof.Rows L2 He RZ NT
theorem op_mul_str {X : Cx} : OpR X (binaryOp .Mult) (fun x y H Q => ∃ (z : Str) (n : Int), x = .str z ∧ y = .int n ∧ MulOk z n ∧ Q (.str (Txt.mul z n)) H) := by
  intro pins s σ H x y v u Q I rx ry h
  obtain ⟨z, n, rfl, rfl, hm, q⟩ := h
  obtain ⟨t, rfl⟩ := rx
  obtain ⟨t', rfl⟩ := ry
  exact SB.mul hm fun t' tk => ⟨.str _, H, I.tok _, ⟨_, rfl⟩, q⟩
/-- a figure -/
def dig (c : Nat) : Bool := decide (c ∈ ("0123456789" : Str).cps.toList)
theorem dig_iff (c : Nat) : dig c = true ↔ (48 ≤ c ∧ c ≤ 57) := by
  have e : ("0123456789" : Str).cps.toList = [48, 49, 50, 51, 52, 53, 54, 55, 56, 57] := by decide +kernel
  unfold dig
  rw [e, decide_eq_true_eq]
  simp only [List.mem_cons, List.not_mem_nil, or_false]
  omega
/-- is the word a number: 1 to 60 figures, no leading nought -/
def numOk (w : Str) : Bool := decide (1 ≤ w.length) && decide (w.length ≤ 60) && !(decide (1 < w.length) && decide (w.cps.toList.getD 0 0 = 48)) && w.cps.toList.all dig
def numW (w : Str) : Option Int := if numOk w = true then PySem.intText? w else none
theorem cps_len (w : Str) : w.cps.toList.length = w.length := Array.length_toList
theorem num_some {w : Str} (h : numOk w = true) : ∃ n : Nat, PySem.intText? w = some (n : Int) ∧ w.length ≤ 60 := by
  unfold numOk at h
  simp only [Bool.and_eq_true, decide_eq_true_eq] at h
  obtain ⟨⟨⟨h1, h2⟩, _⟩, h3⟩ := h
  have ha : PySem.NumText.AllDigits w.cps.toList := fun c hc => (dig_iff c).mp (List.all_eq_true.mp h3 c hc)
  have hn : w.cps.toList ≠ [] := fun z => by
    have := cps_len w
    rw [z] at this
    simp at this
    omega
  exact ⟨_, PySem.intText_digits ha hn (by omega), h2⟩
theorem numW_some {w : Str} (h : numOk w = true) : ∃ n : Nat, numW w = some (n : Int) ∧ PySem.intText? w = some (n : Int) ∧ w.length ≤ 60 := by
  obtain ⟨n, h1, h2⟩ := num_some h
  refine ⟨n, ?_, h1, h2⟩
  unfold numW
  rw [if_pos h, h1]
theorem numW_none {w : Str} (h : numOk w = false) : numW w = none := by
  unfold numW
  rw [if_neg (by rw [h]; decide)]
def isW (x : Str) (w : Str) : Bool := decide (w = x)
theorem apart : Apart numW (isW "never") (isW "then") (isW "up") := by
  constructor <;> intro w h <;> (have e := of_decide_eq_true h; subst e; exact numW_none (by decide +kernel))
theorem nil_of_len {w : Str} (h : w.length = 0) : numOk w = false := by
  unfold numOk
  rw [decide_eq_false (by omega)]
  rfl
end NF
set_option Elab.async false
set_option linter.all false
set_option maxRecDepth 100000
set_option maxHeartbeats 4000000
/-! The law. -/
namespace K13
open PySem PySem.Spec PyProof.Rows L2 He NF RZ TT
open C8 (pss_cut)
def spMenu (K : PySem.W.Frag) : Sp := fun vs H Q _ => vs = [] ∧ ∀ p, H p = none → Q (.ref p) (upd H p (.lst ([V.str "f", .str "g", .str "a", .str "z9", .str "un", .str "f1", .str "f10", .str "x", .str "ove", .str "o", .str "u2", .str "k"])))
def menuN : List TT.Tx := [[102], [103], [97], [122, 57], [117, 110], [102, 49], [102, 49, 48], [120], [111, 118, 101], [111], [117, 50], [107]]
theorem menu_vals : menuN.map (fun s => V.str (tx s)) = [V.str "f", .str "g", .str "a", .str "z9", .str "un", .str "f1", .str "f10", .str "x", .str "ove", .str "o", .str "u2", .str "k"] := by decide +kernel
theorem nmOk_b {s : TT.Tx} (h : (match s with | c :: r => isLet c && decide (r.length ≤ 2) && r.all (fun d => isLet d || isFig d) | [] => false) = true) : NmOk s := by
  cases s with
  | nil => cases h
  | cons c r =>
    rw [Bool.and_eq_true, Bool.and_eq_true, decide_eq_true_eq] at h
    exact ⟨c, r, rfl, h.1.1, h.1.2, fun d hd => by
      have := List.all_eq_true.mp h.2 d hd
      rwa [Bool.or_eq_true] at this⟩
theorem menu_ok : ∀ s ∈ menuN, NmOk s := by
  intro s hs
  unfold menuN at hs
  simp only [List.mem_cons, List.not_mem_nil, or_false] at hs
  rcases hs with rfl | rfl | rfl | rfl | rfl | rfl | rfl | rfl | rfl | rfl | rfl | rfl <;> exact nmOk_b (by decide)
def spLaw (K : PySem.W.Frag) : Sp := fun vs H Q _ => ∃ (l : Addr) (ns : List Int), vs = [.ref l] ∧ SqL K H l (ns.map V.int) ∧ ns.length ≤ 63 ∧ (∀ k ∈ ns, Builtin.Int.intBits k ≤ 1048576) ∧ ∀ H', Q (.bl true) H'
theorem sc_law : FnScope ["_law_script", "_law_source_here", "_law_menu", "_law_names", "_law_term_here", "_law_drawer", "_law_other", "_law_both", "_law_text", "_law_turn", "_law_thing", "_law_long", "_law_k"] ["_law_script"] (defScope s_law) := ⟨rfl, rfl, rfl, by decide +kernel, rfl, by decide +kernel, by decide +kernel⟩
theorem sc__law_words_menu : FnScope [] [] (defScope s__law_words_menu) := ⟨rfl, rfl, rfl, by decide +kernel, rfl, by decide +kernel, by decide +kernel⟩
theorem ixN_nat {n j : Nat} (h : j < n) : ixN n (j : Int) = some j := by
  unfold ixN
  rw [if_pos (by omega), if_pos (by omega)]
  rfl
theorem erase_map {α β : Type} (f : α → β) : ∀ (l : List α) (j : Nat), (l.map f).eraseIdx j = (l.eraseIdx j).map f
  | [], _ => rfl
  | _ :: _, 0 => rfl
  | a :: l, j + 1 => congrArg (f a :: ·) (erase_map f l j)
theorem src_mono {H H' : Hp} {p : Addr} (s : Same H H') (h : Src H p) : Src H' p := by
  obtain ⟨a, b, c, e⟩ := h
  exact ⟨a, b, c, s _ _ e⟩
theorem mul_ok {x : Str} {n : Int} (h : x.length = 1) (hn : n = 29 ∨ n = 59 ∨ n = 60 ∨ n = 61) : MulOk x n := by
  unfold MulOk
  rw [h]
  rcases hn with rfl | rfl | rfl | rfl <;> exact ⟨by decide, fun _ _ => by decide, fun _ _ => by decide⟩
theorem mul_t (k : Nat) (hk : k < 3) : Txt.mul "~" (59 + (k : Int)) = tx (List.replicate (59 + k) 126) := by
  rcases (show k = 0 ∨ k = 1 ∨ k = 2 by omega) with rfl | rfl | rfl <;> decide +kernel
theorem mul_o : Txt.mul "(" 29 = tx (List.replicate 29 40) := by decide +kernel
theorem mul_c : Txt.mul ")" 29 = tx (List.replicate 29 41) := by decide +kernel
section
variable {P : Program} {w : World} {K : PySem.W.Frag} {mg : Str → Option Value} {base : Heap} {gs fs : List Str} {C : Addr} {tok : Tok}
theorem ok__law_words_menu {f : Addr} {fd : FuncData} (F : FunD K "_law_words_menu" "_law_words_menu" (defArgs s__law_words_menu) (defBody s__law_words_menu) (defScope s__law_words_menu) [] [] f fd) (T : Txt K mg gs FS) : FnOk P w K mg base CX0 1 f fd [] (spMenu K) := by
  refine F.ok sc__law_words_menu (fun vs H Q E h => ?_) (fun cdv A outer s H vs Q E hr h => ?_)
  · obtain ⟨rfl, _⟩ := h
    rfl
  · obtain ⟨rfl, q⟩ := h
    refine ⟨_, PSs.nox (pss_one (ps_ret (pe_lst (pa_cons pe_str (pa_cons pe_str (pa_cons pe_str (pa_cons pe_str (pa_cons pe_str (pa_cons pe_str (pa_cons pe_str (pa_cons pe_str (pa_cons pe_str (pa_cons pe_str (pa_cons pe_str (pa_cons pe_str pa_nil))))))))))))))), ?_⟩
    exact ⟨(by show 12 ≤ sizeLine; decide), fun p hp => q p hp⟩
theorem ok_law {f : Addr} {fd : FuncData} (F : FunD K "law" "law" (defArgs s_law) (defBody s_law) (defScope s_law) [] [] f fd) (T : Txt K mg gs FS) (c__law_source : Cal P w K mg base 1 "_law_source" (spSource K)) (c__law_pick : Cal P w K mg base 1 "_law_pick" spPick) (c__law_words_menu : Cal P w K mg base 1 "_law_words_menu" (spMenu K)) (c__law_term : Cal P w K mg base 41 "_law_term" (spLTerm 40 K)) (c__law_written : Cal P w K mg base 41 "_law_written" (spLWr 40 K)) (c__law_pieces : Cal P w K mg base 2 "_law_pieces" (spPcs K)) (c__law_changed : Cal P w K mg base 2 "_law_changed" (spChg K)) (c__law_seen : Cal P w K mg base 8 "_law_seen" (spSeen K)) (c__law_right : Cal P w K mg base 212 "_law_right" (spRight K)) : FnOk P w K mg base CX0 213 f fd ["_law_script"] (spLaw K) := by
  refine F.ok sc_law (fun vs H Q E h => ?_) (fun cdv A outer s H vs Q E hr h => ?_)
  · obtain ⟨l, ns, rfl, _⟩ := h
    rfl
  · have hu : (A.deeper (envOfC "law" (defScope s_law) s.heap.objs.size f cdv)).units + 64 < cLine := by
      have := hr.un
      omega
    obtain ⟨l, ks, rfl, hl, hlen, hbits, q⟩ := h
    refine ⟨_, PSs.nox (pss_cons (ps_set (i := 1) sc_law.nd rfl (Or.inr rfl) (pe_c c__law_source hr (by omega) rfl (pa_cons (pv 0) (pa_cons pe_int pa_nil)))) (pss_cons (ps_set (i := 2) sc_law.nd rfl (Or.inr rfl) (pe_c0 c__law_words_menu hr (by omega) rfl)) (pss_cons (ps_setLc (i := 3) (own := [("_law_k", 12)]) rfl sc_law.nd rfl rfl (sw_true rfl rfl rfl (by decide +kernel)) (pi_range1 rfl (T.fr _ (by decide +kernel)) (pa_cons (pe_op op_add pe_int (pe_c c__law_pick hr (by omega) rfl (pa_cons (pv 1) (pa_cons pe_int pa_nil)))) pa_nil)) (blkOk_by (N := ["_law_script", "_law_source_here", "_law_menu", "_law_names", "_law_term_here", "_law_drawer", "_law_other", "_law_both", "_law_text", "_law_turn", "_law_thing", "_law_long", "_law_k"]) (sc := defScope s_law) (by decide +kernel)) (fun _ _ _ _ _ => by exact (pg_name (i := 12) sc_law.nd rfl (Or.inl rfl))) (fun _ _ _ _ _ => by exact pts_nil) (fun _ _ _ _ _ => by exact (pe_bmK (K := K) PySem.F.plainAttrs_list PySem.F.slot_list_pop PySem.F.type_list_pop mt_popAt (pv 2) (pa_cons (pe_c c__law_pick hr (by omega) rfl (pa_cons (pv 1) (pa_cons (pe_callB (call_lenK (K := K)) rfl (T.fr _ (by decide +kernel)) boot_len (pa_cons (pv 2) pa_nil)) pa_nil))) pa_nil)))) (pss_cons (ps_set (i := 4) sc_law.nd rfl (Or.inl rfl) (pe_c c__law_term hr (by omega) rfl (pa_cons (pv 1) (pa_cons (pv 3) (pa_cons (pe_op op_add pe_int (pe_c c__law_pick hr (by omega) rfl (pa_cons (pv 1) (pa_cons pe_int pa_nil)))) pa_nil))))) (pss_cons (ps_set (i := 5) sc_law.nd rfl (Or.inl rfl) (pe_c c__law_source hr (by omega) rfl (pa_cons (pv 0) (pa_cons pe_int pa_nil)))) (pss_cons (ps_set (i := 6) sc_law.nd rfl (Or.inl rfl) (pe_c c__law_term hr (by omega) rfl (pa_cons (pv 5) (pa_cons (pv 3) (pa_cons (pe_op op_add pe_int (pe_c c__law_pick hr (by omega) rfl (pa_cons (pv 5) (pa_cons pe_int pa_nil)))) pa_nil))))) (pss_cons (ps_set (i := 7) sc_law.nd rfl (Or.inl rfl) (pe_cmpR op_eq (pe_c c__law_pick hr (by omega) rfl (pa_cons (pv 5) (pa_cons pe_int pa_nil))) pe_int (nomark _))) (pss_cut (ps_set (i := 8) sc_law.nd rfl (Or.inl rfl) (pe_op op_add_str (pe_c c__law_written hr (by omega) rfl (pa_cons (pv 4) (pa_cons pe_int pa_nil))) (pe_ifExp (pt_val (pv 7)) (pe_op op_add_str pe_str (pe_c c__law_written hr (by omega) rfl (pa_cons (pv 6) (pa_cons pe_int pa_nil)))) pe_str))) (pss_cut (ps_if (pt_cmpR op_eq (pe_c c__law_pick hr (by omega) rfl (pa_cons (pv 5) (pa_cons pe_int pa_nil))) pe_int (nomark _)) (pss_one (ps_set (i := 8) sc_law.nd rfl (Or.inl rfl) (pe_c c__law_pieces hr (by omega) rfl (pa_cons (pv 5) pa_nil)))) pss_nil) (pss_cons (ps_if (PW.pt (pw_or (pt_not (pt_val (pe_c c__law_right hr (by omega) rfl (pa_cons (pv 8) (pa_cons (pv 7) pa_nil))))) (pw_or1 (pt_not (pt_val (pe_c c__law_right hr (by omega) rfl (pa_cons (pv 8) (pa_cons (pe_not (pv 7)) pa_nil)))))))) (pss_one (ps_ret pe_bl)) pss_nil) (pss_cons (ps_for PassesOwn.never rfl (pi_range1 rfl (T.fr _ (by decide +kernel)) (pa_cons (pe_op op_add pe_int (pe_c c__law_pick hr (by omega) rfl (pa_cons (pv 5) (pa_cons pe_int pa_nil)))) pa_nil)) (pg_name (i := 9) sc_law.nd rfl (Or.inl rfl)) (pss_cons (ps_set (i := 8) sc_law.nd rfl (Or.inl rfl) (pe_c c__law_changed hr (by omega) rfl (pa_cons (pv 5) (pa_cons (pv 8) pa_nil)))) (pss_one (ps_if (pt_not (pt_val (pe_c c__law_right hr (by omega) rfl (pa_cons (pv 8) (pa_cons (pv 7) pa_nil))))) (pss_one (ps_ret pe_bl)) pss_nil)))) (pss_cons (ps_for PassesOwn.never rfl (pi_list (pe_lst (pa_cons pe_non (pa_cons pe_int (pa_cons (pe_tup (pa_cons pe_str pa_nil)) (pa_cons (pe_lst (pa_cons pe_str pa_nil)) (pa_cons pe_bl pa_nil))))))) (pg_name (i := 10) sc_law.nd rfl (Or.inl rfl)) (pss_one (ps_if (pt_cmpR (op_neD hu) (pe_c c__law_seen hr (by omega) rfl (pa_cons (pv 10) (pa_cons (pv 7) pa_nil))) (pe_tup (pa_cons pe_str (pa_cons (pe_un un_neg pe_int) pa_nil))) (nomark _)) (pss_one (ps_ret pe_bl)) pss_nil))) (pss_cons (ps_set (i := 11) sc_law.nd rfl (Or.inl rfl) (pe_op op_add_str (pe_op op_mul_str pe_str (pe_op op_add pe_int (pe_c c__law_pick hr (by omega) rfl (pa_cons (pv 1) (pa_cons pe_int pa_nil))))) pe_str)) (pss_cons (ps_if (PW.pt (pw_or (pt_not (pt_val (pe_c c__law_right hr (by omega) rfl (pa_cons (pv 11) (pa_cons pe_bl pa_nil))))) (pw_or1 (pt_not (pt_val (pe_c c__law_right hr (by omega) rfl (pa_cons (pe_op op_add_str (pe_op op_add_str (pe_op op_mul_str pe_str pe_int) pe_str) (pe_op op_mul_str pe_str pe_int)) (pa_cons pe_bl pa_nil)))))))) (pss_one (ps_ret pe_bl)) pss_nil) (pss_one (ps_ret (pe_and (pe_cmpR (op_eqD hu) (pe_c c__law_seen hr (by omega) rfl (pa_cons pe_str (pa_cons (pv 7) pa_nil))) (pe_tup (pa_cons pe_str (pa_cons pe_int pa_nil))) (nomark _)) (pe_one (pe_c c__law_right hr (by omega) rfl (pa_cons pe_str (pa_cons pe_bl pa_nil))))))))))))))))))))), ?_⟩
    refine ⟨_, rfl, l, ks, 0, rfl, hl, hlen, hbits, by decide, fun p H1 s1 hp src1 => ?_⟩
    refine ⟨rfl, fun m hm => ?_⟩
    rw [← menu_vals]
    have mp := src_ne src1 hm
    have mH := L2.Same.free s1 hm
    have s2 := NF.Same.new (o := .lst (menuN.map fun s => V.str (tx s))) s1 hm
    have src2 := src_put (o := .lst (menuN.map fun s => V.str (tx s))) src1 mp
    have hm2 := upd_same (H := H1) (a := m) (o := .lst (menuN.map fun s => V.str (tx s)))
    generalize upd H1 m (.lst (menuN.map fun s => V.str (tx s))) = H2 at s2 src2 hm2
    refine ⟨_, rfl, wo H2 p, p, 3, rfl, wo_same', wo_none, src2, by decide, by decide, fun d H3 d0 d4 s3 src3 => ?_⟩
    have hm3 : H3 m = _ := s3 m _ ((wo_ne mp).trans hm2)
    have s03 := Same.trans (same_wo s2 hp) s3
    obtain ⟨d, rfl⟩ := Int.eq_ofNat_of_zero_le d0
    refine ⟨_, _, rfl, rfl, _, rfl, by omega, by omega, fun D hD => ?_⟩
    have DH := L2.Same.free s03 hD
    have DneP := src_ne src3 hD
    have Dm : D ≠ m := fun e => by rw [e, hm3] at hD; cases hD
    refine lc_range (lo := 0) (n := 1 + d) (fun i G => Same H G ∧ Src G p ∧ ∃ rest acc : List TT.Tx, G m = some (.lst (rest.map fun s => V.str (tx s))) ∧ G D = some (.lst (acc.map fun s => V.str (tx s))) ∧ rest.length + i = 12 ∧ acc.length = i ∧ (∀ s ∈ rest, NmOk s) ∧ ∀ s ∈ acc, NmOk s) ⟨NF.Same.new s03 hD, src_put src3 DneP, menuN, [], (upd_ne (Ne.symm Dm)).trans hm3, upd_same, rfl, rfl, menu_ok, fun s hs => nomatch hs⟩ ?_ ?_
    · rintro i G hi ⟨sG, srcG, rest, acc, hGm, hGD, hr1, ha1, hrok, haok⟩
      refine ⟨rfl, _, rfl, .inl ⟨rfl, _, SqL.of hGm⟩, _, rfl, _, rfl, m, _, rfl, .inl (SqL.of hGm), wo G p, p, rest.length, by rw [List.length_map]; rfl, wo_same', wo_none, srcG, by omega, by omega, fun g G2 g0 g1 s4 src4 => ?_⟩
      obtain ⟨j, rfl⟩ := Int.eq_ofNat_of_zero_le g0
      have hj : j < rest.length := by omega
      have hGm2 : G2 m = _ := s4 m _ ((wo_ne mp).trans hGm)
      have hGD2 : G2 D = _ := s4 D _ ((wo_ne DneP).trans hGD)
      have s04 := Same.trans (same_wo sG hp) s4
      refine ⟨m, _, (j : Int), j, V.str (tx rest[j]), rfl, rfl, hGm2, by omega, by omega, ?_, ?_, ?_⟩
      · exact (ixN_seq (ixN_nat (by rw [List.length_map]; exact hj))).1
      · rw [List.getElem?_map, List.getElem?_eq_getElem hj]
        rfl
      · refine ⟨_, (upd_ne Dm).trans hGD2, ?_, ?_, ?_, rest.eraseIdx j, acc ++ [rest[j]], ?_, ?_, ?_, ?_, ?_, ?_⟩
        · rw [List.length_map, ha1]
          exact Nat.lt_of_lt_of_le (show i < 10 by omega) (by decide)
        · exact NF.Same.mut (NF.Same.mut s04 mH) DH
        · exact src_put (src_put src4 mp) DneP
        · rw [upd_ne (Ne.symm Dm), upd_same]
          rw [erase_map]
        · rw [upd_same, List.map_append]
          rfl
        · rw [List.length_eraseIdx_of_lt hj]
          omega
        · rw [List.length_append, List.length_singleton, ha1]
        · exact fun s hs => hrok s (List.mem_of_mem_eraseIdx hs)
        · intro s hs
          rcases List.mem_append.mp hs with h | h
          · exact haok s h
          · rw [List.mem_singleton.mp h]
            exact hrok _ (List.getElem_mem hj)
    · rintro G ⟨sG, srcG, rest, acc, hGm, hGD, hr1, ha1, hrok, haok⟩
      have nsne : acc ≠ [] := fun e => by rw [e, List.length_nil] at ha1; omega
      have nslen : acc.length ≤ 100 := by omega
      have hB0 : (wo G p) D = some (.lst (acc.map fun s => V.str (tx s))) := (wo_ne DneP).trans hGD
      have sB : Same (wo G p) G := wo_same'
      have lB : SqL K (wo G p) l (ks.map V.int) := L2.Same.seq (same_wo sG hp) hl
      refine ⟨_, rfl, _, rfl, _, rfl, wo G p, p, 12, rfl, sB, wo_none, srcG, by decide, by decide, fun e G2 e0 e1 t2 src2' => ?_⟩
      obtain ⟨e, rfl⟩ := Int.eq_ofNat_of_zero_le e0
      refine ⟨_, _, rfl, rfl, wo G p, p, D, acc, 1 + e, rfl, t2, wo_none, src2', SqL.of hB0, nsne, nslen, haok, by decide, by omega, by omega, fun x H4 t t4 src4 hx ht hpt hdt => ?_⟩
      have pt1 : parts t ≤ 23 := by omega
      have dt1 : depth t ≤ 12 := by omega
      have hD4 := t4 D _ hB0
      have hx := dp_mono (wo_same' (H := H4) (p := p)) _ hx
      have hl4 := L2.Same.seq t4 lB
      clear hdt hpt t4 t2 src2' hB0 sB lB srcG hGD hGm sG
      refine ⟨_, rfl, l, ks, 1, rfl, hl4, hlen, hbits, by decide, fun p2 H5 s5 hp2 src5 => ?_⟩
      refine ⟨_, rfl, _, rfl, _, rfl, H4, p2, 6, rfl, s5, hp2, src5, by decide, by decide, fun e2 H6 e20 e21 s6 src6 => ?_⟩
      obtain ⟨e2, rfl⟩ := Int.eq_ofNat_of_zero_le e20
      refine ⟨_, _, rfl, rfl, H4, p2, D, acc, 1 + e2, rfl, s6, hp2, src6, SqL.of hD4, nsne, nslen, haok, by decide, by omega, by omega, fun y H7 u t7 src7 hy hu' hpu hdu => ?_⟩
      have pu1 : parts u ≤ 11 := by omega
      have du1 : depth u ≤ 6 := by omega
      have sp7 := same_wo t7 hp2
      refine ⟨_, rfl, wo H7 p2, p2, 2, rfl, wo_same', wo_none, src7, by decide, by decide, fun d8 H8 d80 d81 s8 src8 => ?_⟩
      have s48 := Same.trans sp7 s8
      have hy8 := dp_mono s8 _ hy
      have hx8 := dp_mono s48 _ hx
      refine ⟨rfl, ?_⟩
      generalize decide (V.int d8 = V.int 0) = bb
      clear hy s8 sp7 src7 t7 s6 src6 hpu hdu d80 d81
      refine ⟨fun σ' G => ∃ T : TT.Tx, T.length ≤ 202 ∧ Same H4 G ∧ Src G p2 ∧ σ' = [some (.ref l), some (.ref p), some (.ref m), some (.ref D), some x, some (.ref p2), some y, some (.bl bb), some (.str (tx T)), none, none, none, none], ?_, ?_⟩
      · refine ⟨_, rfl, x, false, t, 0, rfl, hx8, ht, by omega, by omega, fun H9 s9 => ?_⟩
        have l1 := wr_len6 ht 0
        have l2 := wr_len6 hu' 0
        have lS : ∀ n : Nat, n ≤ 900 → n ≤ sizeLine := fun n h => Nat.le_trans h (by decide)
        refine ⟨_, rfl, bb, rfl, ?_⟩
        cases bb with
        | true =>
          refine iteT ?_
          refine ⟨_, rfl, y, false, u, 0, rfl, dp_mono s9 _ hy8, hu', by omega, by omega, fun G s10 => ⟨_, _, rfl, rfl, by rw [tx_len]; exact lS _ (by show 4 + _ ≤ 900; omega), _, _, rfl, rfl, by rw [sapp_len, tx_len, tx_len]; exact lS _ (by show _ + (4 + _) ≤ 900; omega), ?_⟩⟩
          refine ⟨wr t 0 ++ ([32, 60, 61, 32] ++ wr u 0), by rw [List.length_append, List.length_append]; show _ + (4 + _) ≤ 202; omega, Same.trans s48 (Same.trans s9 s10), src_mono (Same.trans s9 s10) src8, ?_⟩
          rw [← tx_app, ← tx_app]
          rfl
        | false =>
          refine iteF ?_
          refine ⟨_, _, rfl, rfl, by rw [tx_len]; exact lS _ (by show _ + 0 ≤ 900; omega), ?_⟩
          refine ⟨wr t 0 ++ [], by rw [List.append_nil]; omega, Same.trans s48 s9, src_mono s9 src8, ?_⟩
          rw [← tx_app]
          rfl
      rintro σ' G ⟨T1, hT1, sG, srcG, rfl⟩
      refine ⟨fun σ' G => ∃ T : TT.Tx, T.length ≤ 202 ∧ Same H4 G ∧ Src G p2 ∧ σ' = [some (.ref l), some (.ref p), some (.ref m), some (.ref D), some x, some (.ref p2), some y, some (.bl bb), some (.str (tx T)), none, none, none, none], ?_, ?_⟩
      · refine ⟨_, rfl, H4, p2, 4, rfl, sG, hp2, srcG, by decide, by decide, fun d9 G9 d90 d91 s9 src9 => ?_⟩
        refine ⟨rfl, _, rfl, ?_⟩
        by_cases c9 : V.int d9 = V.int 0
        · refine iteT' (decide_eq_true c9) ?_
          refine ⟨_, rfl, H4, p2, rfl, s9, hp2, src9, fun T2 G10 hT2 s10 src10 => ?_⟩
          exact ⟨T2, by omega, s10, src10, rfl⟩
        · refine iteF' (decide_eq_false c9) ?_
          exact ⟨T1, hT1, s9, src9, rfl⟩
      clear sG srcG hT1
      rintro σ' G ⟨T2, hT2, sG, srcG, rfl⟩
      refine ⟨_, rfl, _, rfl, T2, bb, rfl, by omega, fun G2 t2 => ⟨true, rfl, iteF ?_⟩⟩
      refine ⟨_, rfl, _, rfl, bb, rfl, T2, !bb, rfl, by omega, fun G3 t3 => ⟨true, rfl, iteF ?_⟩⟩
      have sG3 := Same.trans sG (Same.trans t2 t3)
      have srcG3 := src_mono (Same.trans t2 t3) srcG
      clear sG srcG t2 t3
      refine ⟨_, rfl, H4, p2, 3, rfl, sG3, hp2, srcG3, by decide, by decide, fun dk G4 dk0 dk1 s4' src4' => ?_⟩
      obtain ⟨k, rfl⟩ := Int.eq_ofNat_of_zero_le dk0
      refine ⟨_, _, rfl, rfl, ((1 + k : Nat) : Int), by rw [Int.natCast_add]; rfl, by omega, by omega, ?_⟩
      rw [Int.toNat_natCast]
      refine for_range (fun j σ G => ∃ T : TT.Tx, T.length ≤ 202 + j ∧ Same H4 G ∧ Src G p2 ∧ ∃ v9, σ = [some (.ref l), some (.ref p), some (.ref m), some (.ref D), some x, some (.ref p2), some y, some (.bl bb), some (.str (tx T)), v9, none, none, none]) ⟨T2, hT2, s4', src4', none, rfl⟩ ?_ ?_
      · rintro j σ G hj ⟨T3, hT3, sG, srcG, v9, rfl⟩
        refine ⟨_, rfl, _, rfl, H4, p2, T3, rfl, sG, hp2, srcG, by omega, fun T4 G5 hT4 s5' src5' => ?_⟩
        refine ⟨_, rfl, _, rfl, T4, bb, rfl, by omega, fun G6 t6 => ⟨true, rfl, iteF ?_⟩⟩
        exact ⟨T4, by omega, Same.trans s5' t6, src_mono t6 src5', _, rfl⟩
      clear s4' src4' sG3 srcG3 hT2 T2
      rintro σ G ⟨T3, hT3, sG, srcG, v9, rfl⟩
      refine ⟨(by show 1 ≤ sizeLine; decide), fun a1 ha1 => ?_⟩
      have s1' := NF.Same.new (o := .tup [V.str "f"]) (Same.refl G) ha1
      have h1' := upd_same (H := G) (a := a1) (o := .tup [V.str "f"])
      generalize upd G a1 (.tup [V.str "f"]) = G1 at s1' h1'
      refine ⟨(by show 1 ≤ sizeLine; decide), fun a2 ha2 => ?_⟩
      have s2' := NF.Same.new (o := .lst [V.str "f"]) (Same.refl G1) ha2
      have h2' := upd_same (H := G1) (a := a2) (o := .lst [V.str "f"])
      generalize upd G1 a2 (.lst [V.str "f"]) = G2 at s2' h2'
      refine ⟨(by show 5 ≤ sizeLine; decide), fun a3 ha3 => ?_⟩
      have s3' := NF.Same.new (o := .lst [V.non, .int 4, .ref a1, .ref a2, .bl true]) (Same.refl G2) ha3
      have h3' := upd_same (H := G2) (a := a3) (o := .lst [V.non, .int 4, .ref a1, .ref a2, .bl true])
      generalize upd G2 a3 (.lst [V.non, .int 4, .ref a1, .ref a2, .bl true]) = G3 at s3' h3'
      have k1 := s3' _ _ (s2' _ _ h1')
      have k2 := s3' _ _ h2'
      have sG3 := Same.trans sG (Same.trans s1' (Same.trans s2' s3'))
      refine ⟨a3, rfl, ⟨_, SqL.of h3'⟩, ?_⟩
      refine for_list (K := K) (a := a3) (xs := [V.non, .int 4, .ref a1, .ref a2, .bl true]) (fun i σ G => Same G3 G ∧ ∃ v10, σ = [some (.ref l), some (.ref p), some (.ref m), some (.ref D), some x, some (.ref p2), some y, some (.bl bb), some (.str (tx T3)), v9, v10, none, none]) ⟨Same.refl _, none, rfl⟩ (fun i σ G _ zz => SqL.of (zz.1 _ _ h3')) ?_ ?_
      · rintro i z σ G hz ⟨s, v10, rfl⟩
        obtain ⟨d, hd, hns⟩ : ∃ d, Dp K G z d ∧ ∀ s, d ≠ .str s := by
          match i, hz with
          | 0, hz =>
            obtain rfl := Option.some.inj hz
            exact ⟨_, .non, fun _ e => by cases e⟩
          | 1, hz =>
            obtain rfl := Option.some.inj hz
            exact ⟨_, .int 4, fun _ e => by cases e⟩
          | 2, hz =>
            obtain rfl := Option.some.inj hz
            exact ⟨_, .tup (SqT.of (s _ _ k1)) (.cons (.str _) .nil), fun _ e => by cases e⟩
          | 3, hz =>
            obtain rfl := Option.some.inj hz
            exact ⟨_, .lst (SqL.of (s _ _ k2)) (.cons (.str _) .nil), fun _ e => by cases e⟩
          | 4, hz =>
            obtain rfl := Option.some.inj hz
            exact ⟨_, .bl true, fun _ e => by cases e⟩
        refine ⟨_, rfl, _, rfl, z, bb, rfl, .inr ⟨d, hd, hns, fun q2 G5 s5' hq2 => ?_⟩⟩
        refine ⟨_, rfl, (by show 2 ≤ sizeLine; decide), fun tp htp => ?_⟩
        have s6' := NF.Same.new (o := .tup [V.str "refused", .int (-1)]) (Same.refl G5) htp
        refine ⟨.tuple [.str "refused", .int (-1)], .tuple [.str "refused", .int (-1)], .tup (NF.Same.tup s6' hq2) (.cons (.str _) (.cons (.int _) .nil)), .tup (SqT.of upd_same) (.cons (.str _) (.cons (.int _) .nil)), shaped_ref _, shaped_ref _, _, rfl, iteF' (by rw [eqv_ref]; rfl) ?_⟩
        exact ⟨Same.trans s (Same.trans s5' s6'), _, rfl⟩
      rintro σ G ⟨s, v10, rfl⟩
      have srcp : Src G p := src_mono (Same.trans sG3 s) src4
      refine ⟨_, rfl, wo G p, p, 3, rfl, wo_same', wo_none, srcp, by decide, by decide, fun dk G5 dk0' dk1' s5' src5' => ?_⟩
      obtain ⟨kk, rfl⟩ := Int.eq_ofNat_of_zero_le dk0'
      refine ⟨_, _, rfl, rfl, "~", _, rfl, rfl, mul_ok rfl (by omega), ?_⟩
      rw [mul_t kk (by omega)]
      refine ⟨_, _, rfl, rfl, by rw [tx_len, List.length_replicate]; exact Nat.le_trans (show 59 + kk + 1 ≤ 100 by omega) (by decide), ?_⟩
      have ef : ∀ T : TT.Tx, tx T ++ ("f" : Str) = tx (T ++ [102]) := fun T => by
        rw [← tx_app]
        rfl
      rw [ef]
      refine ⟨_, rfl, _, false, rfl, by rw [List.length_append, List.length_replicate]; show 59 + kk + 1 ≤ 210; omega, fun G6 t6 => ⟨true, rfl, iteF ?_⟩⟩
      refine ⟨"(", 29, rfl, rfl, mul_ok rfl (by omega), ?_⟩
      rw [mul_o]
      refine ⟨_, _, rfl, rfl, by rw [tx_len, List.length_replicate]; exact (by decide : 29 + 1 ≤ sizeLine), ?_⟩
      rw [ef]
      refine ⟨")", 29, rfl, rfl, mul_ok rfl (by omega), ?_⟩
      rw [mul_c]
      refine ⟨_, _, rfl, rfl, by rw [tx_len, tx_len, List.length_append, List.length_replicate, List.length_replicate]; exact (by decide : 29 + 1 + 29 ≤ sizeLine), ?_⟩
      rw [tx_app]
      refine ⟨_, false, rfl, by rw [List.length_append, List.length_append, List.length_replicate, List.length_replicate]; decide, fun G7 t7 => ⟨true, rfl, iteF ?_⟩⟩
      refine ⟨_, rfl, .str (tx []), bb, rfl, .inl ⟨[], rfl, by decide, ?_⟩⟩
      have e0 : ∀ hv, scanG (scN []) true [] 0 [] [false] hv = .inl 0 := fun hv => rfl
      rw [e0]
      intro q2 G8 s8' hq2
      refine ⟨(by show 2 ≤ sizeLine; decide), fun tp htp => ?_⟩
      have s9' := NF.Same.new (o := .tup [V.str "refused", .int 0]) (Same.refl G8) htp
      refine ⟨.tuple [.str "refused", .int 0], .tuple [.str "refused", .int 0], .tup (NF.Same.tup s9' hq2) (.cons (.str _) (.cons (.int _) .nil)), .tup (SqT.of upd_same) (.cons (.str _) (.cons (.int _) .nil)), shaped_ref _, shaped_ref _, ?_⟩
      refine ⟨_, rfl, iteT' (eqv_ref _) ?_⟩
      exact ⟨[102, 32, 117, 110, 100, 101, 114, 32, 103, 32, 38, 32, 102, 32, 111, 118, 101, 114, 32, 103], false, rfl, by decide, fun G9 _ => q G9⟩
end
end K13
set_option Elab.async false
set_option linter.all false
set_option maxRecDepth 100000
set_option maxHeartbeats 4000000
/-! Defs that call themselves: where no call is let. -/
namespace K13
open PySem PySem.Spec PyProof.Rows L2 He NF RZ TT
section
variable {P : Program} {w : World} {K : PySem.W.Frag} {mg : Str → Option Value} {base : Heap} {gs fs : List Str}
theorem no__law_written {f : Addr} {fd : FuncData} (F : FunD K "_law_written" "_law_written" (defArgs s__law_written) (defBody s__law_written) (defScope s__law_written) [] [] f fd) : FnOk P w K mg base CX0 1 f fd ["_law_term_here", "_law_least"] (spLWr 0 K) := by
  have no : ∀ vs H Q E, ¬ (spLWr 0 K) vs H Q E := fun vs H Q E h => by
    obtain ⟨v, l, t, c, _, _, _, hd, _⟩ := h
    have := depth_pos t
    omega
  exact F.ok sc__law_written (fun vs H Q E h => (no _ _ _ _ h).elim) (fun cdv A outer s H vs Q E hr h => (no _ _ _ _ h).elim)
theorem no__law_term {f : Addr} {fd : FuncData} (F : FunD K "_law_term" "_law_term" (defArgs s__law_term) (defBody s__law_term) (defScope s__law_term) [] [] f fd) : FnOk P w K mg base CX0 1 f fd ["_law_source_here", "_law_names", "_law_parts_here"] (spLTerm 0 K) := by
  have no : ∀ vs H Q E, ¬ (spLTerm 0 K) vs H Q E := fun vs H Q E h => by
    obtain ⟨H0, p, L, ns, m, _, _, _, _, _, _, _, _, hn, _⟩ := h
    exact absurd hn (by decide)
  exact F.ok sc__law_term (fun vs H Q E h => (no _ _ _ _ h).elim) (fun cdv A outer s H vs Q E hr h => (no _ _ _ _ h).elim)
theorem no__law_parts {f : Addr} {fd : FuncData} (F : FunD K "_law_parts" "_law_parts" (defArgs s__law_parts) (defBody s__law_parts) (defScope s__law_parts) [] [] f fd) : FnOk P w K mg base CX0 1 f fd ["_law_term_here"] (spLParts 0 K) := by
  have no : ∀ vs H Q E, ¬ (spLParts 0 K) vs H Q E := fun vs H Q E h => by
    obtain ⟨v, t, _, _, _, hd, _⟩ := h
    have := depth_pos t
    omega
  exact F.ok sc__law_parts (fun vs H Q E h => (no _ _ _ _ h).elim) (fun cdv A outer s H vs Q E hr h => (no _ _ _ _ h).elim)
end
end K13
set_option Elab.async false
set_option linter.all false
set_option maxRecDepth 100000
set_option maxHeartbeats 4000000
namespace K13
open PySem PySem.Spec PyProof.Rows L2 He NF RZ NT
theorem all_ok {P : Program} {w : World} {K : PySem.W.Frag} {h : Heap} {mg : Str → Option Value} {f : Addr} (X : K.In h) (G : h.Ns mainGlobals mg) (hfa : mg ("law" : Str) = some (.ref f)) (c0 : SaysU exB fn ts w K) :
    ∃ fd : FuncData, (∀ (s : Shared) (v : Value), BindsTo s fd ⟨[v], []⟩ [("_law_script", v)]) ∧ ∀ base : Heap, K.In base → base.Ns mainGlobals mg → FnOk P w K mg base CX0 213 f fd ["_law_script"] (spLaw K) := by
  have c := c0.p
  have ht : ∀ f ∈ exL, f K = true := fun f hf => List.all_eq_true.mp c.truth f hf
  have b_nam : (namB gs FS) K = true := ht _ (List.mem_of_getElem? (i := 0) rfl)
  have b_int_MOST_PARTS : (intB "MOST_PARTS" 60) K = true := ht _ (List.mem_of_getElem? (i := 1) rfl)
  have b_int_LONGEST_NAME : (intB "LONGEST_NAME" 3) K = true := ht _ (List.mem_of_getElem? (i := 2) rfl)
  have b_str_LETTERS : (strB "LETTERS" "abcdefghijklmnopqrstuvwxyz") K = true := ht _ (List.mem_of_getElem? (i := 3) rfl)
  have b_str_FIGURES : (strB "FIGURES" "0123456789") K = true := ht _ (List.mem_of_getElem? (i := 4) rfl)
  have b_str_BELOW : (strB "BELOW" "<=") K = true := ht _ (List.mem_of_getElem? (i := 5) rfl)
  have b_exc_BadText : (excKB "BadText" "place") K = true := ht _ (List.mem_of_getElem? (i := 6) rfl)
  have b_exc_TooMany : (excKB "TooMany" "word") K = true := ht _ (List.mem_of_getElem? (i := 7) rfl)
  have b_kit : (kitPB kits) K = true := ht _ (List.mem_of_getElem? (i := 8) rfl)
  have b_exm : (exmPB exms) K = true := ht _ (List.mem_of_getElem? (i := 9) rfl)
  have b_clsS : (clsB "Scanner") K = true := ht _ (List.mem_of_getElem? (i := 10) rfl)
  have b_fldS : (fldsB "Scanner" ["text", "at", "pieces", "residues", "halved"]) K = true := ht _ (List.mem_of_getElem? (i := 11) rfl)
  have b_mk_Scanner : (mkB "Scanner") K = true := ht _ (List.mem_of_getElem? (i := 12) rfl)
  have b_met_take : (metB "Scanner" "take") K = true := ht _ (List.mem_of_getElem? (i := 13) rfl)
  have b_met_sign_among : (metB "Scanner" "sign_among") K = true := ht _ (List.mem_of_getElem? (i := 14) rfl)
  have b_met_take_shift : (metB "Scanner" "take_shift") K = true := ht _ (List.mem_of_getElem? (i := 15) rfl)
  have b_met_take_name : (metB "Scanner" "take_name") K = true := ht _ (List.mem_of_getElem? (i := 16) rfl)
  have b_met_joints : (metB "Scanner" "joints") K = true := ht _ (List.mem_of_getElem? (i := 17) rfl)
  have b_met_note_joint : (metB "Scanner" "note_joint") K = true := ht _ (List.mem_of_getElem? (i := 18) rfl)
  have b_met_take_joint : (metB "Scanner" "take_joint") K = true := ht _ (List.mem_of_getElem? (i := 19) rfl)
  have b_met_take_operand : (metB "Scanner" "take_operand") K = true := ht _ (List.mem_of_getElem? (i := 20) rfl)
  have b_met_scan : (metB "Scanner" "scan") K = true := ht _ (List.mem_of_getElem? (i := 21) rfl)
  have b_vWO : (fun K => valsB K (ga K "WORDS") woT) K = true := ht _ (List.mem_of_getElem? (i := 22) rfl)
  have b_vBI : (fun K => valsB K (ga K "BINDING") biT) K = true := ht _ (List.mem_of_getElem? (i := 23) rfl)
  have b_tAL : (tupB (fun K => ga K "ALWAYS") [.str "*", .str "&", .str "|"]) K = true := ht _ (List.mem_of_getElem? (i := 24) rfl)
  have b_tRS : (tupB (fun K => ga K "RESIDUES") [.str "under", .str "over"]) K = true := ht _ (List.mem_of_getElem? (i := 25) rfl)
  have T : Txt K mg gs FS := nam_ok b_nam X G
  obtain ⟨tok_MOST_PARTS, h_MOST_PARTS⟩ := int_ok b_int_MOST_PARTS X G
  obtain ⟨tok_LONGEST_NAME, h_LONGEST_NAME⟩ := int_ok b_int_LONGEST_NAME X G
  obtain ⟨tok_LETTERS, h_LETTERS⟩ := str_ok b_str_LETTERS X G
  obtain ⟨tok_FIGURES, h_FIGURES⟩ := str_ok b_str_FIGURES X G
  obtain ⟨tok_BELOW, h_BELOW⟩ := str_ok b_str_BELOW X G
  have x_BadText := excK_ok b_exc_BadText
  have x_TooMany := excK_ok b_exc_TooMany
  have hcs : ScC K (ga K "Scanner") := ⟨cls_ok b_clsS, flds_ok b_fldS (by decide +kernel), flds_ok b_fldS (by decide +kernel), flds_ok b_fldS (by decide +kernel), flds_ok b_fldS (by decide +kernel), flds_ok b_fldS (by decide +kernel)⟩
  have D_WO : KTab K w (ga K "WORDS") woV := ktab_of (kvs := woT) (c0.tab 0) b_vWO
  have D_BI : KTab K w (ga K "BINDING") biV := ktab_of (kvs := biT) (c0.tab 1) b_vBI
  have dAL := tup_ok b_tAL (by decide)
  have dRS := tup_ok b_tRS (by decide)
  obtain ⟨f0, F0⟩ := c.def_ 0 (d := dM "Scanner" "take" "Scanner.take" s_Scanner_take []) rfl
  obtain ⟨f1, F1⟩ := c.def_ 1 (d := dM "Scanner" "sign_among" "Scanner.sign_among" s_Scanner_sign_among []) rfl
  obtain ⟨f2, F2⟩ := c.def_ 2 (d := dM "Scanner" "take_shift" "Scanner.take_shift" s_Scanner_take_shift []) rfl
  obtain ⟨f3, F3⟩ := c.def_ 3 (d := dM "Scanner" "take_name" "Scanner.take_name" s_Scanner_take_name []) rfl
  obtain ⟨f4, F4⟩ := c.def_ 4 (d := dG "shared_start" s_shared_start) rfl
  obtain ⟨f5, F5⟩ := c.def_ 5 (d := dM "Scanner" "joints" "Scanner.joints" s_Scanner_joints []) rfl
  obtain ⟨f6, F6⟩ := c.def_ 6 (d := dM "Scanner" "note_joint" "Scanner.note_joint" s_Scanner_note_joint []) rfl
  obtain ⟨f7, F7⟩ := c.def_ 7 (d := dM "Scanner" "take_joint" "Scanner.take_joint" s_Scanner_take_joint []) rfl
  obtain ⟨f8, F8⟩ := c.def_ 8 (d := dM "Scanner" "take_operand" "Scanner.take_operand" s_Scanner_take_operand []) rfl
  obtain ⟨f9, F9⟩ := c.def_ 9 (d := dM "Scanner" "scan" "Scanner.scan" s_Scanner_scan []) rfl
  obtain ⟨f10, F10⟩ := c.def_ 10 (d := dM "Scanner" "__init__" "Scanner.__init__" s_Scanner_init []) rfl
  obtain ⟨f11, F11⟩ := c.def_ 11 (d := dG "pieces_of" s_pieces_of) rfl
  obtain ⟨f12, F12⟩ := c.def_ 12 (d := dG "leaf_of" s_leaf_of) rfl
  obtain ⟨f13, F13⟩ := c.def_ 13 (d := dG "join" s_join) rfl
  obtain ⟨f14, F14⟩ := c.def_ 14 (d := dG "join_closer" s_join_closer) rfl
  obtain ⟨f15, F15⟩ := c.def_ 15 (d := dG "check_parts" s_check_parts) rfl
  obtain ⟨f16, F16⟩ := c.def_ 16 (d := dG "term_of" s_term_of) rfl
  obtain ⟨f17, F17⟩ := c.def_ 17 (d := dG "read_term" s_read_term) rfl
  obtain ⟨f18, F18⟩ := c.def_ 18 (d := dG "read_saying" s_read_saying) rfl
  obtain ⟨f19, F19⟩ := c.def_ 19 (d := dG "_law_pick" s__law_pick) rfl
  obtain ⟨f20, F20⟩ := c.def_ 20 (d := dG "_law_source" s__law_source) rfl
  obtain ⟨f21, F21⟩ := c.def_ 21 (d := dG "_law_is_integer" s__law_is_integer) rfl
  obtain ⟨f22, F22⟩ := c.def_ 22 (d := dG "_law_rank" s__law_rank) rfl
  obtain ⟨f23, F23⟩ := c.def_ 23 (d := dG "_law_written" s__law_written) rfl
  obtain ⟨f24, F24⟩ := c.def_ 24 (d := dG "_law_term" s__law_term) rfl
  obtain ⟨f25, F25⟩ := c.def_ 25 (d := dG "_law_fold" s__law_fold) rfl
  obtain ⟨f26, F26⟩ := c.def_ 26 (d := dG "_law_take" s__law_take) rfl
  obtain ⟨f27, F27⟩ := c.def_ 27 (d := dG "_law_operand" s__law_operand) rfl
  obtain ⟨f28, F28⟩ := c.def_ 28 (d := dG "_law_link" s__law_link) rfl
  obtain ⟨f29, F29⟩ := c.def_ 29 (d := dG "_law_parsed" s__law_parsed) rfl
  obtain ⟨f30, F30⟩ := c.def_ 30 (d := dG "_law_parts" s__law_parts) rfl
  obtain ⟨f31, F31⟩ := c.def_ 31 (d := dG "_law_changed" s__law_changed) rfl
  obtain ⟨f32, F32⟩ := c.def_ 32 (d := dG "_law_pieces" s__law_pieces) rfl
  obtain ⟨f33, F33⟩ := c.def_ 33 (d := dG "_law_seen" s__law_seen) rfl
  obtain ⟨f34, F34⟩ := c.def_ 34 (d := dG "_law_right" s__law_right) rfl
  obtain ⟨f35, F35⟩ := c.def_ 35 (d := dG "_law_words_menu" s__law_words_menu) rfl
  obtain ⟨f36, F36⟩ := c.def_ 36 (d := dG "law" s_law) rfl
  obtain ⟨f37, F37⟩ := c.def_ 37 (d := dM "BadText" "__init__" "BadText.__init__" s_BadText_init []) rfl
  obtain ⟨f38, F38⟩ := c.def_ 38 (d := dM "TooMany" "__init__" "TooMany.__init__" s_TooMany_init []) rfl
  have e := hfa.symm.trans (T.gl "law" (by decide +kernel))
  cases e
  have bl := FunD.bindsA (ps := ["_law_script"]) F36 fun _ _ _ _ _ _ us hl => match us, hl with | [_], _ => rfl
  refine ⟨f36, fun s v => bl s [v] rfl, fun base _ _ => ?_⟩
  have m_BadText : ExcI P w K mg base "BadText" "place" := x_BadText.excI T (by decide +kernel) F37 rfl ⟨rfl, rfl, rfl, by decide +kernel, rfl, by decide +kernel, by decide +kernel⟩ (Or.inl rfl) (Or.inl rfl) (by decide) (by decide) (F37.bindsN fun _ _ _ _ _ _ us hl => match us, hl with | [_, _], _ => rfl)
  have m_TooMany : ExcI P w K mg base "TooMany" "word" := x_TooMany.excI T (by decide +kernel) F38 rfl ⟨rfl, rfl, rfl, by decide +kernel, rfl, by decide +kernel, by decide +kernel⟩ (Or.inl rfl) (Or.inl rfl) (by decide) (by decide) (F38.bindsN fun _ _ _ _ _ _ us hl => match us, hl with | [_, _], _ => rfl)
  have o_take : MetC P w K mg base 1 (ga K "Scanner") "take" (spTake K (ga K "Scanner")) := ⟨hcs.cl, _, f0, _, met_ok b_met_take, (ok_Scanner_take F0 T hcs), (F0.bindsN fun _ _ _ _ _ _ us hl => match us, hl with | [_, _], _ => rfl)⟩
  have o_sign_among : MetC P w K mg base 1 (ga K "Scanner") "sign_among" (spSign K (ga K "Scanner")) := ⟨hcs.cl, _, f1, _, met_ok b_met_sign_among, (ok_Scanner_sign_among F1 T hcs), (F1.bindsN fun _ _ _ _ _ _ us hl => match us, hl with | [_, _], _ => rfl)⟩
  have o_take_shift : MetX P w K mg base 3 (ga K "Scanner") "take_shift" (spTkShift K (ga K "Scanner")) := ⟨hcs.cl, _, f2, _, met_ok b_met_take_shift, (ok_Scanner_take_shift F2 T hcs h_FIGURES m_BadText o_take), (F2.bindsN fun _ _ _ _ _ _ us hl => match us, hl with | [_], _ => rfl)⟩
  have o_take_name : MetC P w K mg base 2 (ga K "Scanner") "take_name" (spTkName K (ga K "Scanner")) := ⟨hcs.cl, _, f3, _, met_ok b_met_take_name, (ok_Scanner_take_name F3 T hcs h_LONGEST_NAME h_LETTERS h_FIGURES o_take), (F3.bindsN fun _ _ _ _ _ _ us hl => match us, hl with | [_], _ => rfl)⟩
  have c_shared_start : Cal P w K mg base 1 "shared_start" (spShared K) := Cal.mk' F4 (ok_shared_start F4 T) (T.gl _ (by decide +kernel)) (F4.bindsN fun _ _ _ _ _ _ us hl => match us, hl with | [_, _, _], _ => rfl)
  have o_joints : MetC P w K mg base 1 (ga K "Scanner") "joints" (spJoints K (ga K "Scanner")) := ⟨hcs.cl, _, f5, _, met_ok b_met_joints, (ok_Scanner_joints F5 T hcs (T.gl "ALWAYS" (by decide +kernel)) (T.gl "RESIDUES" (by decide +kernel)) dAL dRS h_BELOW), (F5.bindsN fun _ _ _ _ _ _ us hl => match us, hl with | [_], _ => rfl)⟩
  have o_note_joint : MetC P w K mg base 1 (ga K "Scanner") "note_joint" (spNote K (ga K "Scanner")) := ⟨hcs.cl, _, f6, _, met_ok b_met_note_joint, (ok_Scanner_note_joint F6 T hcs (T.gl "RESIDUES" (by decide +kernel)) dRS h_BELOW), (F6.bindsN fun _ _ _ _ _ _ us hl => match us, hl with | [_, _], _ => rfl)⟩
  have o_take_joint : MetX P w K mg base 3 (ga K "Scanner") "take_joint" (spTkJoint K (ga K "Scanner")) := ⟨hcs.cl, _, f7, _, met_ok b_met_take_joint, (ok_Scanner_take_joint F7 T hcs m_BadText c_shared_start o_joints o_note_joint o_take), (F7.bindsN fun _ _ _ _ _ _ us hl => match us, hl with | [_], _ => rfl)⟩
  have o_take_operand : MetX P w K mg base 4 (ga K "Scanner") "take_operand" (spOperand K (ga K "Scanner")) := ⟨hcs.cl, _, f8, _, met_ok b_met_take_operand, (ok_Scanner_take_operand F8 T hcs h_LETTERS m_BadText o_take o_sign_among o_take_shift o_take_name), (F8.bindsN fun _ _ _ _ _ _ us hl => match us, hl with | [_], _ => rfl)⟩
  have o_scan : MetX P w K mg base 5 (ga K "Scanner") "scan" (spScan K (ga K "Scanner")) := ⟨hcs.cl, _, f9, _, met_ok b_met_scan, (ok_Scanner_scan F9 T hcs m_BadText o_take_operand o_take o_take_joint), (F9.bindsN fun _ _ _ _ _ _ us hl => match us, hl with | [_], _ => rfl)⟩
  have oi_Scanner : FnOk P w K mg base CX0 1 _ f10 ["self", "text", "saying"] (spScInit K (ga K "Scanner")) := (ok_Scanner_init F10 T hcs)
  have m_Scanner2 : Mak P w K mg base 1 0 "Scanner" (ga K "Scanner") (spScInit K (ga K "Scanner")) [] := ⟨_, _, _, _, mk_ok b_mk_Scanner, oi_Scanner, T.gl "Scanner" (by decide +kernel), (F10.bindsN fun _ _ _ _ _ _ us hl => match us, hl with | [_, _, _], _ => rfl), .nil⟩
  have c_pieces_of : CalX P w K mg base 6 "pieces_of" (spPieces K) := ⟨_, f11, _, (ok_pieces_of F11 T hcs m_Scanner2 o_scan), T.gl _ (by decide +kernel), F11.kp, (F11.bindsN fun _ _ _ _ _ _ us hl => match us, hl with | [_, _], _ => rfl)⟩
  have c_leaf_of : Cal P w K mg base 1 "leaf_of" (spLeaf K) := Cal.mk' F12 (ok_leaf_of F12 T) (T.gl _ (by decide +kernel)) (F12.bindsN fun _ _ _ _ _ _ us hl => match us, hl with | [_], _ => rfl)
  have c_join : Cal P w K mg base 1 "join" (spJoin K) := Cal.mk' F13 (ok_join F13 T (T.gl "WORDS" (by decide +kernel)) D_WO) (T.gl _ (by decide +kernel)) (F13.bindsN fun _ _ _ _ _ _ us hl => match us, hl with | [_, _], _ => rfl)
  have c_join_closer : Cal P w K mg base 2 "join_closer" (spCloser K) := Cal.mk' F14 (ok_join_closer F14 T (T.gl "BINDING" (by decide +kernel)) D_BI c_join) (T.gl _ (by decide +kernel)) (F14.bindsN fun _ _ _ _ _ _ us hl => match us, hl with | [_, _, _], _ => rfl)
  have c_check_parts : CalX P w K mg base 3 "check_parts" (spChkP K) := ⟨_, f15, _, (ok_check_parts F15 T h_MOST_PARTS m_TooMany), T.gl _ (by decide +kernel), F15.kp, (F15.bindsN fun _ _ _ _ _ _ us hl => match us, hl with | [_], _ => rfl)⟩
  have c_term_of : CalX P w K mg base 4 "term_of" (spTermOf K) := ⟨_, f16, _, (ok_term_of F16 T (T.gl "BINDING" (by decide +kernel)) D_BI c_check_parts c_join_closer c_leaf_of), T.gl _ (by decide +kernel), F16.kp, (F16.bindsN fun _ _ _ _ _ _ us hl => match us, hl with | [_], _ => rfl)⟩
  have c_read_term : CalX P w K mg base 7 "read_term" (spReadT K) := ⟨_, f17, _, (ok_read_term F17 T c_pieces_of c_term_of), T.gl _ (by decide +kernel), F17.kp, (F17.bindsN fun _ _ _ _ _ _ us hl => match us, hl with | [_], _ => rfl)⟩
  have c_read_saying : CalX P w K mg base 7 "read_saying" (spReadS K) := ⟨_, f18, _, (ok_read_saying F18 T h_BELOW c_pieces_of c_term_of), T.gl _ (by decide +kernel), F18.kp, (F18.bindsN fun _ _ _ _ _ _ us hl => match us, hl with | [_], _ => rfl)⟩
  have c__law_pick : Cal P w K mg base 1 "_law_pick" spPick := Cal.mk' F19 (ok_pick F19 T (by decide +kernel)) (T.gl _ (by decide +kernel)) (F19.bindsN fun _ _ _ _ _ _ us hl => match us, hl with | [_, _], _ => rfl)
  have c__law_source : Cal P w K mg base 1 "_law_source" (spSource K) := Cal.mk' F20 (ok_source F20 T (by decide +kernel) (by decide +kernel) (by decide +kernel)) (T.gl _ (by decide +kernel)) (F20.bindsN fun _ _ _ _ _ _ us hl => match us, hl with | [_, _], _ => rfl)
  have c__law_is_integer : Cal P w K mg base 1 "_law_is_integer" spIsInt := Cal.mk' F21 (ok__law_is_integer F21 T) (T.gl _ (by decide +kernel)) (F21.bindsN fun _ _ _ _ _ _ us hl => match us, hl with | [_], _ => rfl)
  have c__law_rank : Cal P w K mg base 1 "_law_rank" (spLRank K) := Cal.mk' F22 (ok__law_rank F22 T) (T.gl _ (by decide +kernel)) (F22.bindsN fun _ _ _ _ _ _ us hl => match us, hl with | [_], _ => rfl)
  have r__law_written : ∀ n, Cal P w K mg base (n + 1) "_law_written" (spLWr n K) := fun n => by
    induction n with
    | zero => exact Cal.mk' F23 (no__law_written F23) (T.gl _ (by decide +kernel)) (F23.bindsN fun _ _ _ _ _ _ us hl => match us, hl with | [_, _], _ => rfl)
    | succ n ih => exact Cal.mk' F23 (ok__law_written F23 T c__law_rank ih) (T.gl _ (by decide +kernel)) (F23.bindsN fun _ _ _ _ _ _ us hl => match us, hl with | [_, _], _ => rfl)
  have c__law_written := r__law_written 40
  have r__law_term : ∀ n, Cal P w K mg base (n + 1) "_law_term" (spLTerm n K) := fun n => by
    induction n with
    | zero => exact Cal.mk' F24 (no__law_term F24) (T.gl _ (by decide +kernel)) (F24.bindsN fun _ _ _ _ _ _ us hl => match us, hl with | [_, _, _], _ => rfl)
    | succ n ih => exact Cal.mk' F24 (ok__law_term F24 T c__law_pick ih) (T.gl _ (by decide +kernel)) (F24.bindsN fun _ _ _ _ _ _ us hl => match us, hl with | [_, _, _], _ => rfl)
  have c__law_term := r__law_term 40
  have c__law_fold : Cal P w K mg base 1 "_law_fold" (spFold K) := Cal.mk' F25 (ok__law_fold F25 T) (T.gl _ (by decide +kernel)) (F25.bindsN fun _ _ _ _ _ _ us hl => match us, hl with | [_, _, _], _ => rfl)
  have c__law_take : Cal P w K mg base 1 "_law_take" (spTakeL K) := Cal.mk' F26 (ok__law_take F26 T) (T.gl _ (by decide +kernel)) (F26.bindsN fun _ _ _ _ _ _ us hl => match us, hl with | [_, _], _ => rfl)
  have c__law_operand : Cal P w K mg base 2 "_law_operand" (spLOper K) := Cal.mk' F27 (ok__law_operand F27 T c__law_take) (T.gl _ (by decide +kernel)) (F27.bindsN fun _ _ _ _ _ _ us hl => match us, hl with | [_, _, _], _ => rfl)
  have c__law_link : Cal P w K mg base 1 "_law_link" (spLink K) := Cal.mk' F28 (ok__law_link F28 T) (T.gl _ (by decide +kernel)) (F28.bindsN fun _ _ _ _ _ _ us hl => match us, hl with | [_, _, _, _], _ => rfl)
  have c__law_parsed : Cal P w K mg base 3 "_law_parsed" (spParsed K) := Cal.mk' F29 (ok__law_parsed F29 T c__law_fold c__law_take c__law_operand c__law_link) (T.gl _ (by decide +kernel)) (F29.bindsN fun _ _ _ _ _ _ us hl => match us, hl with | [_, _], _ => rfl)
  have r__law_parts : ∀ n, Cal P w K mg base (n + 1) "_law_parts" (spLParts n K) := fun n => by
    induction n with
    | zero => exact Cal.mk' F30 (no__law_parts F30) (T.gl _ (by decide +kernel)) (F30.bindsN fun _ _ _ _ _ _ us hl => match us, hl with | [_], _ => rfl)
    | succ n ih => exact Cal.mk' F30 (ok__law_parts F30 T ih) (T.gl _ (by decide +kernel)) (F30.bindsN fun _ _ _ _ _ _ us hl => match us, hl with | [_], _ => rfl)
  have c__law_parts := r__law_parts 210
  have c__law_changed : Cal P w K mg base 2 "_law_changed" (spChg K) := Cal.mk' F31 (ok__law_changed F31 T c__law_pick) (T.gl _ (by decide +kernel)) (F31.bindsN fun _ _ _ _ _ _ us hl => match us, hl with | [_, _], _ => rfl)
  have c__law_pieces : Cal P w K mg base 2 "_law_pieces" (spPcs K) := Cal.mk' F32 (ok__law_pieces F32 T c__law_pick) (T.gl _ (by decide +kernel)) (F32.bindsN fun _ _ _ _ _ _ us hl => match us, hl with | [_], _ => rfl)
  have c__law_seen : Cal P w K mg base 8 "_law_seen" (spSeen K) := Cal.mk' F33 (ok__law_seen F33 T ⟨by decide +kernel, by decide +kernel⟩ m_BadText x_BadText.xf x_BadText.no m_TooMany x_TooMany.xf x_TooMany.no (exmP_ok b_exm (by decide +kernel)) (exmP_ok b_exm (by decide +kernel)) (exmP_ok b_exm (by decide +kernel)) x_BadText.xc (kitP_ok b_kit (by decide +kernel)) (kitP_ok b_kit (by decide +kernel)) c_read_term c_read_saying) (T.gl _ (by decide +kernel)) (F33.bindsN fun _ _ _ _ _ _ us hl => match us, hl with | [_, _], _ => rfl)
  have c__law_right : Cal P w K mg base 212 "_law_right" (spRight K) := Cal.mk' F34 (ok__law_right F34 T c__law_parsed c__law_seen c__law_is_integer c__law_parts) (T.gl _ (by decide +kernel)) (F34.bindsN fun _ _ _ _ _ _ us hl => match us, hl with | [_, _], _ => rfl)
  have c__law_words_menu : Cal P w K mg base 1 "_law_words_menu" (spMenu K) := Cal.mk' F35 (ok__law_words_menu F35 T) (T.gl _ (by decide +kernel)) (F35.bindsN fun _ _ _ _ _ _ us hl => match us, hl with | [], _ => rfl)
  exact ok_law F36 T c__law_source c__law_pick c__law_words_menu c__law_term c__law_written c__law_pieces c__law_changed c__law_seen c__law_right
end K13
set_option Elab.async false
set_option linter.all false
set_option maxRecDepth 100000
set_option maxHeartbeats 4000000
open PySem PySem.W PySem.Calls PyProof.Rows
theorem PySem.Challenge.cw_needforth_k13_whole_bad_term_texts_holds : PySem.Challenge.rw_needforth_k13_whole_bad_term_texts.Holds := by
  w_on; o_law
  refine HandSHeadRun.head_any (r := OpenLaw.row PySem.Challenge.rw_needforth_k13_whole_bad_term_texts) (q := view (OpenLaw.row PySem.Challenge.rw_needforth_k13_whole_bad_term_texts).prog [45]) (H := K13.hk) (ob := K13.ob) (M := 12000) (loose := K13.loose) (d := HandSHeadRun.topDef (OpenLaw.row PySem.Challenge.rw_needforth_k13_whole_bad_term_texts).prog 45) (kwd := []) K13.ob_eq
    (by kernel_rfl) (fun s => by kernel_rfl) K13.run (by kernel_rfl) (by kernel_rfl) (by kernel_rfl) (by rfl) (by first | assumption | decide +kernel) (by decide +kernel) ⟨rfl, rfl, rfl, rfl, rfl, by decide +kernel⟩ ?hw ?hc
  case hw => w_witness2
  case hc =>
    refine NF.walk_ofEB (l := PySem.Challenge.rw_needforth_k13_whole_bad_term_texts) (n := 63) (k := 213) (x := "_law_script") (CX := L2.CX0) rfl (by decide) (by kernel_rfl) ⟨rfl, by decide, by decide⟩ ?F (fun _ _ _ _ z => z)
    intro w mg fa h Y G hmg0
    obtain ⟨K, KX, c⟩ := Y
    have hmg : mg ("law" : PySem.Str) = some (.ref fa) := by
      have e : (HandSHeadRun.topDef (OpenLaw.row PySem.Challenge.rw_needforth_k13_whole_bad_term_texts).prog 45).name = ("law" : PySem.Str) := by kernel_rfl
      rw [← e]
      exact hmg0
    obtain ⟨fd, hb, hF⟩ := K13.all_ok (P := (PySem.Challenge.rw_needforth_k13_whole_bad_term_texts).prog) (w := w) KX G hmg c
    exact ⟨K, fd, K13.spLaw K, KX, hb, fun H a ns hl hbits _ hS => ⟨a, ns, rfl, hS, hl, hbits, fun _ => rfl⟩, hF⟩
