import PyProof.Rows.All
import Wide.All
import OpenK.AllK
import Wide.FinOn
import PyProof.EqAt
import PyProof.EqKinds
import PyProof.TupleCall
import KE.KStateDown
import KE.KIsAll
import KE.KTryMore
import KE.KFromBytes
import HandS.ForMost
import HandS.ForExc
import HandS.IsInst
import HandS.Flow
import HandS.WideBits
import HandS.ExcInit
import HandS.ExcIs
import HandS.Head0
import HandS.Head1
import HandS.Head2
import HandS.HeadEnd
import HandS.HeadHook1
import HandS.HeadHook2
import HandS.ExcField
import HandS.ExcValue
import KE.KExcIs
import HandS.EndBits
import HandS.TupAny
import HandS.Zip
import HandS.TupMul
import HandS.Gcd
import HandS.Property
import HandS.Conv
import KE.KAssignIn
import HandS.Star
import HandS.WordsList
import PyProof.InstNe
import HandS.Head3
import OpenK.KMeth
import PySem.Challenge.RW_needforth_k29_whole_webs_read
import HandS.Walk
import HandS.Call
import PyProof.StrBlock2
import KE.IntTextLaws
import KE.KIntText
import PyProof.Rows.StrIntSpec
import HandS.SortKw
import KE.GoesEnumKw
import PyProof.Rows.Range3
import HandS.Small
import HandS.OwnEq
import HandS.Text
import PyProof.StrLaws
import HandS.FStr
import HandS.RaiseMore
import HandS.TryMany
set_option Elab.async false
set_option linter.all false
set_option maxRecDepth 100000
set_option maxHeartbeats 4000000
/-! Facts of the top as one truth of the written part, and the head that hands them on. -/
namespace NF
open PySem PySem.Spec PyProof.Rows L2 He
def obsM (ex : PySem.W.Frag → Bool) (fn : List DefD) (K : PySem.W.Frag) : AlD := (ex K && fn.all fun d => d.ok K, fn.map fun d => fnW K d.at_)
def SaysM (ex : PySem.W.Frag → Bool) (fn : List DefD) (K : PySem.W.Frag) : Prop := obsM ex fn K = valD fn
def obsMG (n : Nat) (ex : PySem.W.Frag → Bool) (fn : List DefD) (g : Addr → Option Obj) : AlD := obsM ex fn (frG g (asD g n))
def hookM (n : Nat) (ex : PySem.W.Frag → Bool) (fn : List DefD) : PySem.W.Hook where
  α := AlD
  obs := fun s => obsMG n ex fn s.heap.get?
  val := fun _ => valD fn
  says := fun _ h => ∃ K : PySem.W.Frag, K.In h ∧ SaysM ex fn K
  of := fun _ _ e => ⟨_, frG_in, e⟩
  keeps := fun _ _ _ ⟨K, hK, c⟩ k => ⟨K, PySem.W.Frag.In.keeps hK k, c⟩
theorem obsMG_eq {n : Nat} {ex : PySem.W.Frag → Bool} {fn : List DefD} {g : Addr → Option Obj} {s : Shared} (h : ∀ a, g a = s.heap.get? a) : obsMG n ex fn g = (hookM n ex fn).obs s := by
  have e : g = s.heap.get? := funext h
  rw [e] <;> rfl
section
variable {ex : PySem.W.Frag → Bool} {fn : List DefD} {K : PySem.W.Frag}
theorem SaysM.truth (c : SaysM ex fn K) : ex K = true :=
  (ba (show (ex K && fn.all fun d => d.ok K) = true from congrArg (fun z : AlD => z.1) c)).1
theorem SaysM.def_ (c : SaysM ex fn K) (i : Nat) {d : DefD} (h : fn[i]? = some d := by rfl) : ∃ fd, FunD K d.name d.qual d.params d.body d.scope (d.dvs K) (d.kws K) (fAd K d.at_) fd := by
  have c2 := (ba (show (ex K && fn.all fun d => d.ok K) = true from congrArg (fun z : AlD => z.1) c)).2
  have e : fn.map (fun d => fnW K d.at_) = fn.map DefD.val := congrArg (fun z : AlD => z.2) c
  have e2 : (fn.map fun d => fnW K d.at_)[i]? = (fn.map DefD.val)[i]? := by rw [e]
  rw [List.getElem?_map, List.getElem?_map, h] at e2
  exact DefD.funD (Option.some.inj e2) (List.all_eq_true.mp c2 d (List.mem_of_getElem? h))
end
/-! ### an exception class of the program's own, over ValueError, by truths of the written part -/
/-- the class's own object -/
def exObjB (K : PySem.W.Frag) (C : Addr) : Bool := match K.lookup C with
  | some ⟨.type t, _, .cls cd, sl⟩ => t == "type" && (match cd.mro with
    | .ref C' :: bm => C' == C && PySem.HandSPX.refsVE bm
    | _ => false) && (cd.hasDict && !cd.hasDel) && (match sl.toList with
    | [_, _, _, _, some (.builtin n), _] => n == "ValueError.__new__"
    | _ => false)
  | _ => false
theorem exObjB_ok {K : PySem.W.Frag} {C : Addr} (h : exObjB K C = true) :
    ∃ nm q N bs bm sn sub ab col dd k0 k1 k2 k3 k5, K.lookup C = some (excClassObj nm q C N bs bm true sn sub ab col dd k0 k1 k2 k3 k5 "ValueError.__new__") ∧ PySem.HandSPX.refsVE bm = true := by
  unfold exObjB at h
  split at h
  · rename_i t dd cd sl hl
    obtain ⟨h, h4⟩ := ba h
    obtain ⟨h, h3⟩ := ba h
    obtain ⟨h1, h2⟩ := ba h
    split at h2
    · rename_i C' bm hm
      obtain ⟨h5, h6⟩ := ba h2
      split at h4
      · rename_i k0 k1 k2 k3 n k5 hs
        obtain ⟨h7, h8⟩ := ba h3
        have e1 : t = "type" := eq_of_beq h1
        have e5 : C' = C := eq_of_beq h5
        have e9 : n = "ValueError.__new__" := eq_of_beq h4
        subst e1 e5 e9
        obtain ⟨nm, bs, mro, N, q, hd, sn, sub, ab, col, hdel⟩ := cd
        dsimp only at hm h7 h8
        subst hm h7
        have hdel' : hdel = false := by
          cases hdel with
          | false => rfl
          | true => cases h8
        subst hdel'
        have hsl : sl = #[k0, k1, k2, k3, some (.builtin "ValueError.__new__"), k5] := by
          have := congrArg List.toArray hs
          simpa using this
        subst hsl
        exact ⟨nm, q, N, bs, bm, sn, sub, ab, col, dd, k0, k1, k2, k3, k5, hl, h6⟩
      · cases h4
    · cases h2
  · cases h
/-- all that making one, storing to it and raising it ask of the class -/
def oexB (K : PySem.W.Frag) (C : Addr) : Bool :=
  exObjB K C && eqO (PySem.W.findIn K (.ref C) "__setattr__") (some (some (.builtin "object.__setattr__"))) && decide (PySem.W.subIn K (.ref C) (.type "BaseException") = some true) &&
    decide (PySem.W.typeIn K (.ref C) = some (.type "type")) && PySem.W.keepIn K (.ref C)
theorem oexB_ok {K : PySem.W.Frag} {C : Addr} (h : oexB K C = true) : OexC K C := by
  obtain ⟨h, h5⟩ := ba h
  obtain ⟨h, h4⟩ := ba h
  obtain ⟨h, h3⟩ := ba h
  obtain ⟨h1, h2⟩ := ba h
  exact ⟨exObjB_ok h1, eqO_ok h2, of_decide_eq_true h3, of_decide_eq_true h4, h5⟩
/-- all that isinstance asks of an instance's class -/
def excB (K : PySem.W.Frag) (D : Addr) : Bool :=
  eqO (PySem.W.findIn K (.ref D) "__getattribute__") (some (some (.builtin "BaseException.__getattribute__"))) && eqO (PySem.W.findIn K (.ref D) "__getattr__") (some none) &&
    decide (PySem.W.subIn K (.ref D) (.type "BaseException") = some true) && PySem.W.hasDictIn K D && eqO (PySem.W.findIn K (.ref D) "__class__") (some (some (.builtin "object.__class__"))) &&
    eqO (PySem.W.specialIn K (.builtin "object.__class__") "__get__") (some (some (.builtin "getset_descriptor.__get__"))) && decide (PySem.W.takesIn K (.builtin "object.__class__") = some true) && decide (PySem.W.mroIn K D (.type "object") = some true)
theorem excB_ok {K : PySem.W.Frag} {D : Addr} (h : excB K D = true) : ExcC K D := by
  obtain ⟨h, h8⟩ := ba h
  obtain ⟨h, h7⟩ := ba h
  obtain ⟨h, h6⟩ := ba h
  obtain ⟨h, h5⟩ := ba h
  obtain ⟨h, h4⟩ := ba h
  obtain ⟨h, h3⟩ := ba h
  obtain ⟨h1, h2⟩ := ba h
  exact ⟨eqO_ok h1, eqO_ok h2, of_decide_eq_true h3, h4, eqO_ok h5, eqO_ok h6, of_decide_eq_true h7, of_decide_eq_true h8⟩
end NF
set_option Elab.async false
set_option linter.all false
set_option maxRecDepth 100000
set_option maxHeartbeats 4000000
/-! Own exceptions as values: made, asked for their class, read. -/
namespace NF
open PySem PySem.Spec PyProof.Rows L2 He
/-! ### C(e, ..) as a value: the class's own __init__ keeps sp -/
def tMkV (C : Addr) (sp : Sp) (ta : TA) : TE := fun σ H Q => ta σ H fun vs H1 => vs.length ≤ 1000 ∧ ∀ a, H1 a = none → sp (.ref a :: vs) (upd H1 a (exo a C none))
  (fun v H2 => v = .non ∧ Q (.ref a) H2) (fun _ _ _ => False)
section
variable {X : Cx} {e : Expr} {es : List Expr} {ta : TA} {p pos : Pos}
theorem pe_oex {CX : CXT} {x : Str} {C fI : Addr} {k : Nat} {fd : FuncData} {ps : List Str} {sp : Sp} (T : OexC X.K C) (iC : PySem.W.findIn X.K (.ref C) "__init__" = some (some (.ref fI))) (tI : PySem.W.typeIn X.K (.ref fI) = some (.type "function"))
    (F1 : FnOk X.prog X.w X.K X.mg X.base CX k fI fd ps sp) (hr : Room (k + 1) X.A) (hb : Binds X.K fd ps []) (hx : Passes CX X (fun _ _ _ => False)) (hg : Gl X x) (hm : X.mg x = some (.ref C)) (ha : PA X (e :: es) ta)
    (hdb : (x == ("__debug__" : Str)) = false := by decide) (he : starEach (e :: es) X.env = (false, eval e X.env) :: starEach es X.env := by rfl) (hpl : (backTo pos (starEach es X.env)).any (·.1) = false := by rfl) :
    PE X (.Call (.Name x p) (e :: es) [] pos) (tMkV C sp ta) := by
  refine ⟨fun pins s σ H Q I h => ?_⟩
  obtain ⟨nm, q, N, bs, bm, sn, sub, ab, col, dd, k0, k1, k2, k3, k5, hC, hbm⟩ := T.cls
  refine wpAny_Call_Name_kw (ld_glob I hg hm ?_ hdb)
  refine PySem.W.callWith_K (h₀ := X.base) I.ok.mod.kin T.kC (thn (ha.run pos pins s σ H _ I h) fun us s1 ⟨vs, H1, I1, r1, hz, q1⟩ => ⟨I1.kIn, ?_⟩) he hpl
  show wpAny _ _ (call (.ref C) us) _ _ _
  obtain ⟨hp, g, dr, tk, os⟩ := s1
  have hsz : hp.objs.size ≤ hp.objs.size + 1 := Nat.le_succ _
  have hn : H1 (hp.objs.size + 1) = none := I1.hok.fresh hsz
  have hq := q1 (hp.objs.size + 1) hn
  have kk : ∀ b o, hp.get? b = some o → ((hp.push (PySem.W.kdv_tup us)).push (PySem.HandSPX.excO C hp.objs.size)).get? b = some o := fun b o e => Heap.get?_push_of_some _ (Heap.get?_push_of_some _ e)
  have hget : ((hp.push (PySem.W.kdv_tup us)).push (PySem.HandSPX.excO C hp.objs.size)).get? (hp.objs.size + 1) = some (PySem.HandSPX.excO C hp.objs.size) := by heap_get
  have I2 : Inv X pins σ (upd H1 (hp.objs.size + 1) (exo (hp.objs.size + 1) C none)) ⟨(hp.push (PySem.W.kdv_tup us)).push (PySem.HandSPX.excO C hp.objs.size), g, dr, tk, os⟩ :=
    I1.laid (t' := tk) (a := hp.objs.size + 1) (o := exo (hp.objs.size + 1) C none) (h' := (hp.push (PySem.W.kdv_tup us)).push (PySem.HandSPX.excO C hp.objs.size)) kk hsz (exo_ok hget)
  have r2 : Vals (V.ref (hp.objs.size + 1) :: vs) (Value.ref (hp.objs.size + 1) :: us) := .cons rfl r1
  have hl : (Value.ref (hp.objs.size + 1) :: us ++ []).length = ps.length := by
    have e := r2.length
    rw [F1.len _ _ _ _ hq] at e
    rw [List.append_nil]
    exact e.symm
  have hus : us.length ≤ sizeLine := by
    rw [← Paired.length r1, sizeLine_eq]
    omega
  have hb' : BindsTo (⟨(hp.push (PySem.W.kdv_tup us)).push (PySem.HandSPX.excO C hp.objs.size), g, dr, tk, os⟩ : Shared) fd ⟨Value.ref (hp.objs.size + 1) :: us, []⟩ (ps.zip (Value.ref (hp.objs.size + 1) :: us)) := by
    have := hb ⟨(hp.push (PySem.W.kdv_tup us)).push (PySem.HandSPX.excO C hp.objs.size), g, dr, tk, os⟩ (Value.ref (hp.objs.size + 1) :: us) I2.kIn hl
    rw [List.append_nil] at this
    exact this
  refine wpAny_call (PySem.HandSPX.call_own F.excBase_ValueError (fun Y => PySem.HandSPX.refsVE_contains Y bm hbm) (I1.kIn _ _ hC) (PySem.W.looks_findIn I1.kIn iC) (fun self => PySem.W.bind_fn I1.kIn self tI) hus
    (codeAny_mono (F1.run _ X.stack _ _ ⟨Value.ref (hp.objs.size + 1) :: us, []⟩ (Value.ref (hp.objs.size + 1) :: us) _ _ (fun _ _ _ => False) (hr.make C us []) (I2.env0.make C us []) hb' r2 hq) fun r s' hq' => ?_))
  cases r with
  | error er => exact hx pins σ _ _ er s' I2 hq'
  | ok fl =>
    cases fl with
    | ret u =>
      obtain ⟨v, H2, os2, bare2, un2, hok2, rv, ev, q2⟩ := hq'
      subst ev
      obtain ⟨h2, g2, d2, t2, os'⟩ := s'
      exact ⟨rv, V.ref (hp.objs.size + 1), H2, I2.call' (ch := []) os2 un2 hok2 bare2 (fun b z => absurd z (by simp)), rfl, q2⟩
    | next => exact False.elim hq'
    | brk => exact False.elim hq'
    | cont => exact False.elim hq'
/-- C(), an own exception class without own __init__, as a value -/
def tMk0 (C : Addr) : TE := fun _ H Q => ∀ a, H a = none → Q (.ref a) (upd H a (exo a C none))
theorem pe_exc0 {C : Addr} {x : Str} (q : PySem.W.excIn X.K C He.veBase "ValueError.__new__" = true) (gC : X.mg x = some (.ref C)) (kC : PySem.W.keepIn X.K (.ref C) = true) (hg : Gl X x)
    (hdb : (x == ("__debug__" : Str)) = false := by decide) :
    PE X (.Call (.Name x p) [] [] pos) (tMk0 C) := by
  refine ⟨fun pins s σ H Q I h => ?_⟩
  refine wpAny_Call_Name_kw (ld_glob I hg gC ?_ hdb)
  refine PySem.W.callWith_K0 I.kIn kC ?_
  show wpAny _ _ (call (.ref C) []) _ _ _
  obtain ⟨bm, N, nm, qn, bs, hdct, sn, sub, ab, col, dd, k0, k1, k2, k3, k5, mN, hC, hN, hni, T⟩ := exc_obj I.kIn q
  obtain ⟨hp, g, dr, tk, os⟩ := s
  refine wpAny_call_exc_subT F.excBase_ValueError T hC hN hni (fun h' a hm => ?_) (Nat.zero_le _)
  have hn : H a = none := I.hok.gone hm.new
  obtain ⟨t, ht, _, _⟩ := hm.there
  exact ⟨.ref a, upd H a (exo a C none), I.laidN hm.keeps hm.new hn (exo_ok ht), rfl, h a hn⟩
/-! ### isinstance of such a value -/
def rIsV (K : PySem.W.Frag) : List V → Hp → VK → Prop := fun xs H Q => ∃ (a C : Addr) (od : Option Addr) (c : V) (u : Value) (b : Bool), xs = [.ref a, c] ∧ ClsV c u ∧ ExcC K C ∧ H a = some (exo a C od) ∧
  (∀ d, od = some d → ∃ fs, H d = some (exd d fs)) ∧ PySem.W.kitOne K (.ref C) u = some b ∧ Q (.bl b) H
theorem inst_exo {pins : List (Addr × Obj)} {σ : L2.St} {H : Hp} {s : Shared} {a C : Addr} {od : Option Addr} (I : Inv X pins σ H s) (e : H a = some (exo a C od)) (hd : ∀ d, od = some d → ∃ fs, H d = some (exd d fs)) :
    ∃ ox o, PySem.W.InstAt s.heap a ox C o := by
  obtain ⟨t1, h1⟩ := exo_at I.hok e
  cases od with
  | none => exact ⟨_, none, h1, rfl, rfl, trivial⟩
  | some d =>
    obtain ⟨fs, h2⟩ := hd d rfl
    obtain ⟨mA, hns, _⟩ := exd_at I.hok h2
    obtain ⟨o, ho, _⟩ := lookIn_ns hns
    exact ⟨_, some o, h1, rfl, rfl, ho⟩
theorem call_isV : CallR X (.builtin "isinstance") (rIsV X.K) := by
  intro pins s σ H xs us Q I r h
  obtain ⟨a, C, od, c, u, b, rfl, k, T, e, hd, hk, q⟩ := h
  obtain ⟨u1, u2, rfl, r1, r2⟩ := vals2 r
  have e2 := k.eq r2
  subst e2
  cases (show u1 = Value.ref a from r1)
  obtain ⟨ox, o, J⟩ := inst_exo I e hd
  have hcl : (PySem.W.clsIn X.K C).isSome = true := by
    obtain ⟨cd, hc, _⟩ := PySem.W.any_some T.hd
    rw [hc] <;> rfl
  exact PySem.W.kia_one (PySem.W.kitx_exc (ox := ox) (od := o) hcl T.hg T.hk T.hs T.ha T.hn T.ht T.hm) I.kIn J hk (fun z => nomatch z) fun tk => ⟨.bl b, H, I.tok tk, rfl, q⟩
/-! ### its field -/
def tXv (K : PySem.W.Frag) (f : Str) (te : TE) : TE := fun σ H Q => te σ H fun x H1 => ∃ (a C d : Addr) (fs : List (Str × V)) (v : V), x = .ref a ∧ XfC K C ∧ PySem.W.findIn K (.ref C) f = some none ∧ H1 a = some (exo a C (some d)) ∧ H1 d = some (exd d fs) ∧ fs.lookup f = some v ∧ Q v H1
theorem pe_xv {n : Str} {te : TE} (he : PE X e te) (hb : attributeBase e n X.env (eval e X.env) = eval e X.env := by rfl) : PE X (.Attribute e n pos) (tXv X.K n te) := by
  refine ⟨fun pins s σ H Q I h => ?_⟩
  refine attr_of hb (thn (he.run pins s σ H _ I h) fun u s1 hh => ?_)
  obtain ⟨x, H1, I1, rx, a, C, d, fs, v, ex, T, hno, ea, ed, l, q⟩ := hh
  subst ex
  obtain rfl : u = Value.ref a := rx
  obtain ⟨t1, h1⟩ := exo_at I1.hok ea
  obtain ⟨mA, hns, hr⟩ := exd_at I1.hok ed
  obtain ⟨od, ho, hl⟩ := lookIn_ns hns
  obtain ⟨u, hu, ru⟩ := RelO.some_of (v := v) (o := mA n) (by rw [← l]; exact hr n)
  have J : PySem.W.InstAt s1.heap a _ C (some od) := ⟨h1, rfl, rfl, ho⟩
  exact HandSPX.exc_get I1.kIn J T.ga T.gg T.exC (PySem.W.findObj_own T.hdC hno rfl (by rw [hl, hu])) (handed_of ru) ⟨v, H1, I1.tok _, ru, q⟩
end
end NF
set_option Elab.async false
set_option linter.all false
set_option maxRecDepth 100000
set_option maxHeartbeats 4000000
/-! What each law's own helpers keep: the source of draws. -/
namespace NF
open PySem PySem.Spec PyProof.Rows L2 He
/-- the names that a def reads off the module: those that stand for an object of the written part, those that are still Python's own -/
structure Txt (K : PySem.W.Frag) (mg : Str → Option Value) (gs fs : List Str) : Prop where
  gl : ∀ x, x ∈ gs → mg x = some (.ref (ga K x))
  fr : ∀ x, x ∈ fs → mg x = none
/-- a source of draws at p: three ints -/
def Src (H : Hp) (p : Addr) : Prop := ∃ a s c : Int, H p = some (.lst [.int a, .int s, .int c])
/-- a draw: some number from 0 below m; all but the source stands (H0: what the caller wants to stand) -/
def spPick : Sp := fun vs H Q _ => ∃ (H0 : Hp) (p : Addr) (m : Int), vs = [.ref p, .int m] ∧ Same H0 H ∧ H0 p = none ∧ Src H p ∧ 0 < m ∧ m < 1073741824 ∧
  ∀ d H', 0 ≤ d → d < m → Same H0 H' → Src H' p → Q (.int d) H'
/-- a new source of the script -/
def spSource (K : PySem.W.Frag) : Sp := fun vs H Q _ => ∃ (l : Addr) (ns : List Int) (i : Nat), vs = [.ref l, .int (i : Int)] ∧ SqL K H l (ns.map V.int) ∧ ns.length ≤ 63 ∧ (∀ k ∈ ns, Builtin.Int.intBits k ≤ 1048576) ∧ i < 1000 ∧
  ∀ p H', Same H H' → H p = none → Src H' p → Q (.ref p) H'
theorem Same.put {H0 H : Hp} {p : Addr} {o : HO} (h : Same H0 H) (n : H0 p = none) : Same H0 (upd H p o) := fun b u e => by
  rw [upd_ne (ne_of_none e n)]
  exact h b u e
theorem Same.new {H0 H : Hp} {p : Addr} {o : HO} (h : Same H0 H) (n : H p = none) : Same H0 (upd H p o) := NF.Same.put h (L2.Same.free h n)
/-- a def that may be called by its name; it lets nothing out -/
structure Cal (P : Program) (w : World) (K : PySem.W.Frag) (mg : Str → Option Value) (base : Heap) (k : Nat) (x : Str) (sp : Sp) : Prop where
  ex : ∃ (f : Addr) (fd : FuncData) (ps : List Str), FnOk P w K mg base CX0 k f fd ps sp ∧ mg x = some (.ref f) ∧ PySem.W.keepIn K (.ref f) = true ∧ Binds K fd ps []
theorem pe_c {X : Cx} {k j : Nat} {x : Str} {sp : Sp} {e : Expr} {es : List Expr} {t : TA} {p pos : Pos} (c : Cal X.prog X.w X.K X.mg X.base k x sp) (hr : Room j X.A) (hk : k ≤ j) (hg : Gl X x) (ha : PA X (e :: es) t)
    (hdb : (x == ("__debug__" : Str)) = false := by decide) (he : starEach (e :: es) X.env = (false, eval e X.env) :: starEach es X.env := by rfl) (hpl : (backTo pos (starEach es X.env)).any (·.1) = false := by rfl) :
    PE X (.Call (.Name x p) (e :: es) [] pos) (tCall sp [] E0 t) := by
  obtain ⟨f, fd, ps, F, hm, kp, b⟩ := c.ex
  exact pe_call F (hr.mono hk) hg hm kp b .nil pass0 ha hdb he hpl
theorem Cal.mk' {P : Program} {w : World} {K : PySem.W.Frag} {mg : Str → Option Value} {base : Heap} {k : Nat} {x q : Str} {pa : Arguments} {bd : List Stmt} {sc : Scope} {sp : Sp} {f : Addr} {fd : FuncData} {ps : List Str}
    (F : FunD K x q pa bd sc [] [] f fd) (ok : FnOk P w K mg base CX0 k f fd ps sp) (hm : mg x = some (.ref f)) (b : Binds K fd ps []) : Cal P w K mg base k x sp := ⟨f, fd, ps, ok, hm, F.kp, b⟩
theorem at0 {x y z : V} : atI [x, y, z] 0 = some x := rfl
theorem at1 {x y z : V} : atI [x, y, z] 1 = some y := rfl
theorem at2 {x y z : V} : atI [x, y, z] 2 = some z := rfl
end NF
namespace NF
open PySem PySem.Spec PyProof.Rows L2 He
/-- the heap without p -/
def wo (H : Hp) (p : Addr) : Hp := fun a => if a = p then none else H a
theorem wo_none {H : Hp} {p : Addr} : wo H p p = none := if_pos rfl
theorem wo_ne {H : Hp} {p a : Addr} (h : a ≠ p) : wo H p a = H a := if_neg h
theorem wo_same' {H : Hp} {p : Addr} : Same (wo H p) H := fun a o e => by
  by_cases h : a = p
  · rw [h, wo_none] at e
    cases e
  · rw [wo_ne h] at e
    exact e
theorem wo_same {H0 H H' : Hp} {p : Addr} (s : Same H0 H) (n : H0 p = none) (s' : Same (wo H p) H') : Same H0 H' := fun a o e =>
  s' a o ((wo_ne (ne_of_none e n)).trans (s a o e))
theorem Same.mut {H0 H : Hp} {p : Addr} {o : HO} (h : Same H0 H) (n : H0 p = none) : Same H0 (upd H p o) := NF.Same.put h n
theorem Src.mono {H H' : Hp} {p : Addr} (h : Src H p) (s : Same H H') : Src H' p := by
  obtain ⟨x, y, z, h⟩ := h
  exact ⟨x, y, z, s _ _ h⟩
end NF
namespace NF
open PySem PySem.Spec PyProof.Rows L2 He
theorem walk_ofEB {l : PySem.W.OpenLaw} {n k : Nat} {q : Program} {loose : List Str} {XP : (Str → Option Value) → Heap → Prop} {YP : World → Heap → Prop} {d : DefRec} {CX : CXT} {x : Str}
    (hn : l.most = some n) (hn2 : n ≤ sizeLine) (hdf : d.params.defaults = []) (hr : Room k callerA)
    (F : ∀ (w : World) (mg : Str → Option Value) (fa : Addr) (h : Heap), YP w h → h.Ns mainGlobals mg → mg d.name = some (.ref fa) →
      ∃ (K : PySem.W.Frag) (fd : FuncData) (sp : Sp), K.In h ∧ (∀ (s : Shared) (u : Value), BindsTo s fd ⟨[u], []⟩ [(x, u)]) ∧
        (∀ (H : Hp) (a : Addr) (ns : List Int), ns.length ≤ n → (∀ z ∈ ns, Builtin.Int.intBits z ≤ 1048576) → Only H → SqL K H a (ns.map V.int) → sp [.ref a] H (fun v _ => v = .bl true) fun _ _ _ => False) ∧
        ∀ base : Heap, K.In base → base.Ns mainGlobals mg → FnOk l.prog w K mg base CX k fa fd [x] sp)
    (hCX : ∀ (H : Hp) (s : Shared) (e : Value) (s' : Shared), CX [] H s (fun _ _ _ => False) e s' → False) :
    PySem.W.WalkO q loose XP YP l.row.toRowW d [] (fun f vs => PySem.call f vs) := by
  refine Att.attach_callB hn hdf fun w s₀ s₁ mg mb fa o pm cd doc a vs ns G Y ho hd hcd hmg hobj hints hlen hbits hg => ?_
  obtain ⟨K, fd, sp, KX, hb, hsp, hF⟩ := F w mg fa _ Y G.T.g hmg
  exact law_call KX G.T.g G.T.b G.T.builtins G.T.nolimit hg hobj hints (Nat.le_trans hlen hn2) hr hF hb (fun H hO hS => hsp H a ns hlen hbits hO hS) fun H e s' => hCX H s₁ e s'
end NF
set_option linter.all false
/-! Tables as plain Lean: head, loop, rise; the plain form is the only one. -/
namespace NT
/-- what a loop tells, from its first place on -/
def walk (l : List Int) (r : Int) (k : Nat) : Int := l.getD (k % l.length) 0 + r * ((k / l.length : Nat) : Int)
/-- the value at n, from 1 on; none: never -/
def at_ (h l : List Int) (r : Int) (n : Nat) : Option Int :=
  if n ≤ h.length then some (h.getD (n - 1) 0) else if l = [] then none else some (walk l r (n - h.length - 1))
/-- m steps on the values are a fixed number more -/
def Per (f : Nat → Int) (m : Nat) : Prop := ∃ c, ∀ k, f (k + m) = f k + c
def LoopMin (l : List Int) (r : Int) : Prop := ∀ m, 0 < m → m ∣ l.length → Per (walk l r) m → m = l.length
def HeadMin (h l : List Int) (r : Int) : Prop := ∀ k, h.length = k + 1 → h.getD k 0 + r ≠ l.getD (l.length - 1) 0

theorem walk_add {l : List Int} {r : Int} (hl : 0 < l.length) (k : Nat) : walk l r (k + l.length) = walk l r k + r := by
  unfold walk
  rw [Nat.add_mod_right, Nat.add_div_right _ hl]
  rw [Int.natCast_add, Int.mul_add]
  omega
theorem walk_add_mul {l : List Int} {r : Int} (hl : 0 < l.length) (k j : Nat) : walk l r (k + l.length * j) = walk l r k + r * (j : Int) := by
  induction j with
  | zero => simp
  | succ j ih =>
    rw [Nat.mul_succ, ← Nat.add_assoc, walk_add hl, ih, Int.natCast_add, Int.mul_add]
    omega
theorem walk_lt {l : List Int} {r : Int} {k : Nat} (h : k < l.length) : walk l r k = l.getD k 0 := by
  unfold walk
  rw [Nat.mod_eq_of_lt h, Nat.div_eq_of_lt h]
  simp
/-- periods, further on alone -/
def PerF (f : Nat → Int) (N m : Nat) : Prop := ∃ c, ∀ k, N ≤ k → f (k + m) = f k + c
theorem PerF.sub {f : Nat → Int} {N a b : Nat} (ha : PerF f N (a + b)) (hb : PerF f N b) : PerF f N a := by
  obtain ⟨c, hc⟩ := ha
  obtain ⟨d, hd⟩ := hb
  refine ⟨c - d, fun k hk => ?_⟩
  have h1 := hc k hk
  have h2 := hd (k + a) (by omega)
  rw [show k + a + b = k + (a + b) by omega, h1] at h2
  omega
theorem PerF.mul {f : Nat → Int} {N a : Nat} (ha : PerF f N a) (j : Nat) : PerF f N (a * j) := by
  obtain ⟨c, hc⟩ := ha
  refine ⟨c * (j : Int), ?_⟩
  induction j with
  | zero => intro k _; simp
  | succ j ih =>
    intro k hk
    have h1 := ih k hk
    have h2 := hc (k + a * j) (by omega)
    rw [Nat.mul_succ, ← Nat.add_assoc, h2, h1, Int.natCast_add, Int.mul_add]
    omega
theorem PerF.gcd {f : Nat → Int} {N : Nat} : ∀ (a b : Nat), PerF f N a → PerF f N b → PerF f N (Nat.gcd a b) := by
  intro a
  induction a using Nat.strongRecOn with
  | _ a ih =>
    intro b ha hb
    cases a with
    | zero => rw [Nat.gcd_zero_left]; exact hb
    | succ a =>
      rw [Nat.gcd_rec]
      have hlt : b % (a + 1) < a + 1 := Nat.mod_lt _ (Nat.succ_pos a)
      have hm : PerF f N (b % (a + 1)) := by
        have h1 : b = b % (a + 1) + (a + 1) * (b / (a + 1)) := (Nat.mod_add_div b (a + 1)).symm
        exact PerF.sub (b := (a + 1) * (b / (a + 1))) (by rw [← h1]; exact hb) (ha.mul _)
      exact ih _ hlt (a + 1) hm ha
theorem at_loop {h l : List Int} {r : Int} {n : Nat} (hl : l ≠ []) (hn : h.length < n) : at_ h l r n = some (walk l r (n - h.length - 1)) := by
  unfold at_
  rw [if_neg (by omega), if_neg hl]
theorem len_pos {l : List Int} (h : l ≠ []) : 0 < l.length := List.length_pos_iff.mpr h

section
variable {h1 l1 h2 l2 : List Int} {r1 r2 : Int}
theorem walk_eq (n1 : l1 ≠ []) (n2 : l2 ≠ []) (e : ∀ n, 1 ≤ n → at_ h1 l1 r1 n = at_ h2 l2 r2 n) {n : Nat} (g1 : h1.length < n) (g2 : h2.length < n) : walk l1 r1 (n - h1.length - 1) = walk l2 r2 (n - h2.length - 1) := by
  have q := e n (by omega)
  rw [at_loop n1 g1, at_loop n2 g2] at q
  exact Option.some.inj q
theorem one_loop_le (n1 : l1 ≠ []) (n2 : l2 ≠ []) (m1 : LoopMin l1 r1) (e : ∀ n, 1 ≤ n → at_ h1 l1 r1 n = at_ h2 l2 r2 n) : l1.length ∣ l2.length := by
  have p1 := len_pos n1
  have p2 := len_pos n2
  -- l1's walk is, further on, of both periods
  have hA : PerF (walk l1 r1) (h1.length + h2.length) l1.length := ⟨r1, fun k _ => walk_add p1 k⟩
  have hB : PerF (walk l1 r1) (h1.length + h2.length) l2.length := by
    refine ⟨r2, fun k hk => ?_⟩
    have q1 := walk_eq n1 n2 e (n := k + h1.length + 1) (by omega) (by omega)
    have q2 := walk_eq n1 n2 e (n := k + l2.length + h1.length + 1) (by omega) (by omega)
    rw [show k + h1.length + 1 - h1.length - 1 = k by omega] at q1
    rw [show k + l2.length + h1.length + 1 - h1.length - 1 = k + l2.length by omega, show k + l2.length + h1.length + 1 - h2.length - 1 = (k + h1.length + 1 - h2.length - 1) + l2.length by omega, walk_add p2, ← q1] at q2
    exact q2
  have hG := PerF.gcd _ _ hA hB
  obtain ⟨c, hc⟩ := hG
  have hP : Per (walk l1 r1) (Nat.gcd l1.length l2.length) := by
    refine ⟨c, fun k => ?_⟩
    have q := hc (k + l1.length * (h1.length + h2.length)) (by
      have : h1.length + h2.length ≤ l1.length * (h1.length + h2.length) := Nat.le_mul_of_pos_left _ p1
      omega)
    rw [show k + l1.length * (h1.length + h2.length) + Nat.gcd l1.length l2.length = (k + Nat.gcd l1.length l2.length) + l1.length * (h1.length + h2.length) by omega, walk_add_mul p1, walk_add_mul p1] at q
    omega
  have := m1 _ (Nat.gcd_pos_of_pos_left _ p1) (Nat.gcd_dvd_left _ _) hP
  rw [← this]
  exact Nat.gcd_dvd_right _ _
theorem one_head_le (n1 : l1 ≠ []) (n2 : l2 ≠ []) (el : l1.length = l2.length) (m2 : HeadMin h2 l2 r2) (er : r1 = r2) (e : ∀ n, 1 ≤ n → at_ h1 l1 r1 n = at_ h2 l2 r2 n) : h2.length ≤ h1.length := by
  have p1 := len_pos n1
  have p2 := len_pos n2
  refine Nat.le_of_not_lt fun hlt => ?_
  obtain ⟨k, hk⟩ : ∃ k, h2.length = k + 1 := ⟨h2.length - 1, by omega⟩
  have q1 := e (k + 1) (by omega)
  have q2 := e (k + 1 + l2.length) (by omega)
  rw [at_loop n1 (by omega), at_loop n2 (by omega)] at q2
  rw [at_loop n1 (by omega)] at q1
  unfold at_ at q1
  rw [if_pos (by omega)] at q1
  have q1 := Option.some.inj q1
  have q2 := Option.some.inj q2
  rw [show k + 1 + l2.length - h1.length - 1 = (k + 1 - h1.length - 1) + l1.length by omega, walk_add p1, q1] at q2
  rw [walk_lt (by omega), show k + 1 + l2.length - h2.length - 1 = l2.length - 1 by omega, show k + 1 - 1 = k by omega] at q2
  exact m2 k hk (by rw [← q2, er])
/-- two forms that can't be made smaller and tell the same are the same -/
theorem one_form (n1 : l1 ≠ []) (n2 : l2 ≠ []) (a1 : LoopMin l1 r1) (a2 : LoopMin l2 r2) (b1 : HeadMin h1 l1 r1) (b2 : HeadMin h2 l2 r2) (e : ∀ n, 1 ≤ n → at_ h1 l1 r1 n = at_ h2 l2 r2 n) : h1 = h2 ∧ l1 = l2 ∧ r1 = r2 := by
  have p1 := len_pos n1
  have p2 := len_pos n2
  have el : l1.length = l2.length := Nat.dvd_antisymm (one_loop_le n1 n2 a1 e) (one_loop_le n2 n1 a2 fun n hn => (e n hn).symm)
  have er : r1 = r2 := by
    have q1 := walk_eq n1 n2 e (n := h1.length + h2.length + 1) (by omega) (by omega)
    have q2 := walk_eq n1 n2 e (n := h1.length + h2.length + 1 + l1.length) (by omega) (by omega)
    rw [show h1.length + h2.length + 1 + l1.length - h1.length - 1 = (h1.length + h2.length + 1 - h1.length - 1) + l1.length by omega, walk_add p1,
      show h1.length + h2.length + 1 + l1.length - h2.length - 1 = (h1.length + h2.length + 1 - h2.length - 1) + l2.length by omega, walk_add p2, q1] at q2
    omega
  have eh : h1.length = h2.length := Nat.le_antisymm (one_head_le n2 n1 el.symm b1 er.symm fun n hn => (e n hn).symm) (one_head_le n1 n2 el b2 er e)
  refine ⟨List.ext_getElem eh fun i i1 i2 => ?_, List.ext_getElem el fun i i1 i2 => ?_, er⟩
  · have q := e (i + 1) (by omega)
    unfold at_ at q
    rw [if_pos (by omega), if_pos (by omega)] at q
    have q := Option.some.inj q
    rw [show i + 1 - 1 = i by omega, List.getD_eq_getElem?_getD, List.getD_eq_getElem?_getD, List.getElem?_eq_getElem i1, List.getElem?_eq_getElem i2] at q
    exact q
  · have q := walk_eq n1 n2 e (n := h1.length + 1 + i) (by omega) (by omega)
    rw [show h1.length + 1 + i - h1.length - 1 = i by omega, show h1.length + 1 + i - h2.length - 1 = i by omega, walk_lt i1, walk_lt i2,
      List.getD_eq_getElem?_getD, List.getD_eq_getElem?_getD, List.getElem?_eq_getElem i1, List.getElem?_eq_getElem i2] at q
    exact q
theorem one_never (e : ∀ n, 1 ≤ n → at_ h1 [] r1 n = at_ h2 [] r2 n) : h1 = h2 := by
  have el : h1.length = h2.length := by
    have q1 := e (h1.length + 1) (by omega)
    have q2 := e (h2.length + 1) (by omega)
    unfold at_ at q1 q2
    rw [if_neg (by omega), if_pos rfl] at q1
    rw [if_neg (show ¬ h2.length + 1 ≤ h2.length by omega), if_pos rfl] at q2
    by_cases c1 : h1.length + 1 ≤ h2.length
    · rw [if_pos c1] at q1
      cases q1
    · by_cases c2 : h2.length + 1 ≤ h1.length
      · rw [if_pos c2] at q2
        cases q2
      · omega
  refine List.ext_getElem el fun i i1 i2 => ?_
  have q := e (i + 1) (by omega)
  unfold at_ at q
  rw [if_pos (by omega), if_pos (by omega)] at q
  have q := Option.some.inj q
  rw [show i + 1 - 1 = i by omega, List.getD_eq_getElem?_getD, List.getD_eq_getElem?_getD, List.getElem?_eq_getElem i1, List.getElem?_eq_getElem i2] at q
  exact q
end
end NT
set_option linter.all false
namespace NT
structure LapIs (l : List Int) (r : Int) (m : Nat) : Prop where
  pos : 0 < m
  dvd : m ∣ l.length
  per : Per (walk l r) m
  least : ∀ m', 0 < m' → m' ∣ l.length → Per (walk l r) m' → m ≤ m'
theorem LapIs.one {l : List Int} {r : Int} {m m' : Nat} (a : LapIs l r m) (b : LapIs l r m') : m = m' := Nat.le_antisymm (a.least _ b.pos b.dvd b.per) (b.least _ a.pos a.dvd a.per)
theorem per_mul {f : Nat → Int} {m : Nat} {c : Int} (h : ∀ k, f (k + m) = f k + c) (k j : Nat) : f (k + m * j) = f k + c * (j : Int) := by
  induction j with
  | zero => simp
  | succ j ih =>
    rw [Nat.mul_succ, ← Nat.add_assoc, h, ih, Int.natCast_add, Int.mul_add]
    omega
/-- the rise of a part that comes round -/
theorem per_rise {l : List Int} {r c : Int} {m : Nat} (hl : l ≠ []) (h : ∀ k, walk l r (k + m) = walk l r k + c) {t : Nat} (ht : m * t = l.length) : r = c * (t : Int) := by
  have q := per_mul h 0 t
  rw [ht, walk_add (len_pos hl)] at q
  omega
theorem per_self {l : List Int} {r : Int} (hl : l ≠ []) : Per (walk l r) l.length := ⟨r, walk_add (len_pos hl)⟩
theorem getD_take {l : List Int} {m i : Nat} (h : i < m) : (l.take m).getD i 0 = l.getD i 0 := by
  rw [List.getD_eq_getElem?_getD, List.getD_eq_getElem?_getD, List.getElem?_take, if_pos h]
theorem getD_drop {l : List Int} {m i : Nat} : (l.drop m).getD i 0 = l.getD (m + i) 0 := by
  rw [List.getD_eq_getElem?_getD, List.getD_eq_getElem?_getD, List.getElem?_drop]
theorem getD_app1 {h l : List Int} {i : Nat} (q : i < h.length) : (h ++ l).getD i 0 = h.getD i 0 := by
  rw [List.getD_eq_getElem?_getD, List.getD_eq_getElem?_getD, List.getElem?_append_left q]
theorem getD_app2 {h l : List Int} {i : Nat} (q : h.length ≤ i) : (h ++ l).getD i 0 = l.getD (i - h.length) 0 := by
  rw [List.getD_eq_getElem?_getD, List.getD_eq_getElem?_getD, List.getElem?_append_right q]
/-- the shorter loop tells the same -/
theorem walk_short {l : List Int} {r c : Int} {m : Nat} (hm : 0 < m) (hle : m ≤ l.length) (h : ∀ k, walk l r (k + m) = walk l r k + c) (k : Nat) : walk (l.take m) c k = walk l r k := by
  have e : k = k % m + m * (k / m) := (Nat.mod_add_div k m).symm
  have hlt : k % m < m := Nat.mod_lt _ hm
  have q := per_mul h (k % m) (k / m)
  rw [← e] at q
  have w1 : walk l r (k % m) = l.getD (k % m) 0 := walk_lt (by omega)
  rw [q, w1]
  show (l.take m).getD (k % (l.take m).length) 0 + c * ((k / (l.take m).length : Nat) : Int) = _
  rw [List.length_take, Nat.min_eq_left hle, getD_take hlt]
theorem short_min {l : List Int} {r c : Int} {m : Nat} (hl : l ≠ []) (a : LapIs l r m) (h : ∀ k, walk l r (k + m) = walk l r k + c) : LoopMin (l.take m) c := by
  have hle : m ≤ l.length := Nat.le_of_dvd (len_pos hl) a.dvd
  intro m' p d q
  rw [List.length_take, Nat.min_eq_left hle] at d ⊢
  have e : walk (l.take m) c = walk l r := funext fun k => walk_short a.pos hle h k
  rw [e] at q
  exact Nat.le_antisymm (Nat.le_of_dvd a.pos d) (a.least _ p (Nat.dvd_trans d a.dvd) q)
/-! ### the head is cut -/
def cut (e : List Int) (p : Nat) (r : Int) : Nat → Nat
  | 0 => 0
  | k + 1 => if e.getD k 0 + r = e.getD (k + p) 0 then cut e p r k else k + 1
/-- the window of p entries behind the first `left` ones -/
def win (e : List Int) (left p : Nat) : List Int := (e.drop left).take p
theorem win_len {e : List Int} {left p : Nat} (h : left + p ≤ e.length) : (win e left p).length = p := by
  unfold win
  rw [List.length_take, List.length_drop]
  omega
theorem win_get {e : List Int} {left p i : Nat} (hi : i < p) : (win e left p).getD i 0 = e.getD (left + i) 0 := by
  unfold win
  rw [getD_take hi, getD_drop]
theorem win_step {e : List Int} {left p : Nat} {r : Int} (hp : 0 < p) (hle : left + 1 + p ≤ e.length) (hs : e.getD left 0 + r = e.getD (left + p) 0) (k : Nat) : walk (win e (left + 1) p) r k = walk (win e left p) r (k + 1) := by
  unfold walk
  rw [win_len (by omega), win_len (by omega)]
  have hlt : k % p < p := Nat.mod_lt _ hp
  rw [win_get hlt]
  by_cases c : k % p + 1 < p
  · have e1 : (k + 1) % p = k % p + 1 := by
      rw [Nat.add_mod, Nat.mod_eq_of_lt (show 1 < p by omega), Nat.mod_eq_of_lt c]
    have e2 : (k + 1) / p = k / p := by
      have q1 := Nat.div_add_mod (k + 1) p
      have q2 := Nat.div_add_mod k p
      rw [e1] at q1
      have : p * ((k + 1) / p) = p * (k / p) := by omega
      exact Nat.eq_of_mul_eq_mul_left hp this
    rw [e1, e2, win_get c]
    congr 2
    omega
  · have cp : k % p + 1 = p := by omega
    have hk : k + 1 = p * (k / p + 1) := by
      have q2 := Nat.div_add_mod k p
      rw [Nat.mul_add, Nat.mul_one]
      omega
    have e1 : (k + 1) % p = 0 := by rw [hk]; exact Nat.mul_mod_right _ _
    have e2 : (k + 1) / p = k / p + 1 := by rw [hk]; exact Nat.mul_div_cancel_left _ hp
    rw [e1, e2, win_get hp, Int.natCast_add, Int.mul_add, show left + 1 + k % p = left + p by omega, ← hs, show left + 0 = left from rfl]
    omega
theorem at_step {e : List Int} {left p : Nat} {r : Int} (hp : 0 < p) (hle : left + 1 + p ≤ e.length) (hs : e.getD left 0 + r = e.getD (left + p) 0) (n : Nat) (hn : 1 ≤ n) :
    at_ (e.take left) (win e left p) r n = at_ (e.take (left + 1)) (win e (left + 1) p) r n := by
  have n1 : win e left p ≠ [] := fun z => by
    have := win_len (e := e) (left := left) (p := p) (by omega)
    rw [z] at this
    simp at this
    omega
  have n2 : win e (left + 1) p ≠ [] := fun z => by
    have := win_len (e := e) (left := left + 1) (p := p) (by omega)
    rw [z] at this
    simp at this
    omega
  unfold at_
  rw [List.length_take, List.length_take, Nat.min_eq_left (by omega), Nat.min_eq_left (by omega), if_neg n1, if_neg n2]
  by_cases c1 : n ≤ left
  · rw [if_pos c1, if_pos (by omega), getD_take (by omega), getD_take (by omega)]
  · by_cases c2 : n ≤ left + 1
    · rw [if_neg c1, if_pos c2, getD_take (by omega), show n - left - 1 = 0 by omega, walk_lt (by rw [win_len (by omega)]; exact hp), win_get hp, show n - 1 = left + 0 by omega]
    · rw [if_neg c1, if_neg c2, win_step hp hle hs, show n - (left + 1) - 1 + 1 = n - left - 1 by omega]
theorem min_step {e : List Int} {left p : Nat} {r : Int} (hp : 0 < p) (hle : left + 1 + p ≤ e.length) (hs : e.getD left 0 + r = e.getD (left + p) 0) (h : LoopMin (win e (left + 1) p) r) : LoopMin (win e left p) r := by
  have l0 := win_len (e := e) (left := left) (p := p) (by omega)
  have l1 := win_len (e := e) (left := left + 1) (p := p) (by omega)
  intro m hm hd hq
  rw [l0] at hd ⊢
  have := h m hm (by rw [l1]; exact hd) (by
    obtain ⟨c, hc⟩ := hq
    refine ⟨c, fun k => ?_⟩
    rw [win_step hp hle hs, win_step hp hle hs, show k + m + 1 = k + 1 + m by omega, hc])
  rw [l1] at this
  exact this
theorem cut_le {e : List Int} {p : Nat} {r : Int} : ∀ k, cut e p r k ≤ k
  | 0 => Nat.le_refl _
  | k + 1 => by
    unfold cut
    split
    · exact Nat.le_succ_of_le (cut_le k)
    · exact Nat.le_refl _
theorem cut_at {e : List Int} {p : Nat} {r : Int} (hp : 0 < p) : ∀ k, k + p ≤ e.length → ∀ n, 1 ≤ n → at_ (e.take (cut e p r k)) (win e (cut e p r k) p) r n = at_ (e.take k) (win e k p) r n
  | 0, _, _, _ => rfl
  | k + 1, h, n, hn => by
    unfold cut
    split
    · rename_i c
      rw [cut_at hp k (by omega) n hn]
      exact at_step hp h c n hn
    · rfl
theorem cut_min {e : List Int} {p : Nat} {r : Int} (hp : 0 < p) : ∀ k, k + p ≤ e.length → LoopMin (win e k p) r → LoopMin (win e (cut e p r k) p) r
  | 0, _, h => h
  | k + 1, hk, h => by
    unfold cut
    split
    · rename_i c
      exact cut_min hp k (by omega) (min_step hp hk c h)
    · exact h
theorem cut_head {e : List Int} {p : Nat} {r : Int} (hp : 0 < p) : ∀ k, k + p ≤ e.length → HeadMin (e.take (cut e p r k)) (win e (cut e p r k) p) r
  | 0, h => fun k hk => by
    unfold cut at hk
    simp at hk
  | k + 1, h => by
    unfold cut
    split
    · exact cut_head hp k (by omega)
    · rename_i c
      intro j hj
      rw [List.length_take, Nat.min_eq_left (by omega)] at hj
      have ej : j = k := by omega
      subst ej
      rw [getD_take (by omega), win_len (by omega), win_get (by omega)]
      intro z
      exact c (by rw [z]; congr 1; omega)
/-! ### the plain form -/
def IsPlain (h l : List Int) (r : Int) (x : List Int × List Int × Int) : Prop :=
  (l = [] ∧ x = (h, [], 0)) ∨ (l ≠ [] ∧ x.2.1 ≠ [] ∧ LoopMin x.2.1 x.2.2 ∧ HeadMin x.1 x.2.1 x.2.2 ∧ ∀ n, 1 ≤ n → at_ x.1 x.2.1 x.2.2 n = at_ h l r n)
theorem plain_one {h1 l1 h2 l2 : List Int} {r1 r2 : Int} {x y : List Int × List Int × Int} (a : IsPlain h1 l1 r1 x) (b : IsPlain h2 l2 r2 y) (e : ∀ n, 1 ≤ n → at_ h1 l1 r1 n = at_ h2 l2 r2 n) : x = y := by
  rcases a with ⟨rfl, rfl⟩ | ⟨n1, n1', m1, k1, e1⟩
  · rcases b with ⟨rfl, rfl⟩ | ⟨n2, n2', m2, k2, e2⟩
    · rw [one_never e]
    · have q := e (h1.length + h2.length + 1) (by omega)
      rw [at_loop n2 (by omega)] at q
      unfold at_ at q
      rw [if_neg (by omega), if_pos rfl] at q
      cases q
  · rcases b with ⟨rfl, rfl⟩ | ⟨n2, n2', m2, k2, e2⟩
    · have q := e (h1.length + h2.length + 1) (by omega)
      rw [at_loop n1 (by omega)] at q
      unfold at_ at q
      rw [if_neg (by omega), if_pos rfl] at q
      cases q
    · obtain ⟨q1, q2, q3⟩ := one_form n1' n2' m1 m2 k1 k2 fun n hn => by rw [e1 n hn, e n hn, e2 n hn]
      obtain ⟨x1, x2, x3⟩ := x
      obtain ⟨y1, y2, y3⟩ := y
      dsimp only at q1 q2 q3
      rw [q1, q2, q3]
theorem plain_is {h l : List Int} {r : Int} {m : Nat} (hl : l ≠ []) (a : LapIs l r m) {c : Int} (hc : ∀ k, walk l r (k + m) = walk l r k + c) :
    IsPlain h l r ((h ++ l.take m).take (cut (h ++ l.take m) m c h.length), win (h ++ l.take m) (cut (h ++ l.take m) m c h.length) m, c) := by
  have hle : m ≤ l.length := Nat.le_of_dvd (len_pos hl) a.dvd
  have hlen : (h ++ l.take m).length = h.length + m := by rw [List.length_append, List.length_take, Nat.min_eq_left hle]
  have hcut := cut_le (e := h ++ l.take m) (p := m) (r := c) h.length
  have hw : win (h ++ l.take m) h.length m = l.take m := by
    unfold win
    rw [List.drop_left, List.take_of_length_le (by rw [List.length_take]; omega)]
  have ht : (h ++ l.take m).take h.length = h := List.take_left
  refine .inr ⟨hl, fun z => ?_, ?_, ?_, fun n hn => ?_⟩
  · have q := win_len (e := h ++ l.take m) (left := cut (h ++ l.take m) m c h.length) (p := m) (by rw [hlen]; omega)
    have z' : win (h ++ l.take m) (cut (h ++ l.take m) m c h.length) m = [] := z
    rw [z'] at q
    have := a.pos
    simp at q
    omega
  · exact cut_min a.pos _ (by rw [hlen]; exact Nat.le_refl _) (by rw [hw]; exact short_min hl a hc)
  · exact cut_head a.pos _ (by rw [hlen]; exact Nat.le_refl _)
  · show at_ ((h ++ l.take m).take (cut (h ++ l.take m) m c h.length)) (win (h ++ l.take m) (cut (h ++ l.take m) m c h.length) m) c n = _
    rw [cut_at a.pos _ (by rw [hlen]; exact Nat.le_refl _) n hn, hw, ht]
    unfold at_
    have n1 : l.take m ≠ [] := fun z => by
      have q := congrArg List.length z
      rw [List.length_take, Nat.min_eq_left hle] at q
      have := a.pos
      simp at q
      omega
    rw [if_neg hl, if_neg n1, walk_short a.pos hle hc]
end NT
set_option linter.all false
namespace NT
def sk (l : List Int) (r : Int) (k : Nat) : Int := walk l r (k + 1) - walk l r k
def steps (l : List Int) (r : Int) : List Int := (List.range l.length).map (sk l r)
section
variable {l : List Int} {r : Int} {m : Nat}
theorem sk_add (hl : l ≠ []) (k q : Nat) : sk l r (k + l.length * q) = sk l r k := by
  unfold sk
  rw [show k + l.length * q + 1 = (k + 1) + l.length * q by omega, walk_add_mul (len_pos hl), walk_add_mul (len_pos hl)]
  omega
theorem per_of_sk (h : ∀ k, sk l r (k + m) = sk l r k) : Per (walk l r) m := by
  refine ⟨walk l r m - walk l r 0, fun k => ?_⟩
  induction k with
  | zero => rw [Nat.zero_add]; omega
  | succ k ih =>
    have q := h k
    unfold sk at q
    rw [show k + 1 + m = k + m + 1 by omega]
    omega
theorem sk_of_per (h : Per (walk l r) m) (k : Nat) : sk l r (k + m) = sk l r k := by
  obtain ⟨c, hc⟩ := h
  unfold sk
  rw [show k + m + 1 = (k + 1) + m by omega, hc, hc]
  omega
theorem chain_up {f : Nat → Int} {n : Nat} {c : Int} (h : ∀ k, k + m < n → f (k + m) = f k + c) (j : Nat) : ∀ u, j + m * u < n → f (j + m * u) = f j + c * (u : Int)
  | 0, _ => by simp
  | u + 1, hu => by
    have e : j + m * (u + 1) = j + m * u + m := by rw [Nat.mul_succ]; omega
    have ih := chain_up h j u (by omega)
    rw [e, h _ (by omega), ih, Int.natCast_add, Int.mul_add]
    omega
/-- a place in the last part of a loop -/
theorem last_part {n i t : Nat} (hm : 0 < m) (ht : m * t = n) (hi : i < n) (hg : ¬ i + m < n) : ∃ j, j < m ∧ i + m = n + j ∧ i = j + m * (t - 1) ∧ 0 < t := by
  have t0 : 0 < t := Nat.pos_of_ne_zero fun z => by rw [z, Nat.mul_zero] at ht; omega
  obtain ⟨t', rfl⟩ : ∃ t', t = t' + 1 := ⟨t - 1, by omega⟩
  rw [Nat.mul_succ] at ht
  refine ⟨i + m - n, by omega, by omega, ?_, t0⟩
  rw [show t' + 1 - 1 = t' by omega]
  omega
theorem cond_iff (hl : l ≠ []) (hm : 0 < m) (hd : m ∣ l.length) : ((steps l r).drop m = (steps l r).take (l.length - m)) ↔ Per (walk l r) m := by
  obtain ⟨t, ht⟩ := hd
  have hle : m ≤ l.length := by rw [ht]; exact Nat.le_mul_of_pos_right _ (Nat.pos_of_ne_zero fun z => by rw [z, Nat.mul_zero] at ht; exact absurd ht (Nat.ne_of_gt (len_pos hl)))
  constructor
  · intro h
    have h0 : ∀ k, k + m < l.length → sk l r (k + m) = sk l r k + 0 := fun k hk => by
      have q := congrArg (fun z : List Int => z[k]?) h
      simp only [steps, List.getElem?_drop, List.getElem?_take, if_pos (show k < l.length - m by omega), List.getElem?_map, List.getElem?_range (show m + k < l.length by omega), List.getElem?_range (show k < l.length by omega), Option.map_some, Option.some.injEq] at q
      rw [show k + m = m + k by omega, q]
      omega
    refine per_of_sk fun k => ?_
    have hp := len_pos hl
    have e : k = k % l.length + l.length * (k / l.length) := (Nat.mod_add_div k _).symm
    have hi : k % l.length < l.length := Nat.mod_lt _ hp
    have e1 : sk l r k = sk l r (k % l.length) := by
      have := sk_add (r := r) hl (k % l.length) (k / l.length)
      rw [← e] at this
      exact this
    have e2 : sk l r (k + m) = sk l r (k % l.length + m) := by
      have := sk_add (r := r) hl (k % l.length + m) (k / l.length)
      rw [show k % l.length + m + l.length * (k / l.length) = k + m by omega] at this
      exact this
    rw [e1, e2]
    by_cases c : k % l.length + m < l.length
    · rw [h0 _ c]; omega
    · obtain ⟨j, j1, j2, j3, t0⟩ := last_part hm ht.symm hi c
      have q := chain_up (f := sk l r) (n := l.length) h0 j (t - 1) (by omega)
      rw [j2, show l.length + j = j + l.length * 1 by omega, sk_add hl, j3, q]
      omega
  · intro h
    refine List.ext_getElem? fun k => ?_
    simp only [steps, List.getElem?_drop, List.getElem?_take, List.getElem?_map]
    by_cases c : k < l.length - m
    · rw [if_pos c, List.getElem?_range (by omega), List.getElem?_range (by omega)]
      simp only [Option.map_some]
      rw [show m + k = k + m by omega, sk_of_per h]
    · rw [if_neg c, List.getElem?_eq_none (by rw [List.length_range]; omega)]
      rfl
theorem walk_i {i : Nat} (h : i < l.length) : walk l r i = l.getD i 0 := walk_lt h
/-- the law's own look at a part of a loop -/
theorem law_iff (hl : l ≠ []) (hm : 0 < m) {t : Nat} (ht : m * t = l.length) : (r % (t : Int) = 0 ∧ ∀ k, k + m < l.length → l.getD (k + m) 0 = l.getD k 0 + r / (t : Int)) ↔ Per (walk l r) m := by
  have hp := len_pos hl
  have t0 : 0 < t := Nat.pos_of_ne_zero fun z => by rw [z, Nat.mul_zero] at ht; omega
  constructor
  · rintro ⟨h1, h2⟩
    have hr : r = r / (t : Int) * (t : Int) := (Int.ediv_mul_cancel (Int.dvd_of_emod_eq_zero h1)).symm
    refine ⟨r / (t : Int), fun k => ?_⟩
    have e : k = k % l.length + l.length * (k / l.length) := (Nat.mod_add_div k _).symm
    have hi : k % l.length < l.length := Nat.mod_lt _ hp
    have e1 : walk l r k = walk l r (k % l.length) + r * ((k / l.length : Nat) : Int) := by
      have := walk_add_mul (r := r) hp (k % l.length) (k / l.length)
      rw [← e] at this
      exact this
    have e2 : walk l r (k + m) = walk l r (k % l.length + m) + r * ((k / l.length : Nat) : Int) := by
      have := walk_add_mul (r := r) hp (k % l.length + m) (k / l.length)
      rw [show k % l.length + m + l.length * (k / l.length) = k + m by omega] at this
      exact this
    rw [e1, e2, walk_i hi]
    by_cases c : k % l.length + m < l.length
    · rw [walk_i c, h2 _ c]; omega
    · obtain ⟨j, j1, j2, j3, _⟩ := last_part hm ht hi c
      have q := chain_up (f := fun i => l.getD i 0) (n := l.length) h2 j (t - 1) (by omega)
      have q' : l.getD (k % l.length) 0 = l.getD j 0 + r / (t : Int) * ((t - 1 : Nat) : Int) := by rw [← q]; exact congrArg (fun i => l.getD i 0) j3
      have hjl : j < l.length := by omega
      rw [j2, show l.length + j = j + l.length by omega, walk_add hp, walk_i hjl, q']
      have e3 : r / (t : Int) * (t : Int) = r / (t : Int) * ((t - 1 : Nat) : Int) + r / (t : Int) := by
        rw [show (t : Int) = ((t - 1 : Nat) : Int) + 1 by omega, Int.mul_add, Int.mul_one]
      omega
  · rintro ⟨c, hc⟩
    have hr := per_rise hl hc ht
    have hd : r / (t : Int) = c := by
      rw [hr]
      exact Int.mul_ediv_cancel _ (by omega)
    refine ⟨by rw [hr]; exact Int.mul_emod_left _ _, fun k hk => ?_⟩
    have q := hc k
    rw [walk_i hk, walk_i (by omega)] at q
    rw [q, hd]
/-- what goes on by a part goes on so by its rise -/
theorem per_at (hl : l ≠ []) (hm : 0 < m) (h : Per (walk l r) m) {t : Nat} (ht : m * t = l.length) : ∀ k, walk l r (k + m) = walk l r k + r / (t : Int) := by
  obtain ⟨c, hc⟩ := h
  have hr := per_rise hl hc ht
  have t0 : 0 < t := Nat.pos_of_ne_zero fun z => by rw [z, Nat.mul_zero] at ht; exact absurd ht.symm (Nat.ne_of_gt (len_pos hl))
  have hd : r / (t : Int) = c := by
    rw [hr]
    exact Int.mul_ediv_cancel _ (by omega)
  rw [hd]
  exact hc
/-- the program's search -/
theorem lap_prog (hl : l ≠ []) (hm : 0 < m) (hle : m ≤ l.length / 2) (hd : m ∣ l.length) (hp : Per (walk l r) m) (hno : ∀ m', 0 < m' → m' < m → m' ∣ l.length → ¬ Per (walk l r) m') : LapIs l r m :=
  ⟨hm, hd, hp, fun m' p d q => Nat.le_of_not_lt fun c => hno m' p c d q⟩
theorem lap_whole (hl : l ≠ []) (hno : ∀ m', 0 < m' → m' ≤ l.length / 2 → m' ∣ l.length → ¬ Per (walk l r) m') : LapIs l r l.length :=
  ⟨len_pos hl, Nat.dvd_refl _, per_self hl, fun m' p d q => Nat.le_of_not_lt fun c => hno m' p (by
    obtain ⟨t, ht⟩ := d
    have t2 : 2 ≤ t := Nat.le_of_not_lt fun z => by
      have : t = 0 ∨ t = 1 := by omega
      rcases this with rfl | rfl
      · rw [Nat.mul_zero] at ht; omega
      · rw [Nat.mul_one] at ht; omega
    have : m' * 2 ≤ l.length := by rw [ht]; exact Nat.mul_le_mul_left _ t2
    omega) d q⟩
end
end NT
set_option Elab.async false
set_option linter.all false
set_option maxRecDepth 100000
set_option maxHeartbeats 4000000
namespace NF
open PySem PySem.Spec PyProof.Rows L2 He RZ
theorem Same.tup {K : PySem.W.Frag} {H H' : Hp} {a : Addr} {xs : List V} (e : Same H H') (h : SqT K H a xs) : SqT K H' a xs := by
  rcases h with (h | ⟨o, h⟩) | h
  · exact .inl (.inl (e _ _ h))
  · exact .inl (.inr ⟨o, e _ _ h⟩)
  · exact .inr h
abbrev vI (l : List Int) : List V := l.map V.int
/-! ### o.f = v as one of several targets -/
def gFld (K : PySem.W.Frag) (ta : TE) (f : Str) : TG := fun v σ H Q => ta σ H fun x H1 => ∃ a C dx fs, x = .ref a ∧ H1 a = some (.ins C dx fs) ∧ Cls K C ∧ NoAttr K C f ∧ fs.length < 1000 ∧ Q σ (upd H1 a (.ins C dx (putF f v fs)))
theorem pg_fld {X : Cx} {o : Expr} {f : Str} {pos : Pos} {ta : TE} (ha : PE X o ta) : PG X (.Attribute o f pos) (gFld X.K ta f) := by
  refine ⟨fun pins s σ H v u Q I r h => ?_⟩
  refine PySem.W.kas_attr (thn (ha.run pins s σ H _ I h) fun ov s1 ⟨x, H1, I1, rx, a, C, dx, fs, ex, ea, c, n, l, q⟩ => ?_)
  subst ex
  obtain rfl : ov = Value.ref a := rx
  exact setattr_ok I1 ea c n l r fun s2 I2 => ⟨σ, _, I2, q⟩
/-! ### a name of the module that is a function of Python's own -/
theorem pe_gl {X : Cx} {x : Str} {a : Addr} {pos : Pos} (hm : X.mg x = some (.ref a)) (hg : Gl X x := by rfl) (hd : (x == ("__debug__" : Str)) = false := by decide) : PE X (.Name x pos) (tC (.ref a)) := pe_glob (v := .ref a) hg hm rfl hd
theorem ixl {X : Cx} {K : PySem.W.Frag} (h : X.K = K := by rfl) : IxR X (rIxL K) := h ▸ ix_list
theorem pgt {X : Cx} {K : PySem.W.Frag} {es : List Expr} {k : Nat} {pos : Pos} {t : TGs} {n : Nat} (hK : X.K = K) (hc : X.calm = true) (h : PGs X es t)
    (hn : (assignEach es X.env).length = n := by rfl) (hst : (assignEach es X.env).findIdx? (·.1) = none := by rfl) : PG X (.Tuple es k pos) (gTup K n t) := hK ▸ pg_tup hc h hn hst
theorem ixt {X : Cx} {K : PySem.W.Frag} (h : X.K = K := by rfl) : IxR X (rIxT K) := h ▸ ix_tup
/-! ### slices and sums of tuples: whatever object they give -/
theorem sIx_negN {n d k : Nat} (hk : 0 < k) : HT.sIx n d (some (-(k : Int))) = n - k := by
  show (if -(k : Int) < 0 then (-(k : Int) + (n : Int)).toNat else min (-(k : Int)).toNat n) = n - k
  rw [if_pos (by omega)]
  omega
theorem cut_whole {xs : List V} {lo hi : Option Int} (h : HT.sIx xs.length 0 lo = 0 ∧ HT.sIx xs.length xs.length hi = xs.length) : cutV xs lo hi = xs := by
  unfold cutV
  rw [h.1, h.2]
  simp
theorem slA_done {K : PySem.W.Frag} {H : Hp} {a : Addr} {xs : List V} {lo hi : Option Int} {Q : VK} (hx : SqT K H a xs) (q : ∀ p H', Same H H' → SqT K H' p (cutV xs lo hi) → Q (.ref p) H') : rSlA K (.ref a) lo hi H Q := by
  refine ⟨a, xs, rfl, hx, fun w => q a H (Same.refl H) (by rw [cut_whole w]; exact hx), fun _ p hp => q p _ (NF.Same.new (Same.refl H) hp) (SqT.of upd_same)⟩
theorem slA_from {K : PySem.W.Frag} {H : Hp} {a : Addr} {xs : List V} {lo : Option Int} {Q : VK} {σ : L2.St} (hx : SqT K H a xs) (q : ∀ p H', Same H H' → SqT K H' p (cutV xs lo none) → Q (.ref p) H') : tNoPart σ H fun u H3 => rSlA K (.ref a) lo u H3 Q := by
  show rSlA K (.ref a) lo none H Q
  exact slA_done hx q
theorem catA_done {K : PySem.W.Frag} {H : Hp} {a b : Addr} {xs ys : List V} {Q : VK} (hx : SqT K H a xs) (hy : SqT K H b ys) (hz : xs.length + ys.length ≤ sizeLine) (q : ∀ p H', Same H H' → SqT K H' p (xs ++ ys) → Q (.ref p) H') : rCatA K (.ref a) (.ref b) H Q := by
  refine ⟨a, b, xs, ys, rfl, rfl, hx, hy, hz, fun e => q b H (Same.refl H) (by rw [e]; exact hy), fun _ e => q a H (Same.refl H) (by rw [e, List.append_nil]; exact hx), fun _ _ p hp => q p _ (NF.Same.new (Same.refl H) hp) (SqT.of upd_same)⟩
theorem cut_from {xs : List V} {n : Nat} : cutV xs (some (n : Int)) none = xs.drop n := by
  unfold cutV
  rw [HT.sIx_nat]
  show (xs.drop (min n xs.length)).take (xs.length - min n xs.length) = xs.drop n
  by_cases h : n ≤ xs.length
  · rw [Nat.min_eq_left h, List.take_of_length_le (by rw [List.length_drop]; exact Nat.le_refl _)]
  · rw [Nat.min_eq_right (by omega), List.drop_of_length_le (Nat.le_refl _), List.drop_of_length_le (by omega)]
    simp
theorem cut_to {xs : List V} {n : Nat} : cutV xs none (some (n : Int)) = xs.take n := by
  unfold cutV
  rw [HT.sIx_nat]
  show (xs.drop 0).take (min n xs.length - 0) = xs.take n
  rw [List.drop_zero, Nat.sub_zero]
  by_cases h : n ≤ xs.length
  · rw [Nat.min_eq_left h]
  · rw [Nat.min_eq_right (by omega), List.take_of_length_le (Nat.le_refl _), List.take_of_length_le (by omega)]
theorem cut_toN {xs : List V} {n : Nat} (h : 0 < n) : cutV xs none (some (-(n : Int))) = xs.take (xs.length - n) := by
  unfold cutV
  rw [sIx_negN h]
  show (xs.drop 0).take (xs.length - n - 0) = _
  rw [List.drop_zero, Nat.sub_zero]
theorem cut_mid {xs : List V} {a b : Nat} (h : a ≤ b) (hb : b ≤ xs.length) : cutV xs (some (a : Int)) (some (b : Int)) = (xs.drop a).take (b - a) := by
  unfold cutV
  rw [HT.sIx_nat, HT.sIx_nat, Nat.min_eq_left hb, Nat.min_eq_left (by omega)]
theorem map_cut {l : List Int} {lo hi : Option Int} : ∃ m : List Int, cutV (vI l) lo hi = vI m := ⟨(l.drop (HT.sIx (vI l).length 0 lo)).take (HT.sIx (vI l).length (vI l).length hi - HT.sIx (vI l).length 0 lo), by unfold cutV; simp only [vI, List.map_take, List.map_drop]⟩
theorem at_int {l : List Int} {i : Int} {k : Nat} (e : i = (k : Int)) (h : k < l.length) : atI (vI l) i = some (V.int (l.getD k 0)) := by
  rw [e]
  exact atI_nat (by rw [List.getElem?_map, List.getElem?_eq_getElem h, List.getD_eq_getElem?_getD, List.getElem?_eq_getElem h] <;> rfl)
theorem at_last {l : List Int} (h : 0 < l.length) : atI (vI l) (-1) = some (V.int (l.getD (l.length - 1) 0)) := by
  unfold atI ixN
  rw [if_neg (by omega), List.length_map, if_pos (by omega)]
  show (vI l)[((-1 : Int) + (l.length : Int)).toNat]? = _
  rw [show ((-1 : Int) + (l.length : Int)).toNat = l.length - 1 by omega, List.getElem?_map, List.getElem?_eq_getElem (by omega), List.getD_eq_getElem?_getD, List.getElem?_eq_getElem (by omega)] <;> rfl
/-! ### [.. for a, b in zip(t, u)] of two tuples of one length -/
theorem lc_zipT {K : PySem.W.Frag} {a b : Addr} {xs ys : List V} {g : TG} {tt : TT} {te : TE} {vs : List Nat} {σ : L2.St} {H1 : Hp} {D : Addr} {Qd : Hp → Prop} (hl : xs.length = ys.length) (Pv : Nat → Hp → Prop) (h0 : Pv 0 (upd H1 D (.lst []))) (hq : ∀ i H, Pv i H → SqT K H a xs ∧ SqT K H b ys)
    (hs : ∀ i x y T H, xs[i]? = some x → ys[i]? = some y → Pv i H → H T = none → g (.ref T) (wipe σ vs) (upd H T (.tup [x, y])) fun σ2 H2 => wipe σ2 vs = wipe σ vs ∧ tt σ2 H2 fun b H3 =>
      if b = true then te σ2 H3 fun y H4 => ∃ acc, H4 D = some (.lst acc) ∧ acc.length < sizeLine ∧ Pv (i + 1) (upd H4 D (.lst (acc ++ [y]))) else Pv (i + 1) H3) (hd : ∀ H, Pv xs.length H → Qd H) :
    ∃ W : Nat → Nat → Hp → Prop, (∃ m, W 0 m (upd H1 D (.lst []))) ∧ ∀ i m H, W i m H →
      ((ItzT K a b).stop i H ∧ Qd H) ∨ ((ItzT K a b).go i H ∧ ∃ Nx : Hp → Prop, (∀ H', Nx H' → ∃ m', m' < m ∧ W (i + 1) m' H') ∧ ∀ x H', (ItzT K a b).yld i H x H' → g x (wipe σ vs) H' fun σ2 H2 => wipe σ2 vs = wipe σ vs ∧ tt σ2 H2 fun b H3 =>
        if b = true then te σ2 H3 fun y H4 => ∃ acc, H4 D = some (.lst acc) ∧ acc.length < sizeLine ∧ Nx (upd H4 D (.lst (acc ++ [y]))) else Nx H3) := by
  refine ⟨fun i m H => m = xs.length - i ∧ i ≤ xs.length ∧ Pv i H, ⟨xs.length, rfl, Nat.zero_le _, h0⟩, ?_⟩
  rintro i m H ⟨rfl, hi, p⟩
  obtain ⟨qx, qy⟩ := hq i H p
  by_cases hlt : i < xs.length
  · have hx : xs[i]? = some xs[i] := List.getElem?_eq_getElem hlt
    have hlt2 : i < ys.length := by omega
    have hy : ys[i]? = some ys[i] := List.getElem?_eq_getElem hlt2
    refine .inr ⟨⟨xs, ys, _, _, qx, qy, hx, hy⟩, Pv (i + 1), fun H' p' => ⟨xs.length - (i + 1), by omega, rfl, hlt, p'⟩, fun v H' y => ?_⟩
    obtain ⟨T, x', y', rfl, hT, rfl, f1, f2⟩ := y
    exact hs i x' y' T H (f1 xs qx) (f2 ys qy) p hT
  · have e : i = xs.length := by omega
    subst e
    exact .inl ⟨⟨xs, ys, qx, qy, Or.inl (Nat.le_refl _)⟩, hd H p⟩
theorem tru_tup {K : PySem.W.Frag} {H : Hp} {a : Addr} {l : List Int} (h : SqT K H a (vI l)) : TruV K (.ref a) H (!l.isEmpty) := Or.inr (Or.inl ⟨_, h, by cases l <;> rfl⟩)
theorem tru_int {K : PySem.W.Frag} {H : Hp} {i : Int} : TruV K (.int i) H (i != 0) := rfl
/-! ### deep == of lists and tuples of vI -/
theorem dp_ints {K : PySem.W.Frag} {H : Hp} : ∀ l : List Int, DpAll K H (vI l) (l.map PyData.int)
  | [] => .nil
  | i :: l => .cons (.int i) (dp_ints l)
theorem eqv_ints : ∀ a b : List Int, PyData.eqvAll (a.map PyData.int) (b.map PyData.int) = decide (a = b)
  | [], [] => rfl
  | [], _ :: _ => rfl
  | _ :: _, [] => rfl
  | x :: a, y :: b => by
    show (PyData.eqv (.int x) (.int y) && PyData.eqvAll (a.map PyData.int) (b.map PyData.int)) = _
    rw [eqv_ints a b]
    show ((x == y) && decide (a = b)) = _
    by_cases h : x = y <;> by_cases g : a = b <;> simp [h, g]
end NF
namespace NF
open PySem PySem.Spec PyProof.Rows L2 He RZ
theorem lay_ints : ∀ l : List Int, PyData.canLayAll0 (l.map PyData.int) = true
  | [] => rfl
  | _ :: l => lay_ints l
theorem depth_ints : ∀ l : List Int, PyData.depthAll (l.map PyData.int) = 0
  | [] => rfl
  | i :: l => by
    show max (PyData.depth (.int i)) (PyData.depthAll (l.map PyData.int)) = 0
    rw [depth_ints l]
    rfl
theorem shaped_L (l : List Int) : SeqAt.shaped (.list (l.map PyData.int)) = true := by
  show (PyData.canLayAll0 (l.map PyData.int) && decide (PyData.depthAll (l.map PyData.int) + 1 ≤ 64)) = true
  rw [lay_ints, depth_ints]
  rfl
theorem shaped_T (l : List Int) : SeqAt.shaped (.tuple (l.map PyData.int)) = true := by
  show (PyData.canLayAll0 (l.map PyData.int) && decide (PyData.depthAll (l.map PyData.int) + 1 ≤ 64)) = true
  rw [lay_ints, depth_ints]
  rfl
theorem eqL_done {K : PySem.W.Frag} {H : Hp} {a b : Addr} {x y : List Int} {Q : VK} (hx : SqL K H a (vI x)) (hy : SqL K H b (vI y)) (q : Q (.bl (decide (x = y))) H) : rEqD K (.ref a) (.ref b) H Q :=
  ⟨_, _, .lst hx (dp_ints x), .lst hy (dp_ints y), shaped_L x, shaped_L y, by rw [show PyData.eqv (.list (x.map PyData.int)) (.list (y.map PyData.int)) = decide (x = y) from eqv_ints x y]; exact q⟩
theorem eqT_done {K : PySem.W.Frag} {H : Hp} {a b : Addr} {x y : List Int} {Q : VK} (hx : SqT K H a (vI x)) (hy : SqT K H b (vI y)) (q : Q (.bl (decide (x = y))) H) : rEqD K (.ref a) (.ref b) H Q :=
  ⟨_, _, .tup hx (dp_ints x), .tup hy (dp_ints y), shaped_T x, shaped_T y, by rw [show PyData.eqv (.tuple (x.map PyData.int)) (.tuple (y.map PyData.int)) = decide (x = y) from eqv_ints x y]; exact q⟩
theorem neT_done {K : PySem.W.Frag} {H : Hp} {a b : Addr} {x y : List Int} {Q : VK} (hx : SqT K H a (vI x)) (hy : SqT K H b (vI y)) (q : Q (.bl (!decide (x = y))) H) : rNeD K (.ref a) (.ref b) H Q :=
  ⟨_, _, .tup hx (dp_ints x), .tup hy (dp_ints y), shaped_T x, shaped_T y, by rw [show PyData.eqv (.tuple (x.map PyData.int)) (.tuple (y.map PyData.int)) = decide (x = y) from eqv_ints x y]; exact q⟩
end NF
namespace NF
open PySem
theorem vI_drop {l : List Int} {n : Nat} : (vI l).drop n = vI (l.drop n) := by simp [vI, List.map_drop]
theorem vI_take {l : List Int} {n : Nat} : (vI l).take n = vI (l.take n) := by simp [vI, List.map_take]
theorem vI_app {l m : List Int} : vI l ++ vI m = vI (l ++ m) := by simp [vI]
theorem vI_len {l : List Int} : (vI l).length = l.length := by simp [vI]
end NF
namespace NF
open PySem PySem.Spec PyProof.Rows L2 He RZ
/-- a list or a tuple -/
def Row (K : PySem.W.Frag) (H : Hp) (a : Addr) (xs : List V) : Prop := SqL K H a xs ∨ SqT K H a xs
theorem Row.mono {K : PySem.W.Frag} {H H' : Hp} {a : Addr} {xs : List V} (h : Row K H a xs) (s : Same H H') : Row K H' a xs := h.elim (fun h => .inl (L2.Same.seq s h)) (fun h => .inr (NF.Same.tup s h))
def iRow (K : PySem.W.Frag) (tl : TE) : TI := fun σ H R => tl σ H fun x H1 => ∃ a, x = .ref a ∧ (((∃ xs, SqL K H1 a xs) ∧ R (Itl K a) H1) ∨ ((∃ xs, SqT K H1 a xs) ∧ R (Itt K a) H1))
theorem pi_row {X : Cx} {tg l : Expr} {tl : TE} (hl : PE X l tl) : PI X tg l (iRow X.K tl) := by
  refine ⟨fun pins s σ H R I h => ?_⟩
  refine thn (hl.run pins s σ H _ I h) fun v s1 ⟨x, H1, I1, r1, q1⟩ => ?_
  obtain ⟨a, e, q⟩ := q1
  subst e
  cases r1
  rcases q with ⟨⟨xs, hq⟩, q⟩ | ⟨⟨xs, hq⟩, q⟩
  · obtain ⟨its, rv, p, hz⟩ := I1.list hq
    refine wpAny_pyIter_list p.isList ?_
    refine ⟨s1.heap.objs.size, [s1.heap.objs.size], _, _, H1, rfl, I1.kept (t' := s1.toks) fun b o e => Heap.get?_push_of_some _ e, turn_list a _, ⟨_, Heap.get?_push_size _ rfl, rfl, rfl⟩, fun b hb => ?_, q⟩
    have e : b = s1.heap.objs.size := by simpa using hb
    subst e
    exact I1.fpOk (Nat.le_refl _) (I1.hok.fresh (Nat.le_refl _))
  · obtain ⟨its, rv, p, hz⟩ := I1.tuple hq
    refine wpAny_pyIter_tuple (show s1.heap.IsTuple a its.toArray from p) ?_
    refine ⟨s1.heap.objs.size, [s1.heap.objs.size], _, _, H1, rfl, I1.kept (t' := s1.toks) fun b o e => Heap.get?_push_of_some _ e, turn_tuple a _, ⟨_, Heap.get?_push_size _ rfl, rfl, rfl⟩, fun b hb => ?_, q⟩
    have e : b = s1.heap.objs.size := by simpa using hb
    subst e
    exact I1.fpOk (Nat.le_refl _) (I1.hok.fresh (Nat.le_refl _))
theorem for_row {K : PySem.W.Frag} {a : Addr} {xs : List V} {g : TG} {tb : TS} {D : Ends} {σ : L2.St} {H : Hp} (hr : Row K H a xs) (Pv : Nat → L2.St → Hp → Prop) (h0 : Pv 0 σ H) (hm : ∀ i σ H', Pv i σ H' → Same H H')
    (hs : ∀ i x σ H, xs[i]? = some x → Pv i σ H → g x σ H fun σ2 H2 => tb { D with nx := Pv (i + 1), ct := Pv (i + 1), bk := D.nx } σ2 H2) (hd : ∀ σ H, Pv xs.length σ H → D.nx σ H) :
    ((∃ xs, SqL K H a xs) ∧ (∃ W : Nat → Nat → L2.St → Hp → Prop, (∃ m, W 0 m σ H) ∧ ∀ i m σ H, W i m σ H →
      ((Itl K a).stop i H ∧ D.nx σ H) ∨ ((Itl K a).go i H ∧ ∃ N : L2.St → Hp → Prop, (∀ σ' H', N σ' H' → ∃ m', m' < m ∧ W (i + 1) m' σ' H') ∧ ∀ x H', (Itl K a).yld i H x H' → g x σ H' fun σ2 H2 => tb { D with nx := N, ct := N, bk := D.nx } σ2 H2))) ∨
    ((∃ xs, SqT K H a xs) ∧ (∃ W : Nat → Nat → L2.St → Hp → Prop, (∃ m, W 0 m σ H) ∧ ∀ i m σ H, W i m σ H →
      ((Itt K a).stop i H ∧ D.nx σ H) ∨ ((Itt K a).go i H ∧ ∃ N : L2.St → Hp → Prop, (∀ σ' H', N σ' H' → ∃ m', m' < m ∧ W (i + 1) m' σ' H') ∧ ∀ x H', (Itt K a).yld i H x H' → g x σ H' fun σ2 H2 => tb { D with nx := N, ct := N, bk := D.nx } σ2 H2))) := by
  rcases hr with hr | hr
  · exact .inl ⟨⟨_, hr⟩, for_list Pv h0 (fun i σ H' _ p => L2.Same.seq (hm i σ H' p) hr) hs hd⟩
  · exact .inr ⟨⟨_, hr⟩, for_tup Pv h0 (fun i σ H' _ p => NF.Same.tup (hm i σ H' p) hr) hs hd⟩
theorem ixs {X : Cx} {K : PySem.W.Frag} (h : X.K = K := by rfl) : IxR X (rIx K) := h ▸ ix_seq
theorem ix_done {K : PySem.W.Frag} {H : Hp} {a : Addr} {xs : List V} {i : Int} {v : V} {Q : VK} (hr : Row K H a xs) (hv : atI xs i = some v) (q : Q v H) : rIx K (.ref a) (.int i) H Q :=
  hr.elim (fun h => .inl ⟨a, xs, i, v, rfl, rfl, h, hv, q⟩) fun h => .inr (.inl ⟨a, xs, i, v, rfl, rfl, h, hv, q⟩)
theorem tru_row {K : PySem.W.Frag} {H : Hp} {a : Addr} {l : List Int} (h : Row K H a (vI l)) : TruV K (.ref a) H (!l.isEmpty) := h.elim (fun h => Or.inl ⟨_, h, by cases l <;> rfl⟩) tru_tup
theorem tyx_tup {K : PySem.W.Frag} {H : Hp} {a : Addr} {xs : List V} (h : SqT K H a xs) : TyX K H (.ref a) (.type "tuple") := by
  rcases h with (h | ⟨o, h⟩) | ⟨o, its, n, h1, h2, _⟩
  · exact .base (.tup h)
  · exact .fTuple h
  · exact .kTuple h1 h2
theorem tyx_lst {K : PySem.W.Frag} {H : Hp} {a : Addr} {xs : List V} (h : SqL K H a xs) : TyX K H (.ref a) (.type "list") := by
  rcases h with (h | ⟨o, h⟩) | ⟨o, its, n, h1, h2, _⟩
  · exact .base (.lst h)
  · exact .base (.frz h)
  · exact .kList h1 h2
theorem kit_i_i (K : PySem.W.Frag) : PySem.W.kitOne K (.type "int") (.type "int") = some true := if_pos (by decide +kernel)
theorem kit_i_b (K : PySem.W.Frag) : PySem.W.kitOne K (.type "int") (.type "bool") = some false := by kernel_rfl
theorem kit_b_b (K : PySem.W.Frag) : PySem.W.kitOne K (.type "bool") (.type "bool") = some true := if_pos (by decide +kernel)
theorem kit_t_t (K : PySem.W.Frag) : PySem.W.kitOne K (.type "tuple") (.type "tuple") = some true := if_pos (by decide +kernel)
theorem kit_t_tl (K : PySem.W.Frag) : PySem.W.kitAny K (.type "tuple") [.type "tuple", .type "list"] = some true := by kernel_rfl
theorem kit_l_tl (K : PySem.W.Frag) : PySem.W.kitAny K (.type "list") [.type "tuple", .type "list"] = some true := by kernel_rfl
end NF
namespace NT
def climbs : Int → List Int → Prop
  | _, [] => True
  | lo, x :: xs => lo ≤ x ∧ climbs x xs
structure Good (h l : List Int) (r : Int) : Prop where
  hd : climbs 0 h
  lp : climbs 0 l
  join : h ≠ [] → l ≠ [] → h.getD (h.length - 1) 0 ≤ l.getD 0 0
  r0 : 0 ≤ r
  rl : l = [] → r = 0
  last : l ≠ [] → l.getD (l.length - 1) 0 ≤ l.getD 0 0 + r
end NT
set_option Elab.async false
set_option linter.all false
set_option maxRecDepth 100000
set_option maxHeartbeats 4000000
namespace NT
theorem least_of {p : Nat → Prop} : ∀ n, p n → ∃ m, p m ∧ m ≤ n ∧ ∀ k, p k → m ≤ k := by
  intro n
  induction n using Nat.strongRecOn with
  | _ n ih =>
    intro hn
    by_cases h : ∃ k, p k ∧ k < n
    · obtain ⟨k, hk, hlt⟩ := h
      obtain ⟨m, h1, h2, h3⟩ := ih k hlt hk
      exact ⟨m, h1, by omega, h3⟩
    · exact ⟨n, hn, Nat.le_refl _, fun k hk => Nat.le_of_not_lt fun hlt => h ⟨k, hk, hlt⟩⟩
theorem lap_ex {l : List Int} {r : Int} (hl : l ≠ []) : ∃ m, LapIs l r m := by
  obtain ⟨m, ⟨h1, h2, h3⟩, _, hm⟩ := least_of (p := fun m => 0 < m ∧ m ∣ l.length ∧ Per (walk l r) m) l.length ⟨len_pos hl, Nat.dvd_refl _, per_self hl⟩
  exact ⟨m, h1, h2, h3, fun k a b c => hm k ⟨a, b, c⟩⟩
/-- the plain form is no longer than what it was told by -/
theorem plain_size {h l : List Int} {r : Int} {x : List Int × List Int × Int} (hx : IsPlain h l r x) : x.1.length ≤ h.length ∧ x.2.1.length ≤ l.length ∧ (l ≠ [] → x.2.1 ≠ []) ∧ (l = [] → x.2.1 = []) ∧ (0 ≤ r → 0 ≤ x.2.2 ∧ x.2.2 ≤ r) ∧ (l ≠ [] → (0 < r ↔ 0 < x.2.2)) ∧ (l = [] → x = (h, [], 0)) := by
  by_cases hl : l = []
  · subst hl
    rcases hx with ⟨_, rfl⟩ | ⟨z, _⟩
    · exact ⟨Nat.le_refl _, Nat.le_refl _, fun z => absurd rfl z, fun _ => rfl, fun h => ⟨Int.le_refl _, h⟩, fun z => absurd rfl z, fun _ => rfl⟩
    · exact absurd rfl z
  · obtain ⟨m, a⟩ := lap_ex (r := r) hl
    obtain ⟨t, ht⟩ := a.dvd
    have hc := per_at hl a.pos a.per ht.symm
    have hr := per_rise hl hc ht.symm
    have t0 : 0 < t := Nat.pos_of_ne_zero fun z => by rw [z, Nat.mul_zero] at ht; have := len_pos hl; omega
    have b := plain_is (h := h) hl a hc
    have e := plain_one hx b fun n _ => rfl
    have hle : m ≤ l.length := Nat.le_of_dvd (len_pos hl) a.dvd
    have hlen : (h ++ l.take m).length = h.length + m := by rw [List.length_append, List.length_take, Nat.min_eq_left hle]
    have hcut := cut_le (e := h ++ l.take m) (p := m) (r := r / (t : Int)) h.length
    have hw := win_len (e := h ++ l.take m) (left := cut (h ++ l.take m) m (r / (t : Int)) h.length) (p := m) (by rw [hlen]; omega)
    subst e
    have hm := a.pos
    refine ⟨?_, ?_, fun _ z => ?_, fun z => absurd z hl, fun h0 => ?_, fun _ => ?_, fun z => absurd z hl⟩
    · show ((h ++ l.take m).take _).length ≤ _
      rw [List.length_take]
      omega
    · show (win _ _ _).length ≤ _
      rw [hw]
      exact hle
    · have z' : win (h ++ l.take m) (cut (h ++ l.take m) m (r / (t : Int)) h.length) m = [] := z
      rw [z'] at hw
      simp at hw
      omega
    · show 0 ≤ r / (t : Int) ∧ r / (t : Int) ≤ r
      exact ⟨Int.ediv_nonneg h0 (by omega), Int.ediv_le_self _ h0⟩
    · show 0 < r ↔ 0 < r / (t : Int)
      have t1 : (0 : Int) < (t : Int) := by omega
      constructor
      · intro h0
        rcases Int.lt_or_le 0 (r / (t : Int)) with q | q
        · exact q
        · have := Int.mul_le_mul_of_nonneg_right q (Int.le_of_lt t1)
          omega
      · intro h0
        have := Int.mul_pos h0 t1
        omega
/-- the end of a table -/
def fin_ (l : List Int) (r : Int) : Option Int := if l = [] ∨ 0 < r then none else some (l.getD (l.length - 1) 0)
/-- the value at a count, or at never -/
def val_ (h l : List Int) (r : Int) : Option Nat → Option Int
  | none => fin_ l r
  | some n => if n = 0 then some 0 else at_ h l r n
end NT
namespace NF
open PySem PySem.Spec PyProof.Rows L2 He RZ NT
def vO : Option Int → V
  | none => .non
  | some i => .int i
def vN : Option Nat → V
  | none => .non
  | some n => .int (n : Int)
def tf (a b : Addr) (r : Int) : List (Str × V) := [("head", .ref a), ("loop", .ref b), ("rise", .int r)]
/-- a table with these three -/
def TabAt (K : PySem.W.Frag) (C : Addr) (H : Hp) (x : Addr) (y : List Int × List Int × Int) : Prop := ∃ dx a b, H x = some (.ins C dx (tf a b y.2.2)) ∧ SqT K H a (vI y.1) ∧ SqT K H b (vI y.2.1)
theorem TabAt.mono {K : PySem.W.Frag} {C : Addr} {H H' : Hp} {x : Addr} {y : List Int × List Int × Int} (h : TabAt K C H x y) (s : Same H H') : TabAt K C H' x y := by
  obtain ⟨dx, a, b, h1, h2, h3⟩ := h
  exact ⟨dx, a, b, s _ _ h1, NF.Same.tup s h2, NF.Same.tup s h3⟩
/-- what stands at p is no tuple -/
def NoTup : HO → Prop
  | .tup _ => False
  | .frz _ _ => False
  | _ => True
theorem SqT.put {K : PySem.W.Frag} {H : Hp} {a p : Addr} {o u : HO} {xs : List V} (h : SqT K H a xs) (hp : H p = some u) (n : match u with | .lst _ => True | .ins _ _ _ => True | _ => False) : SqT K (upd H p o) a xs := by
  rcases h with (h | ⟨w, h⟩) | h
  · refine .inl (.inl ?_)
    rw [upd_ne (fun z => by subst z; rw [h] at hp; cases hp; exact n)]
    exact h
  · refine .inl (.inr ⟨w, ?_⟩)
    rw [upd_ne (fun z => by subst z; rw [h] at hp; cases hp; exact n)]
    exact h
  · exact .inr h
theorem SqT.wo {K : PySem.W.Frag} {H : Hp} {a p : Addr} {u : HO} {xs : List V} (h : SqT K H a xs) (hp : H p = some u) (n : match u with | .lst _ => True | .ins _ _ _ => True | _ => False) : SqT K (wo H p) a xs := by
  rcases h with (h | ⟨w, h⟩) | h
  · refine .inl (.inl ?_)
    rw [wo_ne (fun z => by subst z; rw [h] at hp; cases hp; exact n)]
    exact h
  · refine .inl (.inr ⟨w, ?_⟩)
    rw [wo_ne (fun z => by subst z; rw [h] at hp; cases hp; exact n)]
    exact h
  · exact .inr h
theorem TabAt.wo {K : PySem.W.Frag} {C : Addr} {H : Hp} {x p : Addr} {y : List Int × List Int × Int} {l : List V} (h : TabAt K C H x y) (hp : H p = some (.lst l)) : TabAt K C (NF.wo H p) x y := by
  obtain ⟨dx, a, b, h1, h2, h3⟩ := h
  refine ⟨dx, a, b, ?_, SqT.wo h2 hp trivial, SqT.wo h3 hp trivial⟩
  rw [wo_ne (fun z => by subst z; rw [h1] at hp; cases hp)]
  exact h1
/-- a class that may be made by its name; sp: its __init__ -/
structure Mak (P : Program) (w : World) (K : PySem.W.Frag) (mg : Str → Option Value) (base : Heap) (k n : Nat) (x : Str) (C : Addr) (sp : Sp) (dvs : List V) : Prop where
  ex : ∃ (f : Addr) (fd : FuncData) (ps : List Str) (ds : List Value), Mk K C f ∧ FnOk P w K mg base CX0 k f fd ps sp ∧ mg x = some (.ref C) ∧ Binds K fd ps ds ∧ Vals dvs ds
theorem pe_mk {X : Cx} {k j n : Nat} {C : Addr} {x : Str} {sp : Sp} {dvs : List V} {p pos : Pos} {e : Expr} {es : List Expr} {t : TA} (c : Mak X.prog X.w X.K X.mg X.base k n x C sp dvs) (hr : Room j X.A) (hk : k + 1 ≤ j) (hg : Gl X x) (ha : PA X (e :: es) t)
    (hdb : (x == ("__debug__" : Str)) = false := by decide) (he : starEach (e :: es) X.env = (false, eval e X.env) :: starEach es X.env := by rfl) (hpl : (backTo pos (starEach es X.env)).any (·.1) = false := by rfl) :
    PE X (.Call (.Name x p) (e :: es) [] pos) (tMake C sp dvs E0 t) := by
  obtain ⟨f, fd, ps, ds, M, F, hm, b, d⟩ := c.ex
  exact pe_make M F (hr.mono hk) hg hm b d pass0 ha hdb he hpl
end NF
namespace NF
open PySem PySem.Spec PyProof.Rows L2 He RZ NT
/-- tuple(..) of a list or a tuple -/
def rTupOf (K : PySem.W.Frag) : List V → Hp → VK → Prop := fun xs H Q => ∃ a ys, xs = [.ref a] ∧ Row K H a ys ∧ ∀ p H', Same H H' → SqT K H' p ys → Q (.ref p) H'
theorem cr_tup {X : Cx} : CallR X (.type "tuple") (rTupOf X.K) := by
  intro pins s σ H xs us Q I r h
  obtain ⟨a, ys, rfl, hr, q⟩ := h
  refine call_tuple_of pins s σ H _ us Q I r ⟨a, ys, rfl, ?_⟩
  exact hr.elim (fun h => .inl ⟨h, fun l hl => q l _ (NF.Same.new (Same.refl H) hl) (SqT.of upd_same)⟩) fun h => .inr ⟨h, q a H (Same.refl H) h⟩
end NF
set_option Elab.async false
set_option linter.all false
set_option maxRecDepth 100000
set_option maxHeartbeats 4000000
/-! Instances of a plain class with an own __eq__: ==, !=, isinstance, calls, properties. -/
namespace NF
open PySem PySem.Spec PyProof.Rows L2 He RZ NT
theorem ns_some_of {K : PySem.W.Frag} {h : Heap} {N : Addr} {mg : Str → Option Value} {n : Str} {v : Value} (X : K.In h) (G : h.Ns N mg) (e : PySem.W.nsIn K N n = some (some v)) : mg n = some v := by
  rcases G with ⟨ob, rows, cnt, at_, isD, rest⟩
  have val := rest.2 n
  rcases hk : K.lookup N with _ | ⟨c0, d0, dt, sl⟩
  · simp only [PySem.W.nsIn, hk] at e
    cases e
  · have same := (X N _ hk).symm.trans at_
    injection same with same
    subst same
    dsimp only at isD
    subst isD
    simp only [PySem.W.nsIn, hk] at e
    rw [← val]
    unfold nsFind findBy
    rw [← Array.find?_toList]
    revert e
    cases rows.toList.find? _ with
    | some en => exact fun e => by simpa using e
    | none =>
      intro e
      by_cases hany : (rows.toList.any fun x => x.refKey) = true
      · simp [hany] at e
      · simp [hany] at e
/-- the class's own object: nothing above it but object, an own __eq__ at f, no own __ne__ -/
def plObjB (K : PySem.W.Frag) (C f : Addr) : Bool := match K.lookup C with
  | some ⟨.type t, _, .cls cd, sl⟩ => t == "type" && (match cd.mro with
    | .ref C' :: bm => C' == C && bm == [.type "object"]
    | _ => false) && (cd.hasDict && !cd.hasDel) && (PySem.W.nsOkIn K cd.ns && eqO (PySem.W.nsIn K cd.ns "__eq__") (some (some (.ref f))) && eqO (PySem.W.nsIn K cd.ns "__ne__") (some none)) && (match sl.toList with
    | [_, _, _, _, some (.builtin n), _] => n == "object.__new__"
    | _ => false)
  | _ => false
theorem plObjB_ok {K : PySem.W.Frag} {C f : Addr} (h : plObjB K C f = true) :
    ∃ nm q N bs sn sub ab col dd k0 k1 k2 k3 k5, K.lookup C = some (excClassObj nm q C N bs [.type "object"] true sn sub ab col dd k0 k1 k2 k3 k5 "object.__new__") ∧ PySem.W.nsOkIn K N = true ∧ PySem.W.nsIn K N "__eq__" = some (some (.ref f)) ∧ PySem.W.nsIn K N "__ne__" = some none := by
  unfold plObjB at h
  split at h
  · rename_i t dd cd sl hl
    obtain ⟨h, h4⟩ := ba h
    obtain ⟨h, h9⟩ := ba h
    obtain ⟨h, h3⟩ := ba h
    obtain ⟨h1, h2⟩ := ba h
    obtain ⟨h12, h11⟩ := ba h9
    obtain ⟨h13, h10⟩ := ba h12
    split at h2
    · rename_i C' bm hm
      obtain ⟨h5, h6⟩ := ba h2
      split at h4
      · rename_i k0 k1 k2 k3 n k5 hs
        obtain ⟨h7, h8⟩ := ba h3
        have e1 : t = "type" := eq_of_beq h1
        have e5 : C' = C := eq_of_beq h5
        have e6 : bm = [.type "object"] := eq_of_beq h6
        have e9 : n = "object.__new__" := eq_of_beq h4
        subst e1 e5 e6 e9
        obtain ⟨nm, bs, mro, N, q, hd, sn, sub, ab, col, hdel⟩ := cd
        dsimp only at hm h7 h8 h13 h10 h11
        subst hm h7
        have hdel' : hdel = false := by
          cases hdel with
          | false => rfl
          | true => cases h8
        subst hdel'
        have hsl : sl = #[k0, k1, k2, k3, some (.builtin "object.__new__"), k5] := by
          have := congrArg List.toArray hs
          simpa using this
        subst hsl
        exact ⟨nm, q, N, bs, sn, sub, ab, col, dd, k0, k1, k2, k3, k5, hl, h13, eqO_ok h10, eqO_ok h11⟩
      · cases h4
    · cases h2
  · cases h
/-- x == y, x an instance of C -/
def rEqO (K : PySem.W.Frag) (C : Addr) (sp : Sp) : R2 := fun x y H Q => ∃ a dx fs tb, x = .ref a ∧ H a = some (.ins C dx fs) ∧ TyX K H y tb ∧ PySem.W.notFirst K C tb = true ∧ sp [.ref a, y] H Q E0
/-- x != y, both instances of C -/
def rNeO (K : PySem.W.Frag) (C : Addr) (sp : Sp) : R2 := fun x y H Q => ∃ a dx fs b dy gs, x = .ref a ∧ H a = some (.ins C dx fs) ∧ y = .ref b ∧ H b = some (.ins C dy gs) ∧ sp [.ref a, .ref b] H (fun v H' => ∃ t, v = .bl t ∧ Q (.bl (!t)) H') E0
/-- a class with an own == at f -/
structure EqC (P : Program) (w : World) (K : PySem.W.Frag) (mg : Str → Option Value) (base : Heap) (k : Nat) (C : Addr) (sp : Sp) : Prop where
  ex : ∃ (f : Addr) (fd : FuncData) (ps : List Str), FnOk P w K mg base CX0 k f fd ps sp ∧ PySem.W.findIn K (.ref C) "__eq__" = some (some (.ref f)) ∧ PySem.W.isFn K (.ref f) = true ∧ plObjB K C f = true ∧ Binds K fd ps []
theorem op_eqO {X : Cx} {k j : Nat} {C : Addr} {sp : Sp} (c : EqC X.prog X.w X.K X.mg X.base k C sp) (hr : Room j X.A) (hk : k ≤ j) : OpR X (compareOp .Eq) (rEqO X.K C sp) := by
  obtain ⟨f, fd, ps, F, hs, hf, _, hb⟩ := c.ex
  intro pins s σ H x y v u Q I rx ry h
  obtain ⟨a, dx, fs, tb, rfl, ha, ty, hn, q⟩ := h
  cases rx
  obtain ⟨mA, O, _⟩ := ins_get I.hok ha
  obtain ⟨od, J, _⟩ := O.look
  obtain ⟨m, hF⟩ := I.fr
  obtain ⟨P, Z, p, _⟩ := kit_of I ry ty
  show wpAny (model X.prog X.w) X.A (richCompare .Eq (.ref a) u) (EP X pins σ Q) X.xe s
  refine PySem.W.cmp_K (op := .Eq) (tb := tb) hr.units0 hF I.ok.mod.kin J (Z.ty _ _ I.kIn p) hn hs hf ?_
  have r2 : Vals [V.ref a, y] [Value.ref a, u] := .cons rfl (.cons ry .nil)
  refine wpAny_mono (run_fn (us := [.ref a, u]) (vs := [.ref a, y]) F (hr.mono hk) hb .nil pass0 I r2 q) (fun r s' z => ?_) fun _ _ e => e
  obtain ⟨z, H', I', rz, q'⟩ := z
  have hni : r ≠ .notImplemented := fun e => by
    subst e
    cases z with
    | int i => obtain ⟨t, e⟩ := (show ∃ t, Value.notImplemented = Value.int i t from rz); cases e
    | str i => obtain ⟨t, e⟩ := (show ∃ t, Value.notImplemented = Value.str i t from rz); cases e
    | byt i => obtain ⟨t, e⟩ := (show ∃ t, Value.notImplemented = Value.bytes i t from rz); cases e
    | flt i => obtain ⟨t, e⟩ := (show ∃ t, Value.notImplemented = Value.float i t from rz); cases e
    | _ => cases rz
  unfold PySem.W.CmpBack
  split
  · exact hni rfl
  · exact ⟨z, H', I', rz, q'⟩
theorem op_neO {X : Cx} {k j : Nat} {C : Addr} {sp : Sp} (c : EqC X.prog X.w X.K X.mg X.base k C sp) (hr : Room j X.A) (hk : k + 1 ≤ j) : OpR X (compareOp .NotEq) (rNeO X.K C sp) := by
  obtain ⟨f, fd, ps, F, hs, hf, hp, hb⟩ := c.ex
  intro pins s σ H x y v u Q I rx ry h
  obtain ⟨a, dx, fs, b, dy, gs, rfl, ha, rfl, hb', q⟩ := h
  cases rx
  cases ry
  obtain ⟨mA, O, _⟩ := ins_get I.hok ha
  obtain ⟨od, J, _⟩ := O.look
  obtain ⟨mB, O', _⟩ := ins_get I.hok hb'
  obtain ⟨od', J', _⟩ := O'.look
  obtain ⟨nm, qn, N, bs, sn, sub, ab, col, dd, k0, k1, k2, k3, k5, hl, hok, he, hne⟩ := plObjB_ok hp
  have G : s.heap.Ns N (s.heap.nsMap N) := .of_isNs (PySem.W.isNs_of_in I.kIn hok)
  have hr1 := hr.mono hk
  have r2 : Vals [V.ref a, .ref b] [Value.ref a, .ref b] := .cons rfl (.cons rfl .nil)
  have hlen := F.len _ _ _ _ q
  have run : wpAny (model X.prog X.w) X.A.in1 (call (.ref f) [.ref a, .ref b]) (fun v s' => ∃ t, v = .bool t ∧ EP X pins σ Q (.bool (!t)) s') X.xe s := by
    refine wpAny_call (codeAny_mono (F.run X.A.in1 X.stack s H ⟨[.ref a, .ref b], []⟩ [.ref a, .ref b] [.ref a, .ref b] _ E0 hr1.in1 I.env0.in1 (by
      have := hb s [.ref a, .ref b] I.kIn (by simpa using hlen)
      simpa using this) r2 q) fun r s' hq => ?_)
    cases r with
    | error e => exact False.elim hq
    | ok fl =>
      cases fl with
      | ret w =>
        obtain ⟨z, H', I', rz, t, ez, q3⟩ := I.after hq
        subst ez
        cases rz
        exact ⟨t, rfl, .bl (!t), H', I', rfl, q3⟩
      | next => exact False.elim hq
      | brk => exact False.elim hq
      | cont => exact False.elim hq
  obtain ⟨j1, j2, _⟩ := J
  obtain ⟨j3, j4, _⟩ := J'
  obtain ⟨of, hfo, hfc⟩ : ∃ of, s.heap.get? f = some of ∧ of.cls = .type "function" := by
    have e : (K0 : PySem.W.Frag) → K0.In s.heap → PySem.W.isFn K0 (.ref f) = true → ∃ of, s.heap.get? f = some of ∧ of.cls = .type "function" := fun K0 hK h0 => by
      have e1 : (K0.lookup f).map (·.cls) = some (.type "function") := beq_iff_eq.mp h0
      obtain ⟨o, ho, hc⟩ := Option.map_eq_some_iff.mp e1
      exact ⟨o, hK _ _ ho, hc⟩
    exact e X.K I.kIn hf
  obtain ⟨hp', g, d, tk, os⟩ := s
  exact PySem.compareOp_ne_ownEq (B := "object") (bm := [.type "object"]) PySem.F.cmp_object ⟨_, of, nm, qn, N, bs, true, sn, sub, ab, col, dd, k0, k1, k2, k3, k5, "object.__new__", _, _, j1, j2, I.kIn _ _ hl, G, ns_some_of I.kIn G he, hfo, hfc, PySem.F.cmp_object.mro, PySem.F.cmp_object.eq.lookup, PySem.W.ns_none_of I.kIn G hne⟩ j3 j4 (by have := hr.un; omega) run
/-- an instance of C may be called -/
structure CalO (P : Program) (w : World) (K : PySem.W.Frag) (mg : Str → Option Value) (base : Heap) (k : Nat) (C : Addr) (sp : Sp) : Prop where
  ex : ∃ (g : Addr) (fd : FuncData) (ps : List Str), StX.CallO K C g ∧ FnOk P w K mg base CX0 k g fd ps sp ∧ Binds K fd ps []
theorem pe_co {X : Cx} {k j : Nat} {C : Addr} {sp : Sp} {fe e : Expr} {es : List Expr} {t : TA} {tf : TE} {pos : Pos} (hf : PE X fe tf) (c : CalO X.prog X.w X.K X.mg X.base k C sp) (hr : Room j X.A) (hk : k ≤ j) (ha : PA X (e :: es) t)
    (ht : eval (.Call fe (e :: es) [] pos) X.env = (do callWith pos (← eval fe X.env) [] (backTo pos (starEach (e :: es) X.env)) (backToKw pos (keywordEach [] X.env))) := by rfl)
    (he : starEach (e :: es) X.env = (false, eval e X.env) :: starEach es X.env := by rfl) (hpl : (backTo pos (starEach es X.env)).any (·.1) = false := by rfl) :
    PE X (.Call fe (e :: es) [] pos) (StX.tCallO X C (fun vs H Q E => sp (vs ++ []) H Q E) E0 tf t) := by
  obtain ⟨g, fd, ps, c, F, b⟩ := c.ex
  exact StX.pe_callO hf c (F.raw b .nil) (hr.mono hk) pass0 ha ht he hpl
/-- a property of C -/
structure PropC (P : Program) (w : World) (K : PySem.W.Frag) (mg : Str → Option Value) (base : Heap) (k : Nat) (C : Addr) (f : Str) (sp : Sp) : Prop where
  cl : Cls K C
  ex : ∃ (p g : Addr) (fd : FuncData) (ps : List Str), PropOf K C f p g ∧ FnOk P w K mg base CX0 k g fd ps sp ∧ Binds K fd ps []
theorem pe_pr {X : Cx} {k j : Nat} {C : Addr} {f : Str} {sp : Sp} {e : Expr} {ta : TE} {pos : Pos} (he : PE X e ta) (c : PropC X.prog X.w X.K X.mg X.base k C f sp) (hr : Room j X.A) (hk : k + 1 ≤ j) (hab : attributeBase e f X.env (eval e X.env) = eval e X.env := by rfl) :
    PE X (.Attribute e f pos) (tProp C sp [] E0 ta) := by
  obtain ⟨p, g, fd, ps, c2, F, b⟩ := c.ex
  exact pe_prop he c.cl c2 F (hr.mono hk) b .nil pass0 hab
end NF
set_option Elab.async false
set_option linter.all false
set_option maxRecDepth 100000
set_option maxHeartbeats 4000000
/-! The hook with getters: defs at addresses told by the written part. -/
namespace NF
open PySem PySem.Spec PyProof.Rows L2 He
def fnWa (K : PySem.W.Frag) (a : Addr) : FnW := match K.lookup a with
  | some ⟨_, _, .func fd, _⟩ => some (fd.name, fd.qualname, fd.params, fd.body, fd.scope, fd.globals, fd.closure, fd.builtins)
  | _ => none
def okA (K : PySem.W.Frag) (a : Addr) (d : DefD) : Bool := PySem.W.keepIn K (.ref a) && (match K.lookup a with
  | some ⟨_, _, .func fd, _⟩ => PySem.W.codeIn K fd.code d.qual && (dflB K fd.defaults (d.dvs K) && kwdB K fd.kwdefaults (d.kws K))
  | _ => false)
theorem funA {K : PySem.W.Frag} {a : Addr} {d : DefD} (e : fnWa K a = d.val) (c : okA K a d = true) : ∃ fd, FunD K d.name d.qual d.params d.body d.scope (d.dvs K) (d.kws K) a fd := by
  have hkp := (ba c).1
  have hrec := (ba c).2
  rcases hl : K.lookup a with _ | ⟨c0, d0, dt, sl⟩
  · simp only [hl] at hrec
    exact absurd hrec (by decide)
  · cases dt
    case func g =>
      simp only [fnWa, hl, DefD.val, Option.some.injEq, Prod.mk.injEq] at e
      rcases g with ⟨m1, m2, m3, m4, m5, m6, m7, m8, m9, m10, m11, m12, m13, m14, m15⟩
      simp only at e
      rcases e with ⟨z1, z2, z3, z4, z5, z6, z7, z8⟩
      simp only [hl] at hrec
      have hcode := (ba hrec).1
      have hdfl := dflB_ok (ba (ba hrec).2).1
      have hkwd := kwdB_ok (ba (ba hrec).2).2
      refine ⟨PySem.W.fnOf d.name d.qual d.params d.body d.scope m8 m9 m10 m11 m12 m13 m14, ⟨c0, d0, m8, m9, m10, m11, m12, m13, m14, sl, rfl, ?_, hcode, hdfl, hkwd⟩, hkp⟩
      subst z1 z2 z3 z4 z5 z6 z7 z8
      exact hl
    all_goals
      simp only [hl] at hrec
      exact absurd hrec (by decide)
abbrev Adr := (PySem.W.Frag → Addr) × DefD
def obsP (ex : PySem.W.Frag → Bool) (fn : List Adr) (K : PySem.W.Frag) : AlD := (ex K && fn.all fun d => okA K (d.1 K) d.2, fn.map fun d => fnWa K (d.1 K))
def valP (fn : List Adr) : AlD := (true, fn.map fun d => d.2.val)
def SaysP (ex : PySem.W.Frag → Bool) (fn : List Adr) (K : PySem.W.Frag) : Prop := obsP ex fn K = valP fn
def obsPG (n : Nat) (ex : PySem.W.Frag → Bool) (fn : List Adr) (g : Addr → Option Obj) : AlD := obsP ex fn (frG g (asD g n))
def hookP (n : Nat) (ex : PySem.W.Frag → Bool) (fn : List Adr) : PySem.W.Hook where
  α := AlD
  obs := fun s => obsPG n ex fn s.heap.get?
  val := fun _ => valP fn
  says := fun _ h => ∃ K : PySem.W.Frag, K.In h ∧ SaysP ex fn K
  of := fun _ _ e => ⟨_, frG_in, e⟩
  keeps := fun _ _ _ ⟨K, hK, c⟩ k => ⟨K, PySem.W.Frag.In.keeps hK k, c⟩
theorem obsPG_eq {n : Nat} {ex : PySem.W.Frag → Bool} {fn : List Adr} {g : Addr → Option Obj} {s : Shared} (h : ∀ a, g a = s.heap.get? a) : obsPG n ex fn g = (hookP n ex fn).obs s := by
  have e : g = s.heap.get? := funext h
  rw [e] <;> rfl
section
variable {ex : PySem.W.Frag → Bool} {fn : List Adr} {K : PySem.W.Frag}
theorem SaysP.truth (c : SaysP ex fn K) : ex K = true :=
  (ba (show (ex K && fn.all fun d => okA K (d.1 K) d.2) = true from congrArg (fun z : AlD => z.1) c)).1
theorem SaysP.def_ (c : SaysP ex fn K) (i : Nat) {d : Adr} (h : fn[i]? = some d := by rfl) : ∃ fd, FunD K d.2.name d.2.qual d.2.params d.2.body d.2.scope (d.2.dvs K) (d.2.kws K) (d.1 K) fd := by
  have c2 := (ba (show (ex K && fn.all fun d => okA K (d.1 K) d.2) = true from congrArg (fun z : AlD => z.1) c)).2
  have e : fn.map (fun d => fnWa K (d.1 K)) = fn.map fun d => d.2.val := congrArg (fun z : AlD => z.2) c
  have e2 : (fn.map fun d => fnWa K (d.1 K))[i]? = (fn.map fun d => d.2.val)[i]? := by rw [e]
  rw [List.getElem?_map, List.getElem?_map, h] at e2
  exact funA (Option.some.inj e2) (List.all_eq_true.mp c2 d (List.mem_of_getElem? h))
end
end NF
set_option Elab.async false
set_option linter.all false
set_option maxRecDepth 100000
set_option maxHeartbeats 4000000
/-! Makers and instances whose defs let an exception out. -/
namespace NF
open PySem PySem.Spec PyProof.Rows L2 He RZ NT
/-- a def's answer handed on, or its exception let through -/
theorem handS {X : Cx} {CX : CXT} {E : L2.St → XK} {σ : L2.St} {pins : List (Addr × Obj)} {H : Hp} {s : Shared} {Q : VK} (hx : PassesAt CX X σ (E σ)) (I : Inv X pins σ H s) {r : Result} {s' : Shared} (h : CR CX X.stack X.prog X.w H s Q (E σ) r s') :
    (∃ u, r = .ok (.ret u) ∧ EP X pins σ Q u s') ∨ ∃ e, r = .error e ∧ X.xe e s' := by
  cases r with
  | error e => exact .inr ⟨e, rfl, hx pins H s e s' I h⟩
  | ok fl => cases fl with
    | ret u => exact .inl ⟨u, rfl, I.after h⟩
    | next => exact h.elim
    | brk => exact h.elim
    | cont => exact h.elim
def tMakeS (C : Addr) (sp : Sp) (dvs : List V) (E : L2.St → XK) (t : TA) : TE := fun σ H Q => t σ H fun vs H1 => ∀ x dx, H1 x = none → H1 dx = none → dx ≠ x →
  sp (.ref x :: (vs ++ dvs)) (upd (upd H1 dx (.own x)) x (.ins C dx [])) (fun v H2 => v = .non ∧ Q (.ref x) H2) (E σ)
theorem make_runs {X : Cx} {CX : CXT} {k : Nat} {C f : Addr} {fd : FuncData} {ps : List Str} {sp : Sp} {dvs : List V} {ds : List Value} {E : L2.St → XK} {pins : List (Addr × Obj)} {σ : L2.St} {H : Hp} {s : Shared} {Q : VK} {us : List Value} {vs : List V}
    (M : Mk X.K C f) (F : FnOk X.prog X.w X.K X.mg X.base CX k f fd ps sp) (hr : Room (k + 1) X.A) (hb : Binds X.K fd ps ds) (hd : Vals dvs ds) (hx : PassesAt CX X σ (E σ)) (I : Inv X pins σ H s) (r : Vals vs us)
    (h : ∀ x dx, H x = none → H dx = none → dx ≠ x → sp (.ref x :: (vs ++ dvs)) (upd (upd H dx (.own x)) x (.ins C dx [])) (fun v H2 => v = .non ∧ Q (.ref x) H2) (E σ)) :
    wpAny (model X.prog X.w) X.A (call (.ref C) us) (EP X pins σ Q) X.xe s := by
  have want := h (s.heap.objs.size + 1) s.heap.objs.size (I.hok.fresh (Nat.le_succ _)) (I.hok.fresh (Nat.le_refl _)) (Nat.ne_of_lt (Nat.lt_succ_self _))
  have J := Inv.made (C := C) I
  have rr : Vals (V.ref (s.heap.objs.size + 1) :: (vs ++ dvs)) (Value.ref (s.heap.objs.size + 1) :: (us ++ ds)) := .cons rfl (r.append hd)
  have len : (Value.ref (s.heap.objs.size + 1) :: us ++ ds).length = ps.length := rr.length.symm.trans (F.len _ _ _ _ want)
  have body := F.run _ X.stack _ _ ⟨Value.ref (s.heap.objs.size + 1) :: us, []⟩ (Value.ref (s.heap.objs.size + 1) :: (us ++ ds)) _ _ (E σ) (hr.make C us []) (J.env0.make C us []) (hb _ (Value.ref (s.heap.objs.size + 1) :: us) J.kIn len) rr want
  refine wpAny_call (make_map (f := f) I.kIn M.makes M.init (beq_iff_eq.mp M.fn) (codeAny_mono body fun q s' hq => ?_))
  rcases handS hx J hq with ⟨u, rfl, v, H', J', rv, ev, q3⟩ | ⟨e, rfl, hz⟩
  · subst ev
    exact ⟨rv, V.ref (s.heap.objs.size + 1), H', J', rfl, q3⟩
  · exact hz
/-- a class whose __init__ may let an exception out -/
structure MakX (P : Program) (w : World) (K : PySem.W.Frag) (mg : Str → Option Value) (base : Heap) (k n : Nat) (x : Str) (C : Addr) (sp : Sp) (dvs : List V) : Prop where
  ex : ∃ (f : Addr) (fd : FuncData) (ps : List Str) (ds : List Value), Mk K C f ∧ FnOk P w K mg base (L2.CX P w) k f fd ps sp ∧ mg x = some (.ref C) ∧ Binds K fd ps ds ∧ Vals dvs ds
theorem pe_mkX {X : Cx} {k j n : Nat} {C : Addr} {x : Str} {sp : Sp} {dvs : List V} {W : WX} {p pos : Pos} {e : Expr} {es : List Expr} {t : TA} (tk : Takes X W) (c : MakX X.prog X.w X.K X.mg X.base k n x C sp dvs) (hr : Room j X.A) (hk : k + 1 ≤ j) (hg : Gl X x) (ha : PA X (e :: es) t)
    (hdb : (x == ("__debug__" : Str)) = false := by decide) (he : starEach (e :: es) X.env = (false, eval e X.env) :: starEach es X.env := by rfl) (hpl : (backTo pos (starEach es X.env)).any (·.1) = false := by rfl) :
    PE X (.Call (.Name x p) (e :: es) [] pos) (tMakeS C sp dvs (WE W) t) := by
  obtain ⟨f, fd, ps, ds, M, F, hm, b, d⟩ := c.ex
  refine ⟨fun pins s σ H Q I h => ?_⟩
  refine wpAny_Call_Name_kw (ld_glob I hg hm ?_ hdb)
  refine PySem.W.callWith_K (h₀ := X.base) I.ok.mod.kin M.kp (thn (ha.run pos pins s σ H _ I h) fun us s1 ⟨vs, H1, I1, r, q⟩ => ⟨I1.kIn, ?_⟩) he hpl
  exact make_runs (E := WE W) M F (hr.mono hk) b d (passAt tk σ) I1 r q
/-- a def that may let an exception out, by its name -/
structure CalX (P : Program) (w : World) (K : PySem.W.Frag) (mg : Str → Option Value) (base : Heap) (k : Nat) (x : Str) (sp : Sp) : Prop where
  ex : ∃ (f : Addr) (fd : FuncData) (ps : List Str), FnOk P w K mg base (L2.CX P w) k f fd ps sp ∧ mg x = some (.ref f) ∧ PySem.W.keepIn K (.ref f) = true ∧ Binds K fd ps []
theorem pe_cX {X : Cx} {k j : Nat} {x : Str} {sp : Sp} {W : WX} {e : Expr} {es : List Expr} {t : TA} {p pos : Pos} (tk : Takes X W) (c : CalX X.prog X.w X.K X.mg X.base k x sp) (hr : Room j X.A) (hk : k ≤ j) (hg : Gl X x) (ha : PA X (e :: es) t)
    (hdb : (x == ("__debug__" : Str)) = false := by decide) (he : starEach (e :: es) X.env = (false, eval e X.env) :: starEach es X.env := by rfl) (hpl : (backTo pos (starEach es X.env)).any (·.1) = false := by rfl) :
    PE X (.Call (.Name x p) (e :: es) [] pos) (tCallS sp (WE W) t) := by
  obtain ⟨f, fd, ps, F, hm, kp, b⟩ := c.ex
  exact pe_callS F (hr.mono hk) hg hm kp b (fun σ => passAt tk σ) ha hdb he hpl
/-- an instance that may be called, and may let an exception out -/
structure CalOX (P : Program) (w : World) (K : PySem.W.Frag) (mg : Str → Option Value) (base : Heap) (k : Nat) (C : Addr) (sp : Sp) : Prop where
  ex : ∃ (g : Addr) (fd : FuncData) (ps : List Str), StX.CallO K C g ∧ FnOk P w K mg base (L2.CX P w) k g fd ps sp ∧ Binds K fd ps []
def tCallOS (C : Addr) (sp : Sp) (E : L2.St → XK) (tf : TE) (t : TA) : TE := fun σ H Q => tf σ H fun y H1 => ∃ a, y = V.ref a ∧ t σ H1 fun vs H2 => (∃ dx fs, H2 a = some (.ins C dx fs)) ∧ sp (V.ref a :: vs) H2 Q (E σ)
theorem pe_coX {X : Cx} {k j : Nat} {C : Addr} {sp : Sp} {W : WX} {fe e : Expr} {es : List Expr} {t : TA} {tf : TE} {pos : Pos} (tk : Takes X W) (hf : PE X fe tf) (c : CalOX X.prog X.w X.K X.mg X.base k C sp) (hr : Room j X.A) (hk : k ≤ j) (ha : PA X (e :: es) t)
    (ht : eval (.Call fe (e :: es) [] pos) X.env = (do callWith pos (← eval fe X.env) [] (backTo pos (starEach (e :: es) X.env)) (backToKw pos (keywordEach [] X.env))) := by rfl)
    (he : starEach (e :: es) X.env = (false, eval e X.env) :: starEach es X.env := by rfl) (hpl : (backTo pos (starEach es X.env)).any (·.1) = false := by rfl) :
    PE X (.Call fe (e :: es) [] pos) (tCallOS C sp (WE W) tf t) := by
  obtain ⟨g, fd, ps, co, F, b⟩ := c.ex
  refine ⟨fun pins s σ H Q I h => ?_⟩
  refine Call_ (thn (hf.run pins s σ H _ I h) fun u s1 ⟨y, H1, I1, ry, a, ey, q⟩ => ?_) ht
  subst ey
  cases ry
  refine StX.callO_with (thn (ha.run pos pins s1 σ H1 _ I1 q) fun us s2 ⟨vs, H2, I2, r, hi0, q2⟩ => ?_) he hpl
  have hi : StX.InsC X H2 a C := .inr hi0
  obtain ⟨ox, od, J, hd⟩ := StX.insC_at I2 hi
  refine ⟨⟨C, ox, od, J, hd⟩, ?_⟩
  have rr : Vals (V.ref a :: vs) (Value.ref a :: us) := .cons rfl r
  have len : (Value.ref a :: us).length = ps.length := rr.length.symm.trans (F.len _ _ _ _ q2)
  have bb := b s2 (Value.ref a :: us) I2.kIn (by rw [List.append_nil]; exact len)
  rw [List.append_nil] at bb
  refine wpAny_call (PySem.W.kco_code I2.kIn J hd co.at_ co.fn co.fi (codeAny_mono (F.run X.A X.stack s2 H2 ⟨Value.ref a :: us, []⟩ (Value.ref a :: us) (V.ref a :: vs) Q (WE W σ) (hr.mono hk) I2.env0 bb rr q2) fun z s' hq => ?_))
  rcases handS (E := WE W) (passAt tk σ) I2 hq with ⟨u, rfl, hz⟩ | ⟨e, rfl, hz⟩
  · exact hz
  · exact hz
/-! ### own exceptions that keep their one argument -/
/-- what __init__ of a class whose errors bear f does -/
def spExc (C : Addr) (f : Str) : Sp := fun vs H Q _ => ∃ (a : Addr) (v : V), vs = [.ref a, v] ∧ H a = some (exo a C none) ∧ ∀ d, H d = none → d ≠ a → Q .non (upd (upd H d (exd d [(f, v)])) a (exo a C (some d)))
structure ExcI (P : Program) (w : World) (K : PySem.W.Frag) (mg : Str → Option Value) (base : Heap) (x f : Str) : Prop where
  T : OexC K (ga K x)
  ex : ∃ (fI : Addr) (fd : FuncData), PySem.W.findIn K (.ref (ga K x)) "__init__" = some (some (.ref fI)) ∧ PySem.W.typeIn K (.ref fI) = some (.type "function") ∧ FnOk P w K mg base CX0 1 fI fd ["self", f] (spExc (ga K x) f) ∧ Binds K fd ["self", f] []
  gm : mg x = some (.ref (ga K x))
abbrev bodyE (f : Str) (q1 q2 q3 q4 : Pos) : List Stmt := [.Assign [.Attribute (.Name "self" q1) f q2] (.Name f q3) q4]
theorem ok_exc {P : Program} {w : World} {K : PySem.W.Frag} {mg : Str → Option Value} {base : Heap} {x q f : Str} {pa : Arguments} {bd : List Stmt} {sc : Scope} {fI : Addr} {fd : FuncData} {q1 q2 q3 q4 : Pos} (F : FunD K "__init__" q pa bd sc [] [] fI fd) (hb : bd = bodyE f q1 q2 q3 q4) (S : FnScope ["self", f] ["self", f] sc)
    (T : OexC K (ga K x)) (hno : PySem.W.findIn K (.ref (ga K x)) f = some none) (hv0 : Vis sc "self") (hv1 : Vis sc f) (hd : (f == ("__debug__" : Str)) = false) (hcd : (f == ("__classdict__" : Str)) = false) :
    FnOk P w K mg base CX0 1 fI fd ["self", f] (spExc (ga K x) f) := by
  subst hb
  refine F.ok S (fun vs H Q E h => ?_) (fun cdv A outer s H vs Q E hr h => ?_)
  · obtain ⟨a, v, rfl, _⟩ := h
    rfl
  · obtain ⟨a, v, rfl, ha, k⟩ := h
    refine ⟨_, PSs.nox (pss_one (ps_ost (pe_var (i := 0) rfl hv0) (pe_var (i := 1) rfl hv1 hd hcd))), ?_⟩
    exact ⟨_, rfl, _, rfl, a, ga K x, rfl, T, hno, Or.inl ⟨ha, fun d hd hda => k d hd hda⟩⟩
/-- raise X(e) -/
theorem ps_rz {X : Cx} {W : WX} {x f : Str} {e : Expr} {te : TE} {p pos pos' : Pos} {j : Nat} (hc : X.calm = true) (tk : Takes X W) (M : ExcI X.prog X.w X.K X.mg X.base x f) (hr : Room j X.A) (hj : 2 ≤ j) (hg : Gl X x) (he : PE X e te) (hdb : (x == ("__debug__" : Str)) = false := by decide)
    (hs : starEach (e :: []) X.env = (false, eval e X.env) :: starEach [] X.env := by rfl) : PS X (.Raise (some (.Call (.Name x p) [e] [] pos)) none pos') (fun _ σ H => tMkO (ga X.K x) (spExc (ga X.K x) f) [] (tCons te tNil) σ H fun cls d H' => W cls d σ H') := by
  obtain ⟨fI, fd, h1, h2, h3, h4⟩ := M.ex
  exact ps_raise hc tk (pmk_oex M.T h1 h2 h3 (hr.mono hj) h4 .nil pass0 hg M.gm (pa_cons he pa_nil hs) hdb hs)
theorem raise_done {C : Addr} {f : Str} {v : V} {H1 : Hp} {Q : XK} (k : ∀ d H2, H1 d = none → Same H1 H2 → H2 d = some (.xd [(f, v)]) → Q (.ref C) (some d) H2) :
    ([v] : List V).length ≤ 1000 ∧ ∀ a, H1 a = none → spExc C f (.ref a :: ([v] ++ [])) (upd H1 a (exo a C none)) (fun u H2 => u = .non ∧ ∃ (d : Addr) (fs : List (Str × V)), H2 a = some (exo a C (some d)) ∧ H2 d = some (exd d fs) ∧ H1 d = none ∧ Q (.ref C) (some d) (upd (del H2 a) d (.xd fs))) (fun _ _ _ => False) := by
  refine ⟨by show 1 ≤ 1000; decide, fun a ha => ⟨a, v, rfl, upd_same, fun d hd hda => ?_⟩⟩
  have hd0 : H1 d = none := by
    rw [upd_ne hda] at hd
    exact hd
  refine ⟨rfl, d, [(f, v)], upd_same, by rw [upd_ne hda, upd_same], hd0, k d _ hd0 ?_ upd_same⟩
  intro b u e
  have hb : b ≠ d := ne_of_none e hd0
  have hba : b ≠ a := ne_of_none e ha
  rw [upd_ne hb, del_ne hba, upd_ne hba, upd_ne hb, upd_ne hba]
  exact e
end NF
set_option Elab.async false
set_option linter.all false
set_option maxRecDepth 100000
set_option maxHeartbeats 4000000
/-! tuple * int for any int that is not too great. -/
namespace NF
open PySem PySem.Spec PyProof.Rows L2 He RZ
theorem rep_none (l : Addr) (items : Array Value) (n : Nat) (dd : Option Addr) (sl : Array (Option Value)) (x : Int) (u : Tok) (c0 : (decide (x < -(2 ^ 63)) || decide (x ≥ 2 ^ 63)) = false) (c1 : (items.isEmpty || x == 1) = false) (c2 : (decide (x ≤ 0) || items.isEmpty) = true) :
    Meets (Builtin.«tuple.__mul__» ⟨[.ref l, .int x u], []⟩) (fun _ R s => s.heap.get? l = some { cls := .type "tuple", dict := dd, data := .seq items n, slots := sl } ∧
      R (.ok (.ret (Value.ref s.heap.objs.size))) { s with heap := s.heap.push { cls := Value.type "tuple", data := Data.seq #[] } }) :=
  .of_wp fun prog w A R s h => by
    obtain ⟨hp, g, d, tk, os⟩ := s
    obtain ⟨hl, h⟩ := h
    have f1 := AutoSeq1.idx_int
    wp_walk using wpAny_loadPart' hl
    repeat (first
      | (refine wpAny_ite_false (decide_eq_false (by rw [c0]; exact Bool.false_ne_true)) ?_; wp_walk using wpAny_loadPart' hl)
      | (refine wpAny_ite_false (decide_eq_false (by rw [c1]; exact Bool.false_ne_true)) ?_; wp_walk using wpAny_loadPart' hl)
      | (refine wpAny_ite_true (decide_eq_true (by rw [c2])) ?_; wp_walk using wpAny_loadPart' hl))
    exact ⟨_, rfl, h⟩
theorem rep_one (l : Addr) (items : Array Value) (n : Nat) (dd : Option Addr) (sl : Array (Option Value)) (x : Int) (u : Tok) (c0 : (decide (x < -(2 ^ 63)) || decide (x ≥ 2 ^ 63)) = false) (c1 : (items.isEmpty || x == 1) = true) :
    Meets (Builtin.«tuple.__mul__» ⟨[.ref l, .int x u], []⟩) (fun _ R s => s.heap.get? l = some { cls := .type "tuple", dict := dd, data := .seq items n, slots := sl } ∧ R (.ok (.ret (Value.ref l))) s) :=
  .of_wp fun prog w A R s h => by
    obtain ⟨hp, g, d, tk, os⟩ := s
    obtain ⟨hl, h⟩ := h
    have f1 := AutoSeq1.idx_int
    wp_walk using wpAny_loadPart' hl
    repeat (first
      | (refine wpAny_ite_false (decide_eq_false (by rw [c0]; exact Bool.false_ne_true)) ?_; wp_walk using wpAny_loadPart' hl)
      | (refine wpAny_ite_true (decide_eq_true (by rw [c1])) ?_; wp_walk using wpAny_loadPart' hl))
    exact ⟨_, rfl, h⟩
def rRepA (K : PySem.W.Frag) : R2 := fun x y H Q => ∃ l k xs, x = .ref l ∧ y = .int k ∧ SqT K H l xs ∧ xs ≠ [] ∧ xs.length ≤ 100 ∧ -10000 ≤ k ∧ k ≤ 10000 ∧ ∀ p H', Same H H' → SqT K H' p (List.replicate k.toNat xs).flatten → Q (.ref p) H'
/-- t * k -/
theorem op_repA {X : Cx} : OpR X (binaryOp .Mult) (rRepA X.K) := by
  intro pins s σ H x y v u Q I rx ry h
  obtain ⟨l, k, xs, rfl, rfl, hT, hne, hz, k1, k2, q⟩ := h
  cases rx
  obtain ⟨t, rfl⟩ := ry
  obtain ⟨its, r, ⟨⟨cls, dd, data, sl⟩, ho, hc, n, hd⟩, hs⟩ := I.tuple hT
  simp only at hc hd
  subst hc hd
  have hle : its.length = xs.length := r.length.symm
  have hpos : 0 < its.length := by
    rw [hle]
    exact List.length_pos_iff.mpr hne
  have hfull : its.toArray.isEmpty = false := by
    cases hi : its with
    | nil => rw [hi] at hpos; simp at hpos
    | cons _ _ => rfl
  have small : (decide (k < -(2 ^ 63)) || decide (k ≥ 2 ^ 63)) = false := by
    rw [decide_eq_false (show ¬ k < -(2 ^ 63) by omega), decide_eq_false (show ¬ k ≥ 2 ^ 63 by omega)]
    rfl
  have ty : s.TypeIs (.ref l) "tuple" := ⟨_, ho, rfl⟩
  have road : ∀ {W : Value → Shared → Prop}, wpAny (model X.prog X.w) X.A (call (.builtin "tuple.__mul__") [.ref l, .int k t]) W X.xe s → wpAny (model X.prog X.w) X.A (binaryOp .Mult (.ref l) (.int k t)) W X.xe s := fun {W} z =>
    wpAny_binaryOp_repeat_ref (T := "tuple") (U := "int") (by decide) ty (fun s' => typeIs_int s' k t) noFill_tuple_mul F.fills_int_mul F.slot_int_rmul repeat_tuple F.slot_int_index.lookup
      (call_meets F.slot_int_rmul (typeIs_int s k t) F.entry_int_rmul (F.args_int_rmul_2 _ _) (int_rmul_tuple k t l its.toArray n dd sl) ⟨ho, rfl, ty, z⟩)
  refine road ?_
  by_cases c1 : k = 1
  · subst c1
    refine call_meets F.slot_tuple_mul ty F.entry_tuple_mul (F.args_tuple_mul_2 _ _) (rep_one l its.toArray n dd sl 1 t small (by rw [hfull]; rfl)) ⟨ho, ?_⟩
    refine ⟨.ref l, H, I, rfl, q l H (Same.refl H) ?_⟩
    rw [show (List.replicate (1 : Int).toNat xs).flatten = xs by simp]
    exact hT
  · have not1 : (its.toArray.isEmpty || k == 1) = false := by
      rw [hfull, Bool.false_or]
      exact beq_eq_false_iff_ne.mpr c1
    by_cases c0 : k ≤ 0
    · refine call_meets F.slot_tuple_mul ty F.entry_tuple_mul (F.args_tuple_mul_2 _ _) (rep_none l its.toArray n dd sl k t small not1 (by rw [decide_eq_true c0]; rfl)) ⟨ho, ?_⟩
      have hn := I.hok.fresh (Nat.le_refl s.heap.objs.size)
      have e0 : (List.replicate k.toNat xs).flatten = [] := by
        rw [show k.toNat = 0 by omega]
        rfl
      refine ⟨.ref s.heap.objs.size, _, I.laid (t' := s.toks) (o := .tup []) (fun b ob q => Heap.get?_push_of_some _ q) (Nat.le_refl _) ?_, rfl, q _ _ (NF.Same.new (Same.refl H) hn) (by rw [e0]; exact SqT.of upd_same)⟩
      exact ⟨Nat.zero_le _, [], .nil, IsTup.new _ _⟩
    · have many : its.toArray.size = xs.length := by rw [List.size_toArray, hle]
      have prod : ((its.toArray.size : Nat) : Int) * k ≤ 100 * 10000 := by
        rw [many]
        exact Int.mul_le_mul (by omega) k2 (by omega) (by decide)
      have flat : (List.replicate k.toNat xs).flatten.length ≤ 1000000 := by
        rw [PyProof.Rows.lm_len_rep_flat]
        exact Nat.le_trans (Nat.mul_le_mul (show k.toNat ≤ 10000 by omega) hz) (by decide)
      have flat2 : (List.replicate k.toNat its).flatten.length ≤ 1000000 := by
        rw [PyProof.Rows.lm_len_rep_flat, hle]
        exact Nat.le_trans (Nat.mul_le_mul (show k.toNat ≤ 10000 by omega) hz) (by decide)
      refine call_meets F.slot_tuple_mul ty F.entry_tuple_mul (F.args_tuple_mul_2 _ _) (tuple_mulW l its.toArray n dd sl k t small not1 (by rw [hfull, Bool.or_false]; exact decide_eq_false c0) (by omega) ?_ ?_) ⟨ho, ?_⟩
      · unfold Builtin.Tuple.tupleTooMany
        rw [sizeLine_eq]
        exact decide_eq_false (by omega)
      · rw [size_rep, List.size_toArray, sizeLine_eq]
        omega
      · rw [size_rep]
        have hn := I.hok.fresh (Nat.le_refl s.heap.objs.size)
        refine ⟨.ref s.heap.objs.size, _, I.laid (t' := s.toks) (o := .tup (List.replicate k.toNat xs).flatten) (fun b ob q => Heap.get?_push_of_some _ q) (Nat.le_refl _) ?_, rfl, q _ _ (NF.Same.new (Same.refl H) hn) (SqT.of upd_same)⟩
        exact ⟨by rw [sizeLine_eq]; omega, _, r.rep k.toNat, IsTup.new _ _⟩
end NF
set_option Elab.async false
set_option linter.all false
set_option maxRecDepth 100000
set_option maxHeartbeats 4000000
/-! C.m(..), m a static method that may let an exception out. -/
namespace NF
open PySem PySem.Spec PyProof.Rows L2 He RZ
structure SMet (K : PySem.W.Frag) (C : Addr) (mc : Value) (m : Str) (p g : Addr) : Prop where
  ty : PySem.W.typeIn K (.ref C) = some mc
  rd : PySem.W.readsIn K C mc = true
  ga : PySem.W.specialIn K (.ref C) "__getattribute__" = some (some (.builtin "type.__getattribute__"))
  at_ : PySem.W.findCls K (.ref C) mc m = some (.get (.builtin "staticmethod.__get__") (.ref p) .none (.ref C))
  rc : ∃ rest, PySem.W.recIn K p "staticmethod" = some (.ref g :: rest)
  kp : PySem.W.keepIn K (.ref g) = true
structure StaX (P : Program) (w : World) (K : PySem.W.Frag) (mg : Str → Option Value) (base : Heap) (k : Nat) (C : Addr) (m : Str) (sp : Sp) : Prop where
  ex : ∃ (mc : Value) (p g : Addr) (fd : FuncData) (ps : List Str), SMet K C mc m p g ∧ FnOk P w K mg base (L2.CX P w) k g fd ps sp ∧ Binds K fd ps []
def tStaS (C : Addr) (sp : Sp) (E : L2.St → XK) (ta : TE) (t : TA) : TE := fun σ H Q => ta σ H fun x H1 => x = .ref C ∧ t σ H1 fun vs H2 => sp vs H2 Q (E σ)
theorem pe_smX {X : Cx} {k j : Nat} {C : Addr} {m : Str} {sp : Sp} {W : WX} {o e : Expr} {es : List Expr} {ta : TE} {t : TA} {pos apos : Pos} {pl : Sem Bool} (tk : Takes X W) (he : PE X o ta) (c : StaX X.prog X.w X.K X.mg X.base k C m sp) (hr : Room j X.A) (hk : k ≤ j) (ha : PA X (e :: es) t)
    (hst : starEach (e :: es) X.env = (false, eval e X.env) :: starEach es X.env := by rfl) (hpl : (backTo pos (starEach es X.env)).any (·.1) = false := by rfl)
    (ht : eval (.Call (.Attribute o m apos) (e :: es) [] pos) X.env = (do
      let ov ← eval o X.env
      standAt apos.atName
      let (f, first) ← holding [ov] (getMethod ov m pl)
      callWith pos f first (backTo pos (starEach (e :: es) X.env)) (backToKw pos (keywordEach [] X.env))) := by rfl) :
    PE X (.Call (.Attribute o m apos) (e :: es) [] pos) (tStaS C sp (WE W) ta t) := by
  obtain ⟨mc, p, g, fd, ps, S, F, hb⟩ := c.ex
  obtain ⟨rest, hp⟩ := S.rc
  refine ⟨fun pins s σ H Q I h => ?_⟩
  refine PySem.W.methodCall_KW (pl := pl) (thn (he.run pins s σ H _ I h) fun u s1 ⟨x, H1, I1, rx, ex, q⟩ => ?_) ht
  subst ex
  cases rx
  obtain ⟨fm, hF⟩ := I1.fr
  refine PySem.W.method_cls I1.kIn S.ga (PySem.W.cls_sm hF I1.ok.mod.kin S.ty S.rd S.at_ hp rfl ?_)
  have I2 := I1.tok (s1.toks + 1)
  show wpAny _ _ (callWith pos (.ref g) [] (backTo pos (starEach (e :: es) X.env)) []) _ _ _
  refine PySem.W.callWith_K (h₀ := X.base) I2.ok.mod.kin S.kp (thn (ha.run pos pins _ σ H1 _ I2 q) fun us s3 ⟨vs, H2, I3, r, q2⟩ => ⟨I3.kIn, ?_⟩) hst hpl
  exact run_fnS (E := WE W) F (hr.mono hk) hb (passAt tk σ) I3 r q2
end NF
set_option Elab.async false
set_option linter.all false
set_option maxRecDepth 100000
set_option maxHeartbeats 4000000
/-! Facts of a top, each as one Bool of the written part, with what it says. -/
namespace NF
open PySem PySem.Spec PyProof.Rows L2 He RZ
def dG (x : Str) (st : Stmt) : Adr := (fun K => ga K x, ⟨(x, none), x, x, defArgs st, defBody st, defScope st, [], []⟩)
def dGd (x : Str) (st : Stmt) (dfl : List He.Dv) : Adr := (fun K => ga K x, ⟨(x, none), x, x, defArgs st, defBody st, defScope st, dfl, []⟩)
def dM (c m q : Str) (st : Stmt) (dfl : List He.Dv) : Adr := (fun K => ma K (ga K c) m, ⟨(c, some m), m, q, defArgs st, defBody st, defScope st, dfl, []⟩)
def getW (t : String) (c f : Str) (K : PySem.W.Frag) : Addr := match PySem.W.recIn K (ma K (ga K c) f) t with
  | some (.ref g :: _) => g
  | _ => 0
def dP (c m q : Str) (st : Stmt) : Adr := (getW "property" c m, ⟨(c, some m), m, q, defArgs st, defBody st, defScope st, [], []⟩)
def dS (c m q : Str) (st : Stmt) : Adr := (getW "staticmethod" c m, ⟨(c, some m), m, q, defArgs st, defBody st, defScope st, [], []⟩)
def recB (t : String) (c f : Str) (K : PySem.W.Frag) : Bool := match PySem.W.recIn K (ma K (ga K c) f) t with
  | some (.ref _ :: _) => true
  | _ => false
theorem rec_ok {t : String} {c f : Str} {K : PySem.W.Frag} (h : recB t c f K = true) : ∃ rest, PySem.W.recIn K (ma K (ga K c) f) t = some (.ref (getW t c f K) :: rest) := by
  unfold recB at h
  unfold getW
  cases q : PySem.W.recIn K (ma K (ga K c) f) t with
  | none =>
    rw [q] at h
    cases h
  | some l =>
    rw [q] at h
    match l, h with
    | .ref g' :: rest, _ => exact ⟨rest, rfl⟩
/-! ### names -/
def namB (gs fs : List Str) (K : PySem.W.Frag) : Bool := (gs.all fun x => eqO (PySem.W.nsIn K mainGlobals x) (some (some (.ref (ga K x))))) && fs.all fun x => eqO (PySem.W.nsIn K mainGlobals x) (some none)
theorem nam_ok {gs fs : List Str} {K : PySem.W.Frag} {mg : Str → Option Value} {h : Heap} (c : namB gs fs K = true) (X : K.In h) (G : h.Ns mainGlobals mg) : Txt K mg gs fs := by
  obtain ⟨h1, h2⟩ := ba c
  exact ⟨fun x hx => PySem.W.mg_of X G (eqO_ok (List.all_eq_true.mp h1 x hx)), fun x hx => PySem.W.mg_none_of X G (eqO_ok (List.all_eq_true.mp h2 x hx))⟩
def bltB (x : Str) (b : String) (K : PySem.W.Frag) : Bool := eqO (PySem.W.nsIn K mainGlobals x) (some (some (.builtin b)))
theorem blt_ok {x : Str} {b : String} {K : PySem.W.Frag} {mg : Str → Option Value} {h : Heap} (c : bltB x b K = true) (X : K.In h) (G : h.Ns mainGlobals mg) : mg x = some (.builtin b) := PySem.W.mg_of X G (eqO_ok c)
def intB (x : Str) (n : Int) (K : PySem.W.Frag) : Bool := match PySem.W.nsIn K mainGlobals x with
  | some (some (.int m _)) => decide (m = n)
  | _ => false
theorem int_ok {x : Str} {n : Int} {K : PySem.W.Frag} {mg : Str → Option Value} {h : Heap} (c : intB x n K = true) (X : K.In h) (G : h.Ns mainGlobals mg) : ∃ tok, mg x = some (.int n tok) := by
  unfold intB at c
  split at c
  · rename_i m tok q
    have e : m = n := of_decide_eq_true c
    subst e
    exact ⟨tok, PySem.W.mg_of X G q⟩
  · cases c
def strB (x s : Str) (K : PySem.W.Frag) : Bool := match PySem.W.nsIn K mainGlobals x with
  | some (some (.str m _)) => decide (m = s)
  | _ => false
theorem str_ok {x s : Str} {K : PySem.W.Frag} {mg : Str → Option Value} {h : Heap} (c : strB x s K = true) (X : K.In h) (G : h.Ns mainGlobals mg) : ∃ tok, mg x = some (.str s tok) := by
  unfold strB at c
  split at c
  · rename_i m tok q
    have e : m = s := of_decide_eq_true c
    subst e
    exact ⟨tok, PySem.W.mg_of X G q⟩
  · cases c
/-! ### an own exception that keeps its one argument under f -/
structure ExcK (K : PySem.W.Frag) (x f : Str) : Prop where
  xc : ExcC K (ga K x)
  T : OexC K (ga K x)
  i : PySem.W.findIn K (.ref (ga K x)) "__init__" = some (some (.ref (ma K (ga K x) "__init__")))
  t : PySem.W.typeIn K (.ref (ma K (ga K x) "__init__")) = some (.type "function")
  no : PySem.W.findIn K (.ref (ga K x)) f = some none
  xf : XfC K (ga K x)
def excKB (x f : Str) (K : PySem.W.Frag) : Bool := (excB K (ga K x) && (oexB K (ga K x) && eqO (PySem.W.findIn K (.ref (ga K x)) "__init__") (some (some (.ref (ma K (ga K x) "__init__")))))) &&
  (decide (PySem.W.typeIn K (.ref (ma K (ga K x) "__init__")) = some (.type "function")) && (eqO (PySem.W.findIn K (.ref (ga K x)) f) (some none) && xfB K (ga K x)))
theorem excK_ok {x f : Str} {K : PySem.W.Frag} (h : excKB x f K = true) : ExcK K x f := by
  obtain ⟨h1, h2⟩ := ba h
  obtain ⟨a1, h1⟩ := ba h1
  obtain ⟨a2, a3⟩ := ba h1
  obtain ⟨a4, h2⟩ := ba h2
  obtain ⟨a5, a6⟩ := ba h2
  exact ⟨excB_ok a1, oexB_ok a2, eqO_ok a3, of_decide_eq_true a4, eqO_ok a5, xfB_ok a6⟩
theorem ExcK.excI {P : Program} {w : World} {K : PySem.W.Frag} {mg : Str → Option Value} {base : Heap} {x f q : Str} {gs fs : List Str} {pa : Arguments} {bd : List Stmt} {sc : Scope} {fd : FuncData} {q1 q2 q3 q4 : Pos} (e : ExcK K x f) (T : Txt K mg gs fs) (hx : x ∈ gs)
    (F : FunD K "__init__" q pa bd sc [] [] (ma K (ga K x) "__init__") fd) (hb : bd = bodyE f q1 q2 q3 q4) (S : FnScope ["self", f] ["self", f] sc)
    (hv0 : Vis sc "self") (hv1 : Vis sc f) (hd : (f == ("__debug__" : Str)) = false) (hcd : (f == ("__classdict__" : Str)) = false) (b : Binds K fd ["self", f] []) : ExcI P w K mg base x f :=
  ⟨e.T, ⟨_, fd, e.i, e.t, ok_exc (x := x) F hb S e.T e.no hv0 hv1 hd hcd, b⟩, T.gl x hx⟩
/-! ### which class is under which -/
def kitPB (ps : List (Str × Str × Bool)) (K : PySem.W.Frag) : Bool := ps.all fun p => decide (PySem.W.kitOne K (.ref (ga K p.1)) (.ref (ga K p.2.1)) = some p.2.2)
theorem kitP_ok {ps : List (Str × Str × Bool)} {K : PySem.W.Frag} (h : kitPB ps K = true) {x y : Str} {b : Bool} (m : (x, y, b) ∈ ps) : PySem.W.kitOne K (.ref (ga K x)) (.ref (ga K y)) = some b := of_decide_eq_true (List.all_eq_true.mp h _ m)
def exmPB (ps : List (Str × Str × Bool)) (K : PySem.W.Frag) : Bool := ps.all fun p => decide (PySem.W.exmOne K (.ref (ga K p.1)) (.ref (ga K p.2.1)) = some p.2.2)
theorem exmP_ok {ps : List (Str × Str × Bool)} {K : PySem.W.Frag} (h : exmPB ps K = true) {x y : Str} {b : Bool} (m : (x, y, b) ∈ ps) : PySem.W.exmOne K (.ref (ga K x)) (.ref (ga K y)) = some b := of_decide_eq_true (List.all_eq_true.mp h _ m)
/-! ### an own class -/
def clsB (c : Str) (K : PySem.W.Frag) : Bool := (PySem.W.plainGet K (ga K c) Str.empty && PySem.W.hasDictIn K (ga K c)) && (PySem.W.plainOver K (ga K c) && eqO (PySem.W.findIn K (.ref (ga K c)) "__setattr__") (some (some (.builtin "object.__setattr__"))))
theorem cls_ok {c : Str} {K : PySem.W.Frag} (h : clsB c K = true) : Cls K (ga K c) := by
  obtain ⟨h1, h2⟩ := ba h
  obtain ⟨a1, a2⟩ := ba h1
  obtain ⟨a3, a4⟩ := ba h2
  exact ⟨a1, a2, a3, eqO_ok a4⟩
def fldsB (c : Str) (fs : List Str) (K : PySem.W.Frag) : Bool := fs.all fun f => eqO (PySem.W.findIn K (.ref (ga K c)) f) (some none)
theorem flds_ok {c : Str} {fs : List Str} {K : PySem.W.Frag} (h : fldsB c fs K = true) {f : Str} (m : f ∈ fs) : PySem.W.findIn K (.ref (ga K c)) f = some none := eqO_ok (List.all_eq_true.mp h f m)
structure TyC (K : PySem.W.Frag) (C : Addr) : Prop where
  ac : PySem.W.findIn K (.ref C) "__class__" = some (some (.builtin "object.__class__"))
  ag : PySem.W.specialIn K (.builtin "object.__class__") "__get__" = some (some (.builtin "getset_descriptor.__get__"))
  at_ : PySem.W.takesIn K (.builtin "object.__class__") = some true
  am : PySem.W.mroIn K C (.type "object") = some true
  self : PySem.W.kitOne K (.ref C) (.ref C) = some true
  tup : PySem.W.kitOne K (.type "tuple") (.ref C) = some false
  int : PySem.W.kitOne K (.type "int") (.ref C) = some false
  non : PySem.W.kitOne K (.type "NoneType") (.ref C) = some false
def tyB (c : Str) (K : PySem.W.Frag) : Bool := ((eqO (PySem.W.findIn K (.ref (ga K c)) "__class__") (some (some (.builtin "object.__class__"))) && eqO (PySem.W.specialIn K (.builtin "object.__class__") "__get__") (some (some (.builtin "getset_descriptor.__get__")))) &&
  (decide (PySem.W.takesIn K (.builtin "object.__class__") = some true) && decide (PySem.W.mroIn K (ga K c) (.type "object") = some true))) &&
  ((decide (PySem.W.kitOne K (.ref (ga K c)) (.ref (ga K c)) = some true) && decide (PySem.W.kitOne K (.type "tuple") (.ref (ga K c)) = some false)) && (decide (PySem.W.kitOne K (.type "int") (.ref (ga K c)) = some false) && decide (PySem.W.kitOne K (.type "NoneType") (.ref (ga K c)) = some false)))
theorem ty_ok {c : Str} {K : PySem.W.Frag} (h : tyB c K = true) : TyC K (ga K c) := by
  obtain ⟨h1, h2⟩ := ba h
  obtain ⟨t1, t2⟩ := ba h1
  obtain ⟨t1, t3⟩ := ba t1
  obtain ⟨t2, t4⟩ := ba t2
  obtain ⟨k1, k2⟩ := ba h2
  obtain ⟨k1, k3⟩ := ba k1
  obtain ⟨k2, k4⟩ := ba k2
  exact ⟨eqO_ok t1, eqO_ok t3, of_decide_eq_true t2, of_decide_eq_true t4, of_decide_eq_true k1, of_decide_eq_true k3, of_decide_eq_true k2, of_decide_eq_true k4⟩
def nfB (c : Str) (ts : List String) (K : PySem.W.Frag) : Bool := ts.all fun t => PySem.W.notFirst K (ga K c) (.type t)
theorem nf_ok {c : Str} {ts : List String} {K : PySem.W.Frag} (h : nfB c ts K = true) {t : String} (m : t ∈ ts) : PySem.W.notFirst K (ga K c) (.type t) = true := List.all_eq_true.mp h t m
def mkB (c : Str) (K : PySem.W.Frag) : Bool := (PySem.W.makesIn K (ga K c) && eqO (PySem.W.findIn K (.ref (ga K c)) "__init__") (some (some (.ref (ma K (ga K c) "__init__"))))) && (PySem.W.isFn K (.ref (ma K (ga K c) "__init__")) && PySem.W.keepIn K (.ref (ga K c)))
theorem mk_ok {c : Str} {K : PySem.W.Frag} (h : mkB c K = true) : Mk K (ga K c) (ma K (ga K c) "__init__") := by
  obtain ⟨m1, m2⟩ := ba h
  obtain ⟨m1, m3⟩ := ba m1
  obtain ⟨m2, m4⟩ := ba m2
  exact ⟨m1, eqO_ok m3, m2, m4⟩
def callB (c : Str) (K : PySem.W.Frag) : Bool := eqO (PySem.W.findIn K (.ref (ga K c)) "__call__") (some (some (.ref (ma K (ga K c) "__call__")))) && (PySem.W.isFn K (.ref (ma K (ga K c) "__call__")) && PySem.W.fnIn K (ma K (ga K c) "__call__"))
theorem call_ok {c : Str} {K : PySem.W.Frag} (h : callB c K = true) : StX.CallO K (ga K c) (ma K (ga K c) "__call__") := by
  obtain ⟨g1, g2⟩ := ba h
  obtain ⟨g2, g3⟩ := ba g2
  exact ⟨eqO_ok g1, g2, g3⟩
structure EqM (K : PySem.W.Frag) (C : Addr) : Prop where
  e1 : PySem.W.findIn K (.ref C) "__eq__" = some (some (.ref (ma K C "__eq__")))
  e2 : PySem.W.isFn K (.ref (ma K C "__eq__")) = true
  e3 : plObjB K C (ma K C "__eq__") = true
def eqB (c : Str) (K : PySem.W.Frag) : Bool := (eqO (PySem.W.findIn K (.ref (ga K c)) "__eq__") (some (some (.ref (ma K (ga K c) "__eq__")))) && PySem.W.isFn K (.ref (ma K (ga K c) "__eq__"))) && plObjB K (ga K c) (ma K (ga K c) "__eq__")
theorem eq_ok {c : Str} {K : PySem.W.Frag} (h : eqB c K = true) : EqM K (ga K c) := by
  obtain ⟨e1, e2⟩ := ba h
  obtain ⟨e1, e3⟩ := ba e1
  exact ⟨eqO_ok e1, e3, e2⟩
def propB (c f : Str) (K : PySem.W.Frag) : Bool := (eqO (PySem.W.findIn K (.ref (ga K c)) f) (some (some (.ref (ma K (ga K c) f)))) && eqO (PySem.W.specialIn K (.ref (ma K (ga K c) f)) "__get__") (some (some (.builtin "property.__get__")))) &&
  (decide (PySem.W.takesIn K (.ref (ma K (ga K c) f)) = some true) && recB "property" c f K)
theorem prop_ok {c f : Str} {K : PySem.W.Frag} (h : propB c f K = true) : PropOf K (ga K c) f (ma K (ga K c) f) (getW "property" c f K) := by
  obtain ⟨h1, h2⟩ := ba h
  obtain ⟨h1, h3⟩ := ba h1
  obtain ⟨h2, h4⟩ := ba h2
  exact ⟨eqO_ok h1, eqO_ok h3, of_decide_eq_true h2, rec_ok h4⟩
def staB (c m : Str) (K : PySem.W.Frag) : Bool := (decide (PySem.W.typeIn K (.ref (ga K c)) = some (.type "type")) && (PySem.W.readsIn K (ga K c) (.type "type") && eqO (PySem.W.specialIn K (.ref (ga K c)) "__getattribute__") (some (some (.builtin "type.__getattribute__"))))) &&
  ((match PySem.W.findCls K (.ref (ga K c)) (.type "type") m with
    | some (.get g a o t) => decide (g = .builtin "staticmethod.__get__") && (decide (a = .ref (ma K (ga K c) m)) && (decide (o = .none) && decide (t = .ref (ga K c))))
    | _ => false) && (recB "staticmethod" c m K && PySem.W.keepIn K (.ref (getW "staticmethod" c m K))))
theorem sta_ok {c m : Str} {K : PySem.W.Frag} (h : staB c m K = true) : SMet K (ga K c) (.type "type") m (ma K (ga K c) m) (getW "staticmethod" c m K) := by
  obtain ⟨h1, h2⟩ := ba h
  obtain ⟨a1, h1⟩ := ba h1
  obtain ⟨a2, a3⟩ := ba h1
  obtain ⟨a4, h2⟩ := ba h2
  obtain ⟨a5, a6⟩ := ba h2
  refine ⟨of_decide_eq_true a1, a2, eqO_ok a3, ?_, rec_ok a5, a6⟩
  split at a4
  · rename_i g a o t q
    obtain ⟨b1, a4⟩ := ba a4
    obtain ⟨b2, a4⟩ := ba a4
    obtain ⟨b3, b4⟩ := ba a4
    rw [q, of_decide_eq_true b1, of_decide_eq_true b2, of_decide_eq_true b3, of_decide_eq_true b4]
  · cases a4
/-! ### a default that is an empty tuple -/
def e0B (e0 : PySem.W.Frag → Addr) (K : PySem.W.Frag) : Bool := match K.lookup (e0 K) with
  | some ⟨.type c, _, .seq its _, _⟩ => decide (c = "tuple") && decide (its.toList = [])
  | _ => false
theorem e0_ok {e0 : PySem.W.Frag → Addr} {K : PySem.W.Frag} (h : e0B e0 K = true) (H : Hp) : SqT K H (e0 K) [] := by
  unfold e0B at h
  split at h
  · rename_i c dd its n sl q
    obtain ⟨h1, h2⟩ := ba h
    have e : its.toList = [] := of_decide_eq_true h2
    refine .inr ⟨_, its, n, q, congrArg Value.type (of_decide_eq_true h1), rfl, ?_, ?_⟩
    · rw [← Array.length_toList, e]
      exact Nat.zero_le _
    · rw [e]
      exact .nil
  · cases h
/-! ### what the module's names reach, each address once (seen ones are bits of a number) -/
def newB : List Addr → Nat → List Addr → List Addr × Nat
  | [], seen, acc => (acc, seen)
  | a :: r, seen, acc => match Nat.beq (Nat.land (Nat.shiftRight seen a) 1) 0 with
    | true => newB r (Nat.lor seen (Nat.shiftLeft 1 a)) (a :: acc)
    | false => newB r seen acc
def asB (g : Addr → Option Obj) : Nat → List Addr → Nat → List Addr → List Addr
  | 0, fr, _, all => fr ++ all
  | n + 1, fr, seen, all => match newB (fr.flatMap fun a => match g a with
      | some o => refsD o
      | none => []) seen [] with
    | (fr', seen') => asB g n fr' seen' (fr ++ all)
/-! ### the hook, with the classes' statics beside -/
def obsQG (n : Nat) (ex : PySem.W.Frag → Bool) (fn : List Adr) (g : Addr → Option Obj) : AlD := obsP ex fn (frG g (asB g n [mainGlobals] (Nat.shiftLeft 1 mainGlobals) [] ++ [cStatics]))
def hookQ (n : Nat) (ex : PySem.W.Frag → Bool) (fn : List Adr) : PySem.W.Hook where
  α := AlD
  obs := fun s => obsQG n ex fn s.heap.get?
  val := fun _ => valP fn
  says := fun _ h => ∃ K : PySem.W.Frag, K.In h ∧ SaysP ex fn K
  of := fun _ _ e => ⟨_, frG_in, e⟩
  keeps := fun _ _ _ ⟨K, hK, c⟩ k => ⟨K, PySem.W.Frag.In.keeps hK k, c⟩
theorem obsQG_eq {n : Nat} {ex : PySem.W.Frag → Bool} {fn : List Adr} {g : Addr → Option Obj} {s : Shared} (h : ∀ a, g a = s.heap.get? a) : obsQG n ex fn g = (hookQ n ex fn).obs s := by
  have e : g = s.heap.get? := funext h
  rw [e] <;> rfl
end NF
set_option Elab.async false
set_option linter.all false
set_option maxRecDepth 100000
set_option maxHeartbeats 4000000
/-! Own binary operators of a class: x * y, x & y, x | y, both instances of it. -/
namespace NF
open PySem PySem.Spec PyProof.Rows L2 He RZ NT
def rBinO (C : Addr) (sp : Sp) : R2 := fun x y H Q => ∃ a dx fs b dy gs, x = .ref a ∧ H a = some (.ins C dx fs) ∧ y = .ref b ∧ H b = some (.ins C dy gs) ∧ sp [.ref a, .ref b] H Q E0
structure OpM (K : PySem.W.Frag) (C f : Addr) (nm : Str) : Prop where
  o1 : PySem.W.findIn K (.ref C) nm = some (some (.ref f))
  o2 : PySem.W.isFn K (.ref f) = true
  o3 : PySem.W.selfFirst K C = true
/-- a class with an own operator, and how its instances' type is read -/
structure OpC (P : Program) (w : World) (K : PySem.W.Frag) (mg : Str → Option Value) (base : Heap) (k : Nat) (C : Addr) (nm : Str) (sp : Sp) : Prop where
  cl : Cls K C
  ac : PySem.W.findIn K (.ref C) "__class__" = some (some (.builtin "object.__class__"))
  ag : PySem.W.specialIn K (.builtin "object.__class__") "__get__" = some (some (.builtin "getset_descriptor.__get__"))
  at_ : PySem.W.takesIn K (.builtin "object.__class__") = some true
  am : PySem.W.mroIn K C (.type "object") = some true
  ex : ∃ (f : Addr) (fd : FuncData) (ps : List Str), FnOk P w K mg base CX0 k f fd ps sp ∧ OpM K C f nm ∧ Binds K fd ps []
theorem op_bin {X : Cx} {k j : Nat} {C : Addr} {sp : Sp} {op : Operator} {nm : Str} (c : OpC X.prog X.w X.K X.mg X.base k C nm sp) (hr : Room j X.A) (hk : k ≤ j) (hnm : PySem.dunder op.info.2 = nm := by rfl) : OpR X (binaryOp op) (rBinO C sp) := by
  obtain ⟨f, fd, ps, F, ⟨hs, hf, hc⟩, hb⟩ := c.ex
  intro pins s σ H x y v u Q I rx ry h
  obtain ⟨a, dx, fs, b, dy, gs, rfl, ha, rfl, hb2, q⟩ := h
  cases rx
  obtain ⟨mA, O, _⟩ := ins_get I.hok ha
  obtain ⟨od, J, _⟩ := O.look
  obtain ⟨m, hF⟩ := I.fr
  obtain ⟨P, Z, p, _⟩ := kit_of I ry (.base (.ins hb2 c.cl c.ac c.ag c.at_ c.am))
  cases ry
  show wpAny (model X.prog X.w) X.A (binaryOp op (.ref a) (.ref b)) (EP X pins σ Q) X.xe s
  refine PySem.W.binop_K hF I.ok.mod.kin J (Z.ty _ _ I.kIn p) hc (by rw [hnm]; exact hs) hf ?_
  have r2 : Vals [V.ref a, V.ref b] [Value.ref a, Value.ref b] := .cons rfl (.cons rfl .nil)
  refine wpAny_mono (run_fn (us := [.ref a, .ref b]) (vs := [.ref a, .ref b]) F (hr.mono hk) hb .nil pass0 I r2 q) (fun r s' z => ?_) fun _ _ e => e
  obtain ⟨z, H', I', rz, q'⟩ := z
  have hni : r ≠ .notImplemented := fun e => by
    subst e
    cases z with
    | int i => obtain ⟨t, e⟩ := (show ∃ t, Value.notImplemented = Value.int i t from rz); cases e
    | str i => obtain ⟨t, e⟩ := (show ∃ t, Value.notImplemented = Value.str i t from rz); cases e
    | byt i => obtain ⟨t, e⟩ := (show ∃ t, Value.notImplemented = Value.bytes i t from rz); cases e
    | flt i => obtain ⟨t, e⟩ := (show ∃ t, Value.notImplemented = Value.float i t from rz); cases e
    | _ => cases rz
  unfold PySem.W.CmpBack
  split
  · exact hni rfl
  · exact ⟨z, H', I', rz, q'⟩
end NF
set_option Elab.async false
set_option linter.all false
set_option maxRecDepth 100000
set_option maxHeartbeats 4000000
namespace NF
open PySem PySem.Spec PyProof.Rows L2 He RZ NT
def binB (c m : Str) (K : PySem.W.Frag) : Bool := eqO (PySem.W.findIn K (.ref (ga K c)) m) (some (some (.ref (ma K (ga K c) m)))) && (PySem.W.isFn K (.ref (ma K (ga K c) m)) && PySem.W.selfFirst K (ga K c))
theorem bin_ok {c m : Str} {K : PySem.W.Frag} (h : binB c m K = true) : OpM K (ga K c) (ma K (ga K c) m) m := by
  obtain ⟨h1, h2⟩ := ba h
  obtain ⟨h2, h3⟩ := ba h2
  exact ⟨eqO_ok h1, h2, h3⟩
end NF
set_option Elab.async false
set_option linter.all false
set_option maxRecDepth 100000
set_option maxHeartbeats 4000000
/-! o.m(..): a method of a class of one's own. -/
namespace NF
open PySem PySem.Spec PyProof.Rows L2 He RZ NT
structure MetC (P : Program) (w : World) (K : PySem.W.Frag) (mg : Str → Option Value) (base : Heap) (k : Nat) (C : Addr) (m : Str) (sp : Sp) : Prop where
  cl : Cls K C
  ex : ∃ (f : Addr) (fd : FuncData) (ps : List Str), Meth K C m f ∧ FnOk P w K mg base CX0 k f fd ps sp ∧ Binds K fd ps []
theorem pe_mt {X : Cx} {k j : Nat} {C : Addr} {m : Str} {sp : Sp} {o e : Expr} {es : List Expr} {ta : TE} {t : TA} {pl : Sem Bool} {pos apos : Pos} (he : PE X o ta) (c : MetC X.prog X.w X.K X.mg X.base k C m sp) (hr : Room j X.A) (hk : k ≤ j) (ha : PA X (e :: es) t)
    (hst : starEach (e :: es) X.env = (false, eval e X.env) :: starEach es X.env := by rfl) (hpl : (backTo pos (starEach es X.env)).any (·.1) = false := by rfl)
    (ht : eval (.Call (.Attribute o m apos) (e :: es) [] pos) X.env = (do
      let ov ← eval o X.env
      standAt apos.atName
      let (f, first) ← holding [ov] (getMethod ov m pl)
      callWith pos f first (backTo pos (starEach (e :: es) X.env)) (backToKw pos (keywordEach [] X.env))) := by rfl) :
    PE X (.Call (.Attribute o m apos) (e :: es) [] pos) (tMeth C m sp [] E0 ta t) := by
  obtain ⟨f, fd, ps, hm, F, b⟩ := c.ex
  exact pe_meth he c.cl hm F (hr.mono hk) b .nil pass0 ha hst hpl ht
/-- o.m() -/
theorem pe_mt0 {X : Cx} {k j : Nat} {C : Addr} {m : Str} {sp : Sp} {o : Expr} {ta : TE} {pl : Sem Bool} {pos apos : Pos} (he : PE X o ta) (c : MetC X.prog X.w X.K X.mg X.base k C m sp) (hr : Room j X.A) (hk : k ≤ j)
    (ht : eval (.Call (.Attribute o m apos) [] [] pos) X.env = (do
      let ov ← eval o X.env
      standAt apos.atName
      let (f, first) ← holding [ov] (getMethod ov m pl)
      callWith pos f first (backTo pos (starEach [] X.env)) (backToKw pos (keywordEach [] X.env))) := by rfl) :
    PE X (.Call (.Attribute o m apos) [] [] pos) (tMeth C m sp [] E0 ta tNil) := by
  obtain ⟨f, fd, ps, hm, F, b⟩ := c.ex
  exact pe_meth0 he c.cl hm F (hr.mono hk) b .nil pass0 ht
end NF
set_option linter.all false
namespace NF
open PySem PySem.Spec PyProof.Rows L2 He RZ
/-- o.m(..): a plain method, as the head's run finds it -/
def metB (c m : Str) (K : PySem.W.Frag) : Bool := eqO (PySem.W.findIn K (.ref (ga K c)) m) (some (some (.ref (ma K (ga K c) m)))) && (PySem.W.isFn K (.ref (ma K (ga K c) m)) && PySem.W.keepIn K (.ref (ma K (ga K c) m)))
theorem met_ok {c m : Str} {K : PySem.W.Frag} (h : metB c m K = true) : Meth K (ga K c) m (ma K (ga K c) m) := by
  obtain ⟨h1, h2⟩ := ba h
  obtain ⟨h2, h3⟩ := ba h2
  exact ⟨eqO_ok h1, h2, h3⟩
end NF
set_option Elab.async false
set_option linter.all false
set_option maxHeartbeats 4000000
namespace NT
variable {h l : List Int} {r : Int}
theorem climbs_lo : ∀ {l : List Int} {lo : Int} {i : Nat}, climbs lo l → i < l.length → lo ≤ l.getD i 0
  | [], _, _, _, h => by simp at h
  | x :: l, lo, 0, c, _ => c.1
  | x :: l, lo, i + 1, c, h => by
    have := climbs_lo (i := i) c.2 (by simpa using h)
    have := c.1
    show lo ≤ l.getD i 0
    omega
theorem climbs_up : ∀ {l : List Int} {lo : Int} {i : Nat}, climbs lo l → i + 1 < l.length → l.getD i 0 ≤ l.getD (i + 1) 0
  | [], _, _, _, h => by simp at h
  | x :: l, lo, 0, c, h => climbs_lo (i := 0) c.2 (by simpa using h)
  | x :: l, lo, i + 1, c, h => climbs_up (i := i) c.2 (by simpa using h)
theorem climbs_of : ∀ {l : List Int} {lo : Int}, (∀ i, i < l.length → lo ≤ l.getD i 0) → (∀ i, i + 1 < l.length → l.getD i 0 ≤ l.getD (i + 1) 0) → climbs lo l
  | [], _, _, _ => trivial
  | x :: l, lo, h1, h2 => by
    refine ⟨h1 0 (by simp), climbs_of (fun i hi => ?_) fun i hi => h2 (i + 1) (by simpa using hi)⟩
    induction i with
    | zero => exact h2 0 (by simpa using hi)
    | succ i ih => exact Int.le_trans (ih (by omega)) (h2 (i + 1) (by simpa using hi))
/-- the value at n as a number -/
def num (h l : List Int) (r : Int) (n : Nat) : Int := (at_ h l r n).getD 0
theorem walk_up (g : Good h l r) (hl : l ≠ []) (k : Nat) : walk l r k ≤ walk l r (k + 1) := by
  have hp := len_pos hl
  have e : k = k % l.length + l.length * (k / l.length) := (Nat.mod_add_div k _).symm
  have hi : k % l.length < l.length := Nat.mod_lt _ hp
  generalize k % l.length = a at e hi
  generalize k / l.length = b at e
  subst e
  rw [walk_add_mul hp, show a + l.length * b + 1 = (a + 1) + l.length * b by omega, walk_add_mul hp, walk_lt hi]
  by_cases c : a + 1 < l.length
  · rw [walk_lt c]
    have := climbs_up g.lp c
    omega
  · have : a + 1 = 0 + l.length := by omega
    rw [this, walk_add hp, walk_lt hp]
    have := g.last hl
    have e : l.length - 1 = a := by omega
    rw [e] at this
    omega
theorem at_some (n : Nat) (hn : n ≤ h.length ∨ l ≠ []) : at_ h l r n = some (num h l r n) := by
  unfold num at_
  by_cases c : n ≤ h.length
  · rw [if_pos c]; rfl
  · rw [if_neg c, if_neg (hn.resolve_left c)]; rfl
theorem num_up (g : Good h l r) (n : Nat) (hn : 1 ≤ n) (hs : n + 1 ≤ h.length ∨ l ≠ []) : num h l r n ≤ num h l r (n + 1) := by
  unfold num at_
  by_cases c : n + 1 ≤ h.length
  · rw [if_pos c, if_pos (by omega)]
    show h.getD (n - 1) 0 ≤ h.getD (n + 1 - 1) 0
    have := climbs_up (i := n - 1) g.hd (by omega)
    rw [show n - 1 + 1 = n + 1 - 1 by omega] at this
    exact this
  · have hl := hs.resolve_left c
    have e1 : (if n + 1 ≤ h.length then some (h.getD (n + 1 - 1) 0) else if l = [] then none else some (walk l r (n + 1 - h.length - 1))).getD 0 = walk l r (n + 1 - h.length - 1) := by rw [if_neg c, if_neg hl]; rfl
    rw [e1]
    by_cases c2 : n ≤ h.length
    · rw [if_pos c2]
      have e : n = h.length := by omega
      subst e
      show h.getD (h.length - 1) 0 ≤ walk l r (h.length + 1 - h.length - 1)
      rw [show h.length + 1 - h.length - 1 = 0 by omega, walk_lt (len_pos hl)]
      exact g.join (fun z => by rw [z] at hn; simp at hn) hl
    · rw [if_neg c2, if_neg hl]
      show walk l r (n - h.length - 1) ≤ walk l r (n + 1 - h.length - 1)
      rw [show n + 1 - h.length - 1 = (n - h.length - 1) + 1 by omega]
      exact walk_up g hl _
theorem walk_ge (g : Good h l r) (hl : l ≠ []) (k : Nat) : 0 ≤ walk l r k := by
  induction k with
  | zero =>
    rw [walk_lt (len_pos hl)]
    exact climbs_lo g.lp (len_pos hl)
  | succ k ih => exact Int.le_trans ih (walk_up g hl k)
theorem num_ge (g : Good h l r) (n : Nat) (hn : 1 ≤ n) : 0 ≤ num h l r n := by
  unfold num at_
  by_cases c : n ≤ h.length
  · rw [if_pos c]
    exact climbs_lo (i := n - 1) g.hd (by omega)
  · rw [if_neg c]
    by_cases hl : l = []
    · rw [if_pos hl]; exact Int.le_refl _
    · rw [if_neg hl]; exact walk_ge g hl _
theorem walk_mono (g : Good h l r) (hl : l ≠ []) (k d : Nat) : walk l r k ≤ walk l r (k + d) := by
  induction d with
  | zero => exact Int.le_refl _
  | succ d ih => exact Int.le_trans ih (walk_up g hl (k + d))
/-- the plain form is made of counts -/
theorem plain_counts (g : Good h l r) {x : List Int × List Int × Int} (hx : IsPlain h l r x) : (∀ i, i ∈ x.1 ++ x.2.1 → 0 ≤ i) ∧ 0 ≤ x.2.2 := by
  have hz := plain_size hx
  refine ⟨fun i hi => ?_, (hz.2.2.2.2.1 g.r0).1⟩
  have all : ∀ n, 1 ≤ n → ∀ v, at_ x.1 x.2.1 x.2.2 n = some v → 0 ≤ v := by
    rcases hx with ⟨rfl, rfl⟩ | ⟨_, _, _, _, e⟩
    · intro n hn v hv
      unfold at_ at hv
      by_cases c : n ≤ h.length
      · rw [if_pos c] at hv
        injection hv with hv
        rw [← hv]
        exact climbs_lo (l := h) (i := n - 1) g.hd (by omega)
      · rw [if_neg c, if_pos rfl] at hv
        cases hv
    · intro n hn v hv
      rw [e n hn] at hv
      have := num_ge g n hn
      unfold num at this
      rw [hv] at this
      exact this
  rcases List.mem_append.mp hi with h1 | h1
  · obtain ⟨k, hk, rfl⟩ := List.getElem_of_mem h1
    refine all (k + 1) (by omega) _ ?_
    unfold at_
    rw [if_pos (by omega), Nat.add_sub_cancel, List.getD_eq_getElem?_getD, List.getElem?_eq_getElem hk]
    rfl
  · obtain ⟨k, hk, rfl⟩ := List.getElem_of_mem h1
    have hne : x.2.1 ≠ [] := fun z => by rw [z] at hk; simp at hk
    refine all (x.1.length + k + 1) (by omega) _ ?_
    rw [at_loop hne (by omega), show x.1.length + k + 1 - x.1.length - 1 = k by omega, walk_lt hk, List.getD_eq_getElem?_getD, List.getElem?_eq_getElem hk]
    rfl
/-! ### the same table with more values in the head and a longer loop -/
def tell (h l : List Int) (r : Int) (n : Nat) : List Int := (List.range n).map fun k => num h l r (k + 1)
theorem tell_len (n : Nat) : (tell h l r n).length = n := by unfold tell; rw [List.length_map, List.length_range]
theorem tell_get {n k : Nat} (hk : k < n) : (tell h l r n).getD k 0 = num h l r (k + 1) := by
  unfold tell
  rw [List.getD_eq_getElem?_getD, List.getElem?_map, List.getElem?_range hk]
  rfl
theorem getD_take' {l : List Int} {m i : Nat} (h : i < m) : (l.take m).getD i 0 = l.getD i 0 := getD_take h
theorem tell_good (g : Good h l r) {more t : Nat} (hm : l = [] → more = 0) (ht : 0 < t) :
    Good ((tell h l r (h.length + more + l.length * t)).take (h.length + more)) ((tell h l r (h.length + more + l.length * t)).drop (h.length + more)) (r * (t : Int)) := by
  generalize hN : h.length + more + l.length * t = N
  generalize hc : h.length + more = c
  have some_ : ∀ n, n ≤ N → n ≤ h.length ∨ l ≠ [] := fun n hn => by
    by_cases hl : l = []
    · left
      have := hm hl
      have : l.length = 0 := by rw [hl]; rfl
      rw [this, Nat.zero_mul] at hN
      omega
    · exact .inr hl
  have cle : c ≤ N := by omega
  have hlt : ((tell h l r N).take c).length = c := by rw [List.length_take, tell_len]; omega
  have hld : ((tell h l r N).drop c).length = N - c := by rw [List.length_drop, tell_len]
  refine ⟨climbs_of (fun i hi => ?_) (fun i hi => ?_), climbs_of (fun i hi => ?_) (fun i hi => ?_), fun h1 h2 => ?_, ?_, fun hl => ?_, fun hl => ?_⟩
  · rw [hlt] at hi
    rw [getD_take hi, tell_get (by omega)]
    exact num_ge g _ (by omega)
  · rw [hlt] at hi
    rw [getD_take (by omega), getD_take hi, tell_get (by omega), tell_get (by omega)]
    exact num_up g _ (by omega) (some_ _ (by omega))
  · rw [hld] at hi
    rw [getD_drop, tell_get (by omega)]
    exact num_ge g _ (by omega)
  · rw [hld] at hi
    rw [getD_drop, getD_drop, tell_get (by omega), tell_get (by omega)]
    have := num_up g (c + i + 1) (by omega) (some_ _ (by omega))
    exact this
  · have c0 : 0 < c := by
      rcases Nat.eq_zero_or_pos c with z | z
      · rw [z] at h1; exact absurd rfl h1
      · exact z
    have d0 : 0 < N - c := by rw [← hld]; exact len_pos h2
    rw [hlt, getD_take (by omega), getD_drop, tell_get (by omega), tell_get (by omega)]
    have := num_up g c (by omega) (some_ _ (by omega))
    rw [show c - 1 + 1 = c by omega, show c + 0 + 1 = c + 1 by omega]
    exact this
  · exact Int.mul_nonneg g.r0 (by omega)
  · have z : N - c = 0 := by rw [← hld, hl]; rfl
    have z2 : l.length * t = 0 := by omega
    have z3 : l.length = 0 := by
      rcases Nat.mul_eq_zero.mp z2 with q | q
      · exact q
      · omega
    rw [g.rl (List.eq_nil_of_length_eq_zero z3), Int.zero_mul]
  · have d0 : 0 < N - c := by rw [← hld]; exact len_pos hl
    have hl2 : l ≠ [] := fun z => by
      have : l.length = 0 := by rw [z]; rfl
      rw [this, Nat.zero_mul] at hN
      omega
    rw [hld, getD_drop, getD_drop, tell_get (by omega), tell_get (by omega)]
    have w : ∀ j, num h l r (c + j + 1) = walk l r (more + j) := fun j => by
      unfold num
      rw [at_loop hl2 (by omega), show c + j + 1 - h.length - 1 = more + j by omega]
      rfl
    rw [w (N - c - 1), w 0, ← walk_add_mul (len_pos hl2)]
    have e : more + 0 + l.length * t = (more + (N - c - 1)) + 1 := by omega
    rw [e]
    exact walk_mono g hl2 _ 1
theorem tell_at {more t : Nat} (hm : l = [] → more = 0) (ht : 0 < t) (n : Nat) (hn : 1 ≤ n) :
    at_ ((tell h l r (h.length + more + l.length * t)).take (h.length + more)) ((tell h l r (h.length + more + l.length * t)).drop (h.length + more)) (r * (t : Int)) n = at_ h l r n := by
  by_cases hl : l = []
  · subst hl
    have hm := hm rfl
    subst hm
    have e : h.length + 0 + ([] : List Int).length * t = h.length := by simp
    rw [e, Nat.add_zero]
    unfold at_
    have e1 : ((tell h [] r h.length).take h.length).length = h.length := by rw [List.length_take, tell_len]; omega
    have e2 : (tell h [] r h.length).drop h.length = [] := List.drop_of_length_le (by rw [tell_len]; exact Nat.le_refl _)
    rw [e1, e2]
    by_cases c : n ≤ h.length
    · rw [if_pos c, if_pos c, getD_take (by omega), tell_get (by omega)]
      unfold num at_
      rw [show n - 1 + 1 = n by omega, if_pos c]
      rfl
    · rw [if_neg c, if_neg c, if_pos rfl, if_pos rfl]
  · have hp := len_pos hl
    generalize hN : h.length + more + l.length * t = N
    generalize hc : h.length + more = c
    have lt0 : 0 < l.length * t := Nat.mul_pos hp ht
    have hlt : ((tell h l r N).take c).length = c := by rw [List.length_take, tell_len]; omega
    have hld : ((tell h l r N).drop c).length = l.length * t := by rw [List.length_drop, tell_len]; omega
    have hne : (tell h l r N).drop c ≠ [] := fun z => by rw [z] at hld; simp at hld; omega
    by_cases q : n ≤ c
    · have : at_ h l r n = some (num h l r n) := at_some n (.inr hl)
      rw [this]
      unfold at_
      rw [hlt, if_pos q, getD_take (by omega), tell_get (by omega), show n - 1 + 1 = n by omega]
    · rw [at_loop hne (by rw [hlt]; omega), hlt, at_loop hl (by omega)]
      congr 1
      unfold walk
      rw [hld]
      generalize hk : n - c - 1 = k
      have hi : k % (l.length * t) < l.length * t := Nat.mod_lt _ lt0
      have w : ∀ j, num h l r (c + j + 1) = walk l r (more + j) := fun j => by
        unfold num
        rw [at_loop hl (by omega), show c + j + 1 - h.length - 1 = more + j by omega]
        rfl
      rw [getD_drop, tell_get (by omega), w]
      have e : n - h.length - 1 = (more + k % (l.length * t)) + l.length * (t * (k / (l.length * t))) := by
        have := Nat.mod_add_div k (l.length * t)
        rw [← Nat.mul_assoc]
        omega
      have e2 : walk l r (n - h.length - 1) = walk l r (more + k % (l.length * t)) + r * ((t * (k / (l.length * t)) : Nat) : Int) := by rw [e, walk_add_mul hp]
      have e3 : walk l r (n - h.length - 1) = l.getD ((n - h.length - 1) % l.length) 0 + r * (((n - h.length - 1) / l.length : Nat) : Int) := rfl
      rw [← e3, e2, Int.natCast_mul, Int.mul_assoc]
end NT
set_option Elab.async false
set_option linter.all false
set_option maxHeartbeats 4000000
/-! Rows of values that climb and may come to never: their tellings; the values of one table at the values of another one. -/
namespace NT
structure Asc (F : Nat → Option Int) : Prop where
  ge : ∀ n v, 1 ≤ n → F n = some v → 0 ≤ v
  up : ∀ n v, 1 ≤ n → F (n + 1) = some v → ∃ u, F n = some u ∧ u ≤ v
def numF (F : Nat → Option Int) (n : Nat) : Int := (F n).getD 0
def seg (F : Nat → Option Int) (a m : Nat) : List (Option Int) := (List.range m).map fun k => F (a + k + 1)
def segN (F : Nat → Option Int) (a m : Nat) : List Int := (List.range m).map fun k => numF F (a + k + 1)
variable {F : Nat → Option Int}
theorem seg_succ {a m : Nat} : seg F a (m + 1) = seg F a m ++ [F (a + m + 1)] := by
  unfold seg
  rw [List.range_succ, List.map_append]
  rfl
theorem segN_succ {a m : Nat} : segN F a (m + 1) = segN F a m ++ [numF F (a + m + 1)] := by
  unfold segN
  rw [List.range_succ, List.map_append]
  rfl
theorem seg_len {a m : Nat} : (seg F a m).length = m := by unfold seg; rw [List.length_map, List.length_range]
theorem segN_len {a m : Nat} : (segN F a m).length = m := by unfold segN; rw [List.length_map, List.length_range]
theorem segN_get {a m k : Nat} (hk : k < m) : (segN F a m).getD k 0 = numF F (a + k + 1) := by
  unfold segN
  rw [List.getD_eq_getElem?_getD, List.getElem?_map, List.getElem?_range hk]
  rfl
theorem Asc.below (A : Asc F) {m d : Nat} (hm : 1 ≤ m) : ∀ {v : Int}, F (m + d) = some v → ∃ u, F m = some u ∧ u ≤ v := by
  induction d with
  | zero => exact fun {v} h => ⟨v, h, Int.le_refl _⟩
  | succ d ih =>
    intro v h
    obtain ⟨u, hu, le⟩ := A.up (m + d) v (by omega) h
    obtain ⟨u2, h2, le2⟩ := ih hu
    exact ⟨u2, h2, Int.le_trans le2 le⟩
theorem Asc.none_up (A : Asc F) {m n : Nat} (hm : 1 ≤ m) (h : F m = none) (le : m ≤ n) : F n = none := by
  cases e : F n with
  | none => rfl
  | some v =>
    obtain ⟨d, rfl⟩ : ∃ d, n = m + d := ⟨n - m, by omega⟩
    obtain ⟨u, hu, _⟩ := A.below hm e
    rw [h] at hu
    cases hu
theorem numF_some {n : Nat} (h : F n ≠ none) : F n = some (numF F n) := by
  unfold numF
  cases e : F n with
  | none => exact absurd e h
  | some v => rfl
theorem Asc.mono (A : Asc F) {m n : Nat} (hm : 1 ≤ m) (le : m ≤ n) (h : F n ≠ none) : numF F m ≤ numF F n := by
  obtain ⟨d, rfl⟩ : ∃ d, n = m + d := ⟨n - m, by omega⟩
  obtain ⟨u, hu, le2⟩ := A.below hm (numF_some h)
  have : numF F m = u := by unfold numF; rw [hu]; rfl
  rw [this]
  exact le2
theorem Asc.nonneg (A : Asc F) {n : Nat} (hn : 1 ≤ n) (h : F n ≠ none) : 0 ≤ numF F n := A.ge n _ hn (numF_some h)
/-- those that are counts -/
theorem cnt_ex (A : Asc F) (N : Nat) : ∃ M, M ≤ N ∧ (seg F 0 N).filterMap id = segN F 0 M ∧ (∀ n, 1 ≤ n → n ≤ M → F n ≠ none) ∧ (∀ n, M < n → n ≤ N → F n = none) := by
  induction N with
  | zero => exact ⟨0, Nat.le_refl _, rfl, fun n h1 h2 => by omega, fun n h1 h2 => by omega⟩
  | succ N ih =>
    obtain ⟨M, hM, e, s, z⟩ := ih
    cases h : F (N + 1) with
    | none =>
      refine ⟨M, by omega, ?_, s, fun n h1 h2 => ?_⟩
      · rw [seg_succ, List.filterMap_append, e, show 0 + N + 1 = N + 1 by omega, h]
        simp
      · by_cases c : n ≤ N
        · exact z n h1 c
        · rw [show n = N + 1 by omega, h]
    | some v =>
      have hall : M = N := by
        rcases Nat.lt_or_ge M N with c | c
        · have := z (M + 1) (by omega) (by omega)
          have := A.none_up (by omega) this (show M + 1 ≤ N + 1 by omega)
          rw [h] at this
          cases this
        · omega
      subst hall
      refine ⟨M + 1, Nat.le_refl _, ?_, fun n h1 h2 => ?_, fun n h1 h2 => by omega⟩
      · rw [seg_succ, List.filterMap_append, e, segN_succ, show 0 + M + 1 = M + 1 by omega, h]
        unfold numF
        rw [h]
        rfl
      · by_cases c : n ≤ M
        · exact s n h1 c
        · rw [show n = M + 1 by omega, h]
          exact fun y => by cases y
theorem ended (A : Asc F) {M : Nat} (s : ∀ n, 1 ≤ n → n ≤ M → F n ≠ none) : Good (segN F 0 M) [] 0 := by
  refine ⟨climbs_of (fun i hi => ?_) (fun i hi => ?_), trivial, fun _ z => absurd rfl z, Int.le_refl _, fun _ => rfl, fun z => absurd rfl z⟩
  · rw [segN_len] at hi
    rw [segN_get hi]
    exact A.nonneg (by omega) (s _ (by omega) (by omega))
  · rw [segN_len] at hi
    rw [segN_get (by omega), segN_get hi]
    exact A.mono (by omega) (by omega) (s _ (by omega) (by omega))
theorem at_ended {M : Nat} (s : ∀ n, 1 ≤ n → n ≤ M → F n ≠ none) (z : ∀ n, M < n → F n = none) {n : Nat} (hn : 1 ≤ n) : at_ (segN F 0 M) [] 0 n = F n := by
  unfold at_
  rw [segN_len]
  by_cases c : n ≤ M
  · rw [if_pos c, segN_get (by omega), show 0 + (n - 1) + 1 = n by omega]
    exact (numF_some (s n hn c)).symm
  · rw [if_neg c, if_pos rfl]
    exact (z n (by omega)).symm
theorem per_num {N m : Nat} {c : Int} (p : ∀ n, N < n → numF F (n + m) = numF F n + c) (i j : Nat) : numF F (N + 1 + i + m * j) = numF F (N + 1 + i) + c * (j : Int) := by
  induction j with
  | zero => simp
  | succ j ih =>
    have e : N + 1 + i + m * (j + 1) = (N + 1 + i + m * j) + m := by rw [Nat.mul_succ]; omega
    rw [e, p _ (by omega), ih, Int.natCast_succ, Int.mul_add]
    omega
theorem looped (A : Asc F) {N m : Nat} {c : Int} (hm : 0 < m) (s : ∀ n, 1 ≤ n → F n ≠ none) (p : ∀ n, N < n → numF F (n + m) = numF F n + c) :
    Good (segN F 0 N) (segN F N m) c ∧ ∀ n, 1 ≤ n → at_ (segN F 0 N) (segN F N m) c n = F n := by
  have hl : segN F N m ≠ [] := fun z => by
    have := congrArg List.length z
    rw [segN_len] at this
    simp at this
    omega
  refine ⟨⟨climbs_of (fun i hi => ?_) (fun i hi => ?_), climbs_of (fun i hi => ?_) (fun i hi => ?_), fun h1 _ => ?_, ?_, fun z => absurd z hl, fun _ => ?_⟩, fun n hn => ?_⟩
  · rw [segN_len] at hi
    rw [segN_get hi]
    exact A.nonneg (by omega) (s _ (by omega))
  · rw [segN_len] at hi
    rw [segN_get (by omega), segN_get hi]
    exact A.mono (by omega) (by omega) (s _ (by omega))
  · rw [segN_len] at hi
    rw [segN_get hi]
    exact A.nonneg (by omega) (s _ (by omega))
  · rw [segN_len] at hi
    rw [segN_get (by omega), segN_get hi]
    exact A.mono (by omega) (by omega) (s _ (by omega))
  · have : 0 < N := by
      rcases Nat.eq_zero_or_pos N with z | z
      · subst z; exact absurd rfl h1
      · exact z
    rw [segN_len, segN_get (by omega), segN_get hm]
    exact A.mono (by omega) (by omega) (s _ (by omega))
  · have e := p (N + 1) (by omega)
    have := A.mono (m := N + 1) (n := N + 1 + m) (by omega) (by omega) (s _ (by omega))
    omega
  · rw [segN_len, segN_get (by omega), segN_get hm]
    have e := p (N + 0 + 1) (by omega)
    have := A.mono (m := N + (m - 1) + 1) (n := N + 0 + 1 + m) (by omega) (by omega) (s _ (by omega))
    omega
  · by_cases q : n ≤ N
    · unfold at_
      rw [segN_len, if_pos q, segN_get (by omega), show 0 + (n - 1) + 1 = n by omega]
      exact (numF_some (s n hn)).symm
    · rw [at_loop hl (by rw [segN_len]; omega), segN_len, numF_some (s n hn)]
      congr 1
      unfold walk
      rw [segN_len, segN_get (Nat.mod_lt _ hm)]
      have e := per_num p ((n - N - 1) % m) ((n - N - 1) / m)
      have e2 : N + 1 + (n - N - 1) % m + m * ((n - N - 1) / m) = n := by
        have := Nat.mod_add_div (n - N - 1) m
        omega
      rw [e2] at e
      rw [e, show N + (n - N - 1) % m + 1 = N + 1 + (n - N - 1) % m by omega]
/-- how the program tells a table that comes to an end -/
def settled (vs : List (Option Int)) : Option Int → List Int × List Int × Int
  | none => (vs.filterMap id, [], 0)
  | some v => if (vs.filterMap id).length < vs.length then (vs.filterMap id, [], 0) else (vs.filterMap id, [v], 0)
theorem settled_ok (A : Asc F) {N : Nat} {t : Option Int} (ht : ∀ n, N < n → F n = t) :
    Good (settled (seg F 0 N) t).1 (settled (seg F 0 N) t).2.1 (settled (seg F 0 N) t).2.2 ∧ (∀ n, 1 ≤ n → at_ (settled (seg F 0 N) t).1 (settled (seg F 0 N) t).2.1 (settled (seg F 0 N) t).2.2 n = F n) ∧
      (settled (seg F 0 N) t).1.length ≤ N ∧ (settled (seg F 0 N) t).2.1.length ≤ 1 := by
  obtain ⟨M, hM, e, s, z⟩ := cnt_ex A N
  have short : M < N ∨ t = none → Good (segN F 0 M) [] 0 ∧ (∀ n, 1 ≤ n → at_ (segN F 0 M) [] 0 n = F n) ∧ (segN F 0 M).length ≤ N ∧ ([] : List Int).length ≤ 1 := fun h => by
    refine ⟨ended A s, fun n hn => at_ended s (fun k hk => ?_) hn, by rw [segN_len]; exact hM, Nat.zero_le _⟩
    rcases h with h | h
    · exact A.none_up (m := M + 1) (by omega) (z (M + 1) (by omega) (by omega)) (by omega)
    · by_cases c : k ≤ N
      · exact z k hk c
      · rw [ht k (by omega), h]
  unfold settled
  cases t with
  | none =>
    dsimp only
    rw [e]
    exact short (.inr rfl)
  | some v =>
    dsimp only
    rw [e, seg_len, segN_len]
    by_cases c : M < N
    · rw [if_pos c]
      exact short (.inl c)
    · rw [if_neg c]
      have hMN : M = N := by omega
      subst hMN
      have sall : ∀ n, 1 ≤ n → F n ≠ none := fun n hn => by
        by_cases q : n ≤ M
        · exact s n hn q
        · rw [ht n (by omega)]
          exact fun y => by cases y
      have el : segN F M 1 = [v] := by
        unfold segN
        show [numF F (M + 0 + 1)] = [v]
        unfold numF
        rw [ht _ (by omega)]
        rfl
      have g := looped A (N := M) (m := 1) (c := 0) (by decide) sall (fun n hn => by
        unfold numF
        rw [ht n hn, ht (n + 1) (by omega)]
        simp)
      rw [el] at g
      exact ⟨g.1, g.2, by rw [segN_len]; exact Nat.le_refl _, Nat.le_refl _⟩
/-! ### a table's own values -/
section
variable {h l : List Int} {r : Int}
theorem asc_at (g : Good h l r) : Asc (at_ h l r) := by
  have some_of : ∀ n v, at_ h l r n = some v → n ≤ h.length ∨ l ≠ [] := fun n v e => by
    by_cases c : n ≤ h.length
    · exact .inl c
    · refine .inr fun z => ?_
      unfold at_ at e
      rw [if_neg c, if_pos z] at e
      cases e
  refine ⟨fun n v hn e => ?_, fun n v hn e => ?_⟩
  · have := num_ge g n hn
    unfold num at this
    rw [e] at this
    exact this
  · have c := some_of _ _ e
    have e1 := at_some (h := h) (l := l) (r := r) n (c.imp (fun q => by omega) id)
    refine ⟨_, e1, ?_⟩
    have := num_up g n hn c
    have e2 : num h l r (n + 1) = v := by unfold num; rw [e]; rfl
    omega
theorem good_of (A : Asc (at_ h l r)) (r0 : 0 ≤ r) (rl : l = [] → r = 0) : Good h l r := by
  have ah : ∀ i, i < h.length → at_ h l r (i + 1) = some (h.getD i 0) := fun i hi => by
    unfold at_
    rw [if_pos (by omega), Nat.add_sub_cancel]
  have al : ∀ i, i < l.length → at_ h l r (h.length + i + 1) = some (l.getD i 0) := fun i hi => by
    have hl : l ≠ [] := fun z => by rw [z] at hi; simp at hi
    rw [at_loop hl (by omega), show h.length + i + 1 - h.length - 1 = i by omega, walk_lt hi]
  refine ⟨climbs_of (fun i hi => A.ge _ _ (by omega) (ah i hi)) (fun i hi => ?_), climbs_of (fun i hi => A.ge _ _ (by omega) (al i hi)) (fun i hi => ?_), fun h1 h2 => ?_, r0, rl, fun hl => ?_⟩
  · obtain ⟨u, hu, le⟩ := A.up _ _ (by omega) (ah (i + 1) hi)
    rw [ah i (by omega)] at hu
    injection hu with hu
    omega
  · obtain ⟨u, hu, le⟩ := A.up _ _ (by omega) (al (i + 1) hi)
    rw [show h.length + (i + 1) = h.length + i + 1 by omega, al i (by omega)] at hu
    injection hu with hu
    omega
  · have h0 := len_pos h1
    obtain ⟨u, hu, le⟩ := A.up _ _ (by omega) (al 0 (len_pos h2))
    have := ah (h.length - 1) (by omega)
    rw [show h.length - 1 + 1 = h.length by omega] at this
    rw [this] at hu
    injection hu with hu
    omega
  · have l0 := len_pos hl
    have e : at_ h l r (h.length + (l.length - 1) + 1 + 1) = some (l.getD 0 0 + r) := by
      rw [at_loop hl (by omega), show h.length + (l.length - 1) + 1 + 1 - h.length - 1 = 0 + l.length by omega, walk_add l0, walk_lt l0]
    obtain ⟨u, hu, le⟩ := A.up _ _ (by omega) e
    rw [al (l.length - 1) (by omega)] at hu
    injection hu with hu
    omega
theorem at_fin (g : Good h l r) (c : l = [] ∨ r = 0) {n : Nat} (hn : h.length < n) : at_ h l r n = fin_ l r := by
  unfold fin_
  by_cases hl : l = []
  · rw [if_pos (.inl hl)]
    unfold at_
    rw [if_neg (by omega), if_pos hl]
  · have hr := c.resolve_left hl
    rw [if_neg (fun z => z.elim hl fun z => by omega), at_loop hl hn]
    have l0 := len_pos hl
    congr 1
    unfold walk
    rw [hr, Int.zero_mul, Int.add_zero]
    have hi := Nat.mod_lt (n - h.length - 1) l0
    generalize (n - h.length - 1) % l.length = i at hi
    have up : ∀ i d, i + d < l.length → l.getD i 0 ≤ l.getD (i + d) 0 := fun i d => by
      induction d with
      | zero => exact fun _ => Int.le_refl _
      | succ d ih => exact fun q => Int.le_trans (ih (by omega)) (climbs_up g.lp q)
    have e1 := up 0 i (by omega)
    have e2 := up i (l.length - 1 - i) (by omega)
    rw [Nat.zero_add] at e1
    rw [show i + (l.length - 1 - i) = l.length - 1 by omega] at e2
    have := g.last hl
    omega
theorem val_mono (g : Good h l r) {a b : Nat} (le : a ≤ b) {v : Int} (e : val_ h l r (some b) = some v) : ∃ u, val_ h l r (some a) = some u ∧ u ≤ v ∧ 0 ≤ u := by
  have A := asc_at g
  unfold val_ at e ⊢
  dsimp only at e ⊢
  by_cases ha : a = 0
  · rw [if_pos ha]
    refine ⟨0, rfl, ?_, Int.le_refl _⟩
    by_cases hb : b = 0
    · rw [if_pos hb] at e
      injection e with e
      omega
    · rw [if_neg hb] at e
      exact A.ge _ _ (by omega) e
  · rw [if_neg ha]
    rw [if_neg (by omega)] at e
    obtain ⟨d, rfl⟩ : ∃ d, b = a + d := ⟨b - a, by omega⟩
    obtain ⟨u, hu, le2⟩ := A.below (by omega) e
    exact ⟨u, hu, le2, A.ge _ _ (by omega) hu⟩
theorem val_fin (g : Good h l r) {v : Int} (e : fin_ l r = some v) (a : Nat) : ∃ u, val_ h l r (some a) = some u ∧ u ≤ v ∧ 0 ≤ u := by
  have c : l = [] ∨ r = 0 := by
    unfold fin_ at e
    by_cases q : l = [] ∨ 0 < r
    · rw [if_pos q] at e
      cases e
    · have := g.r0
      right
      have : ¬ 0 < r := fun z => q (.inr z)
      omega
  refine val_mono g (b := a + h.length + 1) (by omega) ?_
  unfold val_
  dsimp only
  rw [if_neg (by omega), at_fin g c (by omega), e]
end
/-! ### the values of one table at the values of another one -/
section
variable {h1 l1 h2 l2 : List Int} {r1 r2 : Int}
def beh (h1 l1 : List Int) (r1 : Int) (h2 l2 : List Int) (r2 : Int) (n : Nat) : Option Int := val_ h1 l1 r1 ((at_ h2 l2 r2 n).map Int.toNat)
theorem beh_asc (g1 : Good h1 l1 r1) (g2 : Good h2 l2 r2) : Asc (beh h1 l1 r1 h2 l2 r2) := by
  have A := asc_at g2
  refine ⟨fun n v hn e => ?_, fun n v hn e => ?_⟩
  · unfold beh at e
    cases q : at_ h2 l2 r2 n with
    | none =>
      rw [q] at e
      obtain ⟨u, _, h, h'⟩ := val_fin g1 e 0
      omega
    | some k =>
      rw [q] at e
      obtain ⟨u, h0, _, h⟩ := val_mono g1 (Nat.le_refl _) e
      have : some u = some v := h0.symm.trans e
      injection this with this
      omega
  · unfold beh at e ⊢
    cases q : at_ h2 l2 r2 (n + 1) with
    | none =>
      rw [q] at e
      cases q2 : at_ h2 l2 r2 n with
      | none => exact ⟨v, e, Int.le_refl _⟩
      | some k =>
        obtain ⟨u, h0, h, _⟩ := val_fin g1 e k.toNat
        exact ⟨u, h0, h⟩
    | some k =>
      rw [q] at e
      obtain ⟨j, hj, le⟩ := A.up n k hn q
      rw [hj]
      obtain ⟨u, h0, h, _⟩ := val_mono g1 (show j.toNat ≤ k.toNat by omega) e
      exact ⟨u, h0, h⟩
theorem beh_end (g2 : Good h2 l2 r2) (c : l2 = [] ∨ r2 = 0) {n : Nat} (hn : h2.length < n) : beh h1 l1 r1 h2 l2 r2 n = val_ h1 l1 r1 ((fin_ l2 r2).map Int.toNat) := by
  unfold beh
  rw [at_fin g2 c hn]
theorem beh_far {n : Nat} {v : Int} (e : at_ h2 l2 r2 n = some v) (hv : (h1.length : Int) < v) : beh h1 l1 r1 h2 l2 r2 n = at_ h1 l1 r1 v.toNat := by
  unfold beh
  rw [e]
  show val_ h1 l1 r1 (some v.toNat) = _
  unfold val_
  dsimp only
  rw [if_neg (by omega)]
theorem beh_flat (g1 : Good h1 l1 r1) (c : l1 = [] ∨ r1 = 0) {n : Nat} {v : Int} (e : at_ h2 l2 r2 n = some v) (hv : (h1.length : Int) < v) : beh h1 l1 r1 h2 l2 r2 n = fin_ l1 r1 := by
  rw [beh_far e hv, at_fin g1 c (by omega)]
theorem beh_some (n1 : l1 ≠ []) (n2 : l2 ≠ []) (n : Nat) : beh h1 l1 r1 h2 l2 r2 n ≠ none := by
  unfold beh
  rw [at_some n (.inr n2)]
  show val_ h1 l1 r1 (some _) ≠ none
  unfold val_
  dsimp only
  by_cases c : (num h2 l2 r2 n).toNat = 0
  · rw [if_pos c]
    exact fun z => by cases z
  · rw [if_neg c, at_some _ (.inr n1)]
    exact fun z => by cases z
theorem beh_per (n1 : l1 ≠ []) (n2 : l2 ≠ []) {lead q : Nat} {rq gg : Nat} (hq : l1.length = gg * q) (hr : r2 = ((gg * rq : Nat) : Int)) (hl : h2.length ≤ lead) (far : ∀ n, lead < n → ∃ v, at_ h2 l2 r2 n = some v ∧ (h1.length : Int) < v) (n : Nat) (hn : lead < n) :
    numF (beh h1 l1 r1 h2 l2 r2) (n + l2.length * q) = numF (beh h1 l1 r1 h2 l2 r2) n + r1 * (rq : Int) := by
  obtain ⟨v, hv, lv⟩ := far n hn
  obtain ⟨v', hv', lv'⟩ := far (n + l2.length * q) (by omega)
  have e : v' = v + (l1.length : Int) * (rq : Int) := by
    have a := at_loop n2 (r := r2) (h := h2) (n := n) (by omega)
    have b := at_loop n2 (r := r2) (h := h2) (n := n + l2.length * q) (by omega)
    rw [hv] at a
    rw [hv', show n + l2.length * q - h2.length - 1 = (n - h2.length - 1) + l2.length * q by omega, walk_add_mul (len_pos n2)] at b
    injection a with a
    injection b with b
    rw [b, a, hr, hq, Int.natCast_mul, Int.natCast_mul, Int.mul_assoc, Int.mul_assoc, Int.mul_comm (rq : Int) (q : Int)]
  unfold numF
  rw [beh_far hv lv, beh_far hv' lv', at_loop n1 (by omega), at_loop n1 (by omega)]
  show walk l1 r1 _ = walk l1 r1 _ + _
  have e3 : v'.toNat - h1.length - 1 = (v.toNat - h1.length - 1) + l1.length * rq := by
    have : (l1.length : Int) * (rq : Int) = ((l1.length * rq : Nat) : Int) := (Int.natCast_mul _ _).symm
    omega
  rw [e3, walk_add_mul (len_pos n1)]
end
end NT
namespace NT
section
variable {h l : List Int} {r : Int}
theorem at_bound {B R : Int} (hh : ∀ i, i < h.length → h.getD i 0 ≤ B) (hl : ∀ i, i < l.length → l.getD i 0 ≤ B) (r0 : 0 ≤ r) (hr : r ≤ R) (R0 : 0 ≤ R) {n : Nat} (hn : 1 ≤ n) {v : Int} (e : at_ h l r n = some v) : v ≤ B + R * (n : Int) := by
  have Rn : 0 ≤ R * (n : Int) := Int.mul_nonneg R0 (by omega)
  unfold at_ at e
  by_cases c : n ≤ h.length
  · rw [if_pos c] at e
    injection e with e
    have := hh (n - 1) (by omega)
    omega
  · rw [if_neg c] at e
    by_cases z : l = []
    · rw [if_pos z] at e
      cases e
    · rw [if_neg z] at e
      injection e with e
      unfold walk at e
      have a := hl ((n - h.length - 1) % l.length) (Nat.mod_lt _ (len_pos z))
      have b : (n - h.length - 1) / l.length ≤ n := Nat.le_trans (Nat.div_le_self _ _) (by omega)
      have c1 : r * (((n - h.length - 1) / l.length : Nat) : Int) ≤ R * (n : Int) := Int.mul_le_mul hr (Int.ofNat_le.mpr b) (Int.natCast_nonneg _) R0
      omega
/-- all that a form names is less than a bound -/
structure Few (x : List Int × List Int × Int) (B : Int) : Prop where
  v : ∀ n v, 1 ≤ n → n ≤ x.1.length + x.2.1.length → at_ x.1 x.2.1 x.2.2 n = some v → 0 ≤ v ∧ v < B
  r0 : 0 ≤ x.2.2
  r1 : x.2.2 < B
theorem plain_at {x : List Int × List Int × Int} (p : IsPlain h l r x) (n : Nat) (hn : 1 ≤ n) : at_ x.1 x.2.1 x.2.2 n = at_ h l r n := by
  rcases p with ⟨rfl, rfl⟩ | ⟨_, _, _, _, e⟩
  · rfl
  · exact e n hn
theorem plain_few {x : List Int × List Int × Int} {B : Int} (p : IsPlain h l r x) (f : Few (h, l, r) B) : Few x B := by
  have z := plain_size p
  refine ⟨fun n v hn h2 e => f.v n v hn ?_ ((plain_at p n hn).symm.trans e), (z.2.2.2.2.1 f.r0).1, Int.lt_of_le_of_lt (z.2.2.2.2.1 f.r0).2 f.r1⟩
  have := z.1
  have := z.2.1
  dsimp only
  omega
theorem few_head {x : List Int × List Int × Int} {B : Int} (f : Few x B) {i : Nat} (hi : i < x.1.length) : 0 ≤ x.1.getD i 0 ∧ x.1.getD i 0 < B := by
  refine f.v (i + 1) _ (by omega) (by omega) ?_
  unfold at_
  rw [if_pos (by omega), Nat.add_sub_cancel]
theorem few_loop {x : List Int × List Int × Int} {B : Int} (f : Few x B) {i : Nat} (hi : i < x.2.1.length) : 0 ≤ x.2.1.getD i 0 ∧ x.2.1.getD i 0 < B := by
  refine f.v (x.1.length + i + 1) _ (by omega) (by omega) ?_
  rw [at_loop (fun z => by rw [z] at hi; simp at hi) (by omega), show x.1.length + i + 1 - x.1.length - 1 = i by omega, walk_lt hi]
theorem plain_fin {x : List Int × List Int × Int} (g : Good h l r) (p : IsPlain h l r x) : Good x.1 x.2.1 x.2.2 ∧ fin_ x.2.1 x.2.2 = fin_ l r := by
  have z := plain_size p
  have gx : Good x.1 x.2.1 x.2.2 := by
    refine good_of ?_ (z.2.2.2.2.1 g.r0).1 fun hl => ?_
    · have A := asc_at g
      refine ⟨fun n v hn e => A.ge n v hn ((plain_at p n hn).symm.trans e), fun n v hn e => ?_⟩
      obtain ⟨u, hu, le⟩ := A.up n v hn ((plain_at p (n + 1) (by omega)).symm.trans e)
      exact ⟨u, (plain_at p n hn).trans hu, le⟩
    · by_cases q : l = []
      · rw [z.2.2.2.2.2.2 q]
      · exact absurd hl (z.2.2.1 q)
  refine ⟨gx, ?_⟩
  by_cases q : l = []
  · have hx := z.2.2.2.1 q
    unfold fin_
    rw [if_pos (.inl hx), if_pos (.inl q)]
  · have hx := z.2.2.1 q
    have hr := z.2.2.2.2.2.1 q
    by_cases q2 : 0 < r
    · unfold fin_
      rw [if_pos (.inr (hr.mp q2)), if_pos (.inr q2)]
    · have r0 : r = 0 := by have := g.r0; omega
      have rx : x.2.2 = 0 := by
        have := gx.r0
        have : ¬ 0 < x.2.2 := fun y => q2 (hr.mpr y)
        omega
      rw [← at_fin gx (.inr rx) (n := x.1.length + h.length + 1) (by omega), ← at_fin g (.inr r0) (n := x.1.length + h.length + 1) (by omega)]
      exact plain_at p _ (by omega)
theorem val_plain {x : List Int × List Int × Int} (g : Good h l r) (p : IsPlain h l r x) (n : Option Nat) : val_ x.1 x.2.1 x.2.2 n = val_ h l r n := by
  unfold val_
  cases n with
  | none => exact (plain_fin g p).2
  | some n =>
    dsimp only
    by_cases c : n = 0
    · rw [if_pos c, if_pos c]
    · rw [if_neg c, if_neg c]
      exact plain_at p n (by omega)
end
theorem beh_plain {h1 l1 h2 l2 : List Int} {r1 r2 : Int} {x y : List Int × List Int × Int} (g1 : Good h1 l1 r1) (p1 : IsPlain h1 l1 r1 x) (p2 : IsPlain h2 l2 r2 y) (n : Nat) (hn : 1 ≤ n) : beh x.1 x.2.1 x.2.2 y.1 y.2.1 y.2.2 n = beh h1 l1 r1 h2 l2 r2 n := by
  unfold beh
  rw [plain_at p2 n hn, val_plain g1 p1]
/-- what is not after a place at which a bound is passed -/
theorem far_of {h l : List Int} {r : Int} (g : Good h l r) (hl : l ≠ []) {lead : Nat} {lim : Int} (e : lim < num h l r (lead + 1)) (n : Nat) (hn : lead < n) : ∃ v, at_ h l r n = some v ∧ lim < v := by
  refine ⟨_, at_some n (.inr hl), ?_⟩
  have := (asc_at g).mono (m := lead + 1) (n := n) (by omega) (by omega) (by rw [at_some n (.inr hl)]; exact fun z => by cases z)
  exact Int.lt_of_lt_of_le e this
end NT
set_option linter.all false
set_option maxHeartbeats 4000000
/-! Deeds of makers: none gives a piece, some i takes one at inlet i. Plain Lean. -/
namespace NT
abbrev Deed := Option Nat
/-- how many pieces are taken at inlet i -/
def took (i : Nat) : List Deed → Nat
  | [] => 0
  | none :: ds => took i ds
  | some j :: ds => (if j = i then 1 else 0) + took i ds
/-- for each give how many pieces are taken at inlet i ahead of it, t of them before -/
def ahead (i : Nat) : List Deed → Int → List Int
  | [], _ => []
  | none :: ds, t => t :: ahead i ds t
  | some j :: ds, t => ahead i ds (if j = i then t + 1 else t)
theorem took_app {i : Nat} : ∀ {a b : List Deed}, took i (a ++ b) = took i a + took i b
  | [], b => by simp [took]
  | none :: a, b => by simp only [List.cons_append, took]; exact took_app
  | some j :: a, b => by simp only [List.cons_append, took]; rw [took_app]; omega
theorem ahead_app {i : Nat} : ∀ {a b : List Deed} {t : Int}, ahead i (a ++ b) t = ahead i a t ++ ahead i b (t + (took i a : Int))
  | [], b, t => by simp [took, ahead]
  | none :: a, b, t => by simp only [List.cons_append, took, ahead]; rw [ahead_app]
  | some j :: a, b, t => by
    simp only [List.cons_append, took, ahead]
    rw [ahead_app]
    congr 2
    by_cases h : j = i
    · rw [if_pos h, if_pos h]; omega
    · rw [if_neg h, if_neg h]; omega
theorem ahead_add {i : Nat} : ∀ {a : List Deed} {t c : Int}, ahead i a (t + c) = (ahead i a t).map (· + c)
  | [], _, _ => rfl
  | none :: a, t, c => by simp only [ahead, List.map_cons]; rw [ahead_add]
  | some j :: a, t, c => by
    simp only [ahead]
    by_cases h : j = i
    · rw [if_pos h, if_pos h, show t + c + 1 = t + 1 + c by omega, ahead_add]
    · rw [if_neg h, if_neg h, ahead_add]
theorem ahead_off {i : Nat} {a : List Deed} {t : Int} : ahead i a t = (ahead i a 0).map (t + ·) := by
  have := ahead_add (i := i) (a := a) (t := 0) (c := t)
  rw [Int.zero_add] at this
  rw [this]
  exact List.map_congr_left fun x _ => Int.add_comm _ _
theorem ahead_len {i : Nat} : ∀ {a : List Deed} {t : Int}, (ahead i a t).length ≤ a.length
  | [], _ => Nat.le_refl _
  | none :: a, t => by simp only [ahead, List.length_cons]; exact Nat.succ_le_succ ahead_len
  | some j :: a, t => by simp only [ahead, List.length_cons]; exact Nat.le_succ_of_le ahead_len
theorem took_len {i : Nat} : ∀ {a : List Deed}, took i a ≤ a.length
  | [] => Nat.le_refl _
  | none :: a => by simp only [took, List.length_cons]; exact Nat.le_succ_of_le took_len
  | some j :: a => by
    have := took_len (i := i) (a := a)
    simp only [took, List.length_cons]
    by_cases h : j = i
    · rw [if_pos h]; omega
    · rw [if_neg h]; omega
theorem ahead_climbs {i : Nat} : ∀ {a : List Deed} {lo t : Int}, lo ≤ t → climbs lo (ahead i a t)
  | [], _, _, _ => trivial
  | none :: a, lo, t, h => ⟨h, ahead_climbs (Int.le_refl t)⟩
  | some j :: a, lo, t, h => by
    simp only [ahead]
    by_cases e : j = i
    · rw [if_pos e]; exact ahead_climbs (by omega)
    · rw [if_neg e]; exact ahead_climbs h
theorem ahead_le {i : Nat} : ∀ {a : List Deed} {t : Int}, ∀ x ∈ ahead i a t, t ≤ x ∧ x ≤ t + (took i a : Int)
  | [], _, x, h => nomatch h
  | none :: a, t, x, h => by
    simp only [ahead, took] at h ⊢
    rcases List.mem_cons.mp h with rfl | h
    · omega
    · exact ahead_le x h
  | some j :: a, t, x, h => by
    simp only [ahead, took] at h ⊢
    by_cases e : j = i
    · rw [if_pos e] at h ⊢
      have := ahead_le x h
      omega
    · rw [if_neg e] at h ⊢
      have := ahead_le x h
      omega
theorem ahead_nil {i : Nat} : ∀ {a : List Deed} {t : Int}, ahead i a t = [] ↔ none ∉ a
  | [], _ => by simp [ahead]
  | none :: a, t => by simp [ahead]
  | some j :: a, t => by simp only [ahead]; rw [ahead_nil]; simp
theorem took_snoc {i : Nat} {a : List Deed} {d : Deed} : took i (a ++ [d]) = match d with
  | none => took i a
  | some j => if j = i then took i a + 1 else took i a := by
  rw [took_app]
  cases d with
  | none => rfl
  | some j =>
    show took i a + ((if j = i then 1 else 0) + 0) = if j = i then took i a + 1 else took i a
    split <;> omega
theorem ahead_snoc {i : Nat} {a : List Deed} {d : Deed} : ahead i (a ++ [d]) 0 = match d with
  | none => ahead i a 0 ++ [(took i a : Int)]
  | some _ => ahead i a 0 := by
  rw [ahead_app, Int.zero_add]
  cases d with
  | none => rfl
  | some j => exact List.append_nil _
/-- the need at inlet i: first these deeds, then those for ever -/
def needT (i : Nat) (b c : List Deed) : List Int × List Int × Int :=
  (ahead i b 0, ahead i c (took i b : Int), if ahead i c (took i b : Int) = [] then 0 else (took i c : Int))
theorem getD_mem {l : List Int} {k : Nat} (h : k < l.length) : l.getD k 0 ∈ l := by
  rw [List.getD_eq_getElem?_getD, List.getElem?_eq_getElem h]
  exact List.getElem_mem h
theorem needT_good (i : Nat) (b c : List Deed) : Good (needT i b c).1 (needT i b c).2.1 (needT i b c).2.2 := by
  unfold needT
  refine ⟨ahead_climbs (Int.le_refl 0), ahead_climbs (by omega), fun h1 h2 => ?_, ?_, fun h => if_pos h, fun h => ?_⟩
  · dsimp only at h1 h2
    have p1 := List.length_pos_iff.mpr h1
    have p2 := List.length_pos_iff.mpr h2
    have q1 := ahead_le _ (getD_mem (l := ahead i b 0) (k := (ahead i b 0).length - 1) (by omega))
    have q2 := ahead_le _ (getD_mem (l := ahead i c (took i b : Int)) (k := 0) p2)
    dsimp only
    omega
  · dsimp only
    split <;> omega
  · dsimp only at h ⊢
    rw [if_neg h]
    have p2 := List.length_pos_iff.mpr h
    have q1 := ahead_le _ (getD_mem (l := ahead i c (took i b : Int)) (k := 0) p2)
    have q2 := ahead_le _ (getD_mem (l := ahead i c (took i b : Int)) (k := (ahead i c (took i b : Int)).length - 1) (by omega))
    omega
/-- so often -/
def rep (c : List Deed) : Nat → List Deed
  | 0 => []
  | k + 1 => c ++ rep c k
theorem walk_shift {l : List Int} {r c : Int} {q : Nat} (h : 0 < l.length) : walk (l.map (· + c)) r q = walk l r q + c := by
  unfold walk
  rw [List.length_map, List.getD_eq_getElem?_getD, List.getD_eq_getElem?_getD, List.getElem?_map, List.getElem?_eq_getElem (Nat.mod_lt _ h)]
  show _ + c + _ = _
  show l[q % l.length]'(Nat.mod_lt _ h) + c + _ = l[q % l.length]'(Nat.mod_lt _ h) + _ + c
  omega
theorem rep_walk {i : Nat} {c : List Deed} : ∀ {k : Nat} {t : Int} {q : Nat}, q < k * (ahead i c t).length → q < (ahead i (rep c k) t).length ∧ (ahead i (rep c k) t).getD q 0 = walk (ahead i c t) (took i c : Int) q
  | 0, _, _, h => by omega
  | k + 1, t, q, h => by
    have l0 : 0 < (ahead i c t).length := by
      rcases Nat.eq_zero_or_pos (ahead i c t).length with z | z
      · rw [z] at h; omega
      · exact z
    have e : (ahead i c (t + (took i c : Int))) = (ahead i c t).map (· + (took i c : Int)) := ahead_add
    have el : (ahead i c (t + (took i c : Int))).length = (ahead i c t).length := by rw [e, List.length_map]
    simp only [rep]
    rw [ahead_app, List.length_append]
    by_cases z : q < (ahead i c t).length
    · refine ⟨by omega, ?_⟩
      rw [List.getD_eq_getElem?_getD, List.getElem?_append_left z, ← List.getD_eq_getElem?_getD, walk_lt z]
    · have h2 : q - (ahead i c t).length < k * (ahead i c (t + (took i c : Int))).length := by
        rw [el]
        rw [Nat.succ_mul] at h
        omega
      obtain ⟨r1, r2⟩ := rep_walk h2
      refine ⟨by omega, ?_⟩
      rw [List.getD_eq_getElem?_getD, List.getElem?_append_right (by omega), ← List.getD_eq_getElem?_getD, r2, e, walk_shift l0]
      have := walk_add (l := ahead i c t) (r := (took i c : Int)) l0 (q - (ahead i c t).length)
      rw [show q - (ahead i c t).length + (ahead i c t).length = q by omega] at this
      exact this.symm
theorem rep_none {i : Nat} {c : List Deed} (h : ∀ t, ahead i c t = []) : ∀ {k : Nat} {t : Int}, ahead i (rep c k) t = []
  | 0, _ => rfl
  | k + 1, t => by simp only [rep]; rw [ahead_app, h, rep_none h]; rfl
/-- the need, place by place, as it comes by walking -/
theorem needT_at {i : Nat} {b c : List Deed} {k n : Nat} (hn : 1 ≤ n) (hk : n ≤ k) : at_ (needT i b c).1 (needT i b c).2.1 (needT i b c).2.2 n = (ahead i (b ++ rep c k) 0)[n - 1]? := by
  unfold needT
  dsimp only
  rw [ahead_app, Int.zero_add]
  by_cases h : n ≤ (ahead i b 0).length
  · unfold at_
    rw [if_pos h, List.getElem?_append_left (by omega), List.getD_eq_getElem?_getD, List.getElem?_eq_getElem (by omega)]
    rfl
  · rw [List.getElem?_append_right (by omega)]
    by_cases z : ahead i c (took i b : Int) = []
    · unfold at_
      rw [if_neg h, if_pos z, rep_none fun t => ahead_nil.mpr (ahead_nil.mp z)]
      rfl
    · have l0 := List.length_pos_iff.mpr z
      rw [at_loop z (by omega), if_neg z]
      have lt : n - 1 - (ahead i b 0).length < k * (ahead i c (took i b : Int)).length := Nat.lt_of_lt_of_le (show n - 1 - (ahead i b 0).length < k by omega) (Nat.le_mul_of_pos_right _ l0)
      obtain ⟨r1, r2⟩ := rep_walk lt
      rw [List.getElem?_eq_getElem r1]
      rw [List.getD_eq_getElem?_getD, List.getElem?_eq_getElem r1] at r2
      rw [show n - (ahead i b 0).length - 1 = n - 1 - (ahead i b 0).length by omega, ← r2]
      rfl
end NT
set_option Elab.async false
set_option linter.all false
set_option maxRecDepth 100000
set_option maxHeartbeats 4000000
/-! A comprehension over a list or a tuple; rows of deeds. -/
namespace NF
open PySem PySem.Spec PyProof.Rows L2 He RZ NT
theorem lc_row {K : PySem.W.Frag} {a : Addr} {xs : List V} {g : TG} {tt : TT} {te : TE} {vs : List Nat} {σ : L2.St} {H1 : Hp} {Qd : Addr → Hp → Prop} (hr : Row K H1 a xs) (Pv : Addr → Nat → Hp → Prop) (h0 : ∀ D, H1 D = none → Pv D 0 (upd H1 D (.lst [])))
    (hl : ∀ D i H, H1 D = none → Pv D i H → Same H1 H)
    (hs : ∀ D, H1 D = none → ∀ i x H, xs[i]? = some x → Pv D i H → g x (wipe σ vs) H fun σ2 H2 => wipe σ2 vs = wipe σ vs ∧ tt σ2 H2 fun b H3 =>
      if b = true then te σ2 H3 fun y H4 => ∃ acc, H4 D = some (.lst acc) ∧ acc.length < sizeLine ∧ Pv D (i + 1) (upd H4 D (.lst (acc ++ [y]))) else Pv D (i + 1) H3) (hd : ∀ D, H1 D = none → ∀ H, Pv D xs.length H → Qd D H) :
    ((∃ xs, SqL K H1 a xs) ∧ ∀ D, H1 D = none → ∃ W : Nat → Nat → Hp → Prop, (∃ m, W 0 m (upd H1 D (.lst []))) ∧ ∀ i m H, W i m H →
      ((Itl K a).stop i H ∧ Qd D H) ∨ ((Itl K a).go i H ∧ ∃ Nx : Hp → Prop, (∀ H', Nx H' → ∃ m', m' < m ∧ W (i + 1) m' H') ∧ ∀ x H', (Itl K a).yld i H x H' → g x (wipe σ vs) H' fun σ2 H2 => wipe σ2 vs = wipe σ vs ∧ tt σ2 H2 fun b H3 =>
        if b = true then te σ2 H3 fun y H4 => ∃ acc, H4 D = some (.lst acc) ∧ acc.length < sizeLine ∧ Nx (upd H4 D (.lst (acc ++ [y]))) else Nx H3)) ∨
    ((∃ xs, SqT K H1 a xs) ∧ ∀ D, H1 D = none → ∃ W : Nat → Nat → Hp → Prop, (∃ m, W 0 m (upd H1 D (.lst []))) ∧ ∀ i m H, W i m H →
      ((Itt K a).stop i H ∧ Qd D H) ∨ ((Itt K a).go i H ∧ ∃ Nx : Hp → Prop, (∀ H', Nx H' → ∃ m', m' < m ∧ W (i + 1) m' H') ∧ ∀ x H', (Itt K a).yld i H x H' → g x (wipe σ vs) H' fun σ2 H2 => wipe σ2 vs = wipe σ vs ∧ tt σ2 H2 fun b H3 =>
        if b = true then te σ2 H3 fun y H4 => ∃ acc, H4 D = some (.lst acc) ∧ acc.length < sizeLine ∧ Nx (upd H4 D (.lst (acc ++ [y]))) else Nx H3)) := by
  rcases hr with hr | hr
  · exact .inl ⟨⟨_, hr⟩, fun D hD => lc_list (Pv D) (h0 D hD) (fun i H _ p => L2.Same.seq (hl D i H hD p) hr) (hs D hD) (hd D hD)⟩
  · exact .inr ⟨⟨_, hr⟩, fun D hD => lc_tup (Pv D) (h0 D hD) (fun i H _ p => NF.Same.tup (hl D i H hD p) hr) (hs D hD) (hd D hD)⟩
theorem for_rowM {K : PySem.W.Frag} {a : Addr} {xs : List V} {g : TG} {tb : TS} {D : Ends} {σ : L2.St} {H H0 : Hp} (hr : Row K H0 a xs) (Pv : Nat → L2.St → Hp → Prop) (h0 : Pv 0 σ H) (hm : ∀ i σ H', Pv i σ H' → Same H0 H')
    (hs : ∀ i x σ H, xs[i]? = some x → Pv i σ H → g x σ H fun σ2 H2 => tb { D with nx := Pv (i + 1), ct := Pv (i + 1), bk := D.nx } σ2 H2) (hd : ∀ σ H, Pv xs.length σ H → D.nx σ H) :
    ((∃ xs, SqL K H a xs) ∧ (∃ W : Nat → Nat → L2.St → Hp → Prop, (∃ m, W 0 m σ H) ∧ ∀ i m σ H, W i m σ H →
      ((Itl K a).stop i H ∧ D.nx σ H) ∨ ((Itl K a).go i H ∧ ∃ N : L2.St → Hp → Prop, (∀ σ' H', N σ' H' → ∃ m', m' < m ∧ W (i + 1) m' σ' H') ∧ ∀ x H', (Itl K a).yld i H x H' → g x σ H' fun σ2 H2 => tb { D with nx := N, ct := N, bk := D.nx } σ2 H2))) ∨
    ((∃ xs, SqT K H a xs) ∧ (∃ W : Nat → Nat → L2.St → Hp → Prop, (∃ m, W 0 m σ H) ∧ ∀ i m σ H, W i m σ H →
      ((Itt K a).stop i H ∧ D.nx σ H) ∨ ((Itt K a).go i H ∧ ∃ N : L2.St → Hp → Prop, (∀ σ' H', N σ' H' → ∃ m', m' < m ∧ W (i + 1) m' σ' H') ∧ ∀ x H', (Itt K a).yld i H x H' → g x σ H' fun σ2 H2 => tb { D with nx := N, ct := N, bk := D.nx } σ2 H2))) := by
  rcases hr with hr | hr
  · exact .inl ⟨⟨_, L2.Same.seq (hm 0 σ H h0) hr⟩, for_list Pv h0 (fun i σ H' _ p => L2.Same.seq (hm i σ H' p) hr) hs hd⟩
  · exact .inr ⟨⟨_, NF.Same.tup (hm 0 σ H h0) hr⟩, for_tup Pv h0 (fun i σ H' _ p => NF.Same.tup (hm i σ H' p) hr) hs hd⟩
theorem cr_tupK {X : Cx} {K : PySem.W.Frag} (h : X.K = K := by rfl) : CallR X (.type "tuple") (rTupOf K) := h ▸ cr_tup
theorem call_list_ofK {X : Cx} {K : PySem.W.Frag} (h : X.K = K := by rfl) : CallR X (.type "list") (fun xs H Q => ∃ p ys, xs = [.ref p] ∧ (SqL K H p ys ∨ SqT K H p ys) ∧ ∀ l, H l = none → Q (.ref l) (upd H l (.lst ys))) := h ▸ call_list_of
theorem call_isiK {X : Cx} {K : PySem.W.Frag} (h : X.K = K := by rfl) : CallR X (.builtin "isinstance") (rIsi K) := h ▸ call_isi
/-- a deed -/
def dV : Deed → V
  | none => .str "give"
  | some i => .int (i : Int)
theorem dV_give {d : Deed} : decide (dV d = V.str "give") = d.isNone := by
  cases d with
  | none => exact decide_eq_true rfl
  | some i => exact decide_eq_false fun z => by cases z
theorem dV_int {j i : Nat} : decide (dV (some j) = V.int (i : Int)) = decide (j = i) := by
  by_cases h : j = i
  · subst h
    rw [decide_eq_true rfl]
    exact decide_eq_true rfl
  · rw [decide_eq_false h]
    exact decide_eq_false fun z => h (by injection z with z; omega)
theorem dV_scal {d : Deed} {s : Str} : scal (dV d) (.str s) = true := by cases d <;> rfl
theorem dV_scalI {d : Deed} {i : Int} : scal (dV d) (.int i) = true := by cases d <;> rfl
/-- rows of deeds, each one at its own address -/
def WaysR (K : PySem.W.Frag) (H : Hp) (pw : Addr) (ws : List (List Deed)) : Prop := ∃ as : List Addr, Row K H pw (as.map V.ref) ∧ as.length = ws.length ∧ ∀ (j : Nat) (a : Addr) (w : List Deed), as[j]? = some a → ws[j]? = some w → Row K H a (w.map dV)
def WaysT (K : PySem.W.Frag) (H : Hp) (pw : Addr) (ws : List (List Deed)) : Prop := ∃ as : List Addr, SqT K H pw (as.map V.ref) ∧ as.length = ws.length ∧ ∀ (j : Nat) (a : Addr) (w : List Deed), as[j]? = some a → ws[j]? = some w → SqT K H a (w.map dV)
theorem WaysT.r {K : PySem.W.Frag} {H : Hp} {pw : Addr} {ws : List (List Deed)} (h : WaysT K H pw ws) : WaysR K H pw ws := by
  obtain ⟨as, h1, h2, h3⟩ := h
  exact ⟨as, .inr h1, h2, fun j a w e1 e2 => .inr (h3 j a w e1 e2)⟩
theorem WaysR.mono {K : PySem.W.Frag} {H H' : Hp} {pw : Addr} {ws : List (List Deed)} (h : WaysR K H pw ws) (s : Same H H') : WaysR K H' pw ws := by
  obtain ⟨as, h1, h2, h3⟩ := h
  exact ⟨as, h1.mono s, h2, fun j a w e1 e2 => (h3 j a w e1 e2).mono s⟩
theorem WaysT.mono {K : PySem.W.Frag} {H H' : Hp} {pw : Addr} {ws : List (List Deed)} (h : WaysT K H pw ws) (s : Same H H') : WaysT K H' pw ws := by
  obtain ⟨as, h1, h2, h3⟩ := h
  exact ⟨as, NF.Same.tup s h1, h2, fun j a w e1 e2 => NF.Same.tup s (h3 j a w e1 e2)⟩
end NF
set_option Elab.async false
set_option linter.all false
set_option maxRecDepth 100000
set_option maxHeartbeats 4000000
/-! Deep == of rows of anything that is equal only to itself. -/
namespace NF
open PySem PySem.Spec PyProof.Rows L2 He RZ NT
theorem iteT' {b : Bool} {A B : Prop} (e : b = true) (h : A) : if b = true then A else B := by rw [e]; exact iteT h
theorem iteF' {b : Bool} {A B : Prop} (e : b = false) (h : B) : if b = true then A else B := by rw [e]; exact iteF h
theorem eqv_map {α : Type} [DecidableEq α] {f : α → PyData} (h : ∀ a b, PyData.eqv (f a) (f b) = decide (a = b)) : ∀ a b : List α, PyData.eqvAll (a.map f) (b.map f) = decide (a = b)
  | [], [] => rfl
  | [], _ :: _ => rfl
  | _ :: _, [] => rfl
  | x :: a, y :: b => by
    show (PyData.eqv (f x) (f y) && PyData.eqvAll (a.map f) (b.map f)) = _
    rw [eqv_map h a b, h]
    by_cases h1 : x = y <;> by_cases h2 : a = b <;> simp [h1, h2]
theorem lay_map {α : Type} {f : α → PyData} : ∀ (l : List α), (∀ a ∈ l, PyData.canLay0 (f a) = true) → PyData.canLayAll0 (l.map f) = true
  | [], _ => rfl
  | a :: l, h => by
    show (PyData.canLay0 (f a) && PyData.canLayAll0 (l.map f)) = true
    rw [h a List.mem_cons_self, lay_map l fun b hb => h b (List.mem_cons_of_mem _ hb)]
    rfl
theorem depth_map {α : Type} {f : α → PyData} {n : Nat} : ∀ (l : List α), (∀ a ∈ l, PyData.depth (f a) ≤ n) → PyData.depthAll (l.map f) ≤ n
  | [], _ => Nat.zero_le _
  | a :: l, h => by
    show max (PyData.depth (f a)) (PyData.depthAll (l.map f)) ≤ n
    have := h a List.mem_cons_self
    have := depth_map l fun b hb => h b (List.mem_cons_of_mem _ hb)
    omega
theorem shaped_map {α : Type} {f : α → PyData} {n : Nat} (l : List α) (h1 : ∀ a ∈ l, PyData.canLay0 (f a) = true) (h2 : ∀ a ∈ l, PyData.depth (f a) ≤ n) (h3 : n ≤ 60) : SeqAt.shaped (.tuple (l.map f)) = true := by
  show (PyData.canLayAll0 (l.map f) && decide (PyData.depthAll (l.map f) + 1 ≤ 64)) = true
  rw [lay_map l h1, decide_eq_true (by have := depth_map l h2; omega)]
  rfl
/-- a deed as data -/
def dataD : Deed → PyData
  | none => .str "give"
  | some i => .int (i : Int)
theorem eqv_dP : ∀ a b : Deed, PyData.eqv (dataD a) (dataD b) = decide (a = b)
  | none, none => by decide
  | none, some _ => rfl
  | some _, none => rfl
  | some i, some j => by
    show ((i : Int) == (j : Int)) = _
    by_cases h : i = j
    · subst h
      simp
    · rw [decide_eq_false (fun z => h (by injection z))]
      exact beq_eq_false_iff_ne.mpr fun z => h (by omega)
theorem lay_dP (a : Deed) : PyData.canLay0 (dataD a) = true := by
  cases a with
  | none => decide +kernel
  | some i => rfl
theorem depth_dP (a : Deed) : PyData.depth (dataD a) ≤ 0 := by cases a <;> exact Nat.le_refl _
theorem dp_deeds {K : PySem.W.Frag} {H : Hp} : ∀ l : List Deed, DpAll K H (l.map dV) (l.map dataD)
  | [] => .nil
  | none :: l => .cons (.str _) (dp_deeds l)
  | some i :: l => .cons (.int _) (dp_deeds l)
def dataW (w : List Deed) : PyData := .tuple (w.map dataD)
theorem eqv_wP (a b : List Deed) : PyData.eqv (dataW a) (dataW b) = decide (a = b) := eqv_map eqv_dP a b
theorem lay_wP (a : List Deed) : PyData.canLay0 (dataW a) = true := lay_map a fun d _ => lay_dP d
theorem depth_wP (a : List Deed) : PyData.depth (dataW a) ≤ 1 := by
  show PyData.depthAll (a.map dataD) + 1 ≤ 1
  have := depth_map a fun d _ => depth_dP d
  omega
theorem shaped_wP (a : List Deed) : SeqAt.shaped (dataW a) = true := shaped_map a (fun d _ => lay_dP d) (fun d _ => depth_dP d) (by decide)
theorem dp_way {K : PySem.W.Frag} {H : Hp} {a : Addr} {w : List Deed} (h : SqT K H a (w.map dV)) : Dp K H (.ref a) (dataW w) := .tup h (dp_deeds w)
theorem dp_waysL {K : PySem.W.Frag} {H : Hp} : ∀ (as : List Addr) (ws : List (List Deed)), as.length = ws.length → (∀ (j : Nat) (a : Addr) (w : List Deed), as[j]? = some a → ws[j]? = some w → SqT K H a (w.map dV)) → DpAll K H (as.map V.ref) (ws.map dataW)
  | [], [], _, _ => .nil
  | [], _ :: _, h, _ => nomatch h
  | _ :: _, [], h, _ => nomatch h
  | a :: as, w :: ws, h, q => .cons (dp_way (q 0 a w rfl rfl)) (dp_waysL as ws (by simpa using h) fun j a' w' e1 e2 => q (j + 1) a' w' (by simpa using e1) (by simpa using e2))
def dataWs (ws : List (List Deed)) : PyData := .tuple (ws.map dataW)
theorem eqv_wsP (a b : List (List Deed)) : PyData.eqv (dataWs a) (dataWs b) = decide (a = b) := eqv_map eqv_wP a b
theorem shaped_wsP (a : List (List Deed)) : SeqAt.shaped (dataWs a) = true := shaped_map a (fun w _ => lay_wP w) (fun w _ => depth_wP w) (by decide)
theorem dp_ways {K : PySem.W.Frag} {H : Hp} {pw : Addr} {ws : List (List Deed)} (h : WaysT K H pw ws) : Dp K H (.ref pw) (dataWs ws) := by
  obtain ⟨as, h1, h2, h3⟩ := h
  exact .tup h1 (dp_waysL as ws h2 h3)
theorem eqD_deeds {K : PySem.W.Frag} {H : Hp} {a b : Addr} {x y : List Deed} {Q : VK} (hx : SqT K H a (x.map dV)) (hy : SqT K H b (y.map dV)) (q : Q (.bl (decide (x = y))) H) : rEqD K (.ref a) (.ref b) H Q :=
  ⟨_, _, dp_way hx, dp_way hy, shaped_wP x, shaped_wP y, by rw [eqv_wP]; exact q⟩
theorem eqD_ways {K : PySem.W.Frag} {H : Hp} {a b : Addr} {x y : List (List Deed)} {Q : VK} (hx : WaysT K H a x) (hy : WaysT K H b y) (q : Q (.bl (decide (x = y))) H) : rEqD K (.ref a) (.ref b) H Q :=
  ⟨_, _, dp_ways hx, dp_ways hy, shaped_wsP x, shaped_wsP y, by rw [eqv_wsP]; exact q⟩
end NF
set_option Elab.async false
set_option linter.all false
set_option maxRecDepth 100000
set_option maxHeartbeats 0
namespace K29
open PySem PySem.Spec PyProof.Rows L2 He NF RZ
def top (i : Nat) : Stmt := PySem.Challenge.pw_needforth_k29_whole_webs_read.main.body.getD i (.Pass ⟨0, 0, 0, 0⟩)
abbrev s__wall : Stmt := top 0
abbrev s_BadLine_init : Stmt := inClass (top 4) 0
abbrev s_TooMany_init : Stmt := inClass (top 5) 0
abbrev s_Lacking_init : Stmt := inClass (top 6) 0
abbrev s_BadMaker_init : Stmt := inClass (top 7) 0
abbrev s_BadName_init : Stmt := inClass (top 8) 0
abbrev s_BadRow_init : Stmt := inClass (top 9) 0
abbrev s_Twice_init : Stmt := inClass (top 10) 0
abbrev s_is_integer : Stmt := top 12
abbrev s_is_count : Stmt := top 13
abbrev s_is_row : Stmt := top 14
abbrev s_is_deed : Stmt := top 22
abbrev s_are_deeds : Stmt := top 23
abbrev s_are_ways : Stmt := top 24
abbrev s_check_maker : Stmt := top 25
abbrev s_Maker_init : Stmt := inClass (top 26) 0
abbrev s_Maker_eq : Stmt := inClass (top 26) 1
abbrev s_Maker_need : Stmt := inClass (top 26) 2
abbrev s_is_word : Stmt := top 32
abbrev s_is_row_name : Stmt := top 33
abbrev s_is_unknown : Stmt := top 34
abbrev s_check_givens : Stmt := top 35
abbrev s_are_sources : Stmt := top 36
abbrev s_is_made_row : Stmt := top 37
abbrev s_check_rows : Stmt := top 38
abbrev s_check_names : Stmt := top 39
abbrev s_Web_init : Stmt := inClass (top 40) 0
abbrev s_Web_eq : Stmt := inClass (top 40) 1
abbrev s_Web_getitem : Stmt := inClass (top 40) 2
abbrev s_Web_contains : Stmt := inClass (top 40) 3
abbrev s_Web_iter : Stmt := inClass (top 40) 4
abbrev s_Web_len : Stmt := inClass (top 40) 5
abbrev s_Web_opens : Stmt := inClass (top 40) 6
abbrev s_Web_filled : Stmt := inClass (top 40) 7
abbrev s_text_of_deeds : Stmt := top 42
abbrev s_text_of_row : Stmt := top 43
abbrev s_write_web : Stmt := top 44
abbrev s_deed_of : Stmt := top 45
abbrev s_deeds_behind : Stmt := top 46
abbrev s_maker_in : Stmt := top 47
abbrev s_row_of : Stmt := top 48
abbrev s_given_of : Stmt := top 49
abbrev s_are_lines : Stmt := top 50
abbrev s_read_web : Stmt := top 51
abbrev s__law_source : Stmt := top 53
abbrev s__law_pick : Stmt := top 54
abbrev s__law_truth : Stmt := top 55
abbrev s__law_deeds : Stmt := top 56
abbrev s__law_maker : Stmt := top 57
abbrev s__law_made : Stmt := top 58
abbrev s__law_web : Stmt := top 59
abbrev s__law_built : Stmt := top 60
abbrev s__law_opened : Stmt := top 61
abbrev s__law_line : Stmt := top 62
abbrev s__law_web_lines : Stmt := top 63
abbrev s__law_same_web : Stmt := top 64
abbrev s__law_other : Stmt := top 65
abbrev s_law : Stmt := top 66
def FS : List Str := ["len", "int", "abs", "range", "isinstance", "all", "bool", "tuple", "list", "zip", "divmod", "max", "min", "enumerate", "str", "sum", "sorted", "dict", "set", "any", "iter"]
end K29
set_option Elab.async false
set_option linter.all false
set_option maxRecDepth 100000
set_option maxHeartbeats 0
namespace K29
open PySem PySem.Spec PyProof.Rows L2 He NF RZ
def kTyM (K : PySem.W.Frag) : Bool := decide (PySem.W.kitOne K (.ref (ga K "Maker")) (.type "str") = some false) && decide (PySem.W.kitOne K (.type "str") (.ref (ga K "Maker")) = some false)
def kTyW (K : PySem.W.Frag) : Bool := decide (PySem.W.kitOne K (.type "list") (.ref (ga K "Web")) = some false) && (PySem.W.notFirst K (ga K "Web") (.type "tuple") && PySem.W.notFirst K (ga K "Web") (.type "list"))
def fn : List Adr := ([dG "is_integer" s_is_integer, dG "is_count" s_is_count, dG "is_row" s_is_row, dG "is_deed" s_is_deed, dG "are_deeds" s_are_deeds, dG "are_ways" s_are_ways, dG "check_maker" s_check_maker, dM "Maker" "__init__" "Maker.__init__" s_Maker_init [], dM "Maker" "__eq__" "Maker.__eq__" s_Maker_eq [], dG "_law_pick" s__law_pick, dG "_law_source" s__law_source, dG "_law_deeds" s__law_deeds, dG "_law_maker" s__law_maker, dG "_law_made" s__law_made, dG "is_word" s_is_word, dG "is_row_name" s_is_row_name, dG "is_unknown" s_is_unknown, dG "check_givens" s_check_givens, dG "are_sources" s_are_sources, dG "is_made_row" s_is_made_row] : List Adr) ++ ([dG "check_rows" s_check_rows, dG "check_names" s_check_names, dM "Web" "__init__" "Web.__init__" s_Web_init [], dM "Web" "__eq__" "Web.__eq__" s_Web_eq [], dG "text_of_deeds" s_text_of_deeds, dG "text_of_row" s_text_of_row, dG "write_web" s_write_web, dG "deed_of" s_deed_of, dG "deeds_behind" s_deeds_behind, dG "maker_in" s_maker_in, dG "given_of" s_given_of, dG "row_of" s_row_of, dG "are_lines" s_are_lines, dG "read_web" s_read_web, dG "_law_truth" s__law_truth, dG "_law_web" s__law_web, dG "_law_opened" s__law_opened, dG "_law_built" s__law_built, dG "_law_line" s__law_line, dG "_law_web_lines" s__law_web_lines] : List Adr) ++ ([dG "_law_same_web" s__law_same_web, dG "_law_other" s__law_other, dG "law" s_law] : List Adr)
def gs : List Str := (["is_integer", "is_count", "is_row", "is_deed", "are_deeds", "are_ways", "check_maker", "_law_pick", "_law_source", "_law_deeds", "_law_maker", "_law_made", "is_word", "is_row_name", "is_unknown", "check_givens", "are_sources", "is_made_row", "check_rows", "check_names", "text_of_deeds", "text_of_row", "write_web", "deed_of", "deeds_behind"] : List Str) ++ (["maker_in", "given_of", "row_of", "are_lines", "read_web", "_law_truth", "_law_web", "_law_opened", "_law_built", "_law_line", "_law_web_lines", "_law_same_web", "_law_other", "law", "NeedforthError", "Unreadable", "BadLine", "TooMany", "Lacking", "BadMaker", "BadName", "BadRow", "Twice", "Maker", "Web"] : List Str)
def exL : List (PySem.W.Frag → Bool) := [namB gs FS, intB "MOST_INLETS" 3, intB "MOST_WAYS" 4, intB "MOST_DEEDS" 600, intB "MOST_DEEDS_OF_SEVERAL" 24, intB "MOST_GIVENS" 3, intB "MOST_ROWS" 6, intB "LONGEST_NAME" 8, intB "LONGEST_UNKNOWN" 2, strB "LETTERS" "abcdefghijklmnopqrstuvwxyz", strB "FIGURES" "0123456789", clsB "Maker", fldsB "Maker" ["inlets", "begin", "ways"], tyB "Maker", mkB "Maker", eqB "Maker", clsB "Web", fldsB "Web" ["givens", "rows", "names"], tyB "Web", mkB "Web", eqB "Web", kTyM, kTyW]
def exB (K : PySem.W.Frag) : Bool := exL.all fun f => f K
end K29
set_option Elab.async false
set_option linter.all false
set_option maxRecDepth 100000
set_option maxHeartbeats 0
namespace K29
open PySem PySem.Spec PyProof.Rows L2 He NF
abbrev R : PySem.W.OpenRow := PySem.W.OpenLaw.row PySem.Challenge.rw_needforth_k29_whole_webs_read
abbrev hk : PySem.W.Hook := hookQ 5 exB fn
def ob (s : PySem.W.SharedT) : He.AlD := obsQG 5 exB fn (HandSHeadRun.getT s)
theorem ob_eq (s : PySem.W.SharedT) : ob s = hk.obs s.abs := obsQG_eq (HandSHeadRun.getT_eq s)
def loose : List Str := (["_wall", "__name__", "NeedforthError", "Unreadable", "BadLine", "TooMany", "Lacking", "BadMaker", "BadName", "BadRow", "Twice", "is_integer", "is_count", "is_row", "LETTERS", "FIGURES", "MOST_INLETS", "MOST_WAYS", "MOST_DEEDS", "MOST_DEEDS_OF_SEVERAL", "is_deed", "are_deeds", "are_ways", "check_maker", "Maker"] : List Str) ++ (["MOST_GIVENS", "MOST_ROWS", "LONGEST_NAME", "LONGEST_UNKNOWN", "is_word", "is_row_name", "is_unknown", "check_givens", "are_sources", "is_made_row", "check_rows", "check_names", "Web", "text_of_deeds", "text_of_row", "write_web", "deed_of", "deeds_behind", "maker_in", "row_of", "given_of", "are_lines", "read_web", "_law_source", "_law_pick"] : List Str) ++ (["_law_truth", "_law_deeds", "_law_maker", "_law_made", "_law_web", "_law_built", "_law_opened", "_law_line", "_law_web_lines", "_law_same_web", "_law_other"] : List Str)
theorem run (w : World) : HandSHeadRun.RunEq R (PySem.W.view R.prog [66]) hk ob 12000 loose w := by
  intro os
  kernel_rfl
end K29
set_option Elab.async false
set_option linter.all false
set_option maxRecDepth 100000
set_option maxHeartbeats 4000000
namespace K29
open PySem PySem.Spec PyProof.Rows L2 He NF RZ NT
def spIsInt : Sp := fun vs H Q _ => ∃ i : Int, vs = [.int i] ∧ Q (.bl true) H
def spIsCount : Sp := fun vs H Q _ => ∃ i : Int, vs = [.int i] ∧ Q (.bl (decide (0 ≤ i))) H
def spIsRow (K : PySem.W.Frag) : Sp := fun vs H Q _ => ∃ (a : Addr) (xs : List V), vs = [.ref a] ∧ Row K H a xs ∧ ∀ H', Same H H' → Q (.bl true) H'
theorem sc_is_integer : FnScope ["thing"] ["thing"] (defScope s_is_integer) := ⟨rfl, rfl, rfl, by decide +kernel, rfl, by decide +kernel, by decide +kernel⟩
theorem sc_is_count : FnScope ["thing"] ["thing"] (defScope s_is_count) := ⟨rfl, rfl, rfl, by decide +kernel, rfl, by decide +kernel, by decide +kernel⟩
theorem sc_is_row : FnScope ["thing"] ["thing"] (defScope s_is_row) := ⟨rfl, rfl, rfl, by decide +kernel, rfl, by decide +kernel, by decide +kernel⟩
section
variable {P : Program} {w : World} {K : PySem.W.Frag} {mg : Str → Option Value} {base : Heap} {gs fs : List Str}
theorem ok_is_integer {f : Addr} {fd : FuncData} (F : FunD K "is_integer" "is_integer" (defArgs s_is_integer) (defBody s_is_integer) (defScope s_is_integer) [] [] f fd) (T : Txt K mg gs FS) : FnOk P w K mg base CX0 1 f fd ["thing"] spIsInt := by
  refine F.ok sc_is_integer (fun vs H Q E h => ?_) (fun cdv A outer s H vs Q E hr h => ?_)
  · obtain ⟨i, rfl, _⟩ := h
    rfl
  · obtain ⟨i, rfl, q⟩ := h
    refine ⟨_, PSs.nox (pss_one (ps_ret (pe_and (pe_callB call_isi rfl (T.fr _ (by decide +kernel)) (by decide +kernel) (pa_cons (pv 0) (pa_cons (pe_bltn (v := .ty "int") rfl (T.fr _ (by decide +kernel)) (by decide +kernel) rfl) pa_nil))) (pe_one (pe_not (pe_callB call_isi rfl (T.fr _ (by decide +kernel)) (by decide +kernel) (pa_cons (pv 0) (pa_cons (pe_bltn (v := .ty "bool") rfl (T.fr _ (by decide +kernel)) (by decide +kernel) rfl) pa_nil)))))))), ?_⟩
    exact ⟨_, rfl, _, _, _, _, true, rfl, .ty "int", .base (.int i), kit_i_i K, true, rfl, _, rfl, _, _, _, _, false, rfl, .ty "bool", .base (.int i), kit_i_b K, false, rfl, q⟩
theorem ok_is_count {f : Addr} {fd : FuncData} (F : FunD K "is_count" "is_count" (defArgs s_is_count) (defBody s_is_count) (defScope s_is_count) [] [] f fd) (T : Txt K mg gs FS) (c_is_integer : Cal P w K mg base 1 "is_integer" spIsInt) : FnOk P w K mg base CX0 2 f fd ["thing"] spIsCount := by
  refine F.ok sc_is_count (fun vs H Q E h => ?_) (fun cdv A outer s H vs Q E hr h => ?_)
  · obtain ⟨i, rfl, _⟩ := h
    rfl
  · obtain ⟨i, rfl, q⟩ := h
    refine ⟨_, PSs.nox (pss_one (ps_ret (pe_and (pe_c c_is_integer hr (by decide) rfl (pa_cons (pv 0) pa_nil)) (pe_one (pe_cmpR op_ge (pv 0) pe_int (nomark _)))))), ?_⟩
    exact ⟨_, rfl, i, rfl, true, rfl, _, rfl, _, _, rfl, rfl, q⟩
theorem ok_is_row {f : Addr} {fd : FuncData} (F : FunD K "is_row" "is_row" (defArgs s_is_row) (defBody s_is_row) (defScope s_is_row) [] [] f fd) (T : Txt K mg gs FS) : FnOk P w K mg base CX0 1 f fd ["thing"] (spIsRow K) := by
  refine F.ok sc_is_row (fun vs H Q E h => ?_) (fun cdv A outer s H vs Q E hr h => ?_)
  · obtain ⟨a, xs, rfl, _⟩ := h
    rfl
  · obtain ⟨a, xs, rfl, ha, q⟩ := h
    refine ⟨_, PSs.nox (pss_one (ps_ret (pe_callB call_isiT rfl (T.fr _ (by decide +kernel)) (by decide +kernel) (pa_cons (pv 0) (pa_cons (pe_tup (pa_cons (pe_bltn (v := .ty "tuple") rfl (T.fr _ (by decide +kernel)) (by decide +kernel) rfl) (pa_cons (pe_bltn (v := .ty "list") rfl (T.fr _ (by decide +kernel)) (by decide +kernel) rfl) pa_nil))) pa_nil))))), ?_⟩
    refine ⟨_, rfl, (by show 2 ≤ sizeLine; decide), fun p hp => ?_⟩
    have s1 := NF.Same.new (o := .tup [V.ty "tuple", V.ty "list"]) (Same.refl H) hp
    rcases ha.mono s1 with h | h
    · exact ⟨_, p, _, _, _, true, rfl, upd_same, .cons (.ty _) (.cons (.ty _) .nil), tyx_lst h, kit_l_tl K, q _ s1⟩
    · exact ⟨_, p, _, _, _, true, rfl, upd_same, .cons (.ty _) (.cons (.ty _) .nil), tyx_tup h, kit_t_tl K, q _ s1⟩
end
end K29
set_option Elab.async false
set_option linter.all false
set_option maxRecDepth 100000
set_option maxHeartbeats 4000000
/-! A comprehension with two fors: the outer one, the inner one. -/
namespace NF
open PySem PySem.Spec PyProof.Rows L2
theorem pi_tupK {X : Cx} {K : PySem.W.Frag} {tg l : Expr} {tl : TE} (hl : PE X l tl) (h : X.K = K := by rfl) : PI X tg l (iTup K tl) := h ▸ pi_tup hl
theorem pi_listK {X : Cx} {K : PySem.W.Frag} {tg l : Expr} {tl : TE} (hl : PE X l tl) (h : X.K = K := by rfl) : PI X tg l (iList K tl) := h ▸ pi_list hl
theorem pe_fldK {X : Cx} {K : PySem.W.Frag} {e : Expr} {f : Str} {pos : Pos} {ta : TE} (he : PE X e ta) (hb : attributeBase e f X.env (eval e X.env) = eval e X.env) (h : X.K = K := by rfl) : PE X (.Attribute e f pos) (tFld K ta f) := h ▸ pe_fld he hb
theorem lc2_range {lo : Int} {n : Nat} {g g1 : TG} {tt tt1 : TT} {wi1 : TI} {te : TE} {vs vs1 : List Nat} {σ : L2.St} {H1 : Hp} {D : Addr} {Qd : Hp → Prop} (Pv : Nat → Hp → Prop) (h0 : Pv 0 (upd H1 D (.lst [])))
    (hs : ∀ i H, i < n → Pv i H → g (.int (lo + i)) (wipe σ vs) H fun σ2 H2 => wipe σ2 vs = wipe σ vs ∧ tt σ2 H2 fun b H3 =>
      if b = true then wi1 σ2 H3 fun J1 H4 => ∃ W1 : Nat → Nat → Hp → Prop, (∃ m, W1 0 m H4) ∧ ∀ j k H, W1 j k H →
        (J1.stop j H ∧ Pv (i + 1) H) ∨ (J1.go j H ∧ ∃ Nx1 : Hp → Prop, (∀ H', Nx1 H' → ∃ k', k' < k ∧ W1 (j + 1) k' H') ∧ ∀ x H', J1.yld j H x H' → g1 x (wipe σ2 vs1) H' fun σ3 H5 => wipe σ3 vs1 = wipe σ2 vs1 ∧ tt1 σ3 H5 fun b H6 =>
          if b = true then te σ3 H6 fun y H7 => ∃ acc, H7 D = some (.lst acc) ∧ acc.length < sizeLine ∧ Nx1 (upd H7 D (.lst (acc ++ [y]))) else Nx1 H6)
      else Pv (i + 1) H3) (hd : ∀ H, Pv n H → Qd H) :
    ∃ W : Nat → Nat → Hp → Prop, (∃ m, W 0 m (upd H1 D (.lst []))) ∧ ∀ i m H, W i m H →
      ((Itr lo n).stop i H ∧ Qd H) ∨ ((Itr lo n).go i H ∧ ∃ Nx : Hp → Prop, (∀ H', Nx H' → ∃ m', m' < m ∧ W (i + 1) m' H') ∧ ∀ x H', (Itr lo n).yld i H x H' → g x (wipe σ vs) H' fun σ2 H2 => wipe σ2 vs = wipe σ vs ∧ tt σ2 H2 fun b H3 =>
        if b = true then wi1 σ2 H3 fun J1 H4 => ∃ W1 : Nat → Nat → Hp → Prop, (∃ m, W1 0 m H4) ∧ ∀ j k H, W1 j k H →
          (J1.stop j H ∧ Nx H) ∨ (J1.go j H ∧ ∃ Nx1 : Hp → Prop, (∀ H', Nx1 H' → ∃ k', k' < k ∧ W1 (j + 1) k' H') ∧ ∀ x H', J1.yld j H x H' → g1 x (wipe σ2 vs1) H' fun σ3 H5 => wipe σ3 vs1 = wipe σ2 vs1 ∧ tt1 σ3 H5 fun b H6 =>
            if b = true then te σ3 H6 fun y H7 => ∃ acc, H7 D = some (.lst acc) ∧ acc.length < sizeLine ∧ Nx1 (upd H7 D (.lst (acc ++ [y]))) else Nx1 H6)
        else Nx H3) := by
  refine ⟨fun i m H => m = n - i ∧ i ≤ n ∧ Pv i H, ⟨n, by simp, Nat.zero_le _, h0⟩, ?_⟩
  rintro i m H ⟨rfl, hi, p⟩
  by_cases hlt : i < n
  · refine .inr ⟨hlt, Pv (i + 1), fun H' p' => ⟨n - (i + 1), by omega, rfl, hlt, p'⟩, fun x H' y => ?_⟩
    obtain ⟨e, y⟩ := y
    subst e y
    exact hs i _ hlt p
  · have e : i = n := by omega
    subst e
    exact .inl ⟨Nat.le_refl _, hd H p⟩
theorem in_it {J : It} {n : Nat} {G : Hp → Prop} {Y : Nat → Hp → V → Hp → Prop} (w : Walk J n G Y) {g : TG} {tt : TT} {te : TE} {vs : List Nat} {σ : L2.St} {H4 : Hp} {D : Addr} {Qd : Hp → Prop} (Pv : Nat → Hp → Prop) (h0 : Pv 0 H4) (hG : ∀ i H, i ≤ n → Pv i H → G H)
    (hs : ∀ i x H H', i < n → Pv i H → Y i H x H' → g x (wipe σ vs) H' fun σ2 H2 => wipe σ2 vs = wipe σ vs ∧ tt σ2 H2 fun b H3 =>
      if b = true then te σ2 H3 fun y H4 => ∃ acc, H4 D = some (.lst acc) ∧ acc.length < sizeLine ∧ Pv (i + 1) (upd H4 D (.lst (acc ++ [y]))) else Pv (i + 1) H3) (hd : ∀ H, Pv n H → Qd H) :
    ∃ W : Nat → Nat → Hp → Prop, (∃ m, W 0 m H4) ∧ ∀ i m H, W i m H →
      (J.stop i H ∧ Qd H) ∨ (J.go i H ∧ ∃ Nx : Hp → Prop, (∀ H', Nx H' → ∃ m', m' < m ∧ W (i + 1) m' H') ∧ ∀ x H', J.yld i H x H' → g x (wipe σ vs) H' fun σ2 H2 => wipe σ2 vs = wipe σ vs ∧ tt σ2 H2 fun b H3 =>
        if b = true then te σ2 H3 fun y H4 => ∃ acc, H4 D = some (.lst acc) ∧ acc.length < sizeLine ∧ Nx (upd H4 D (.lst (acc ++ [y]))) else Nx H3) := by
  refine ⟨fun i m H => m = n - i ∧ i ≤ n ∧ Pv i H, ⟨n, by simp, Nat.zero_le _, h0⟩, ?_⟩
  rintro i m H ⟨rfl, hi, p⟩
  have q := hG i H hi p
  by_cases hlt : i < n
  · exact .inr ⟨w.goes i H hlt q, Pv (i + 1), fun H' p' => ⟨n - (i + 1), by omega, rfl, hlt, p'⟩, fun x H' y => hs i x H H' hlt p (w.yields i H x H' hlt q y)⟩
  · have e : i = n := by omega
    subst e
    exact .inl ⟨w.stops H q, hd H p⟩
end NF
set_option Elab.async false
set_option linter.all false
/-! Rules within a comprehension: what is read is told by the class's K, not by the block's. -/
namespace NF
open PySem PySem.Spec PyProof.Rows L2 He RZ
theorem call_lenK {X : Cx} {K : PySem.W.Frag} (h : X.K = K := by rfl) : CallR X (.builtin "len") (fun xs H Q => ∃ p ys, xs = [.ref p] ∧ (SqL K H p ys ∨ SqT K H p ys) ∧ Q (.int ys.length) H) := h ▸ call_len_seq
theorem pt_truthK {X : Cx} {K : PySem.W.Frag} {a : Expr} {ta : TE} (ha : PE X a ta) (he : ∀ whole, isTrue a X.env whole = (do let v ← whole; standAt a.pos; holding [v] (truthy v))) (h : X.K = K := by rfl) :
    PT X a (fun σ H Q => ta σ H fun x H' => ∃ k, TruV K x H' k ∧ Q k H') := h ▸ pt_truth ha he
end NF
set_option Elab.async false
set_option linter.all false
set_option maxRecDepth 100000
set_option maxHeartbeats 4000000
namespace K29
open PySem PySem.Spec PyProof.Rows L2 He NF RZ NT
/-- what the class of makers is -/
structure MakC (K : PySem.W.Frag) (C : Addr) : Prop where
  cl : Cls K C
  ni : NoAttr K C "inlets"
  nb : NoAttr K C "begin"
  nw : NoAttr K C "ways"
  ac : PySem.W.findIn K (.ref C) "__class__" = some (some (.builtin "object.__class__"))
  ag : PySem.W.specialIn K (.builtin "object.__class__") "__get__" = some (some (.builtin "getset_descriptor.__get__"))
  at_ : PySem.W.takesIn K (.builtin "object.__class__") = some true
  am : PySem.W.mroIn K C (.type "object") = some true
  self : PySem.W.kitOne K (.ref C) (.ref C) = some true
  tup : PySem.W.kitOne K (.type "tuple") (.ref C) = some false
  int : PySem.W.kitOne K (.type "int") (.ref C) = some false
theorem MakC.ty {K : PySem.W.Frag} {C : Addr} (c : MakC K C) {H : Hp} {a dx : Addr} {fs : List (Str × V)} (h : H a = some (.ins C dx fs)) : TyX K H (.ref a) (.ref C) := .base (.ins h c.cl c.ac c.ag c.at_ c.am)
/-- a right maker -/
structure GoodM (n : Nat) (b : List Deed) (ws : List (List Deed)) : Prop where
  n1 : 1 ≤ n
  n3 : n ≤ 3
  bd : ∀ i, some i ∈ b → i < n
  wy : ∀ v ∈ ws, v ≠ [] ∧ (v.length ≤ 24 ∨ (ws.length = 1 ∧ v.length ≤ 600)) ∧ ∀ i, some i ∈ v → i < n
  m1 : 1 ≤ ws.length
  m4 : ws.length ≤ 4
  bl : b.length ≤ 600
def okD (n : Nat) : Deed → Bool
  | none => true
  | some i => decide (i < n)
def mf (n : Nat) (pb pw : Addr) : List (Str × V) := [("inlets", .int (n : Int)), ("begin", .ref pb), ("ways", .ref pw)]
def MakAt (K : PySem.W.Frag) (C : Addr) (H : Hp) (x : Addr) (n : Nat) (b : List Deed) (ws : List (List Deed)) : Prop := ∃ dx pb pw, H x = some (.ins C dx (mf n pb pw)) ∧ SqT K H pb (b.map dV) ∧ WaysT K H pw ws
theorem MakAt.mono {K : PySem.W.Frag} {C : Addr} {H H' : Hp} {x : Addr} {n : Nat} {b : List Deed} {ws : List (List Deed)} (h : MakAt K C H x n b ws) (s : Same H H') : MakAt K C H' x n b ws := by
  obtain ⟨dx, pb, pw, h1, h2, h3⟩ := h
  exact ⟨dx, pb, pw, s _ _ h1, NF.Same.tup s h2, h3.mono s⟩
def spDeed : Sp := fun vs H Q _ => ∃ (d : Deed) (n : Nat), vs = [dV d, .int (n : Int)] ∧ Q (.bl (okD n d)) H
def spDeeds (K : PySem.W.Frag) : Sp := fun vs H Q _ => ∃ (a : Addr) (n : Nat) (ds : List Deed), vs = [.ref a, .int (n : Int)] ∧ Row K H a (ds.map dV) ∧ (∀ i, some i ∈ ds → i < n) ∧ ds.length ≤ 10000 ∧ ∀ H', Same H H' → Q (.bl true) H'
def spWays (K : PySem.W.Frag) : Sp := fun vs H Q _ => ∃ (a : Addr) (n : Nat) (b : List Deed) (ws : List (List Deed)), vs = [.ref a, .int (n : Int)] ∧ WaysR K H a ws ∧ GoodM n b ws ∧ ∀ H', Same H H' → Q (.bl true) H'
def spCheckM (K : PySem.W.Frag) : Sp := fun vs H Q _ => ∃ (pb pw : Addr) (n : Nat) (b : List Deed) (ws : List (List Deed)), vs = [.int (n : Int), .ref pb, .ref pw] ∧ Row K H pb (b.map dV) ∧ WaysR K H pw ws ∧ GoodM n b ws ∧ ∀ H', Same H H' → Q .non H'
theorem sc_is_deed : FnScope ["thing", "inlets"] ["thing", "inlets"] (defScope s_is_deed) := ⟨rfl, rfl, rfl, by decide +kernel, rfl, by decide +kernel, by decide +kernel⟩
theorem sc_are_deeds : FnScope ["thing", "inlets", "deed"] ["thing", "inlets"] (defScope s_are_deeds) := ⟨rfl, rfl, rfl, by decide +kernel, rfl, by decide +kernel, by decide +kernel⟩
theorem sc_are_ways : FnScope ["thing", "inlets", "way"] ["thing", "inlets"] (defScope s_are_ways) := ⟨rfl, rfl, rfl, by decide +kernel, rfl, by decide +kernel, by decide +kernel⟩
theorem sc_check_maker : FnScope ["inlets", "begin", "ways", "most", "way"] ["inlets", "begin", "ways"] (defScope s_check_maker) := ⟨rfl, rfl, rfl, by decide +kernel, rfl, by decide +kernel, by decide +kernel⟩
section
variable {P : Program} {w : World} {K : PySem.W.Frag} {mg : Str → Option Value} {base : Heap} {gs fs : List Str} {C : Addr}
theorem kit_s_s (K : PySem.W.Frag) : PySem.W.kitOne K (.type "str") (.type "str") = some true := if_pos (by decide +kernel)
theorem kit_i_s (K : PySem.W.Frag) : PySem.W.kitOne K (.type "int") (.type "str") = some false := by kernel_rfl
theorem ok_is_deed {f : Addr} {fd : FuncData} (F : FunD K "is_deed" "is_deed" (defArgs s_is_deed) (defBody s_is_deed) (defScope s_is_deed) [] [] f fd) (T : Txt K mg gs FS) (c_is_count : Cal P w K mg base 2 "is_count" spIsCount) : FnOk P w K mg base CX0 3 f fd ["thing", "inlets"] spDeed := by
  refine F.ok sc_is_deed (fun vs H Q E h => ?_) (fun cdv A outer s H vs Q E hr h => ?_)
  · obtain ⟨d, n, rfl, _⟩ := h
    rfl
  · obtain ⟨d, n, rfl, q⟩ := h
    refine ⟨_, PSs.nox (pss_cons (ps_if (pt_val (pe_callB call_isi rfl (T.fr _ (by decide +kernel)) (by decide +kernel) (pa_cons (pv 0) (pa_cons (pe_bltn (v := .ty "str") rfl (T.fr _ (by decide +kernel)) (by decide +kernel) rfl) pa_nil)))) (pss_one (ps_ret (pe_cmpR op_eq (pv 0) pe_str (nomark _)))) pss_nil) (pss_one (ps_ret (pe_and (pe_c c_is_count hr (by decide) rfl (pa_cons (pv 0) pa_nil)) (pe_one (pe_cmpR op_lt (pv 0) (pv 1) (nomark _))))))), ?_⟩
    cases d with
    | none => exact ⟨_, rfl, _, _, _, _, true, rfl, .ty "str", .base (.str _), kit_s_s K, true, rfl, iteT ⟨_, rfl, rfl, q⟩⟩
    | some i =>
      refine ⟨_, rfl, _, _, _, _, false, rfl, .ty "str", .base (.int _), kit_i_s K, false, rfl, iteF ?_⟩
      refine ⟨_, rfl, (i : Int), rfl, decide (0 ≤ (i : Int)), rfl, ?_⟩
      rw [decide_eq_true (by omega)]
      refine ⟨_, rfl, _, rfl, _, _, rfl, rfl, ?_⟩
      have e : decide ((i : Int) < (n : Int)) = okD n (some i) := by
        show _ = decide (i < n)
        by_cases h : i < n
        · rw [decide_eq_true h, decide_eq_true (by omega)]
        · rw [decide_eq_false h, decide_eq_false (by omega)]
      show Q (V.bl (decide ((i : Int) < (n : Int)))) H
      rw [e]
      exact q
theorem ok_are_deeds {f : Addr} {fd : FuncData} (F : FunD K "are_deeds" "are_deeds" (defArgs s_are_deeds) (defBody s_are_deeds) (defScope s_are_deeds) [] [] f fd) (T : Txt K mg gs FS) (c_is_row : Cal P w K mg base 1 "is_row" (spIsRow K)) (c_is_deed : Cal P w K mg base 3 "is_deed" spDeed) : FnOk P w K mg base CX0 4 f fd ["thing", "inlets"] (spDeeds K) := by
  refine F.ok sc_are_deeds (fun vs H Q E h => ?_) (fun cdv A outer s H vs Q E hr h => ?_)
  · obtain ⟨a, n, ds, rfl, _⟩ := h
    rfl
  · obtain ⟨a, n, ds, rfl, ha, ok, hl, q⟩ := h
    refine ⟨_, PSs.nox (pss_one (ps_ret (pe_and (pe_c c_is_row hr (by decide) rfl (pa_cons (pv 0) pa_nil)) (pe_one (pe_callB (cr_all rfl) rfl (T.fr _ (by decide +kernel)) (by decide +kernel) (pa_cons (pe_lc (own := [("deed", 2)]) rfl sc_are_deeds.nd (pi_row (pv 0)) (blkOk_by (N := ["thing", "inlets", "deed"]) (sc := defScope s_are_deeds) (by decide +kernel)) (fun _ _ _ _ _ => by exact (pg_name (i := 2) sc_are_deeds.nd rfl (Or.inl rfl))) (fun _ _ _ _ _ => by exact pts_nil) (fun _ _ _ _ _ => by exact (pe_c c_is_deed hr (by decide) rfl (pa_cons (pv 2) (pa_cons (pv 1) pa_nil))))) pa_nil)))))), ?_⟩
    refine ⟨_, rfl, a, _, rfl, ha, fun H1 s1 => ⟨true, rfl, iteT ?_⟩⟩
    refine ⟨_, rfl, a, rfl, ?_⟩
    refine lc_row (ha.mono s1) (fun D j G => Same H1 G ∧ G D = some (.lst ((List.replicate j true).map V.bl))) (fun D hD => ⟨NF.Same.new (Same.refl H1) hD, upd_same⟩) (fun D i G _ z => z.1) ?_ ?_
    · rintro D hD j v G hv ⟨hG, hD2⟩
      have hj := (List.getElem?_eq_some_iff.mp hv).1
      rw [List.length_map] at hj
      obtain rfl : dV (ds[j]) = v := by
        rw [List.getElem?_map, List.getElem?_eq_getElem hj] at hv
        exact Option.some.inj hv
      refine ⟨rfl, _, rfl, _, rfl, ds[j], n, rfl, ?_⟩
      have e : okD n ds[j] = true := by
        cases ed : ds[j] with
        | none => rfl
        | some i => exact decide_eq_true (ok i (by rw [← ed]; exact List.getElem_mem hj))
      rw [e]
      refine ⟨_, hD2, by rw [List.length_map, List.length_replicate]; exact Nat.lt_of_lt_of_le (show j < 10000 by omega) (by decide), NF.Same.mut hG hD, ?_⟩
      rw [upd_same, List.replicate_succ', List.map_append] <;> rfl
    · rintro D hD G ⟨hG, hD2⟩
      refine ⟨D, _, rfl, SqL.of hD2, ?_⟩
      have : (List.replicate ((ds.map dV).length) true).all id = true := by
        rw [List.all_replicate]
        simp
      rw [this]
      exact q G (Same.trans s1 hG)
theorem ok_are_ways {f : Addr} {fd : FuncData} (F : FunD K "are_ways" "are_ways" (defArgs s_are_ways) (defBody s_are_ways) (defScope s_are_ways) [] [] f fd) (T : Txt K mg gs FS) (h_MOST_WAYS : mg "MOST_WAYS" = some (.int 4 tok_w)) (c_is_row : Cal P w K mg base 1 "is_row" (spIsRow K)) (c_are_deeds : Cal P w K mg base 4 "are_deeds" (spDeeds K)) : FnOk P w K mg base CX0 5 f fd ["thing", "inlets"] (spWays K) := by
  refine F.ok sc_are_ways (fun vs H Q E h => ?_) (fun cdv A outer s H vs Q E hr h => ?_)
  · obtain ⟨a, n, b, ws, rfl, _⟩ := h
    rfl
  · obtain ⟨a, n, b, ws, rfl, ⟨as, ha, hl, hw⟩, g, q⟩ := h
    have m1 := g.m1
    have m4 := g.m4
    refine ⟨_, PSs.nox (pss_cons (ps_if (PW.pt (pw_or (pt_not (pt_val (pe_c c_is_row hr (by decide) rfl (pa_cons (pv 0) pa_nil)))) (pw_or1 (pt_not (pt_chain op_le op_le pe_int (pe_callB call_len_seq rfl (T.fr _ (by decide +kernel)) boot_len (pa_cons (pv 0) pa_nil)) (pe_glob (v := .int 4) rfl h_MOST_WAYS ⟨_, rfl⟩)))))) (pss_one (ps_ret pe_bl)) pss_nil) (pss_one (ps_ret (pe_callB (cr_all rfl) rfl (T.fr _ (by decide +kernel)) (by decide +kernel) (pa_cons (pe_lc (own := [("way", 2)]) rfl sc_are_ways.nd (pi_row (pv 0)) (blkOk_by (N := ["thing", "inlets", "way"]) (sc := defScope s_are_ways) (by decide +kernel)) (fun _ _ _ _ _ => by exact (pg_name (i := 2) sc_are_ways.nd rfl (Or.inl rfl))) (fun _ _ _ _ _ => by exact pts_nil) (fun _ _ _ _ _ => by exact (pe_and (pe_c c_are_deeds hr (by decide) rfl (pa_cons (pv 2) (pa_cons (pv 1) pa_nil))) (pe_one (pe_cmpR op_gt (pe_callB (call_lenK (K := K)) rfl (T.fr _ (by decide +kernel)) boot_len (pa_cons (pv 2) pa_nil)) pe_int (nomark _)))))) pa_nil))))), ?_⟩
    refine ⟨_, rfl, a, _, rfl, ha, fun H1 s1 => ⟨true, rfl, iteF ?_⟩⟩
    refine ⟨_, rfl, a, _, rfl, ha.mono s1, ?_⟩
    rw [List.length_map, hl]
    refine ⟨_, _, rfl, rfl, _, rfl, iteT' (decide_eq_true (by omega)) ⟨_, _, rfl, rfl, _, rfl, ?_⟩⟩
    rw [show decide ((ws.length : Int) ≤ 4) = true from decide_eq_true (by omega)]
    refine iteF ?_
    refine ⟨_, rfl, a, rfl, ?_⟩
    refine lc_row (ha.mono s1) (fun D j G => Same H1 G ∧ G D = some (.lst ((List.replicate j true).map V.bl))) (fun D hD => ⟨NF.Same.new (Same.refl H1) hD, upd_same⟩) (fun D i G _ z => z.1) ?_ ?_
    · rintro D hD j v G hv ⟨hG, hD2⟩
      have hj := (List.getElem?_eq_some_iff.mp hv).1
      rw [List.length_map] at hj
      obtain rfl : V.ref (as[j]) = v := by
        rw [List.getElem?_map, List.getElem?_eq_getElem hj] at hv
        exact Option.some.inj hv
      have hjw : j < ws.length := by omega
      have hr1 := (hw j as[j] ws[j] (List.getElem?_eq_getElem hj) (List.getElem?_eq_getElem hjw)).mono (Same.trans s1 hG)
      obtain ⟨w1, w2, w3⟩ := g.wy ws[j] (List.getElem_mem hjw)
      have w0 := List.length_pos_iff.mpr w1
      refine ⟨rfl, _, rfl, _, rfl, as[j], n, ws[j], rfl, hr1, w3, by omega, fun G2 s2 => ⟨true, rfl, iteT ?_⟩⟩
      refine ⟨_, rfl, as[j], _, rfl, hr1.mono s2, _, _, rfl, rfl, ?_⟩
      rw [List.length_map]
      refine ⟨_, s2 _ _ hD2, by rw [List.length_map, List.length_replicate]; exact Nat.lt_of_lt_of_le (show j < 10000 by omega) (by decide), NF.Same.mut (Same.trans hG s2) hD, ?_⟩
      rw [upd_same, List.replicate_succ', List.map_append]
      show some (HO.lst (_ ++ [V.bl (decide ((0 : Int) < (ws[j].length : Int)))])) = _
      rw [decide_eq_true (by omega)]
      rfl
    · rintro D hD G ⟨hG, hD2⟩
      refine ⟨D, _, rfl, SqL.of hD2, ?_⟩
      have : (List.replicate ((as.map V.ref).length) true).all id = true := by
        rw [List.all_replicate]
        simp
      rw [this]
      exact q G (Same.trans s1 hG)
theorem ok_check_maker {f : Addr} {fd : FuncData} (F : FunD K "check_maker" "check_maker" (defArgs s_check_maker) (defBody s_check_maker) (defScope s_check_maker) [] [] f fd) (T : Txt K mg gs FS) (h_MOST_INLETS : mg "MOST_INLETS" = some (.int 3 tok_i)) (h_MOST_DEEDS : mg "MOST_DEEDS" = some (.int 600 tok_d)) (h_MOST_DEEDS_OF_SEVERAL : mg "MOST_DEEDS_OF_SEVERAL" = some (.int 24 tok_s)) (c_is_integer : Cal P w K mg base 1 "is_integer" spIsInt) (c_are_deeds : Cal P w K mg base 4 "are_deeds" (spDeeds K)) (c_are_ways : Cal P w K mg base 5 "are_ways" (spWays K)) : FnOk P w K mg base CX0 6 f fd ["inlets", "begin", "ways"] (spCheckM K) := by
  refine F.ok sc_check_maker (fun vs H Q E h => ?_) (fun cdv A outer s H vs Q E hr h => ?_)
  · obtain ⟨pb, pw, n, b, ws, rfl, _⟩ := h
    rfl
  · obtain ⟨pb, pw, n, b, ws, rfl, hb, hw, g, q⟩ := h
    have n1 := g.n1
    have n3 := g.n3
    have m1 := g.m1
    have m4 := g.m4
    have gb := g.bl
    refine ⟨_, PSs.nox (pss_cons (ps_if (PW.pt (pw_or (pt_not (pt_val (pe_c c_is_integer hr (by decide) rfl (pa_cons (pv 0) pa_nil)))) (pw_or1 (pt_not (pt_chain op_le op_le pe_int (pv 0) (pe_glob (v := .int 3) rfl h_MOST_INLETS ⟨_, rfl⟩)))))) (pss_one ps_never) pss_nil) (pss_cons (ps_if (pt_not (pt_val (pe_c c_are_deeds hr (by decide) rfl (pa_cons (pv 1) (pa_cons (pv 0) pa_nil))))) (pss_one ps_never) pss_nil) (pss_cons (ps_if (pt_not (pt_val (pe_c c_are_ways hr (by decide) rfl (pa_cons (pv 2) (pa_cons (pv 0) pa_nil))))) (pss_one ps_never) pss_nil) (pss_cons (ps_set (i := 3) sc_check_maker.nd rfl (Or.inl rfl) (pe_ifExp (pt_cmpR op_eq (pe_callB call_len_seq rfl (T.fr _ (by decide +kernel)) boot_len (pa_cons (pv 2) pa_nil)) pe_int (nomark _)) (pe_glob (v := .int 600) rfl h_MOST_DEEDS ⟨_, rfl⟩) (pe_glob (v := .int 24) rfl h_MOST_DEEDS_OF_SEVERAL ⟨_, rfl⟩))) (pss_one (ps_if (PW.pt (pw_or (pt_cmpR op_gt (pe_callB call_len_seq rfl (T.fr _ (by decide +kernel)) boot_len (pa_cons (pv 1) pa_nil)) (pe_glob (v := .int 600) rfl h_MOST_DEEDS ⟨_, rfl⟩) (nomark _)) (pw_or1 (pt_cmpR op_gt (pe_callB (cr_max rfl) rfl (T.fr _ (by decide +kernel)) (by decide +kernel) (pa_cons (pe_lc (own := [("way", 4)]) rfl sc_check_maker.nd (pi_row (pv 2)) (blkOk_by (N := ["inlets", "begin", "ways", "most", "way"]) (sc := defScope s_check_maker) (by decide +kernel)) (fun _ _ _ _ _ => by exact (pg_name (i := 4) sc_check_maker.nd rfl (Or.inl rfl))) (fun _ _ _ _ _ => by exact pts_nil) (fun _ _ _ _ _ => by exact (pe_callB (call_lenK (K := K)) rfl (T.fr _ (by decide +kernel)) boot_len (pa_cons (pv 4) pa_nil)))) pa_nil)) (pv 3) (nomark _))))) (pss_one ps_never) pss_nil)))))), ?_⟩
    refine ⟨_, rfl, (n : Int), rfl, true, rfl, iteF ?_⟩
    refine ⟨_, rfl, _, _, rfl, rfl, _, rfl, iteT' (decide_eq_true (by omega)) ⟨_, _, rfl, rfl, _, rfl, ?_⟩⟩
    rw [show decide ((n : Int) ≤ 3) = true from decide_eq_true (by omega)]
    refine iteF ?_
    refine ⟨_, rfl, _, rfl, pb, n, b, rfl, hb, g.bd, by omega, fun H1 s1 => ⟨true, rfl, iteF ?_⟩⟩
    refine ⟨_, rfl, _, rfl, pw, n, b, ws, rfl, hw.mono s1, g, fun H2 s2 => ⟨true, rfl, iteF ?_⟩⟩
    have s02 := Same.trans s1 s2
    obtain ⟨as, ha, hl, hws⟩ := hw.mono s02
    refine ⟨_, rfl, pw, _, rfl, ha, rfl, _, rfl, ite2 (fun c1 => ?_) (fun c1 => ?_)⟩
    all_goals
      refine ⟨_, rfl, pb, _, rfl, hb.mono s02, _, _, rfl, rfl, _, rfl, iteF' (decide_eq_false (by rw [List.length_map]; omega)) ?_⟩
      refine ⟨_, rfl, pw, rfl, ?_⟩
      refine lc_row ha (fun D j G => Same H2 G ∧ G D = some (.lst (vI ((ws.take j).map fun v => (v.length : Int))))) (fun D hD => ⟨NF.Same.new (Same.refl H2) hD, upd_same⟩) (fun D i G _ z => z.1) ?_ ?_
      · rintro D hD j v G hv ⟨hG, hD2⟩
        have hj := (List.getElem?_eq_some_iff.mp hv).1
        rw [List.length_map] at hj
        obtain rfl : V.ref (as[j]) = v := by
          rw [List.getElem?_map, List.getElem?_eq_getElem hj] at hv
          exact Option.some.inj hv
        have hjw : j < ws.length := by omega
        have hr1 := (hws j as[j] ws[j] (List.getElem?_eq_getElem hj) (List.getElem?_eq_getElem hjw)).mono hG
        refine ⟨rfl, _, rfl, as[j], _, rfl, hr1, ?_⟩
        rw [List.length_map]
        refine ⟨_, hD2, by rw [vI_len, List.length_map, List.length_take]; exact Nat.lt_of_le_of_lt (show min j ws.length ≤ 4 by omega) (by decide), NF.Same.mut hG hD, ?_⟩
        rw [upd_same, List.take_add_one, List.getElem?_eq_getElem hjw, List.map_append, ← vI_app]
        rfl
      · rintro D hD G ⟨hG, hD2⟩
        rw [List.length_map, hl, List.take_length] at hD2
        refine ⟨D, _, rfl, SqL.of hD2, by rw [List.length_map]; omega, fun m hm _ => ?_⟩
        have e1 : V.int (((as.map V.ref).length : Nat) : Int) = V.int 1 ↔ ws.length = 1 := by
          rw [List.length_map, hl]
          constructor
          · intro z
            injection z with z
            omega
          · intro z
            rw [z]
            rfl
        have m24 : m ≤ 24 ∨ (ws.length = 1 ∧ m ≤ 600) := by
          obtain ⟨v, hv, rfl⟩ := List.mem_map.mp hm
          have := (g.wy v hv).2.1
          omega
        have c2 := fun z => e1.mp (of_decide_eq_true (p := V.int (((as.map V.ref).length : Nat) : Int) = V.int 1) z)
        have c3 := fun z => decide_eq_true (p := V.int (((as.map V.ref).length : Nat) : Int) = V.int 1) (e1.mpr z)
        refine ⟨_, rfl, _, _, rfl, rfl, _, rfl, iteF' (decide_eq_false (by first | omega | (have nn : ¬ ws.length = 1 := fun z => c1 (c3 z); omega))) ?_⟩
        exact q G (Same.trans s02 hG)
end
/-- a maker is made -/
def spMkInit (K : PySem.W.Frag) (C : Addr) : Sp := fun vs H Q _ => ∃ (x dx pb pw : Addr) (n : Nat) (b : List Deed) (ws : List (List Deed)), vs = [.ref x, .int (n : Int), .ref pb, .ref pw] ∧ H x = some (.ins C dx []) ∧ Row K (wo H x) pb (b.map dV) ∧ WaysR K (wo H x) pw ws ∧ GoodM n b ws ∧
  ∀ H', Same (wo H x) H' → MakAt K C H' x n b ws → Q .non H'
theorem sc_Maker___init__ : FnScope ["self", "inlets", "begin", "ways", "way"] ["self", "inlets", "begin", "ways"] (defScope s_Maker_init) := ⟨rfl, rfl, rfl, by decide +kernel, rfl, by decide +kernel, by decide +kernel⟩
theorem mf_eq (n : Nat) (pb pw : Addr) : putF "ways" (.ref pw) (putF "begin" (.ref pb) (putF "inlets" (.int (n : Int)) [])) = mf n pb pw := by rfl
section
variable {P : Program} {w : World} {K : PySem.W.Frag} {mg : Str → Option Value} {base : Heap} {gs fs : List Str} {C : Addr}
theorem ok_Maker_init {f : Addr} {fd : FuncData} (F : FunD K "__init__" "Maker.__init__" (defArgs s_Maker_init) (defBody s_Maker_init) (defScope s_Maker_init) [] [] f fd) (T : Txt K mg gs FS) (mc : MakC K C) (c_check_maker : Cal P w K mg base 6 "check_maker" (spCheckM K)) : FnOk P w K mg base CX0 7 f fd ["self", "inlets", "begin", "ways"] (spMkInit K C) := by
  refine F.ok sc_Maker___init__ (fun vs H Q E h => ?_) (fun cdv A outer s H vs Q E hr h => ?_)
  · obtain ⟨x, dx, pb, pw, n, b, ws, rfl, _⟩ := h
    rfl
  · obtain ⟨x, dx, pb, pw, n, b, ws, rfl, hx, hb, hw, g, q⟩ := h
    refine ⟨_, PSs.nox (pss_cons (ps_expr (pe_c c_check_maker hr (by decide) rfl (pa_cons (pv 1) (pa_cons (pv 2) (pa_cons (pv 3) pa_nil))))) (pss_cons (ps_fld (pv 0) (pv 1) rfl) (pss_cons (ps_fld (pv 0) (pe_callTy cr_tup rfl (T.fr _ (by decide +kernel)) (by decide +kernel) (pa_cons (pv 2) pa_nil)) rfl) (pss_one (ps_fld (pv 0) (pe_callTy cr_tup rfl (T.fr _ (by decide +kernel)) (by decide +kernel) (pa_cons (pe_lc (own := [("way", 4)]) rfl sc_Maker___init__.nd (pi_row (pv 3)) (blkOk_by (N := ["self", "inlets", "begin", "ways", "way"]) (sc := defScope s_Maker_init) (by decide +kernel)) (fun _ _ _ _ _ => by exact (pg_name (i := 4) sc_Maker___init__.nd rfl (Or.inl rfl))) (fun _ _ _ _ _ => by exact pts_nil) (fun _ _ _ _ _ => by exact (pe_callTy (cr_tupK (K := K)) rfl (T.fr _ (by decide +kernel)) (by decide +kernel) (pa_cons (pv 4) pa_nil)))) pa_nil)) rfl))))), ?_⟩
    have hb0 := hb.mono wo_same'
    have hw0 := hw.mono wo_same'
    refine ⟨_, rfl, _, rfl, _, rfl, pb, pw, n, b, ws, rfl, hb0, hw0, g, fun H1 s1 => ?_⟩
    have sw : Same (wo H x) H1 := Same.trans wo_same' s1
    have hx1 := s1 _ _ hx
    refine ⟨_, rfl, _, rfl, x, C, dx, _, rfl, hx1, mc.cl, mc.ni, (by decide), ?_⟩
    have sw2 := NF.Same.put (o := .ins C dx (putF "inlets" (.int (n : Int)) [])) sw wo_none
    have hx2 := upd_same (H := H1) (a := x) (o := .ins C dx (putF "inlets" (.int (n : Int)) []))
    generalize upd H1 x (.ins C dx (putF "inlets" (.int (n : Int)) [])) = H2 at sw2 hx2
    refine ⟨_, rfl, pb, _, rfl, hb.mono sw2, fun p1 H3 s3 t1 => ?_⟩
    have hx3 := s3 _ _ hx2
    have sw3 := Same.trans sw2 s3
    refine ⟨_, rfl, x, C, dx, _, rfl, hx3, mc.cl, mc.nb, (show 1 < 1000 by decide), ?_⟩
    have sw4 := NF.Same.put (o := .ins C dx (putF "begin" (.ref p1) (putF "inlets" (.int (n : Int)) []))) sw3 wo_none
    have hx4 := upd_same (H := H3) (a := x) (o := .ins C dx (putF "begin" (.ref p1) (putF "inlets" (.int (n : Int)) [])))
    have t1 := SqT.put (o := .ins C dx (putF "begin" (.ref p1) (putF "inlets" (.int (n : Int)) []))) t1 hx3 trivial
    generalize upd H3 x (.ins C dx (putF "begin" (.ref p1) (putF "inlets" (.int (n : Int)) []))) = H4 at sw4 hx4 t1
    obtain ⟨as, ha, hl, hws⟩ := hw.mono sw4
    have m4 := g.m4
    refine ⟨_, rfl, pw, rfl, ?_⟩
    refine lc_row ha (fun D j G => Same H4 G ∧ ∃ bs : List Addr, bs.length = j ∧ G D = some (.lst (bs.map V.ref)) ∧ ∀ (k : Nat) (c : Addr) (v : List Deed), bs[k]? = some c → ws[k]? = some v → SqT K G c (v.map dV)) (fun D hD => ⟨NF.Same.new (Same.refl H4) hD, [], rfl, upd_same, fun k c v e => by simp at e⟩) (fun D i G _ z => z.1) ?_ ?_
    · rintro D hD j v G hv ⟨hG, bs, hbs, hD2, hts⟩
      have hj := (List.getElem?_eq_some_iff.mp hv).1
      rw [List.length_map] at hj
      obtain rfl : V.ref (as[j]) = v := by
        rw [List.getElem?_map, List.getElem?_eq_getElem hj] at hv
        exact Option.some.inj hv
      have hjw : j < ws.length := by omega
      have hr1 := (hws j as[j] ws[j] (List.getElem?_eq_getElem hj) (List.getElem?_eq_getElem hjw)).mono hG
      refine ⟨rfl, _, rfl, as[j], _, rfl, hr1, fun p G2 s2 t2 => ?_⟩
      have hD3 := s2 _ _ hD2
      refine ⟨_, hD3, by rw [List.length_map, hbs]; exact Nat.lt_of_lt_of_le (show j < 10000 by omega) (by decide), NF.Same.mut (Same.trans hG s2) hD, bs ++ [p], by simp [hbs], ?_, fun k c v e1 e2 => ?_⟩
      · rw [upd_same, List.map_append]
        rfl
      · refine SqT.put ?_ hD3 trivial
        rcases Nat.lt_trichotomy k j with h | h | h
        · rw [List.getElem?_append_left (by omega)] at e1
          exact NF.Same.tup s2 (hts k c v e1 e2)
        · subst h
          rw [List.getElem?_append_right (by omega), hbs, Nat.sub_self] at e1
          rw [List.getElem?_eq_getElem hjw] at e2
          cases e1
          cases e2
          exact t2
        · rw [List.getElem?_eq_none (by simp [hbs]; omega)] at e1
          cases e1
    · rintro D hD G ⟨hG, bs, hbs, hD2, hts⟩
      rw [List.length_map, hl] at hbs
      refine ⟨D, _, rfl, .inl (SqL.of hD2), fun p2 G2 s2 t2 => ?_⟩
      have hx5 := s2 _ _ (hG _ _ hx4)
      refine ⟨_, rfl, x, C, dx, _, rfl, hx5, mc.cl, mc.nw, (show 2 < 1000 by decide), ?_⟩
      have sw5 := NF.Same.put (o := .ins C dx (putF "ways" (.ref p2) (putF "begin" (.ref p1) (putF "inlets" (.int (n : Int)) [])))) (Same.trans sw4 (Same.trans hG s2)) wo_none
      refine q _ sw5 ⟨dx, p1, p2, ?_, SqT.put (NF.Same.tup (Same.trans hG s2) t1) hx5 trivial, bs, SqT.put t2 hx5 trivial, hbs, fun k c v e1 e2 => SqT.put (NF.Same.tup s2 (hts k c v e1 e2)) hx5 trivial⟩
      rw [upd_same, ← mf_eq]
end
end K29
set_option Elab.async false
set_option linter.all false
set_option maxRecDepth 100000
set_option maxHeartbeats 4000000
/-! x != i: an instance of a class with an own == and no != of its own, and an int. -/
namespace NF
open PySem PySem.Spec PyProof.Rows L2 He RZ
section
variable {prog : Program} {w : World} {A : Around} {E : Value → Shared → Prop} {h : Heap} {g : Array GenState} {d : Drawn} {t : Nat} {os : OsState} {C x f : Addr} {b : Value} {B : String} {bm : List Value}
theorem ne_entry_any (X : h.OwnEqNoNe x C f B bm) (room : A.units < cLine) {Q : Fin → Shared → Prop} (run : wpAny (model prog w) A (call (.ref f) [.ref x, b]) (fun r z => ∃ k, r = .bool k ∧ Q (.done (.ret (.bool (!k)))) z) E ⟨h, g, d, t, os⟩) :
    wpAny (model prog w) A (Builtin.«object.__ne__» ⟨[.ref x, b], []⟩) Q E ⟨h, g, d, t, os⟩ := by
  have after : ∀ (r : Value) (z : Shared), (∃ k, r = .bool k ∧ Q (.done (.ret (.bool (!k)))) z) → ∃ k, r = .bool k ∧ Q (.done (.ret (.bool (!k)))) z := fun _ _ q => q
  unfold Builtin.«object.__ne__»
  repeat (first | with_reducible refine wpAny_cRoomFor room ?_ | (refine wpAny_bind (m := callSpecialIfBound? (.ref x) (Str.ofString "__eq__") [b]) (wpAny_callSpecialIfBound?_own X.ownEq (wpAny_mono run (fun r z hz => by
    obtain ⟨k, rfl, q⟩ := hz
    repeat (first | exact q | exact wpAny_pure q | exact wpAny_truthy_bool q | (refine wpAny_bind (m := truthy (.bool _)) (wpAny_truthy_bool ?_)) | wp_step)) fun _ _ e => e))) | wp_step)
theorem try_ne_any (FB : CmpFacts B bm) (X : h.OwnEqNoNe x C f B bm) (room : A.units + 1 < cLine) {Q : Option Value → Shared → Prop} (run : wpAny (model prog w) A.in1 (call (.ref f) [.ref x, b]) (fun r z => ∃ k, r = .bool k ∧ Q (some (.bool (!k))) z) E ⟨h, g, d, t, os⟩) :
    wpAny (model prog w) A (tryCompare (.ref x) "__ne__" b) Q E ⟨h, g, d, t, os⟩ := by
  obtain ⟨ox, of, nm, qn, N, bs, hd, sn, sub, ab, col, dd, k0, k1, k2, k3, k5, nid, mN, yv, e1, e2, e3, e4, _, _, _, _, _, e5⟩ := id X
  simp only [tryCompare]
  have run' := ne_entry_any (A := A.in1) (Q := fun z s' => ∃ k, z = .done (.ret (.bool (!k))) ∧ Q (some (.bool (!k))) s') X room (wpAny_mono run (fun r z hz => by
    obtain ⟨k, rfl, q⟩ := hz
    exact ⟨k, rfl, k, rfl, q⟩) fun _ _ e => e)
  refine wpAny_bind (wpAny_callSpecialIfBound?_inst e1 e2 e3 e4 e5 FB.mro FB.ne (wpAny_call (codeAny_call_builtin FB.ne.plain F.cmpEntry_ne (wpAny_check_slot_inst F.cmpKind_ne F.cmpSplit_ne (F.cmpArgs_ne _ _) FB.hasObject e1 e2 e3 (wpAny_mono run' (fun z s' hz => ?_) fun _ _ e => e)))))
  obtain ⟨k, rfl, q⟩ := hz
  first | exact wpAny_pure q | exact wpAny_pure (wpAny_pure q) | exact ⟨_, rfl, wpAny_pure q⟩ | exact ⟨_, rfl, wpAny_pure (wpAny_pure q)⟩
theorem rich_ne_any {K : PySem.W.Frag} {tb : Value} (FB : CmpFacts B bm) (X : h.OwnEqNoNe x C f B bm) (kin : K.In h) (tyb : PySem.W.Looks (model prog w) h (typeOf b) tb) (nsub : PySem.W.notFirst K C tb = true) (room : A.units + 1 < cLine) {Q : Value → Shared → Prop}
    (run : wpAny (model prog w) A.in1 (call (.ref f) [.ref x, b]) (fun r z => ∃ k, r = .bool k ∧ Q (.bool (!k)) z) E ⟨h, g, d, t, os⟩) : wpAny (model prog w) A (richCompare .NotEq (.ref x) b) Q E ⟨h, g, d, t, os⟩ := by
  have one : wpAny (model prog w) A (tryCompare (.ref x) "__ne__" b) (fun r z => ∃ v, r = some v ∧ Q v z) E ⟨h, g, d, t, os⟩ := try_ne_any FB X room (wpAny_mono run (fun r z hz => by
    obtain ⟨k, rfl, q⟩ := hz
    exact ⟨k, rfl, _, rfl, q⟩) fun _ _ e => e)
  obtain ⟨ox, _, _, _, _, _, _, _, _, _, _, _, _, _, _, _, _, _, _, _, e1, e2, _⟩ := id X
  unfold richCompare
  simp only [oneThing_ref]
  refine wpAny_holding (wpAny_bind (wpAny_cRoomFor (Nat.lt_of_succ_lt room) ?_))
  rw [cmpInfo_NotEq]
  dsimp only
  refine wpAny_bind (wpAny_typeOf_ref e1 ?_)
  rw [e2]
  refine wpAny_bind (tyb.here ?_)
  have fin : wpAny (model prog w) A (tryCompare (.ref x) "__ne__" b) (fun r z => ∃ v, r = some v ∧ Q v z) E ⟨h, g, d, t, os⟩ := one
  split
  · rename_i q
    have sf : PySem.W.subIn K tb (.ref C) = some false := by
      rcases Bool.or_eq_true_iff.mp nsub with z | z
      · rw [beq_iff_eq.mp z] at q
        simp at q
      · exact beq_iff_eq.mp z
    refine wpAny_bind ((PySem.W.looks_subIn kin sf).here ?_)
    simp only [Bool.false_eq_true, if_false]
    exact wpAny_bind (wpAny_mono fin (fun r z hz => by
      obtain ⟨v, rfl, q⟩ := hz
      exact wpAny_pure q) fun _ _ e => e)
  · refine wpAny_bind (wpAny_pure ?_)
    simp only [Bool.false_eq_true, if_false]
    exact wpAny_bind (wpAny_mono fin (fun r z hz => by
      obtain ⟨v, rfl, q⟩ := hz
      exact wpAny_pure q) fun _ _ e => e)
end
/-- x != i, x an instance of C -/
def rNeI (K : PySem.W.Frag) (C : Addr) (sp : Sp) : R2 := fun x y H Q => ∃ a dx fs i, x = .ref a ∧ H a = some (.ins C dx fs) ∧ y = .int i ∧ PySem.W.notFirst K C (.type "int") = true ∧ sp [.ref a, .int i] H (fun v H' => ∃ t, v = .bl t ∧ Q (.bl (!t)) H') E0
theorem op_neI {X : Cx} {k j : Nat} {C : Addr} {sp : Sp} (c : EqC X.prog X.w X.K X.mg X.base k C sp) (hr : Room j X.A) (hk : k + 1 ≤ j) : OpR X (compareOp .NotEq) (rNeI X.K C sp) := by
  obtain ⟨f, fd, ps, F, hs, hf, hp, hb⟩ := c.ex
  intro pins s σ H x y v u Q I rx ry h
  obtain ⟨a, dx, fs, i, rfl, ha, rfl, nf, q⟩ := h
  cases rx
  obtain ⟨mA, O, _⟩ := ins_get I.hok ha
  obtain ⟨od, J, _⟩ := O.look
  obtain ⟨P, Z, p, _⟩ := kit_of I ry (.base (.int i) : TyX X.K H (.int i) (.type "int"))
  obtain ⟨ti, rfl⟩ := id ry
  obtain ⟨nm, qn, N, bs, sn, sub, ab, col, dd, k0, k1, k2, k3, k5, hl, hok, he, hne⟩ := plObjB_ok hp
  have G : s.heap.Ns N (s.heap.nsMap N) := .of_isNs (PySem.W.isNs_of_in I.kIn hok)
  have hr1 := hr.mono hk
  have r2 : Vals [V.ref a, .int i] [Value.ref a, .int i ti] := .cons rfl (.cons ⟨ti, rfl⟩ .nil)
  have n2 := F.len _ _ _ _ q
  have bd := hb s [.ref a, .int i ti] I.kIn (by simpa using n2)
  have run : wpAny (model X.prog X.w) X.A.in1 (call (.ref f) [.ref a, .int i ti]) (fun v s' => ∃ t, v = .bool t ∧ EP X pins σ Q (.bool (!t)) s') X.xe s := by
    refine wpAny_call (codeAny_mono (F.run X.A.in1 X.stack s H ⟨[.ref a, .int i ti], []⟩ [.ref a, .int i ti] [.ref a, .int i] _ E0 hr1.in1 I.env0.in1 (by simpa using bd) r2 q) fun r s' hq => ?_)
    cases r with
    | error e => exact hq.elim
    | ok fl =>
      cases fl with
      | ret z' =>
        obtain ⟨z, H', I', rz, t, ez, q3⟩ := I.after hq
        subst ez
        cases rz
        exact ⟨t, rfl, .bl (!t), H', I', rfl, q3⟩
      | _ => exact hq.elim
  obtain ⟨j1, j2, _⟩ := J
  obtain ⟨of, hfo, hfc⟩ : ∃ of, s.heap.get? f = some of ∧ of.cls = .type "function" := by
    obtain ⟨o, ho, hc⟩ := Option.map_eq_some_iff.mp (beq_iff_eq.mp hf : (X.K.lookup f).map (·.cls) = some (.type "function"))
    exact ⟨o, I.kIn _ _ ho, hc⟩
  have ty : PySem.W.Looks (model X.prog X.w) s.heap (typeOf (.int i ti)) (.type "int") := Z.ty _ _ I.kIn p
  have kin := I.kIn
  have hu : X.A.units + 1 < cLine := by
    have := hr.un
    omega
  obtain ⟨hp', g, d, tk, os⟩ := s
  show wpAny (model X.prog X.w) X.A (richCompare .NotEq (.ref a) (.int i ti)) (EP X pins σ Q) X.xe _
  exact rich_ne_any (B := "object") (bm := [.type "object"]) PySem.F.cmp_object ⟨_, of, nm, qn, N, bs, true, sn, sub, ab, col, dd, k0, k1, k2, k3, k5, "object.__new__", _, _, j1, j2, kin _ _ hl, G, ns_some_of kin G he, hfo, hfc, PySem.F.cmp_object.mro, PySem.F.cmp_object.eq.lookup, PySem.W.ns_none_of kin G hne⟩ kin ty nf hu run
end NF
set_option Elab.async false
set_option linter.all false
set_option maxRecDepth 100000
set_option maxHeartbeats 4000000
namespace K29
open PySem PySem.Spec PyProof.Rows L2 He NF RZ NT
section
variable {P : Program} {w : World} {K : PySem.W.Frag} {mg : Str → Option Value} {base : Heap} {gs fs : List Str} {C : Addr} {tok1 tok2 : Tok}
end
/-- ==: with another maker, with what is none -/
def spMEq (K : PySem.W.Frag) (C : Addr) : Sp := fun vs H Q _ => ∃ (x : Addr) (n : Nat) (b : List Deed) (ws : List (List Deed)) (v : V), vs = [.ref x, v] ∧ MakAt K C H x n b ws ∧
  ((∃ x2 n2 b2 ws2, v = .ref x2 ∧ MakAt K C H x2 n2 b2 ws2 ∧ Q (.bl (decide ((n, b, ws) = (n2, b2, ws2)))) H) ∨ (∃ t, TyX K H v t ∧ PySem.W.kitOne K t (.ref C) = some false ∧ Q (.bl false) H))
theorem sc_Maker___eq__ : FnScope ["self", "other"] ["self", "other"] (defScope s_Maker_eq) := ⟨rfl, rfl, rfl, by decide +kernel, rfl, by decide +kernel, by decide +kernel⟩
section
variable {P : Program} {w : World} {K : PySem.W.Frag} {mg : Str → Option Value} {base : Heap} {gs fs : List Str} {C CT CR : Addr}
theorem ok_Maker_eq {f : Addr} {fd : FuncData} (F : FunD K "__eq__" "Maker.__eq__" (defArgs s_Maker_eq) (defBody s_Maker_eq) (defScope s_Maker_eq) [] [] f fd) (T : Txt K mg gs FS) (hM : mg "Maker" = some (.ref C)) (mc : MakC K C) : FnOk P w K mg base CX0 1 f fd ["self", "other"] (spMEq K C) := by
  refine F.ok sc_Maker___eq__ (fun vs H Q E h => ?_) (fun cdv A outer s H vs Q E hr h => ?_)
  · obtain ⟨x, n, b, ws, v, rfl, _⟩ := h
    rfl
  · obtain ⟨x, n, b, ws, v, rfl, ⟨dx, pb, pw, hx, hb, hw⟩, q⟩ := h
    have hu : (A.deeper (envOfC "Maker.__eq__" (defScope s_Maker_eq) s.heap.objs.size f cdv)).units + 64 < cLine := by
      have := hr.un
      omega
    refine ⟨_, PSs.nox (pss_one (ps_ret (pe_and (pe_callB call_isi rfl (T.fr _ (by decide +kernel)) (by decide +kernel) (pa_cons (pv 1) (pa_cons (pe_gl hM) pa_nil))) (pe_and (pe_cmpR op_eq (pe_fld (pv 0) rfl) (pe_fld (pv 1) rfl) (nomark _)) (pe_and (pe_cmpR (op_eqD hu) (pe_fld (pv 0) rfl) (pe_fld (pv 1) rfl) (nomark _)) (pe_one (pe_cmpR (op_eqD hu) (pe_fld (pv 0) rfl) (pe_fld (pv 1) rfl) (nomark _)))))))), ?_⟩
    rcases q with ⟨x2, n2, b2, ws2, rfl, ⟨dx2, pb2, pw2, hx2, hb2, hw2⟩, q⟩ | ⟨t, ty, hk, q⟩
    · have tx := mc.ty hx2
      refine ⟨_, rfl, _, _, _, _, true, rfl, .own C, tx, mc.self, true, rfl, iteT ?_⟩
      refine ⟨_, rfl, x, C, dx, _, _, rfl, hx, mc.cl, mc.ni, rfl, _, rfl, x2, C, dx2, _, _, rfl, hx2, mc.cl, mc.ni, rfl, rfl, ?_⟩
      have e0 : decide (V.int (n : Int) = V.int (n2 : Int)) = decide (n = n2) := by
        by_cases z : n = n2
        · subst z
          rw [decide_eq_true rfl, decide_eq_true rfl]
        · rw [decide_eq_false z, decide_eq_false (fun h => z (by injection h with h; omega))]
      show ∃ c, V.bl (decide (V.int (n : Int) = V.int (n2 : Int))) = V.bl c ∧ _
      rw [e0]
      refine ⟨_, rfl, ite2 (fun h1 => ?_) (fun h1 => ?_)⟩
      · have h1 := of_decide_eq_true h1
        refine ⟨_, rfl, x, C, dx, _, _, rfl, hx, mc.cl, mc.nb, rfl, _, rfl, x2, C, dx2, _, _, rfl, hx2, mc.cl, mc.nb, rfl, ?_⟩
        refine eqD_deeds (K := K) hb hb2 ⟨_, rfl, ite2 (fun h2 => ?_) (fun h2 => ?_)⟩
        · have h2 := of_decide_eq_true h2
          refine ⟨_, rfl, x, C, dx, _, _, rfl, hx, mc.cl, mc.nw, rfl, _, rfl, x2, C, dx2, _, _, rfl, hx2, mc.cl, mc.nw, rfl, ?_⟩
          refine eqD_ways (K := K) hw hw2 ?_
          subst h1 h2
          have e : decide ((n, b, ws) = (n, b, ws2)) = decide (ws = ws2) := by
            by_cases z : ws = ws2
            · subst z
              rw [decide_eq_true rfl, decide_eq_true rfl]
            · rw [decide_eq_false z, decide_eq_false (fun h => z (by injection h with h h'; injection h' with h' h''))]
          rw [← e]
          exact q
        · have h2 : ¬ b = b2 := fun z => h2 (decide_eq_true z)
          rw [decide_eq_false (fun h => h2 (by injection h with h h'; injection h' with h' h''))] at q
          exact q
      · have h1 : ¬ n = n2 := fun z => h1 (decide_eq_true z)
        rw [decide_eq_false (fun h => h1 (by injection h with h h'))] at q
        exact q
    · refine ⟨_, rfl, _, _, _, _, false, rfl, .own C, ty, hk, false, rfl, iteF ?_⟩
      exact q
theorem same_made {H H' : Hp} {x dx : Addr} {o o' : HO} (nx : H x = none) (nd : H dx = none) (s : Same (wo (upd (upd H dx o) x o') x) H') : Same H H' := fun b u e =>
  s b u (by rw [wo_ne (ne_of_none e nx), upd_ne (ne_of_none e nx), upd_ne (ne_of_none e nd)]; exact e)
theorem row_made {K : PySem.W.Frag} {H : Hp} {x dx a : Addr} {o o' : HO} {xs : List V} (nx : H x = none) (nd : H dx = none) (h : Row K H a xs) : Row K (upd (upd H dx o) x o') a xs := h.mono fun b u e => by
  rw [upd_ne (ne_of_none e nx), upd_ne (ne_of_none e nd)]
  exact e
theorem same_woM {H : Hp} {x dx : Addr} {o o' : HO} (nx : H x = none) (nd : H dx = none) : Same H (wo (upd (upd H dx o) x o') x) := fun b u e => by
  rw [wo_ne (ne_of_none e nx), upd_ne (ne_of_none e nx), upd_ne (ne_of_none e nd)]
  exact e
end
end K29
set_option Elab.async false
set_option linter.all false
set_option maxRecDepth 100000
set_option maxHeartbeats 4000000
namespace K29
open PySem PySem.Spec PyProof.Rows L2 He NF
section
variable {P : Program} {w : World} {K : PySem.W.Frag} {mg : Str → Option Value} {base : Heap}
theorem sc__law_pick : FnScope ["_law_source_here", "_law_many", "_law_value", "_law_digit"] ["_law_source_here", "_law_many"] (defScope s__law_pick) := ⟨rfl, rfl, rfl, by decide +kernel, rfl, by decide +kernel, by decide +kernel⟩
theorem ok_pick {f : Addr} {fd : FuncData} {gs fs : List Str} (F : FunD K "_law_pick" "_law_pick" (defArgs s__law_pick) (defBody s__law_pick) (defScope s__law_pick) [] [] f fd) (T : Txt K mg gs fs) (hi : ("int" : Str) ∈ fs) : FnOk P w K mg base CX0 1 f fd ["_law_source_here", "_law_many"] spPick := by
  refine F.ok sc__law_pick (fun vs H Q E h => ?_) (fun cdv A outer s H vs Q E hr h => ?_)
  · obtain ⟨H0, p, m, rfl, _⟩ := h
    rfl
  · obtain ⟨H0, p, m, rfl, hS, h0, ⟨a, sd, c, hp⟩, m0, m1, k⟩ := h
    refine ⟨_, PSs.nox (pss_cons (ps_if (pt_cmpR op_gt (pe_ix ix_list (pv 0) pe_int fun _ _ => rfl) pe_int (nomark _)) (pss_cons (ps_set (i := 3) sc__law_pick.nd rfl (Or.inl rfl) (pe_op op_mod (pe_callTy call_int1 rfl (T.fr _ hi) (by decide +kernel) (pa_cons (pe_ix ix_list (pv 0) pe_int fun _ _ => rfl) pa_nil)) (pv 1))) (pss_cons (ps_asg (pe_op op_fdiv (pe_ix ix_list (pv 0) pe_int fun _ _ => rfl) (pv 1)) (pg_sub (pv 0) pe_int set_list)) (pss_one (ps_ret (pv 3))))) pss_nil) (pss_cons (ps_asg (pe_op op_add (pe_ix ix_list (pv 0) pe_int fun _ _ => rfl) pe_int) (pg_sub (pv 0) pe_int set_list)) (pss_cons (ps_set (i := 2) sc__law_pick.nd rfl (Or.inl rfl) (pe_op op_mod (pe_callTy call_int1 rfl (T.fr _ hi) (by decide +kernel) (pa_cons (pe_op op_mul (pe_op op_add (pe_ix ix_list (pv 0) pe_int fun _ _ => rfl) (pe_op op_mul pe_int (pe_ix ix_list (pv 0) pe_int fun _ _ => rfl))) pe_int) pa_nil)) pe_int)) (pss_cons (ps_set (i := 2) sc__law_pick.nd rfl (Or.inl rfl) (pe_op op_mod (pe_callTy call_int1 rfl (T.fr _ hi) (by decide +kernel) (pa_cons (pe_op op_add (pe_op op_add (pe_op op_mul (pv 2) (pv 2)) (pe_op op_mul pe_int (pe_ix ix_list (pv 0) pe_int fun _ _ => rfl))) (pe_ix ix_list (pv 0) pe_int fun _ _ => rfl)) pa_nil)) pe_int)) (pss_cons (ps_set (i := 2) sc__law_pick.nd rfl (Or.inl rfl) (pe_op op_mod (pe_callTy call_int1 rfl (T.fr _ hi) (by decide +kernel) (pa_cons (pe_op op_add (pe_op op_mul (pv 2) pe_int) pe_int) pa_nil)) pe_int)) (pss_cons (ps_set (i := 2) sc__law_pick.nd rfl (Or.inl rfl) (pe_op op_mod (pe_callTy call_int1 rfl (T.fr _ hi) (by decide +kernel) (pa_cons (pe_op op_add (pe_op op_mul (pv 2) (pv 2)) (pv 2)) pa_nil)) pe_int)) (pss_one (ps_ret (pe_op op_mod (pe_callTy call_int1 rfl (T.fr _ hi) (by decide +kernel) (pa_cons (pe_op op_fdiv (pv 2) pe_int) pa_nil)) (pv 1)))))))))), ?_⟩
    refine ⟨_, rfl, p, _, _, _, rfl, rfl, SqL.of hp, at0, _, _, rfl, rfl, _, rfl, ?_⟩
    refine ite2 (fun _ => ?_) (fun _ => ?_)
    · refine ⟨_, rfl, p, _, _, _, rfl, rfl, SqL.of hp, at0, Or.inl ⟨_, rfl, _, rfl, _, _, rfl, rfl, m0, ?_⟩⟩
      refine ⟨_, rfl, p, _, _, _, rfl, rfl, SqL.of hp, at0, _, rfl, _, _, rfl, rfl, ⟨m0, m1⟩, ?_⟩
      refine ⟨_, rfl, p, _, _, 0, rfl, rfl, hp, rfl, ?_⟩
      refine ⟨_, rfl, k _ _ (Int.emod_nonneg _ (by omega)) (Int.emod_lt_of_pos _ m0) (NF.Same.put hS h0) ⟨_, _, _, upd_same⟩⟩
    · refine ⟨_, rfl, p, _, _, _, rfl, rfl, SqL.of hp, at2, _, _, rfl, rfl, ?_⟩
      refine ⟨_, rfl, p, _, _, 2, rfl, rfl, hp, rfl, ?_⟩
      have hp' : upd H p (.lst [.int a, .int sd, .int (c + 1)]) p = some (.lst [.int a, .int sd, .int (c + 1)]) := upd_same
      refine ⟨_, rfl, p, _, _, _, rfl, rfl, SqL.of hp', at1, ?_⟩
      refine ⟨_, rfl, p, _, _, _, rfl, rfl, SqL.of hp', at2, _, _, rfl, rfl, Or.inl (by decide), _, _, rfl, rfl, ?_⟩
      refine ⟨_, _, rfl, rfl, Or.inr (by decide), Or.inl ⟨_, rfl, _, _, rfl, rfl, (by first | exact (by decide : (0 : Int) < 2147483647) | exact (by decide : (0 : Int) < 2147483629) | exact (by decide : (0 : Int) < 2147483587)), ?_⟩⟩
      generalize hx : (sd + 104729 * (c + 1)) * 48271 % 2147483647 = x
      have x0 : 0 ≤ x ∧ x < 2147483647 := by omega
      refine ⟨_, rfl, _, rfl, _, _, rfl, rfl, Or.inl (by omega), ?_⟩
      refine ⟨_, rfl, p, _, _, _, rfl, rfl, SqL.of hp', at2, _, _, rfl, rfl, Or.inl (by decide), _, _, rfl, rfl, ?_⟩
      refine ⟨_, rfl, p, _, _, _, rfl, rfl, SqL.of hp', at1, _, _, rfl, rfl, Or.inl ⟨_, rfl, _, _, rfl, rfl, (by first | exact (by decide : (0 : Int) < 2147483647) | exact (by decide : (0 : Int) < 2147483629) | exact (by decide : (0 : Int) < 2147483587)), ?_⟩⟩
      generalize hy : (x * x + 7 * (c + 1) + sd) % 2147483629 = y
      have y0 : 0 ≤ y ∧ y < 2147483629 := by omega
      refine ⟨_, rfl, _, _, rfl, rfl, Or.inl (by omega), _, _, rfl, rfl, Or.inl ⟨_, rfl, _, _, rfl, rfl, (by first | exact (by decide : (0 : Int) < 2147483647) | exact (by decide : (0 : Int) < 2147483629) | exact (by decide : (0 : Int) < 2147483587)), ?_⟩⟩
      generalize hz : (y * 69621 + 5) % 2147483647 = z
      have z0 : 0 ≤ z ∧ z < 2147483647 := by omega
      refine ⟨_, rfl, _, rfl, _, _, rfl, rfl, Or.inl (by omega), ?_⟩
      refine ⟨_, rfl, _, _, rfl, rfl, Or.inl ⟨_, rfl, _, _, rfl, rfl, (by first | exact (by decide : (0 : Int) < 2147483647) | exact (by decide : (0 : Int) < 2147483629) | exact (by decide : (0 : Int) < 2147483587)), ?_⟩⟩
      refine ⟨_, rfl, _, _, rfl, rfl, ⟨by decide, by decide⟩, Or.inl ⟨_, rfl, _, rfl, _, _, rfl, rfl, m0, ?_⟩⟩
      exact k _ _ (Int.emod_nonneg _ (by omega)) (Int.emod_lt_of_pos _ m0) (NF.Same.put hS h0) ⟨_, _, _, hp'⟩
end
end K29
set_option Elab.async false
set_option linter.all false
set_option maxRecDepth 100000
set_option maxHeartbeats 4000000
namespace K29
open PySem PySem.Spec PyProof.Rows L2 He NF
theorem sc__law_source : FnScope ["_law_script", "_law_place", "_law_cell", "_law_seed", "_law_one", "_law_number"] ["_law_script", "_law_place"] (defScope s__law_source) := ⟨rfl, rfl, rfl, by decide +kernel, rfl, by decide +kernel, by decide +kernel⟩
theorem natAbs_bits {x : Int} {n : Nat} (h : x.natAbs < 2 ^ n) : Builtin.Int.intBits x ≤ n := by
  unfold Builtin.Int.intBits
  by_cases e : x = 0
  · rw [if_pos (by rw [e]; rfl)]
    exact Nat.zero_le _
  · rw [if_neg (by simpa using e)]
    exact (Nat.log2_lt (by omega)).mpr h
theorem bits_le {x y : Int} (h : x.natAbs ≤ y.natAbs) : Builtin.Int.intBits x ≤ Builtin.Int.intBits y := by
  refine natAbs_bits (Nat.lt_of_le_of_lt h ?_)
  unfold Builtin.Int.intBits
  by_cases e : y = 0
  · rw [if_pos (by rw [e]; rfl), e]
    decide
  · rw [if_neg (by simpa using e)]
    exact Nat.lt_log2_self
theorem bits_small {x : Int} (h0 : 0 ≤ x) (h : x < 1000000) : Builtin.Int.intBits x ≤ 1048576 := Nat.le_trans (natAbs_bits (n := 20) (by omega)) (by decide)
section
variable {P : Program} {w : World} {K : PySem.W.Frag} {mg : Str → Option Value} {base : Heap}
theorem ok_source {f : Addr} {fd : FuncData} {gs fs : List Str} (F : FunD K "_law_source" "_law_source" (defArgs s__law_source) (defBody s__law_source) (defScope s__law_source) [] [] f fd) (T : Txt K mg gs fs) (hl : ("len" : Str) ∈ fs) (hi : ("int" : Str) ∈ fs) (ha : ("abs" : Str) ∈ fs) : FnOk P w K mg base CX0 1 f fd ["_law_script", "_law_place"] (spSource K) := by
  refine F.ok sc__law_source (fun vs H Q E h => ?_) (fun cdv A outer s H vs Q E hr h => ?_)
  · obtain ⟨l, ns, i, rfl, _⟩ := h
    rfl
  · obtain ⟨l, ns, i, rfl, hS, hn, hb, hi', k⟩ := h
    refine ⟨_, PSs.nox (pss_cons (ps_set (i := 2) sc__law_source.nd rfl (Or.inl rfl) (pe_ifExp (pt_cmpR op_lt (pv 1) (pe_callB call_len_seq rfl (T.fr _ hl) boot_len (pa_cons (pv 0) pa_nil)) (nomark _)) (pe_ix ix_list (pv 0) (pv 1) fun _ _ => rfl) (pe_op op_add (pe_op op_mul pe_int (pv 1)) pe_int))) (pss_cons (ps_set (i := 3) sc__law_source.nd rfl (Or.inl rfl) (pe_op op_mod (pe_callTy call_int1 rfl (T.fr _ hi) (by decide +kernel) (pa_cons (pe_op op_add (pe_op op_mod (pe_callTy call_int1 rfl (T.fr _ hi) (by decide +kernel) (pa_cons (pv 2) pa_nil)) pe_int) (pe_op op_mul pe_int (pv 1))) pa_nil)) pe_int)) (pss_cons (ps_for PassesOwn.never rfl (pi_list (pe_slice sl_list (pv 0) po_none (po_some pe_int))) (pg_name (i := 4) sc__law_source.nd rfl (Or.inl rfl)) (pss_one (ps_set (i := 3) sc__law_source.nd rfl (Or.inl rfl) (pe_op op_mod (pe_callTy call_int1 rfl (T.fr _ hi) (by decide +kernel) (pa_cons (pe_op op_add (pe_op op_mul (pv 3) pe_int) (pe_op op_mod (pe_callTy call_int1 rfl (T.fr _ hi) (by decide +kernel) (pa_cons (pv 4) pa_nil)) pe_int)) pa_nil)) pe_int)))) (pss_cons (ps_set (i := 5) sc__law_source.nd rfl (Or.inl rfl) (pe_callB call_abs rfl (T.fr _ ha) (by decide +kernel) (pa_cons (pv 2) pa_nil))) (pss_cons (ps_if (pt_cmpR op_lt (pv 5) (pe_op op_pow pe_int pe_int) (nomark _)) (pss_one (ps_ret (pe_lst (pa_cons pe_int (pa_cons (pv 3) (pa_cons pe_int pa_nil)))))) pss_nil) (pss_cons (ps_if (pt_cmpR op_gt (pe_op op_shr (pv 5) pe_int) pe_int (nomark _)) (pss_one (ps_set (i := 5) sc__law_source.nd rfl (Or.inl rfl) (pe_op op_sub (pv 5) (pe_op op_shlW (pe_op op_shr (pv 5) pe_int) pe_int)))) pss_nil) (pss_one (ps_ret (pe_lst (pa_cons (pv 5) (pa_cons (pv 3) (pa_cons pe_int pa_nil)))))))))))), ?_⟩
    -- the cell: what stands at the place, or a number by the place
    have hcell : ∀ (Q1 : VK), (∀ c : Int, Builtin.Int.intBits c ≤ 1048576 → Q1 (.int c) H) →
        (if decide ((i : Int) < ((ns.map V.int).length : Int)) = true then tOp (rIxL K) (tVar 0) (tVar 1) (start ["_law_script", "_law_place", "_law_cell", "_law_seed", "_law_one", "_law_number"] [.ref l, .int (i : Int)]) H Q1
          else tOp (rI0 fun i j => .int (i + j)) (tOp (rI CMul fun i j => .int (i * j)) (tC (.int 3)) (tVar 1)) (tC (.int 1)) (start ["_law_script", "_law_place", "_law_cell", "_law_seed", "_law_one", "_law_number"] [.ref l, .int (i : Int)]) H Q1) := by
      intro Q1 q
      rw [List.length_map]
      by_cases hlt : i < ns.length
      · rw [decide_eq_true (show (i : Int) < (ns.length : Int) by omega), if_pos rfl]
        have e : (ns.map V.int)[i]? = some (V.int ns[i]) := by rw [List.getElem?_map, List.getElem?_eq_getElem hlt] <;> rfl
        exact ⟨_, rfl, _, rfl, l, _, _, _, rfl, rfl, hS, atI_nat e, q _ (hb _ (List.getElem_mem hlt))⟩
      · rw [decide_eq_false (show ¬ (i : Int) < (ns.length : Int) by omega), if_neg Bool.false_ne_true]
        refine ⟨_, rfl, _, _, rfl, rfl, Or.inl (by decide), _, _, rfl, rfl, q _ ?_⟩
        exact bits_small (by omega) (by omega)
    refine ⟨_, rfl, _, rfl, l, _, rfl, Or.inl hS, _, _, rfl, rfl, _, rfl, hcell _ fun c hc => ?_⟩
    refine ⟨_, rfl, Or.inl ⟨_, rfl, _, _, rfl, rfl, (by exact (by decide : (0 : Int) < 2147483629)), ?_⟩⟩
    refine ⟨_, rfl, _, _, rfl, rfl, Or.inl (by decide), _, _, rfl, rfl, Or.inl ⟨_, rfl, _, _, rfl, rfl, (by exact (by decide : (0 : Int) < 2147483629)), ?_⟩⟩
    refine ⟨_, rfl, _, rfl, l, _, rfl, hS, fun p hp => ⟨p, rfl, ⟨_, SqL.of upd_same⟩, ?_⟩⟩
    have hpl : H p = none := hp
    obtain ⟨cs, hcs⟩ : ∃ cs : List Int, cutV (ns.map V.int) none (some 2) = cs.map V.int := ⟨(ns.drop (HT.sIx (ns.map V.int).length 0 none)).take (HT.sIx (ns.map V.int).length (ns.map V.int).length (some 2) - HT.sIx (ns.map V.int).length 0 none), by unfold cutV; rw [List.map_take, List.map_drop]⟩
    refine for_list (K := K) (a := p) (xs := cs.map V.int) (fun j σ H' => H' = upd H p (.lst (cs.map V.int)) ∧ ∃ (sd : Int) (v : Option V), σ = [some (.ref l), some (.int (i : Int)), some (.int c), some (.int sd), v, none])
      ⟨by rw [hcs], _, _, rfl⟩ (fun j σ H' _ z => by rw [z.1]; exact SqL.of upd_same) ?_ ?_
    · rintro j y σ H' hj ⟨rfl, sd, v, rfl⟩
      obtain ⟨z, rfl⟩ : ∃ z, y = V.int z := by
        rw [List.getElem?_map] at hj
        cases e : cs[j]? with
        | none =>
          rw [e] at hj
          cases hj
        | some z =>
          rw [e] at hj
          exact ⟨z, (Option.some.inj hj).symm⟩
      refine ⟨_, rfl, _, _, rfl, rfl, Or.inr (by decide), _, rfl, Or.inl ⟨_, rfl, _, _, rfl, rfl, (by exact (by decide : (0 : Int) < 1000003)), ?_⟩⟩
      refine ⟨_, _, rfl, rfl, Or.inl ⟨_, rfl, _, _, rfl, rfl, (by exact (by decide : (0 : Int) < 2147483629)), ?_⟩⟩
      exact ⟨rfl, _, _, rfl⟩
    · rintro σ H' ⟨rfl, sd, v, rfl⟩
      have hS1 : Same H (upd H p (.lst (cs.map V.int))) := NF.Same.new (Same.refl H) hp
      have hend : ∀ (a sd : Int) (q : Addr), upd H p (.lst (cs.map V.int)) q = none → Q (.ref q) (upd (upd H p (.lst (cs.map V.int))) q (.lst [.int a, .int sd, .int 0])) := fun a sd q hq =>
        k q _ (NF.Same.new hS1 hq) (L2.Same.free hS1 hq) ⟨_, _, _, upd_same⟩
      refine ⟨_, rfl, _, rfl, ?_⟩
      have hab : Builtin.Int.intBits (if c < 0 then -c else c) ≤ 1048576 := Nat.le_trans (bits_le (by split <;> omega)) hc
      generalize hm : (if c < 0 then -c else c) = m at hab ⊢
      have m0 : 0 ≤ m := by rw [← hm]; split <;> omega
      refine ⟨_, rfl, _, _, rfl, rfl, ⟨by decide, by decide, by decide⟩, _, _, rfl, rfl, _, rfl, ?_⟩
      refine ite2 (fun _ => ?_) (fun _ => ?_)
      · exact ⟨_, rfl, (by show 3 ≤ sizeLine; decide), fun q hq => hend _ _ q hq⟩
      · refine ⟨_, rfl, _, _, rfl, rfl, (by exact (by decide : (0 : Int) ≤ 4000)), _, _, rfl, rfl, _, rfl, ?_⟩
        refine ite2 (fun _ => ?_) (fun _ => ?_)
        · refine ⟨_, rfl, _, rfl, _, _, rfl, rfl, (by exact (by decide : (0 : Int) ≤ 4000)), _, _, rfl, rfl, ⟨(by exact (by decide : (0 : Int) ≤ 4000)), ?_⟩, _, _, rfl, rfl, ?_⟩
          · have hd : Builtin.Int.intBits (m / 2 ^ (4000 : Int).toNat) ≤ Builtin.Int.intBits m := bits_le (by
              have h1 : 0 ≤ m / 2 ^ (4000 : Int).toNat := Int.ediv_nonneg m0 (Int.le_of_lt (Int.pow_pos (by decide)))
              have h2 : m / 2 ^ (4000 : Int).toNat ≤ m := Int.ediv_le_self _ m0
              omega)
            have h27 : (1048576 : Int) + 4000 ≤ 2 ^ 27 := by decide
            omega
          · exact ⟨_, rfl, _, rfl, (by show 3 ≤ sizeLine; decide), fun q hq => hend _ _ q hq⟩
        · exact ⟨_, rfl, _, rfl, (by show 3 ≤ sizeLine; decide), fun q hq => hend _ _ q hq⟩
end
end K29
set_option Elab.async false
set_option linter.all false
set_option maxRecDepth 100000
set_option maxHeartbeats 4000000
namespace K29
open PySem PySem.Spec PyProof.Rows L2 He NF RZ NT
theorem src_ne {H : Hp} {p q : Addr} {o : HO} (hs : Src H p) (hq : H q = none) : q ≠ p := fun z => by
  obtain ⟨_, _, _, h⟩ := hs
  rw [z, h] at hq
  cases hq
theorem src_put {H : Hp} {p q : Addr} {o : HO} (hs : Src H p) (n : q ≠ p) : Src (upd H q o) p := by
  obtain ⟨a, b, c, h⟩ := hs
  exact ⟨a, b, c, by rw [upd_ne (Ne.symm n)]; exact h⟩
theorem same_none {H0 H : Hp} {q : Addr} (s : Same H0 H) (h : H q = none) : H0 q = none := L2.Same.free s h
theorem idx_k {l : List Int} {d lo hi : Int} {n : Nat} (h0 : 0 ≤ d) (h1 : d < (n : Int)) (hl : l.length = n) (hb : ∀ k, k < n → lo ≤ l.getD k 0 ∧ l.getD k 0 ≤ hi) : ∃ v : Int, atI (vI l) d = some (.int v) ∧ lo ≤ v ∧ v ≤ hi :=
  ⟨l.getD d.toNat 0, at_int (by omega) (by omega), hb _ (by omega)⟩
theorem both1H {X : Prop} {R : Hp → Prop} (P : Hp → Prop) (h1 : (∀ G, P G → R G) → X) (h2 : ∀ G, P G → R G) : X := h1 h2
def spLDeeds : Sp := fun vs H Q _ => ∃ (H0 : Hp) (p : Addr) (n m : Nat) (g : Int), vs = [.ref p, .int (n : Int), .int (m : Int), .int g] ∧ Same H0 H ∧ H0 p = none ∧ Src H p ∧ 1 ≤ n ∧ n ≤ 3 ∧ m ≤ 10 ∧
  ∀ (q : Addr) (ds : List Deed) (H' : Hp), Same H0 H' → Src H' p → H' q = some (.lst (ds.map dV)) → H0 q = none → q ≠ p → ds.length = m → (∀ i, some i ∈ ds → i < n) → Q (.ref q) H'
def MkrT (K : PySem.W.Frag) (H : Hp) (q : Addr) (n : Nat) (b : List Deed) (ws : List (List Deed)) : Prop := ∃ pb pw, SqT K H q [.int (n : Int), .ref pb, .ref pw] ∧ SqT K H pb (b.map dV) ∧ WaysT K H pw ws
theorem MkrT.mono {K : PySem.W.Frag} {H H' : Hp} {q : Addr} {n : Nat} {b : List Deed} {ws : List (List Deed)} (h : MkrT K H q n b ws) (s : Same H H') : MkrT K H' q n b ws := by
  obtain ⟨pb, pw, h1, h2, h3⟩ := h
  exact ⟨pb, pw, NF.Same.tup s h1, NF.Same.tup s h2, h3.mono s⟩
theorem WaysT.wo {K : PySem.W.Frag} {H : Hp} {pw p : Addr} {ws : List (List Deed)} {u : HO} (h : WaysT K H pw ws) (hp : H p = some u) (n : match u with | .lst _ => True | .ins _ _ _ => True | _ => False) : WaysT K (NF.wo H p) pw ws := by
  obtain ⟨as, h1, h2, h3⟩ := h
  exact ⟨as, SqT.wo h1 hp n, h2, fun j a w e1 e2 => SqT.wo (h3 j a w e1 e2) hp n⟩
theorem MkrT.wo {K : PySem.W.Frag} {H : Hp} {q p : Addr} {n : Nat} {b : List Deed} {ws : List (List Deed)} (h : MkrT K H q n b ws) (hs : Src H p) : MkrT K (NF.wo H p) q n b ws := by
  obtain ⟨pb, pw, h1, h2, h3⟩ := h
  obtain ⟨_, _, _, e⟩ := hs
  exact ⟨pb, pw, SqT.wo h1 e trivial, SqT.wo h2 e trivial, WaysT.wo h3 e trivial⟩
/-- a maker as it is drawn -/
structure Drawn (n : Nat) (b : List Deed) (ws : List (List Deed)) : Prop where
  n1 : 1 ≤ n
  n3 : n ≤ 3
  bd : ∀ i, some i ∈ b → i < n
  wy : ∀ v ∈ ws, v ≠ [] ∧ v.length ≤ 4 ∧ ∀ i, some i ∈ v → i < n
  m1 : 1 ≤ ws.length
  m4 : ws.length ≤ 4
  bl : b.length ≤ 4
theorem Drawn.good {n : Nat} {b : List Deed} {ws : List (List Deed)} (d : Drawn n b ws) : GoodM n b ws :=
  ⟨d.n1, d.n3, d.bd, fun v hv => ⟨(d.wy v hv).1, .inl (by have := (d.wy v hv).2.1; omega), (d.wy v hv).2.2⟩, d.m1, d.m4, by have := d.bl; omega⟩
def spLMaker (K : PySem.W.Frag) : Sp := fun vs H Q _ => ∃ (H0 : Hp) (p : Addr) (n m : Nat) (st : Bool), vs = [.ref p, .int (n : Int), .int (m : Int), .bl st] ∧ Same H0 H ∧ H0 p = none ∧ Src H p ∧ 1 ≤ n ∧ n ≤ 3 ∧ 1 ≤ m ∧ m ≤ 4 ∧
  ∀ q b ws H', Same H0 H' → Src H' p → Drawn n b ws → MkrT K H' q n b ws → Q (.ref q) H'
def spLMade (K : PySem.W.Frag) (C : Addr) : Sp := fun vs H Q _ => ∃ (q : Addr) (n : Nat) (b : List Deed) (ws : List (List Deed)), vs = [.ref q] ∧ MkrT K H q n b ws ∧ GoodM n b ws ∧ ∀ x H', Same H H' → MakAt K C H' x n b ws → Q (.ref x) H'
theorem sc__law_deeds : FnScope ["_law_source_here", "_law_inlets", "_law_many", "_law_gives", "_law_told", "_law_k"] ["_law_source_here", "_law_inlets", "_law_many", "_law_gives"] (defScope s__law_deeds) := ⟨rfl, rfl, rfl, by decide +kernel, rfl, by decide +kernel, by decide +kernel⟩
theorem sc__law_maker : FnScope ["_law_source_here", "_law_inlets", "_law_most", "_law_stops", "_law_begin", "_law_found", "_law_k", "_law_way"] ["_law_source_here", "_law_inlets", "_law_most", "_law_stops"] (defScope s__law_maker) := ⟨rfl, rfl, rfl, by decide +kernel, rfl, by decide +kernel, by decide +kernel⟩
theorem sc__law_made : FnScope ["_law_maker_here"] ["_law_maker_here"] (defScope s__law_made) := ⟨rfl, rfl, rfl, by decide +kernel, rfl, by decide +kernel, by decide +kernel⟩
section
variable {P : Program} {w : World} {K : PySem.W.Frag} {mg : Str → Option Value} {base : Heap} {gs fs : List Str} {C : Addr}
theorem ok__law_deeds {f : Addr} {fd : FuncData} (F : FunD K "_law_deeds" "_law_deeds" (defArgs s__law_deeds) (defBody s__law_deeds) (defScope s__law_deeds) [] [] f fd) (T : Txt K mg gs FS) (c__law_pick : Cal P w K mg base 1 "_law_pick" spPick) : FnOk P w K mg base CX0 2 f fd ["_law_source_here", "_law_inlets", "_law_many", "_law_gives"] spLDeeds := by
  refine F.ok sc__law_deeds (fun vs H Q E h => ?_) (fun cdv A outer s H vs Q E hr h => ?_)
  · obtain ⟨H0, p, n, m, g, rfl, _⟩ := h
    rfl
  · obtain ⟨H0, p, n, m, g, rfl, s0, n0, hs, n1, n3, hm, q⟩ := h
    refine ⟨_, PSs.nox (pss_cons (ps_set (i := 4) sc__law_deeds.nd rfl (Or.inl rfl) (pe_lst pa_nil)) (pss_cons (ps_for PassesOwn.never rfl (pi_range1 rfl (T.fr _ (by decide +kernel)) (pa_cons (pv 2) pa_nil)) (pg_name (i := 5) sc__law_deeds.nd rfl (Or.inl rfl)) (pss_one (ps_if (pt_cmpR op_lt (pe_c c__law_pick hr (by decide) rfl (pa_cons (pv 0) (pa_cons pe_int pa_nil))) (pv 3) (nomark _)) (pss_one (ps_expr (pe_bm PySem.F.plainAttrs_list PySem.F.slot_list_append PySem.F.type_list_append mt_append (pv 4) (pa_cons pe_str pa_nil)))) (pss_one (ps_expr (pe_bm PySem.F.plainAttrs_list PySem.F.slot_list_append PySem.F.type_list_append mt_append (pv 4) (pa_cons (pe_c c__law_pick hr (by decide) rfl (pa_cons (pv 0) (pa_cons (pv 1) pa_nil))) pa_nil))))))) (pss_one (ps_ret (pv 4))))), ?_⟩
    refine ⟨(by show 0 ≤ sizeLine; decide), fun t ht => ?_⟩
    have htp : t ≠ p := src_ne (o := .lst []) hs ht
    have h0t := same_none s0 ht
    refine ⟨_, rfl, (m : Int), rfl, by omega, by omega, ?_⟩
    refine for_range (lo := 0) (n := m) (fun j σ G => Same H0 G ∧ Src G p ∧ ∃ ds : List Deed, G t = some (.lst (ds.map dV)) ∧ ds.length = j ∧ (∀ i, some i ∈ ds → i < n) ∧ ∃ k : Option V, σ = [some (.ref p), some (.int (n : Int)), some (.int (m : Int)), some (.int g), some (.ref t), k])
      ⟨NF.Same.put s0 h0t, src_put hs htp, [], upd_same, rfl, (fun i h => absurd h (by simp)), none, rfl⟩ ?_ ?_
    · rintro j σ G hj ⟨s1, hs1, ds, hl, hlen, hd, k, rfl⟩
      refine ⟨_, rfl, wo G p, p, 4, rfl, wo_same', wo_none, hs1, by decide, by decide, fun d G' d0 d1 s2 hs2 => ?_⟩
      have hl2 : G' t = some (.lst (ds.map dV)) := s2 _ _ ((wo_ne htp).trans hl)
      refine ⟨_, rfl, _, _, rfl, rfl, _, rfl, ite2 (fun _ => ?_) (fun _ => ?_)⟩
      · refine ⟨_, rfl, Or.inl ⟨rfl, _, SqL.of hl2⟩, t, _, _, rfl, rfl, hl2, ?_, ?_⟩
        · rw [List.length_map, hlen]
          exact Nat.lt_of_le_of_lt (show j ≤ 200 by omega) (by decide)
        refine ⟨NF.Same.put (wo_same s1 n0 s2) h0t, src_put hs2 htp, ds ++ [none], ?_, by simp [hlen], fun i h => ?_, some (.int ((0 : Int) + (j : Int))), rfl⟩
        · rw [upd_same, List.map_append]
          rfl
        · rcases List.mem_append.mp h with h | h
          · exact hd i h
          · simp at h
      · refine ⟨_, rfl, Or.inl ⟨rfl, _, SqL.of hl2⟩, ?_⟩
        refine ⟨_, rfl, _, rfl, wo G' p, p, (n : Int), rfl, wo_same', wo_none, hs2, by omega, by omega, fun e G3 e0 e1 s3 hs3 => ?_⟩
        have hl3 : G3 t = some (.lst (ds.map dV)) := s3 _ _ ((wo_ne htp).trans hl2)
        refine ⟨t, _, _, rfl, rfl, hl3, ?_, ?_⟩
        · rw [List.length_map, hlen]
          exact Nat.lt_of_le_of_lt (show j ≤ 200 by omega) (by decide)
        refine ⟨NF.Same.put (wo_same (wo_same s1 n0 s2) n0 s3) h0t, src_put hs3 htp, ds ++ [some e.toNat], ?_, by simp [hlen], fun i h => ?_, some (.int ((0 : Int) + (j : Int))), rfl⟩
        · rw [upd_same, List.map_append]
          show some (HO.lst (_ ++ [V.int e])) = some (HO.lst (_ ++ [V.int ((e.toNat : Nat) : Int)]))
          rw [Int.toNat_of_nonneg e0]
        · rcases List.mem_append.mp h with h | h
          · exact hd i h
          · have : i = e.toNat := by simpa using h
            omega
    · rintro σ G ⟨s1, hs1, ds, hl, hlen, hd, k, rfl⟩
      exact ⟨_, rfl, q t ds G s1 hs1 hl h0t htp hlen hd⟩
theorem in_give {ds : List Deed} : (inV (.str "give") (ds.map dV) = true) ↔ none ∈ ds := by
  unfold inV
  rw [List.any_map, List.any_eq_true]
  constructor
  · rintro ⟨d, hd, e⟩
    cases d with
    | none => exact hd
    | some i => cases e
  · exact fun h => ⟨none, h, by decide +kernel⟩
theorem flat_deeds (ds : List Deed) : (ds.map dV).all flatV = true := by
  rw [List.all_map, List.all_eq_true]
  intro d _
  cases d <;> rfl
theorem begins_le : ∀ k, k < 8 → 0 ≤ ([0, 1, 2, 0, 3, 1, 4, 2] : List Int).getD k 0 ∧ ([0, 1, 2, 0, 3, 1, 4, 2] : List Int).getD k 0 ≤ 4 := by decide
theorem gives_le : ∀ k, k < 4 → 1 ≤ ([2, 2, 1, 3] : List Int).getD k 0 ∧ ([2, 2, 1, 3] : List Int).getD k 0 ≤ 3 := by decide
theorem ok__law_maker {f : Addr} {fd : FuncData} (F : FunD K "_law_maker" "_law_maker" (defArgs s__law_maker) (defBody s__law_maker) (defScope s__law_maker) [] [] f fd) (T : Txt K mg gs FS) (c__law_pick : Cal P w K mg base 1 "_law_pick" spPick) (c__law_deeds : Cal P w K mg base 2 "_law_deeds" spLDeeds) : FnOk P w K mg base CX0 3 f fd ["_law_source_here", "_law_inlets", "_law_most", "_law_stops"] (spLMaker K) := by
  refine F.ok sc__law_maker (fun vs H Q E h => ?_) (fun cdv A outer s H vs Q E hr h => ?_)
  · obtain ⟨H0, p, n, m, st, rfl, _⟩ := h
    rfl
  · obtain ⟨H0, p, n, m, st, rfl, s0, n0, hs, n1, n3, m1, m4, q⟩ := h
    refine ⟨_, PSs.nox (pss_cons (ps_set (i := 4) sc__law_maker.nd rfl (Or.inl rfl) (pe_c c__law_deeds hr (by decide) rfl (pa_cons (pv 0) (pa_cons (pv 1) (pa_cons (pe_ix (ixl (K := K)) (pe_lst (pa_cons pe_int (pa_cons pe_int (pa_cons pe_int (pa_cons pe_int (pa_cons pe_int (pa_cons pe_int (pa_cons pe_int (pa_cons pe_int pa_nil))))))))) (pe_c c__law_pick hr (by decide) rfl (pa_cons (pv 0) (pa_cons pe_int pa_nil))) fun _ _ => rfl) (pa_cons pe_int pa_nil)))))) (pss_cons (ps_set (i := 5) sc__law_maker.nd rfl (Or.inl rfl) (pe_lst pa_nil)) (pss_cons (ps_for PassesOwn.never rfl (pi_range1 rfl (T.fr _ (by decide +kernel)) (pa_cons (pe_op op_add pe_int (pe_c c__law_pick hr (by decide) rfl (pa_cons (pv 0) (pa_cons (pv 2) pa_nil)))) pa_nil)) (pg_name (i := 6) sc__law_maker.nd rfl (Or.inl rfl)) (pss_cons (ps_set (i := 7) sc__law_maker.nd rfl (Or.inl rfl) (pe_c c__law_deeds hr (by decide) rfl (pa_cons (pv 0) (pa_cons (pv 1) (pa_cons (pe_op op_add pe_int (pe_c c__law_pick hr (by decide) rfl (pa_cons (pv 0) (pa_cons pe_int pa_nil)))) (pa_cons (pe_ix (ixl (K := K)) (pe_lst (pa_cons pe_int (pa_cons pe_int (pa_cons pe_int (pa_cons pe_int pa_nil))))) (pe_c c__law_pick hr (by decide) rfl (pa_cons (pv 0) (pa_cons pe_int pa_nil))) fun _ _ => rfl) pa_nil)))))) (pss_cons (ps_if (PW.pt (pw_and (pt_cmpR op_notIn_seq pe_str (pv 7) rfl) (pw_and1 (pt_not (PW.pt (pw_and (pt_val (pv 3)) (pw_and1 (pt_cmpR op_eq (pe_c c__law_pick hr (by decide) rfl (pa_cons (pv 0) (pa_cons pe_int pa_nil))) pe_int (nomark _))))))))) (pss_one (ps_expr (pe_bm PySem.F.plainAttrs_list PySem.F.slot_list_insert PySem.F.type_list_insert mt_insert (pv 7) (pa_cons (pe_c c__law_pick hr (by decide) rfl (pa_cons (pv 0) (pa_cons (pe_op op_add (pe_callB call_len_seq rfl (T.fr _ (by decide +kernel)) boot_len (pa_cons (pv 7) pa_nil)) pe_int) pa_nil))) (pa_cons pe_str pa_nil))))) pss_nil) (pss_one (ps_expr (pe_bm PySem.F.plainAttrs_list PySem.F.slot_list_append PySem.F.type_list_append mt_append (pv 5) (pa_cons (pe_callTy cr_tup rfl (T.fr _ (by decide +kernel)) (by decide +kernel) (pa_cons (pv 7) pa_nil)) pa_nil))))))) (pss_one (ps_ret (pe_tup (pa_cons (pv 1) (pa_cons (pe_callTy cr_tup rfl (T.fr _ (by decide +kernel)) (by decide +kernel) (pa_cons (pv 4) pa_nil)) (pa_cons (pe_callTy cr_tup rfl (T.fr _ (by decide +kernel)) (by decide +kernel) (pa_cons (pv 5) pa_nil)) pa_nil))))))))), ?_⟩
    -- the beginning
    refine ⟨_, rfl, _, rfl, (by show 8 ≤ sizeLine; decide), fun t ht => ?_⟩
    have htp : t ≠ p := src_ne (o := .lst []) hs ht
    have hs1 : Src (upd H t (.lst (vI [0, 1, 2, 0, 3, 1, 4, 2]))) p := src_put hs htp
    have s1 : Same H0 (upd H t (.lst (vI [0, 1, 2, 0, 3, 1, 4, 2]))) := NF.Same.put s0 (same_none s0 ht)
    have ht1 : upd H t (.lst (vI [0, 1, 2, 0, 3, 1, 4, 2])) t = some (.lst (vI [0, 1, 2, 0, 3, 1, 4, 2])) := upd_same
    refine ⟨_, rfl, wo _ p, p, 8, rfl, wo_same', wo_none, hs1, by decide, by decide, fun d G2 d0 d1 s2 hs2 => ?_⟩
    obtain ⟨v, hv, v0, v1⟩ := idx_k (l := [0, 1, 2, 0, 3, 1, 4, 2]) (n := 8) (lo := 0) (hi := 4) d0 d1 rfl begins_le
    have s02 := wo_same s1 n0 s2
    refine ⟨t, _, _, _, rfl, rfl, SqL.of (s2 _ _ ((wo_ne htp).trans ht1)), hv, ?_⟩
    refine ⟨wo G2 p, p, n, v.toNat, 2, by rw [Int.toNat_of_nonneg v0]; rfl, wo_same', wo_none, hs2, n1, n3, by omega, fun tb b G3 s3 hs3 hb hb0 hbp hbl hbd => ?_⟩
    have s03 := wo_same s02 n0 s3
    have hb03 : H0 tb = none := same_none s02 (by have z := hb0; rw [wo_ne hbp] at z; exact z)
    -- the ways
    refine ⟨(by show 0 ≤ sizeLine; decide), fun D hD => ?_⟩
    have hDp : D ≠ p := src_ne (o := .lst []) hs3 hD
    have hDb : tb ≠ D := ne_of_none hb hD
    have h0D := same_none s03 hD
    have hs4 : Src (upd G3 D (.lst [])) p := src_put hs3 hDp
    have s04 : Same H0 (upd G3 D (.lst [])) := NF.Same.put s03 h0D
    have hb4 := (upd_ne (o := .lst []) hDb).trans hb
    have hD4 := upd_same (H := G3) (a := D) (o := .lst [])
    generalize upd G3 D (.lst []) = G4 at hs4 s04 hb4 hD4
    refine ⟨_, rfl, _, rfl, wo G4 p, p, (m : Int), rfl, wo_same', wo_none, hs4, by omega, by omega, fun k G5 k0 k1 s5 hs5 => ?_⟩
    have s05 := wo_same s04 n0 s5
    have hb5 := s5 _ _ ((wo_ne hbp).trans hb4)
    have hD5 := s5 _ _ ((wo_ne hDp).trans hD4)
    refine ⟨_, _, rfl, rfl, 1 + k, rfl, by omega, by omega, ?_⟩
    rw [show (1 + k).toNat = k.toNat + 1 by omega]
    refine for_range (lo := 0) (n := k.toNat + 1) (fun j σ G => Same H0 G ∧ Src G p ∧ G tb = some (.lst (b.map dV)) ∧ (∃ (as : List Addr) (ws : List (List Deed)), G D = some (.lst (as.map V.ref)) ∧ as.length = j ∧ ws.length = j ∧ (∀ (j : Nat) (a : Addr) (w : List Deed), as[j]? = some a → ws[j]? = some w → SqT K G a (w.map dV)) ∧ ∀ v ∈ ws, v ≠ [] ∧ v.length ≤ 4 ∧ ∀ i, some i ∈ v → i < n) ∧ ∃ v6 v7 : Option V, σ = [some (.ref p), some (.int (n : Int)), some (.int (m : Int)), some (.bl st), some (.ref tb), some (.ref D), v6, v7])
      ⟨s05, hs5, hb5, ⟨[], [], hD5, rfl, rfl, fun j a w e => by simp at e, fun v h => absurd h (by simp)⟩, none, none, rfl⟩ ?_ ?_
    · rintro j σ G hj ⟨sG, hsG, hbG, ⟨as, ws, hDG, al, wl, hts, hok⟩, v6, v7, rfl⟩
      have h0D' : H0 D = none := h0D
      refine ⟨_, rfl, _, rfl, _, rfl, wo G p, p, 3, rfl, wo_same', wo_none, hsG, by decide, by decide, fun e Ga e0 e1 sa hsa => ?_⟩
      refine ⟨_, _, rfl, rfl, (by show 4 ≤ sizeLine; decide), fun u hu => ?_⟩
      have hup : u ≠ p := src_ne (o := .lst []) hsa hu
      have hsb : Src (upd Ga u (.lst (vI [2, 2, 1, 3]))) p := src_put hsa hup
      have sab : Same Ga (upd Ga u (.lst (vI [2, 2, 1, 3]))) := NF.Same.new (Same.refl _) hu
      have htb : upd Ga u (.lst (vI [2, 2, 1, 3])) u = some (.lst (vI [2, 2, 1, 3])) := upd_same
      have ek : upd Ga u (.lst [V.int 2, V.int 2, V.int 1, V.int 3]) = upd Ga u (.lst (vI [2, 2, 1, 3])) := rfl
      rw [ek]
      generalize upd Ga u (.lst (vI [2, 2, 1, 3])) = Gb at hsb sab htb
      refine ⟨_, rfl, wo Gb p, p, 4, rfl, wo_same', wo_none, hsb, by decide, by decide, fun x Gc x0 x1 sc hsc => ?_⟩
      obtain ⟨gv, hgv, gv0, gv1⟩ := idx_k (l := [2, 2, 1, 3]) (n := 4) (lo := 1) (hi := 3) x0 x1 rfl gives_le
      refine ⟨u, _, _, _, rfl, rfl, SqL.of (sc _ _ ((wo_ne hup).trans htb)), hgv, ?_⟩
      refine ⟨wo Gc p, p, n, (1 + e).toNat, gv, by rw [Int.toNat_of_nonneg (by omega)]; rfl, wo_same', wo_none, hsc, n1, n3, by omega, fun tw ds Gd sd hsd htw htw0 htwp hdl hdd => ?_⟩
      -- what stands
      have s0a := wo_same sG n0 sa
      have s0c := wo_same (Same.trans s0a sab) n0 sc
      have s0d := wo_same s0c n0 sd
      have keep : ∀ (a : Addr) (o : HO), a ≠ p → G a = some o → Gd a = some o := fun a o ne e => sd _ _ ((wo_ne ne).trans (sc _ _ ((wo_ne ne).trans (sab _ _ (sa _ _ ((wo_ne ne).trans e))))))
      have keepT : ∀ (a : Addr) (xs : List V), SqT K G a xs → SqT K Gd a xs := fun a xs h => by
        obtain ⟨_, _, _, e1⟩ := id hsG
        obtain ⟨_, _, _, e2⟩ := id hsb
        obtain ⟨_, _, _, e3⟩ := id hsc
        exact NF.Same.tup sd (SqT.wo (NF.Same.tup sc (SqT.wo (NF.Same.tup sab (NF.Same.tup sa (SqT.wo h e1 trivial))) e2 trivial)) e3 trivial)
      have hbd' := keep tb _ hbp hbG
      have hDd := keep D _ hDp hDG
      have htsd := fun j a w e1 e2 => keepT a _ (hts j a w e1 e2)
      have h0tw : H0 tw = none := same_none s0c (by have z := htw0; rw [wo_ne htwp] at z; exact z)
      have twD : tw ≠ D := fun z => by
        rw [z, wo_ne hDp] at htw0
        have := sc _ _ ((wo_ne hDp).trans (sab _ _ (sa _ _ ((wo_ne hDp).trans hDG))))
        rw [htw0] at this
        cases this
      have twb : tw ≠ tb := fun z => by
        rw [z, wo_ne hbp] at htw0
        have := sc _ _ ((wo_ne hbp).trans (sab _ _ (sa _ _ ((wo_ne hbp).trans hbG))))
        rw [htw0] at this
        cases this
      have dl1 : ds.length = 1 + e.toNat := by omega
      refine' both1H (fun G9 => Same H0 G9 ∧ Src G9 p ∧ G9 tb = some (.lst (b.map dV)) ∧ G9 D = some (.lst (as.map V.ref)) ∧ (∀ (j : Nat) (a : Addr) (w : List Deed), as[j]? = some a → ws[j]? = some w → SqT K G9 a (w.map dV)) ∧ ∃ w : List Deed, G9 tw = some (.lst (w.map dV)) ∧ w ≠ [] ∧ w.length ≤ 4 ∧ ∀ i, some i ∈ w → i < n) (fun kk => ?A) ?B
      case A =>
        have here := kk Gd ⟨s0d, hsd, hbd', hDd, htsd, ds, htw, fun z => by rw [z] at dl1; simp at dl1; omega, by omega, hdd⟩
        refine ⟨_, rfl, tw, _, rfl, .inl (SqL.of htw), rfl, flat_deeds ds, _, rfl, ?_⟩
        by_cases hin : inV (.str "give") (ds.map dV) = true
        · exact iteF' (by simp [hin]) (iteF here)
        · refine iteT' (by simp [hin]) ?_
          refine ⟨_, rfl, st, rfl, ?_⟩
          have nogive : none ∉ ds := fun z => by
            exact hin (in_give.mpr z)
          refine' @both1H _ _ (fun G9 : Hp => Same H0 G9 ∧ Src G9 p ∧ G9 tb = some (.lst (b.map dV)) ∧ G9 D = some (.lst (as.map V.ref)) ∧ (∀ (j : Nat) (a : Addr) (w : List Deed), as[j]? = some a → ws[j]? = some w → SqT K G9 a (w.map dV)) ∧ G9 tw = some (.lst (ds.map dV))) (fun k2 => ?A2) ?B2
          case A2 =>
            by_cases hst : st = true
            · refine iteT' hst ⟨_, rfl, wo Gd p, p, 3, rfl, wo_same', wo_none, hsd, by decide, by decide, fun y Ge y0 y1 se hse => ⟨rfl, _, rfl, ?_⟩⟩
              have hbe := se _ _ ((wo_ne hbp).trans hbd')
              have hDe := se _ _ ((wo_ne hDp).trans hDd)
              have hte := se _ _ ((wo_ne htwp).trans htw)
              have htse : ∀ (j : Nat) (a : Addr) (w : List Deed), as[j]? = some a → ws[j]? = some w → SqT K Ge a (w.map dV) := fun j a w e1 e2 => by
                obtain ⟨_, _, _, e3⟩ := id hsd
                exact NF.Same.tup se (SqT.wo (htsd j a w e1 e2) e3 trivial)
              have s0e := wo_same s0d n0 se
              by_cases c : (V.int y : V) = V.int 1
              · rw [decide_eq_true c]
                exact iteF (kk Ge ⟨s0e, hse, hbe, hDe, htse, ds, hte, fun z => by rw [z] at dl1; simp at dl1; omega, by omega, hdd⟩)
              · rw [decide_eq_false c]
                have h0 := k2 Ge ⟨s0e, hse, hbe, hDe, htse, hte⟩
                refine iteT ?_
                have hq : ∀ (R : Hp → Prop), R Ge → True := fun _ _ => trivial
                revert h0
                generalize Ge = Gz
                intro h0
                exact h0
            · have h0 := k2 Gd ⟨s0d, hsd, hbd', hDd, htsd, htw⟩
              exact iteF' (by simpa using hst) (iteT h0)
          case B2 =>
            rintro Ge ⟨s0e, hse, hbe, hDe, htse, hte⟩
            refine ⟨_, rfl, .inl ⟨rfl, _, SqL.of hte⟩, ?_⟩
            refine ⟨_, rfl, _, rfl, tw, _, rfl, .inl (SqL.of hte), _, _, rfl, rfl, ?_⟩
            rw [List.length_map]
            refine ⟨wo Ge p, p, (ds.length : Int) + 1, rfl, wo_same', wo_none, hse, by omega, by omega, fun z Gf z0 z1 sf hsf => ?_⟩
            have hbf := sf _ _ ((wo_ne hbp).trans hbe)
            have hDf := sf _ _ ((wo_ne hDp).trans hDe)
            have htf := sf _ _ ((wo_ne htwp).trans hte)
            have htsf : ∀ (j : Nat) (a : Addr) (w : List Deed), as[j]? = some a → ws[j]? = some w → SqT K Gf a (w.map dV) := fun j a w e1 e2 => by
              obtain ⟨_, _, _, e3⟩ := id hse
              exact NF.Same.tup sf (SqT.wo (htse j a w e1 e2) e3 trivial)
            have s0f := wo_same s0e n0 sf
            refine ⟨tw, _, z, _, rfl, rfl, htf, by rw [List.length_map]; exact Nat.lt_of_lt_of_le (show ds.length < 10000 by omega) (by decide), z0, by omega, ?_⟩
            have ei : (ds.map dV).take z.toNat ++ [V.str "give"] ++ (ds.map dV).drop z.toNat = (ds.take z.toNat ++ [none] ++ ds.drop z.toNat).map dV := by
              rw [List.map_append, List.map_append, List.map_take, List.map_drop]
              rfl
            rw [ei]
            generalize hG9 : upd Gf tw (.lst ((ds.take z.toNat ++ [none] ++ ds.drop z.toNat).map dV)) = G9
            refine kk G9 ⟨?_, ?_, ?_, ?_, ?_, ds.take z.toNat ++ [none] ++ ds.drop z.toNat, ?_, by simp, ?_, fun i h => ?_⟩
            · rw [← hG9]; exact NF.Same.put s0f h0tw
            · rw [← hG9]; exact src_put hsf htwp
            · rw [← hG9, upd_ne twb.symm]; exact hbf
            · rw [← hG9, upd_ne twD.symm]; exact hDf
            · intro j a w e1 e2
              rw [← hG9]
              exact SqT.put (htsf j a w e1 e2) htf trivial
            · rw [← hG9, upd_same]
            · rw [List.length_append, List.length_append, List.length_take, List.length_drop, List.length_singleton]
              omega
            · refine hdd i ?_
              rcases List.mem_append.mp h with h | h
              · rcases List.mem_append.mp h with h | h
                · exact List.mem_of_mem_take h
                · simp at h
              · exact List.mem_of_mem_drop h
      case B =>
        rintro Ge ⟨s0e, hse, hbe, hDe, htse, w, hte, wn, wl4, wd⟩
        refine ⟨_, rfl, .inl ⟨rfl, _, SqL.of hDe⟩, _, rfl, tw, _, rfl, .inl (SqL.of hte), fun pt Gf sf tf => ?_⟩
        have hDf := sf _ _ hDe
        refine ⟨D, _, _, rfl, rfl, hDf, by rw [List.length_map]; exact Nat.lt_of_lt_of_le (show as.length < 10000 by omega) (by decide), ?_⟩
        refine ⟨NF.Same.put (Same.trans s0e sf) h0D, src_put (Src.mono hse sf) hDp, ?_, ⟨as ++ [pt], ws ++ [w], ?_, by simp [al], by simp [wl], fun k a v e1 e2 => ?_, fun v hv => ?_⟩, _, _, rfl⟩
        · rw [upd_ne hDb]; exact sf _ _ hbe
        · rw [upd_same, List.map_append]; rfl
        · refine SqT.put ?_ hDf trivial
          rcases Nat.lt_trichotomy k j with h | h | h
          · rw [List.getElem?_append_left (by omega)] at e1 e2
            exact NF.Same.tup sf (htse k a v e1 e2)
          · subst h
            rw [List.getElem?_append_right (by omega), al, Nat.sub_self] at e1
            rw [List.getElem?_append_right (by omega), wl, Nat.sub_self] at e2
            cases e1
            cases e2
            exact tf
          · rw [List.getElem?_eq_none (by simp [al]; omega)] at e1
            cases e1
        · rcases List.mem_append.mp hv with hv | hv
          · exact hok v hv
          · rw [List.mem_singleton.mp hv]
            exact ⟨wn, wl4, wd⟩
    · rintro σ G ⟨sG, hsG, hbG, ⟨as, ws, hDG, al, wl, hts, hok⟩, v6, v7, rfl⟩
      refine ⟨_, rfl, _, rfl, tb, _, rfl, .inl (SqL.of hbG), fun p1 G1 s1 t1 => ?_⟩
      refine ⟨_, rfl, D, _, rfl, .inl (SqL.of (s1 _ _ hDG)), fun p2 G2' s2' t2 => ?_⟩
      refine ⟨(by show 3 ≤ sizeLine; decide), fun p3 hp3 => ?_⟩
      have s3' := NF.Same.new (o := .tup [V.int (n : Int), V.ref p1, V.ref p2]) (Same.refl G2') hp3
      have s13 := Same.trans s1 (Same.trans s2' s3')
      refine q p3 b ws _ (Same.trans sG s13) (Src.mono hsG s13) ⟨n1, n3, hbd, hok, by omega, by omega, by omega⟩ ⟨p1, p2, SqT.of upd_same, NF.Same.tup (Same.trans s2' s3') t1, as, NF.Same.tup s3' t2, by omega, fun j a w e1 e2 => NF.Same.tup s13 (hts j a w e1 e2)⟩
theorem ok__law_made {f : Addr} {fd : FuncData} (F : FunD K "_law_made" "_law_made" (defArgs s__law_made) (defBody s__law_made) (defScope s__law_made) [] [] f fd) (T : Txt K mg gs FS) (m_Maker : Mak P w K mg base 7 0 "Maker" C (spMkInit K C) []) : FnOk P w K mg base CX0 9 f fd ["_law_maker_here"] (spLMade K C) := by
  refine F.ok sc__law_made (fun vs H Q E h => ?_) (fun cdv A outer s H vs Q E hr h => ?_)
  · obtain ⟨q, n, b, ws, rfl, _⟩ := h
    rfl
  · obtain ⟨q, n, b, ws, rfl, ⟨pb, pw, hq, hb, hw⟩, g, k⟩ := h
    refine ⟨_, PSs.nox (pss_one (ps_ret (pe_mk m_Maker hr (by decide) rfl (pa_cons (pe_ix (ixt (K := K)) (pv 0) pe_int fun _ _ => rfl) (pa_cons (pe_ix (ixt (K := K)) (pv 0) pe_int fun _ _ => rfl) (pa_cons (pe_ix (ixt (K := K)) (pv 0) pe_int fun _ _ => rfl) pa_nil)))))), ?_⟩
    refine ⟨_, rfl, q, _, _, _, rfl, rfl, hq, at0, _, rfl, q, _, _, _, rfl, rfl, hq, at1, _, rfl, q, _, _, _, rfl, rfl, hq, at2, ?_⟩
    intro x dx nx nd ne
    exact ⟨x, dx, pb, pw, n, b, ws, rfl, upd_same, .inr (NF.Same.tup (same_woM nx nd) hb), (hw.mono (same_woM nx nd)).r, g, fun H' s mk => ⟨rfl, k x H' (Same.trans (same_woM nx nd) s) mk⟩⟩
end
end K29
set_option Elab.async false
set_option linter.all false
set_option maxRecDepth 100000
set_option maxHeartbeats 4000000
/-! Things of any kind as data: what a maker, a course, a number of an inlet may be. -/
namespace NF
open PySem PySem.Spec PyProof.Rows L2 He RZ NT
section
variable {K : PySem.W.Frag} {H H' : Hp}
mutual
theorem dp_mono (s : Same H H') : ∀ (d : PyData) {v : V}, Dp K H v d → Dp K H' v d
  | .none, _, .non => .non
  | .bool _, _, .bl _ => .bl _
  | .int _, _, .int _ => .int _
  | .str _, _, .str _ => .str _
  | .list ds, _, .lst h a => .lst (L2.Same.seq s h) (dpall_mono s ds a)
  | .tuple ds, _, .tup h a => .tup (NF.Same.tup s h) (dpall_mono s ds a)
theorem dpall_mono (s : Same H H') : ∀ (ds : List PyData) {xs : List V}, DpAll K H xs ds → DpAll K H' xs ds
  | [], _, .nil => .nil
  | d :: ds, _, .cons h a => .cons (dp_mono s d h) (dpall_mono s ds a)
end
theorem dpall_len : ∀ {xs : List V} {ds : List PyData}, DpAll K H xs ds → xs.length = ds.length
  | _, _, .nil => rfl
  | _, _, .cons _ a => congrArg (· + 1) (dpall_len a)
theorem dpall_get : ∀ {xs : List V} {ds : List PyData}, DpAll K H xs ds → ∀ {j : Nat} {v : V} {d : PyData}, xs[j]? = some v → ds[j]? = some d → Dp K H v d
  | _, _, .cons h _, 0, _, _, e1, e2 => by
    cases e1
    cases e2
    exact h
  | _, _, .cons _ a, j + 1, _, _, e1, e2 => dpall_get a (j := j) (by simpa using e1) (by simpa using e2)
theorem dpall_app : ∀ {xs ys : List V} {ds es : List PyData}, DpAll K H xs ds → DpAll K H ys es → DpAll K H (xs ++ ys) (ds ++ es)
  | _, _, _, _, .nil, b => b
  | _, _, _, _, .cons h a, b => .cons h (dpall_app a b)
def isIntP : PyData → Bool
  | .int _ => true
  | _ => false
def isCntP : PyData → Bool
  | .int i => decide (0 ≤ i)
  | _ => false
def rowP : PyData → Option (List PyData)
  | .list l => some l
  | .tuple l => some l
  | _ => none
def itemsP (d : PyData) : List PyData := (rowP d).getD []
/-- a deed of a maker with n inlets -/
def okDP (n : Int) : PyData → Bool
  | .str s => decide (V.str s = V.str "give")
  | .int i => decide (0 ≤ i) && decide (i < n)
  | _ => false
def okDsP (n : Int) (d : PyData) : Bool := (rowP d).isSome && (itemsP d).all (okDP n)
def okWP (n : Int) (w : PyData) : Bool := okDsP n w && decide (0 < (itemsP w).length)
def okWsP (n : Int) (d : PyData) : Bool := (rowP d).isSome && (decide (1 ≤ (itemsP d).length) && decide ((itemsP d).length ≤ 4)) && (itemsP d).all (okWP n)
def mostP (dw : PyData) : Nat := if (itemsP dw).length = 1 then 600 else 24
def tooP (db dw : PyData) : Bool := decide (600 < (itemsP db).length) || (itemsP dw).any fun w => decide (mostP dw < (itemsP w).length)
def okNP : PyData → Bool
  | .int n => decide (1 ≤ n) && decide (n ≤ 3)
  | _ => false
def numP : PyData → Int
  | .int n => n
  | _ => 0
/-- the word that is due for a maker -/
def dueM (di db dw : PyData) : Option Str :=
  if okNP di = false then some "inlets" else if okDsP (numP di) db = false then some "begin" else if okWsP (numP di) dw = false then some "ways" else if tooP db dw = true then some "deed" else none
def wordO : Option Str → V
  | none => .non
  | some x => .str x
theorem dp_row {v : V} {d : PyData} {l : List PyData} (h : Dp K H v d) (e : rowP d = some l) : ∃ a xs, v = .ref a ∧ Row K H a xs ∧ DpAll K H xs l ∧ itemsP d = l := by
  cases h with
  | lst h a =>
    cases e
    exact ⟨_, _, rfl, .inl h, a, rfl⟩
  | tup h a =>
    cases e
    exact ⟨_, _, rfl, .inr h, a, rfl⟩
  | _ => cases e
/-- how big rows within rows are -/
def Few2 (d : PyData) : Prop := (itemsP d).length ≤ 10000 ∧ ∀ w ∈ itemsP d, (itemsP w).length ≤ 10000
def spIntP (K : PySem.W.Frag) : Sp := fun vs H Q _ => ∃ v d, vs = [v] ∧ Dp K H v d ∧ Q (.bl (isIntP d)) H
def spCntP (K : PySem.W.Frag) : Sp := fun vs H Q _ => ∃ v d, vs = [v] ∧ Dp K H v d ∧ Q (.bl (isCntP d)) H
def spRowP (K : PySem.W.Frag) : Sp := fun vs H Q _ => ∃ v d, vs = [v] ∧ Dp K H v d ∧ ∀ H', Same H H' → Q (.bl (rowP d).isSome) H'
def spDeedP (K : PySem.W.Frag) : Sp := fun vs H Q _ => ∃ v d n, vs = [v, .int n] ∧ Dp K H v d ∧ Q (.bl (okDP n d)) H
def spDeedsP (K : PySem.W.Frag) : Sp := fun vs H Q _ => ∃ v d n, vs = [v, .int n] ∧ Dp K H v d ∧ (itemsP d).length ≤ 10000 ∧ ∀ H', Same H H' → Q (.bl (okDsP n d)) H'
def spWaysP (K : PySem.W.Frag) : Sp := fun vs H Q _ => ∃ v d n, vs = [v, .int n] ∧ Dp K H v d ∧ Few2 d ∧ ∀ H', Same H H' → Q (.bl (okWsP n d)) H'
theorem kit_tu_s (K : PySem.W.Frag) : PySem.W.kitOne K (.type "tuple") (.type "str") = some false := by kernel_rfl
theorem kit_li_s (K : PySem.W.Frag) : PySem.W.kitOne K (.type "list") (.type "str") = some false := by kernel_rfl
/-- the type of a thing -/
def tyP : PyData → String
  | .none => "NoneType"
  | .bool _ => "bool"
  | .int _ => "int"
  | .str _ => "str"
  | .list _ => "list"
  | .tuple _ => "tuple"
  | .dict _ => "dict"
theorem dp_ty {v : V} {d : PyData} (h : Dp K H v d) : TyX K H v (.type (tyP d)) := by
  cases h with
  | non => exact .base .non
  | bl b => exact .base (.bl b)
  | int i => exact .base (.int i)
  | str x => exact .base (.str x)
  | lst h _ => exact tyx_lst h
  | tup h _ => exact tyx_tup h
theorem kit_p_int (K : PySem.W.Frag) (d : PyData) : PySem.W.kitOne K (.type (tyP d)) (.type "int") = some (match d with | .int _ => true | .bool _ => true | _ => false) := by
  cases d <;> first | exact if_pos (by decide +kernel) | kernel_rfl
theorem kit_p_bool (K : PySem.W.Frag) (d : PyData) : PySem.W.kitOne K (.type (tyP d)) (.type "bool") = some (match d with | .bool _ => true | _ => false) := by
  cases d <;> first | exact if_pos (by decide +kernel) | kernel_rfl
theorem kit_p_str (K : PySem.W.Frag) (d : PyData) : PySem.W.kitOne K (.type (tyP d)) (.type "str") = some (match d with | .str _ => true | _ => false) := by
  cases d <;> first | exact if_pos (by decide +kernel) | kernel_rfl
theorem kit_p_row (K : PySem.W.Frag) (d : PyData) : PySem.W.kitAny K (.type (tyP d)) [.type "tuple", .type "list"] = some (rowP d).isSome := by
  cases d <;> kernel_rfl
end
/-- two promises of one def: what the one lets, or what the other refuses -/
def spOr (a b : Sp) : Sp := fun vs H Q E => a vs H Q E ∨ b vs H Q E
theorem FnOk.or {P : Program} {w : World} {K : PySem.W.Frag} {mg : Str → Option Value} {base : Heap} {k1 k2 k : Nat} {f : Addr} {fd : FuncData} {ps : List Str} {sp1 sp2 : Sp} (F1 : FnOk P w K mg base CX0 k1 f fd ps sp1) (F2 : FnOk P w K mg base (L2.CX P w) k2 f fd ps sp2) (h1 : k1 ≤ k) (h2 : k2 ≤ k) : FnOk P w K mg base (L2.CX P w) k f fd ps (spOr sp1 sp2) := by
  refine ⟨fun vs H Q E h => h.elim (F1.len vs H Q E) (F2.len vs H Q E), fun A outer s H args us vs Q E hr e b v h => ?_⟩
  rcases h with h | h
  · refine codeAny_mono (F1.run A outer s H args us vs Q E (hr.mono h1) e b v h) fun r s' hq => ?_
    cases r with
    | error e => exact hq.elim
    | ok fl => cases fl <;> exact hq
  · exact F2.run A outer s H args us vs Q E (hr.mono h2) e b v h
end NF
set_option Elab.async false
set_option linter.all false
set_option maxRecDepth 100000
set_option maxHeartbeats 4000000
namespace K29
open PySem PySem.Spec PyProof.Rows L2 He NF RZ NT
section
variable {P : Program} {w : World} {K : PySem.W.Frag} {mg : Str → Option Value} {base : Heap} {gs fs : List Str} {C : Addr}
theorem ok_is_integerP {f : Addr} {fd : FuncData} (F : FunD K "is_integer" "is_integer" (defArgs s_is_integer) (defBody s_is_integer) (defScope s_is_integer) [] [] f fd) (T : Txt K mg gs FS) : FnOk P w K mg base CX0 1 f fd ["thing"] (spIntP K) := by
  refine F.ok sc_is_integer (fun vs H Q E h => ?_) (fun cdv A outer s H vs Q E hr h => ?_)
  · obtain ⟨v, d, rfl, _⟩ := h
    rfl
  · obtain ⟨v, d, rfl, hv, q⟩ := h
    refine ⟨_, PSs.nox (pss_one (ps_ret (pe_and (pe_callB call_isi rfl (T.fr _ (by decide +kernel)) (by decide +kernel) (pa_cons (pv 0) (pa_cons (pe_bltn (v := .ty "int") rfl (T.fr _ (by decide +kernel)) (by decide +kernel) rfl) pa_nil))) (pe_one (pe_not (pe_callB call_isi rfl (T.fr _ (by decide +kernel)) (by decide +kernel) (pa_cons (pv 0) (pa_cons (pe_bltn (v := .ty "bool") rfl (T.fr _ (by decide +kernel)) (by decide +kernel) rfl) pa_nil)))))))), ?_⟩
    refine ⟨_, rfl, _, _, _, _, _, rfl, .ty "int", dp_ty hv, kit_p_int K d, ?_⟩
    cases d with
    | int i => exact ⟨true, rfl, _, rfl, _, _, _, _, false, rfl, .ty "bool", dp_ty hv, kit_p_bool K (.int i), false, rfl, q⟩
    | bool b => exact ⟨true, rfl, _, rfl, _, _, _, _, true, rfl, .ty "bool", dp_ty hv, kit_p_bool K (.bool b), true, rfl, q⟩
    | _ => exact ⟨false, rfl, q⟩
theorem ok_is_countP {f : Addr} {fd : FuncData} (F : FunD K "is_count" "is_count" (defArgs s_is_count) (defBody s_is_count) (defScope s_is_count) [] [] f fd) (T : Txt K mg gs FS) (c_is_integer : Cal P w K mg base 1 "is_integer" (spIntP K)) : FnOk P w K mg base CX0 2 f fd ["thing"] (spCntP K) := by
  refine F.ok sc_is_count (fun vs H Q E h => ?_) (fun cdv A outer s H vs Q E hr h => ?_)
  · obtain ⟨v, d, rfl, _⟩ := h
    rfl
  · obtain ⟨v, d, rfl, hv, q⟩ := h
    refine ⟨_, PSs.nox (pss_one (ps_ret (pe_and (pe_c c_is_integer hr (by decide) rfl (pa_cons (pv 0) pa_nil)) (pe_one (pe_cmpR op_ge (pv 0) pe_int (nomark _)))))), ?_⟩
    refine ⟨_, rfl, v, d, rfl, hv, ?_⟩
    cases hv with
    | int i => exact ⟨true, rfl, _, rfl, _, _, rfl, rfl, q⟩
    | _ => exact ⟨false, rfl, q⟩
theorem ok_is_rowP {f : Addr} {fd : FuncData} (F : FunD K "is_row" "is_row" (defArgs s_is_row) (defBody s_is_row) (defScope s_is_row) [] [] f fd) (T : Txt K mg gs FS) : FnOk P w K mg base CX0 1 f fd ["thing"] (spRowP K) := by
  refine F.ok sc_is_row (fun vs H Q E h => ?_) (fun cdv A outer s H vs Q E hr h => ?_)
  · obtain ⟨v, d, rfl, _⟩ := h
    rfl
  · obtain ⟨v, d, rfl, hv, q⟩ := h
    refine ⟨_, PSs.nox (pss_one (ps_ret (pe_callB call_isiT rfl (T.fr _ (by decide +kernel)) (by decide +kernel) (pa_cons (pv 0) (pa_cons (pe_tup (pa_cons (pe_bltn (v := .ty "tuple") rfl (T.fr _ (by decide +kernel)) (by decide +kernel) rfl) (pa_cons (pe_bltn (v := .ty "list") rfl (T.fr _ (by decide +kernel)) (by decide +kernel) rfl) pa_nil))) pa_nil))))), ?_⟩
    refine ⟨_, rfl, (by show 2 ≤ sizeLine; decide), fun p hp => ?_⟩
    have s1 := NF.Same.new (o := .tup [V.ty "tuple", V.ty "list"]) (Same.refl H) hp
    exact ⟨_, p, _, _, _, _, rfl, upd_same, .cons (.ty _) (.cons (.ty _) .nil), dp_ty (dp_mono s1 d hv), kit_p_row K d, q _ s1⟩
theorem ok_is_deedP {f : Addr} {fd : FuncData} (F : FunD K "is_deed" "is_deed" (defArgs s_is_deed) (defBody s_is_deed) (defScope s_is_deed) [] [] f fd) (T : Txt K mg gs FS) (c_is_count : Cal P w K mg base 2 "is_count" (spCntP K)) : FnOk P w K mg base CX0 3 f fd ["thing", "inlets"] (spDeedP K) := by
  refine F.ok sc_is_deed (fun vs H Q E h => ?_) (fun cdv A outer s H vs Q E hr h => ?_)
  · obtain ⟨v, d, n, rfl, _⟩ := h
    rfl
  · obtain ⟨v, d, n, rfl, hv, q⟩ := h
    refine ⟨_, PSs.nox (pss_cons (ps_if (pt_val (pe_callB call_isi rfl (T.fr _ (by decide +kernel)) (by decide +kernel) (pa_cons (pv 0) (pa_cons (pe_bltn (v := .ty "str") rfl (T.fr _ (by decide +kernel)) (by decide +kernel) rfl) pa_nil)))) (pss_one (ps_ret (pe_cmpR op_eq (pv 0) pe_str (nomark _)))) pss_nil) (pss_one (ps_ret (pe_and (pe_c c_is_count hr (by decide) rfl (pa_cons (pv 0) pa_nil)) (pe_one (pe_cmpR op_lt (pv 0) (pv 1) (nomark _))))))), ?_⟩
    refine ⟨_, rfl, _, _, _, _, _, rfl, .ty "str", dp_ty hv, kit_p_str K d, ?_⟩
    cases hv with
    | str x => exact ⟨true, rfl, iteT ⟨_, rfl, rfl, q⟩⟩
    | int i =>
      refine ⟨false, rfl, iteF ⟨_, rfl, _, .int i, rfl, .int i, ?_⟩⟩
      refine ⟨_, rfl, ?_⟩
      by_cases c : 0 ≤ i
      · rw [show isCntP (.int i) = true from decide_eq_true c]
        refine iteT ⟨_, rfl, _, rfl, _, _, rfl, rfl, ?_⟩
        have e : okDP n (.int i) = decide (i < n) := by
          show (decide (0 ≤ i) && _) = _
          rw [decide_eq_true c]
          rfl
        rw [e] at q
        exact q
      · rw [show isCntP (.int i) = false from decide_eq_false c]
        refine iteF ?_
        have e : okDP n (.int i) = false := by
          show (decide (0 ≤ i) && _) = _
          rw [decide_eq_false c]
          rfl
        rw [e] at q
        exact q
    | non => exact ⟨false, rfl, iteF ⟨_, rfl, _, .none, rfl, .non, false, rfl, iteF q⟩⟩
    | bl b => exact ⟨false, rfl, iteF ⟨_, rfl, _, .bool b, rfl, .bl b, false, rfl, iteF q⟩⟩
    | lst h a => exact ⟨false, rfl, iteF ⟨_, rfl, _, _, rfl, .lst h a, false, rfl, iteF q⟩⟩
    | tup h a => exact ⟨false, rfl, iteF ⟨_, rfl, _, _, rfl, .tup h a, false, rfl, iteF q⟩⟩
theorem take_snoc {α : Type} {l : List α} {j : Nat} {x : α} (e : l[j]? = some x) : l.take (j + 1) = l.take j ++ [x] := by
  rw [List.take_add_one, e]
  rfl
theorem ok_are_deedsP {f : Addr} {fd : FuncData} (F : FunD K "are_deeds" "are_deeds" (defArgs s_are_deeds) (defBody s_are_deeds) (defScope s_are_deeds) [] [] f fd) (T : Txt K mg gs FS) (c_is_row : Cal P w K mg base 1 "is_row" (spRowP K)) (c_is_deed : Cal P w K mg base 3 "is_deed" (spDeedP K)) : FnOk P w K mg base CX0 4 f fd ["thing", "inlets"] (spDeedsP K) := by
  refine F.ok sc_are_deeds (fun vs H Q E h => ?_) (fun cdv A outer s H vs Q E hr h => ?_)
  · obtain ⟨v, d, n, rfl, _⟩ := h
    rfl
  · obtain ⟨v, d, n, rfl, hv, hl, q⟩ := h
    refine ⟨_, PSs.nox (pss_one (ps_ret (pe_and (pe_c c_is_row hr (by decide) rfl (pa_cons (pv 0) pa_nil)) (pe_one (pe_callB (cr_all rfl) rfl (T.fr _ (by decide +kernel)) (by decide +kernel) (pa_cons (pe_lc (own := [("deed", 2)]) rfl sc_are_deeds.nd (pi_row (pv 0)) (blkOk_by (N := ["thing", "inlets", "deed"]) (sc := defScope s_are_deeds) (by decide +kernel)) (fun _ _ _ _ _ => by exact (pg_name (i := 2) sc_are_deeds.nd rfl (Or.inl rfl))) (fun _ _ _ _ _ => by exact pts_nil) (fun _ _ _ _ _ => by exact (pe_c c_is_deed hr (by decide) rfl (pa_cons (pv 2) (pa_cons (pv 1) pa_nil))))) pa_nil)))))), ?_⟩
    refine ⟨_, rfl, v, d, rfl, hv, fun H1 s1 => ⟨_, rfl, ?_⟩⟩
    cases er : rowP d with
    | none =>
      have := q H1 s1
      unfold okDsP at this
      rw [er] at this
      exact iteF this
    | some l =>
      obtain ⟨a, xs, rfl, ha, hd, ei⟩ := dp_row (dp_mono s1 d hv) er
      have xl := dpall_len hd
      rw [ei] at hl
      refine iteT ?_
      refine ⟨_, rfl, a, rfl, ?_⟩
      refine lc_row ha (fun D j G => Same H1 G ∧ G D = some (.lst (((l.take j).map (okDP n)).map V.bl))) (fun D hD => ⟨NF.Same.new (Same.refl H1) hD, upd_same⟩) (fun D i G _ z => z.1) ?_ ?_
      · rintro D hD j v G hv ⟨hG, hD2⟩
        have hj := (List.getElem?_eq_some_iff.mp hv).1
        have hjl : j < l.length := by omega
        have el := List.getElem?_eq_getElem hjl
        refine ⟨rfl, _, rfl, _, rfl, v, l[j], n, rfl, dp_mono hG _ (dpall_get hd hv el), ?_⟩
        refine ⟨_, hD2, by rw [List.length_map, List.length_map, List.length_take]; exact Nat.lt_of_lt_of_le (show min j l.length < 10000 by omega) (by decide), NF.Same.mut hG hD, ?_⟩
        rw [upd_same, take_snoc el, List.map_append, List.map_append]
        rfl
      · rintro D hD G ⟨hG, hD2⟩
        rw [xl, List.take_length] at hD2
        refine ⟨D, _, rfl, SqL.of hD2, ?_⟩
        have := q G (Same.trans s1 hG)
        unfold okDsP at this
        rw [er, ei] at this
        rw [List.all_map]
        exact this
theorem ok_are_waysP {f : Addr} {fd : FuncData} {tok_w : Tok} (F : FunD K "are_ways" "are_ways" (defArgs s_are_ways) (defBody s_are_ways) (defScope s_are_ways) [] [] f fd) (T : Txt K mg gs FS) (h_MOST_WAYS : mg "MOST_WAYS" = some (.int 4 tok_w)) (c_is_row : Cal P w K mg base 1 "is_row" (spRowP K)) (c_are_deeds : Cal P w K mg base 4 "are_deeds" (spDeedsP K)) : FnOk P w K mg base CX0 5 f fd ["thing", "inlets"] (spWaysP K) := by
  refine F.ok sc_are_ways (fun vs H Q E h => ?_) (fun cdv A outer s H vs Q E hr h => ?_)
  · obtain ⟨v, d, n, rfl, _⟩ := h
    rfl
  · obtain ⟨v, d, n, rfl, hv, hf, q⟩ := h
    refine ⟨_, PSs.nox (pss_cons (ps_if (PW.pt (pw_or (pt_not (pt_val (pe_c c_is_row hr (by decide) rfl (pa_cons (pv 0) pa_nil)))) (pw_or1 (pt_not (pt_chain op_le op_le pe_int (pe_callB call_len_seq rfl (T.fr _ (by decide +kernel)) boot_len (pa_cons (pv 0) pa_nil)) (pe_glob (v := .int 4) rfl h_MOST_WAYS ⟨_, rfl⟩)))))) (pss_one (ps_ret pe_bl)) pss_nil) (pss_one (ps_ret (pe_callB (cr_all rfl) rfl (T.fr _ (by decide +kernel)) (by decide +kernel) (pa_cons (pe_lc (own := [("way", 2)]) rfl sc_are_ways.nd (pi_row (pv 0)) (blkOk_by (N := ["thing", "inlets", "way"]) (sc := defScope s_are_ways) (by decide +kernel)) (fun _ _ _ _ _ => by exact (pg_name (i := 2) sc_are_ways.nd rfl (Or.inl rfl))) (fun _ _ _ _ _ => by exact pts_nil) (fun _ _ _ _ _ => by exact (pe_and (pe_c c_are_deeds hr (by decide) rfl (pa_cons (pv 2) (pa_cons (pv 1) pa_nil))) (pe_one (pe_cmpR op_gt (pe_callB (call_lenK (K := K)) rfl (T.fr _ (by decide +kernel)) boot_len (pa_cons (pv 2) pa_nil)) pe_int (nomark _)))))) pa_nil))))), ?_⟩
    refine ⟨_, rfl, v, d, rfl, hv, fun H1 s1 => ⟨_, rfl, ?_⟩⟩
    cases er : rowP d with
    | none =>
      have := q H1 s1
      unfold okWsP at this
      rw [er] at this
      exact iteT (iteT this)
    | some l =>
      obtain ⟨a, xs, rfl, ha, hd, ei⟩ := dp_row (dp_mono s1 d hv) er
      have xl := dpall_len hd
      obtain ⟨_, hf⟩ := hf
      rw [ei] at hf
      refine iteF ⟨_, rfl, a, _, rfl, ha, ?_⟩
      rw [xl]
      have fin : ∀ G, Same H1 G → Q (.bl ((decide (1 ≤ l.length) && decide (l.length ≤ 4)) && l.all (okWP n))) G := fun G sG => by
        have := q G (Same.trans s1 sG)
        unfold okWsP at this
        rw [er, ei] at this
        exact this
      refine ⟨_, _, rfl, rfl, _, rfl, ite2 (fun c1 => ?_) (fun c1 => ?_)⟩
      rotate_left
      · refine ⟨_, rfl, iteT ?_⟩
        have := fin H1 (Same.refl _)
        rw [show decide (1 ≤ l.length) = false from decide_eq_false fun z => c1 (decide_eq_true (by omega))] at this
        exact this
      have c1 := of_decide_eq_true c1
      refine ⟨_, _, rfl, rfl, _, rfl, ?_⟩
      by_cases c2 : l.length ≤ 4
      rotate_left
      · rw [show decide ((l.length : Int) ≤ 4) = false from decide_eq_false (by omega)]
        refine iteT ?_
        have := fin H1 (Same.refl _)
        rw [show decide (l.length ≤ 4) = false from decide_eq_false c2, Bool.and_false] at this
        exact this
      rw [show decide ((l.length : Int) ≤ 4) = true from decide_eq_true (by omega)]
      refine iteF ?_
      refine ⟨_, rfl, a, rfl, ?_⟩
      refine lc_row ha (fun D j G => Same H1 G ∧ G D = some (.lst (((l.take j).map (okWP n)).map V.bl))) (fun D hD => ⟨NF.Same.new (Same.refl H1) hD, upd_same⟩) (fun D i G _ z => z.1) ?_ ?_
      · rintro D hD j v G hv ⟨hG, hD2⟩
        have hj := (List.getElem?_eq_some_iff.mp hv).1
        have hjl : j < l.length := by omega
        have el := List.getElem?_eq_getElem hjl
        have hw := dp_mono hG _ (dpall_get hd hv el)
        have put : ∀ (b : Bool) (G2 : Hp), Same G G2 → okWP n l[j] = b → ∃ acc, G2 D = some (.lst acc) ∧ acc.length < sizeLine ∧ (Same H1 (upd G2 D (.lst (acc ++ [V.bl b]))) ∧ (upd G2 D (.lst (acc ++ [V.bl b]))) D = some (.lst (((l.take (j + 1)).map (okWP n)).map V.bl))) := fun b G2 s2 eb => by
          refine ⟨_, s2 _ _ hD2, by rw [List.length_map, List.length_map, List.length_take]; exact Nat.lt_of_lt_of_le (show min j l.length < 10000 by omega) (by decide), NF.Same.mut (Same.trans hG s2) hD, ?_⟩
          rw [upd_same, take_snoc el, List.map_append, List.map_append, ← eb]
          rfl
        refine ⟨rfl, _, rfl, _, rfl, v, l[j], n, rfl, hw, hf _ (List.getElem_mem hjl), fun G2 s2 => ⟨_, rfl, ?_⟩⟩
        cases ed : okDsP n l[j] with
        | false =>
          refine iteF ?_
          exact put false G2 s2 (by unfold okWP; rw [ed]; rfl)
        | true =>
          have er2 : ∃ l2, rowP l[j] = some l2 := by
            unfold okDsP at ed
            cases e3 : rowP l[j] with
            | none =>
              rw [e3] at ed
              cases ed
            | some l2 => exact ⟨l2, rfl⟩
          obtain ⟨l2, er2⟩ := er2
          obtain ⟨a2, xs2, rfl, ha2, hd2, ei2⟩ := dp_row hw er2
          refine iteT ⟨_, rfl, a2, _, rfl, ha2.mono s2, _, _, rfl, rfl, ?_⟩
          refine put _ G2 s2 ?_
          unfold okWP
          rw [ed, ei2, dpall_len hd2]
          show decide (0 < l2.length) = decide ((0 : Int) < (l2.length : Int))
          by_cases c : 0 < l2.length
          · rw [decide_eq_true c, decide_eq_true (by omega)]
          · rw [decide_eq_false c, decide_eq_false (by omega)]
      · rintro D hD G ⟨hG, hD2⟩
        rw [xl, List.take_length] at hD2
        refine ⟨D, _, rfl, SqL.of hD2, ?_⟩
        have := fin G hG
        rw [decide_eq_true (show 1 ≤ l.length by omega), decide_eq_true c2] at this
        rw [List.all_map]
        exact this
end
end K29
set_option linter.all false
/-! Reading a table's words: the program's way and the law's machine say the same. -/
namespace NT
section
variable {α : Type} (num : α → Option Int) (nev thn up_ : α → Bool)
/-- numbers that climb -/
def climbW (m : Int) : List α → List Int
  | [] => []
  | w :: ws => match num w with
    | some v => if v < m then [] else v :: climbW v ws
    | none => []
def lastD (m : Int) (l : List Int) : Int := if l = [] then m else l.getD (l.length - 1) 0
/-- the program's reading: a place that is wrong, or the table -/
inductive Rd where
  | bad (k : Nat)
  | ok (h l : List Int) (r : Int)
def readW (ws : List α) : Rd :=
  let h := climbW num 0 ws
  match ws.drop h.length with
  | [] => .bad h.length
  | w :: r1 => if nev w = true then (if r1 = [] then .ok h [] 0 else .bad (h.length + 1))
    else if thn w = true then
      let l := climbW num (lastD 0 h) r1
      if l = [] then .bad (h.length + 1)
      else match r1.drop l.length with
        | [] => .bad (h.length + 1 + l.length)
        | u :: r2 => if up_ u = true then
            match climbW num (l.getD (l.length - 1) 0 - l.getD 0 0) r2 with
            | [] => .bad (h.length + 1 + l.length + 1)
            | v :: _ => if 1 < r2.length then .bad (h.length + 1 + l.length + 2) else .ok h l v
          else .bad (h.length + 1 + l.length)
    else .bad h.length
inductive St where
  | head | loop | rise | fin
/-- the law's machine; m: the greatest number so far, or 0 -/
def scan : St → Int → List Int → List Int → Int → Nat → List α → Option Nat × List Int × List Int × Int
  | s, _, h, l, r, k, [] => ((match s with | .fin => none | _ => some k), h, l, r)
  | .fin, _, h, l, r, k, _ :: _ => (some k, h, l, r)
  | .rise, m, h, l, r, k, w :: ws => (match num w with
    | none => (some k, h, l, r)
    | some v => if v < l.getD (l.length - 1) 0 - l.getD 0 0 then (some k, h, l, r) else scan .fin m h l v (k + 1) ws)
  | .head, m, h, l, r, k, w :: ws => (match num w with
    | some v => if v < m then (some k, h, l, r) else scan .head v (h ++ [v]) l r (k + 1) ws
    | none => if nev w = true then scan .fin m h l r (k + 1) ws else if thn w = true then scan .loop m h l r (k + 1) ws else (some k, h, l, r))
  | .loop, m, h, l, r, k, w :: ws => (match num w with
    | some v => if v < m then (some k, h, l, r) else scan .loop v h (l ++ [v]) r (k + 1) ws
    | none => if up_ w = true ∧ l ≠ [] then scan .rise m h l r (k + 1) ws else (some k, h, l, r))
variable {num nev thn up_}
theorem lastD_cons {m v : Int} {l : List Int} : lastD m (v :: l) = lastD v l := by
  unfold lastD
  rw [if_neg (by simp)]
  cases l with
  | nil => rfl
  | cons a l =>
    rw [if_neg (by simp)]
    rfl
/-- what stands where the climb stops -/
def Stops (m : Int) (ws : List α) : Prop := ∀ w r, ws = w :: r → ∀ v, num w = some v → v < m
theorem climb_stops : ∀ (ws : List α) (m : Int), Stops (num := num) (lastD m (climbW num m ws)) (ws.drop (climbW num m ws).length)
  | [], m, w, r, e => by simp at e
  | w :: ws, m, u, r, e => by
    intro v hv
    unfold climbW at e ⊢
    cases q : num w with
    | none =>
      rw [q] at e
      injection e with e1 e2
      subst e1
      rw [q] at hv
      cases hv
    | some x =>
      rw [q] at e
      dsimp only at e ⊢
      by_cases c : x < m
      · rw [if_pos c] at e ⊢
        injection e with e1 e2
        subst e1
        rw [q] at hv
        cases hv
        exact c
      · rw [if_neg c] at e ⊢
        rw [lastD_cons]
        exact climb_stops ws x u r e v hv
theorem scan_head : ∀ (ws : List α) (m : Int) (h l : List Int) (r : Int) (k : Nat),
    scan num nev thn up_ .head m h l r k ws = scan num nev thn up_ .head (lastD m (climbW num m ws)) (h ++ climbW num m ws) l r (k + (climbW num m ws).length) (ws.drop (climbW num m ws).length)
  | [], m, h, l, r, k => by simp [climbW, lastD]
  | w :: ws, m, h, l, r, k => by
    cases q : num w with
    | none =>
      have e : climbW num m (w :: ws) = [] := by unfold climbW; rw [q]
      rw [e]
      simp [lastD]
    | some x =>
      by_cases c : x < m
      · have e : climbW num m (w :: ws) = [] := by unfold climbW; rw [q]; simp [c]
        rw [e]
        simp [lastD]
      · have e : climbW num m (w :: ws) = x :: climbW num x ws := by
          conv => lhs; unfold climbW
          rw [q]
          simp [c]
        rw [e, lastD_cons]
        have ih := scan_head ws x (h ++ [x]) l r (k + 1)
        conv => lhs; unfold scan
        rw [q]
        dsimp only
        rw [if_neg c, ih, List.append_assoc, List.length_cons, List.drop_succ_cons, List.singleton_append]
        congr 1
        omega
theorem scan_loop : ∀ (ws : List α) (m : Int) (h l : List Int) (r : Int) (k : Nat),
    scan num nev thn up_ .loop m h l r k ws = scan num nev thn up_ .loop (lastD m (climbW num m ws)) h (l ++ climbW num m ws) r (k + (climbW num m ws).length) (ws.drop (climbW num m ws).length)
  | [], m, h, l, r, k => by simp [climbW, lastD]
  | w :: ws, m, h, l, r, k => by
    cases q : num w with
    | none =>
      have e : climbW num m (w :: ws) = [] := by unfold climbW; rw [q]
      rw [e]
      simp [lastD]
    | some x =>
      by_cases c : x < m
      · have e : climbW num m (w :: ws) = [] := by unfold climbW; rw [q]; simp [c]
        rw [e]
        simp [lastD]
      · have e : climbW num m (w :: ws) = x :: climbW num x ws := by
          conv => lhs; unfold climbW
          rw [q]
          simp [c]
        rw [e, lastD_cons]
        have ih := scan_loop ws x h (l ++ [x]) r (k + 1)
        conv => lhs; unfold scan
        rw [q]
        dsimp only
        rw [if_neg c, ih, List.append_assoc, List.length_cons, List.drop_succ_cons, List.singleton_append]
        congr 1
        omega
/-- no word is both a number and a word of the form -/
structure Apart (num : α → Option Int) (nev thn up_ : α → Bool) : Prop where
  n : ∀ w, nev w = true → num w = none
  t : ∀ w, thn w = true → num w = none
  u : ∀ w, up_ w = true → num w = none
/-- the law's machine over what the program reads -/
theorem scan_read (A : Apart num nev thn up_) (ws : List α) : match readW num nev thn up_ ws with
    | .bad k => (scan num nev thn up_ .head 0 [] [] 0 0 ws).1 = some k
    | .ok h l r => scan num nev thn up_ .head 0 [] [] 0 0 ws = (none, h, l, r) := by
  have st := climb_stops (num := num) ws 0
  rw [scan_head]
  unfold readW
  dsimp only
  generalize climbW num 0 ws = h at st ⊢
  rw [List.nil_append, Nat.zero_add]
  generalize hd : ws.drop h.length = rest at st ⊢
  cases rest with
  | nil => rfl
  | cons w r1 =>
    dsimp only
    by_cases c1 : nev w = true
    · have q := A.n w c1
      by_cases c2 : r1 = []
      · simp only [c1, c2, if_true, scan, q]
      · obtain ⟨x, y, rfl⟩ : ∃ x y, r1 = x :: y := by
          cases r1 with
          | nil => exact absurd rfl c2
          | cons x y => exact ⟨x, y, rfl⟩
        simp only [c1, c2, if_true, if_false, scan, q]
    · by_cases c2 : thn w = true
      · have q := A.t w c2
        simp only [if_neg c1, c2, if_true]
        have e1 : scan num nev thn up_ .head (lastD 0 h) h [] 0 h.length (w :: r1) = scan num nev thn up_ .loop (lastD 0 h) h [] 0 (h.length + 1) r1 := by
          conv => lhs; unfold scan
          rw [q]
          dsimp only
          rw [if_neg c1, if_pos c2]
        rw [e1, scan_loop]
        have st2 := climb_stops (num := num) r1 (lastD 0 h)
        generalize climbW num (lastD 0 h) r1 = l at st2 ⊢
        rw [List.nil_append]
        by_cases c3 : l = []
        · subst c3
          simp only [if_true]
          cases r1 with
          | nil => rfl
          | cons u r2 =>
            show (scan num nev thn up_ .loop _ h [] 0 _ (u :: r2)).1 = _
            conv => lhs; unfold scan
            cases qu : num u with
            | none =>
              dsimp only
              rw [if_neg (by simp)] <;> rfl
            | some v =>
              dsimp only
              have : v < lastD (lastD 0 h) [] := st2 u r2 rfl v qu
              rw [if_pos this] <;> rfl
        · rw [if_neg c3]
          generalize r1.drop l.length = rest2 at st2 ⊢
          cases rest2 with
          | nil => rfl
          | cons u r2 =>
            dsimp only
            by_cases c4 : up_ u = true
            · have qu := A.u u c4
              rw [if_pos c4]
              have e2 : scan num nev thn up_ .loop (lastD (lastD 0 h) l) h l 0 (h.length + 1 + l.length) (u :: r2) = scan num nev thn up_ .rise (lastD (lastD 0 h) l) h l 0 (h.length + 1 + l.length + 1) r2 := by
                conv => lhs; unfold scan
                rw [qu]
                dsimp only
                rw [if_pos ⟨c4, c3⟩]
              rw [e2]
              cases r2 with
              | nil => simp only [climbW, scan]
              | cons x y =>
                unfold climbW
                cases qx : num x with
                | none =>
                  dsimp only
                  unfold scan
                  rw [qx]
                | some v =>
                  dsimp only
                  by_cases c5 : v < l.getD (l.length - 1) 0 - l.getD 0 0
                  · rw [if_pos c5]
                    dsimp only
                    unfold scan
                    rw [qx]
                    dsimp only
                    rw [if_pos c5]
                  · rw [if_neg c5]
                    dsimp only
                    have e3 : scan num nev thn up_ .rise (lastD (lastD 0 h) l) h l 0 (h.length + 1 + l.length + 1) (x :: y) = scan num nev thn up_ .fin (lastD (lastD 0 h) l) h l v (h.length + 1 + l.length + 2) y := by
                      conv => lhs; unfold scan
                      rw [qx]
                      dsimp only
                      rw [if_neg c5]
                    rw [e3]
                    cases y with
                    | nil => simp [scan]
                    | cons y1 y2 => simp [scan]
            · rw [if_neg c4]
              dsimp only
              unfold scan
              cases qu : num u with
              | none =>
                dsimp only
                rw [if_neg (fun z => c4 z.1)]
              | some v =>
                dsimp only
                rw [if_pos (st2 u r2 rfl v qu)]
      · simp only [if_neg c1, if_neg c2]
        unfold scan
        cases q : num w with
        | none =>
          dsimp only
          rw [if_neg c1, if_neg c2]
        | some v =>
          dsimp only
          rw [if_pos (st w r1 rfl v q)]
theorem scan_head_s {w : α} {ws : List α} {m v r : Int} {h l : List Int} {k : Nat} (q : num w = some v) : scan num nev thn up_ .head m h l r k (w :: ws) = if v < m then (some k, h, l, r) else scan num nev thn up_ .head v (h ++ [v]) l r (k + 1) ws := by
  conv => lhs; unfold scan
  rw [q]
theorem scan_head_n {w : α} {ws : List α} {m r : Int} {h l : List Int} {k : Nat} (q : num w = none) : scan num nev thn up_ .head m h l r k (w :: ws) = if nev w = true then scan num nev thn up_ .fin m h l r (k + 1) ws else if thn w = true then scan num nev thn up_ .loop m h l r (k + 1) ws else (some k, h, l, r) := by
  conv => lhs; unfold scan
  rw [q]
theorem scan_loop_s {w : α} {ws : List α} {m v r : Int} {h l : List Int} {k : Nat} (q : num w = some v) : scan num nev thn up_ .loop m h l r k (w :: ws) = if v < m then (some k, h, l, r) else scan num nev thn up_ .loop v h (l ++ [v]) r (k + 1) ws := by
  conv => lhs; unfold scan
  rw [q]
theorem scan_loop_n {w : α} {ws : List α} {m r : Int} {h l : List Int} {k : Nat} (q : num w = none) : scan num nev thn up_ .loop m h l r k (w :: ws) = if up_ w = true ∧ l ≠ [] then scan num nev thn up_ .rise m h l r (k + 1) ws else (some k, h, l, r) := by
  conv => lhs; unfold scan
  rw [q]
theorem scan_rise_s {w : α} {ws : List α} {m v r : Int} {h l : List Int} {k : Nat} (q : num w = some v) : scan num nev thn up_ .rise m h l r k (w :: ws) = if v < l.getD (l.length - 1) 0 - l.getD 0 0 then (some k, h, l, r) else scan num nev thn up_ .fin m h l v (k + 1) ws := by
  conv => lhs; unfold scan
  rw [q]
theorem scan_rise_n {w : α} {ws : List α} {m r : Int} {h l : List Int} {k : Nat} (q : num w = none) : scan num nev thn up_ .rise m h l r k (w :: ws) = (some k, h, l, r) := by
  conv => lhs; unfold scan
  rw [q]
/-! ### what is read is a table -/
theorem climb_climbs : ∀ (ws : List α) (m : Int), climbs m (climbW num m ws)
  | [], _ => trivial
  | w :: ws, m => by
    unfold climbW
    cases q : num w with
    | none => trivial
    | some v =>
      dsimp only
      by_cases c : v < m
      · rw [if_pos c]; trivial
      · rw [if_neg c]
        exact ⟨by omega, climb_climbs ws v⟩
theorem climb_len : ∀ (ws : List α) (m : Int), (climbW num m ws).length ≤ ws.length
  | [], _ => Nat.le_refl _
  | w :: ws, m => by
    unfold climbW
    cases q : num w with
    | none => exact Nat.zero_le _
    | some v =>
      dsimp only
      by_cases c : v < m
      · rw [if_pos c]; exact Nat.zero_le _
      · rw [if_neg c]
        have := climb_len ws v
        simp only [List.length_cons]
        omega
theorem climbs_lowR : ∀ {l : List Int} {a b : Int}, a ≤ b → climbs b l → climbs a l
  | [], _, _, _, _ => trivial
  | x :: l, a, b, h, c => ⟨Int.le_trans h c.1, c.2⟩
theorem last_ge : ∀ {l : List Int} {m : Int}, climbs m l → m ≤ lastD m l
  | [], m, _ => by simp [lastD]
  | x :: l, m, c => by
    rw [lastD_cons]
    exact Int.le_trans c.1 (last_ge c.2)
theorem read_good {ws : List α} {h l : List Int} {r : Int} (e : readW num nev thn up_ ws = .ok h l r) : Good h l r ∧ h.length + l.length ≤ ws.length := by
  unfold readW at e
  dsimp only at e
  have c0 := climb_climbs (num := num) ws 0
  generalize climbW num 0 ws = h0 at c0 e
  split at e
  · cases e
  · rename_i w r1 hd
    have zr : r1.length + 1 + h0.length ≤ ws.length := by
      have := congrArg List.length hd
      rw [List.length_drop, List.length_cons] at this
      omega
    split at e
    · split at e
      · injection e with e1 e2 e3
        subst e1 e2 e3
        exact ⟨⟨c0, trivial, fun _ z => absurd rfl z, Int.le_refl _, fun _ => rfl, fun z => absurd rfl z⟩, by simp; omega⟩
      · cases e
    · split at e
      · have c1 := climb_climbs (num := num) r1 (lastD 0 h0)
        have z1 := climb_len (num := num) r1 (lastD 0 h0)
        generalize climbW num (lastD 0 h0) r1 = l0 at c1 z1 e
        split at e
        · cases e
        · rename_i hl
          split at e
          · cases e
          · rename_i u r2 hd2
            split at e
            · split at e
              · cases e
              · rename_i v tl hv
                split at e
                · cases e
                · injection e with e1 e2 e3
                  subst e1 e2 e3
                  have c2 := climb_climbs (num := num) r2 (l0.getD (l0.length - 1) 0 - l0.getD 0 0)
                  rw [hv] at c2
                  have hge := last_ge c0
                  have hp := len_pos hl
                  have hmono : ∀ i, i < l0.length → l0.getD 0 0 ≤ l0.getD i 0 := fun i hi => by
                    cases l0 with
                    | nil => exact absurd rfl hl
                    | cons a l =>
                      cases i with
                      | zero => exact Int.le_refl _
                      | succ i =>
                        have := climbs_lo (l := l) (lo := a) (i := i) c1.2 (by simpa using hi)
                        simpa using this
                  have hr : 0 ≤ v := by
                    have := hmono (l0.length - 1) (by omega)
                    have := c2.1
                    omega
                  refine ⟨⟨c0, climbs_lowR hge c1, fun hh _ => ?_, hr, fun z => absurd z hl, fun _ => ?_⟩, by omega⟩
                  · cases l0 with
                    | nil => exact absurd rfl hl
                    | cons a l =>
                      have := c1.1
                      unfold lastD at this
                      rw [if_neg hh] at this
                      simpa using this
                  · have := c2.1
                    omega
            · cases e
      · cases e
end
end NT
set_option Elab.async false
set_option linter.all false
set_option maxRecDepth 100000
set_option maxHeartbeats 4000000
/-! Texts: words that are numbers, a text times a number. -/
namespace NF
open PySem PySem.Spec PyProof.Rows L2 He RZ NT
theorem op_mul_str {X : Cx} : OpR X (binaryOp .Mult) (fun x y H Q => ∃ (z : Str) (n : Int), x = .str z ∧ y = .int n ∧ MulOk z n ∧ Q (.str (Txt.mul z n)) H) := by
  intro pins s σ H x y v u Q I rx ry h
  obtain ⟨z, n, rfl, rfl, hm, q⟩ := h
  obtain ⟨t, rfl⟩ := rx
  obtain ⟨t', rfl⟩ := ry
  exact SB.mul hm fun t' tk => ⟨.str _, H, I.tok _, ⟨_, rfl⟩, q⟩
/-- a figure -/
def dig (c : Nat) : Bool := decide (c ∈ ("0123456789" : Str).cps.toList)
theorem dig_iff (c : Nat) : dig c = true ↔ (48 ≤ c ∧ c ≤ 57) := by
  have e : ("0123456789" : Str).cps.toList = [48, 49, 50, 51, 52, 53, 54, 55, 56, 57] := by decide +kernel
  unfold dig
  rw [e, decide_eq_true_eq]
  simp only [List.mem_cons, List.not_mem_nil, or_false]
  omega
/-- is the word a number: 1 to 60 figures, no leading nought -/
def numOk (w : Str) : Bool := decide (1 ≤ w.length) && decide (w.length ≤ 60) && !(decide (1 < w.length) && decide (w.cps.toList.getD 0 0 = 48)) && w.cps.toList.all dig
def numW (w : Str) : Option Int := if numOk w = true then PySem.intText? w else none
theorem cps_len (w : Str) : w.cps.toList.length = w.length := Array.length_toList
theorem num_some {w : Str} (h : numOk w = true) : ∃ n : Nat, PySem.intText? w = some (n : Int) ∧ w.length ≤ 60 := by
  unfold numOk at h
  simp only [Bool.and_eq_true, decide_eq_true_eq] at h
  obtain ⟨⟨⟨h1, h2⟩, _⟩, h3⟩ := h
  have ha : PySem.NumText.AllDigits w.cps.toList := fun c hc => (dig_iff c).mp (List.all_eq_true.mp h3 c hc)
  have hn : w.cps.toList ≠ [] := fun z => by
    have := cps_len w
    rw [z] at this
    simp at this
    omega
  exact ⟨_, PySem.intText_digits ha hn (by omega), h2⟩
theorem numW_some {w : Str} (h : numOk w = true) : ∃ n : Nat, numW w = some (n : Int) ∧ PySem.intText? w = some (n : Int) ∧ w.length ≤ 60 := by
  obtain ⟨n, h1, h2⟩ := num_some h
  refine ⟨n, ?_, h1, h2⟩
  unfold numW
  rw [if_pos h, h1]
theorem numW_none {w : Str} (h : numOk w = false) : numW w = none := by
  unfold numW
  rw [if_neg (by rw [h]; decide)]
def isW (x : Str) (w : Str) : Bool := decide (w = x)
theorem apart : Apart numW (isW "never") (isW "then") (isW "up") := by
  constructor <;> intro w h <;> (have e := of_decide_eq_true h; subst e; exact numW_none (by decide +kernel))
theorem nil_of_len {w : Str} (h : w.length = 0) : numOk w = false := by
  unfold numOk
  rw [decide_eq_false (by omega)]
  rfl
end NF
set_option Elab.async false
set_option linter.all false
set_option maxRecDepth 100000
set_option maxHeartbeats 4000000
namespace K29
open PySem PySem.Spec PyProof.Rows L2 He NF RZ NT
theorem sline {z : Str} (h : z.length ≤ 100000) : z.length ≤ sizeLine := Nat.le_trans h (by decide)
def letB (c : Nat) : Bool := decide (c ∈ ("abcdefghijklmnopqrstuvwxyz" : Str).cps.toList)
/-- a word of up to n letters -/
def wordB (n : Nat) (z : Str) : Bool := (decide (1 ≤ z.length) && decide (z.length ≤ n)) && z.cps.toList.all letB
def spWord : Sp := fun vs H Q _ => ∃ z, ∃ n : Nat, vs = [.str z, .int (n : Int)] ∧ z.length ≤ 100000 ∧ n ≤ 1000 ∧ ∀ H', Same H H' → Q (.bl (wordB n z)) H'
def spName : Sp := fun vs H Q _ => ∃ z, vs = [.str z] ∧ z.length ≤ 100000 ∧ ∀ H', Same H H' → Q (.bl (wordB 8 z)) H'
def spUnk : Sp := fun vs H Q _ => ∃ z, vs = [.str z] ∧ z.length ≤ 100000 ∧ ∀ H', Same H H' → Q (.bl (wordB 2 z)) H'
theorem sc_is_word : FnScope ["thing", "longest", "sign"] ["thing", "longest"] (defScope s_is_word) := ⟨rfl, rfl, rfl, by decide +kernel, rfl, by decide +kernel, by decide +kernel⟩
theorem sc_is_row_name : FnScope ["thing"] ["thing"] (defScope s_is_row_name) := ⟨rfl, rfl, rfl, by decide +kernel, rfl, by decide +kernel, by decide +kernel⟩
theorem sc_is_unknown : FnScope ["thing"] ["thing"] (defScope s_is_unknown) := ⟨rfl, rfl, rfl, by decide +kernel, rfl, by decide +kernel, by decide +kernel⟩
section
variable {P : Program} {w : World} {K : PySem.W.Frag} {mg : Str → Option Value} {base : Heap} {gs fs : List Str} {C : Addr} {tok : Tok}
theorem ok_is_word {f : Addr} {fd : FuncData} (F : FunD K "is_word" "is_word" (defArgs s_is_word) (defBody s_is_word) (defScope s_is_word) [] [] f fd) (T : Txt K mg gs FS) (h_LETTERS : mg "LETTERS" = some (.str "abcdefghijklmnopqrstuvwxyz" tok)) : FnOk P w K mg base CX0 1 f fd ["thing", "longest"] spWord := by
  refine F.ok sc_is_word (fun vs H Q E h => ?_) (fun cdv A outer s H vs Q E hr h => ?_)
  · obtain ⟨z, n, rfl, _⟩ := h
    rfl
  · obtain ⟨z, n, rfl, hz, hn, q⟩ := h
    have hz := sline hz
    refine ⟨_, PSs.nox (pss_cons (ps_if (PW.pt (pw_or (pt_not (pt_val (pe_callB call_isi rfl (T.fr _ (by decide +kernel)) (by decide +kernel) (pa_cons (pv 0) (pa_cons (pe_bltn (v := .ty "str") rfl (T.fr _ (by decide +kernel)) (by decide +kernel) rfl) pa_nil))))) (pw_or1 (pt_not (pt_chain op_le op_le pe_int (pe_callB call_len_str rfl (T.fr _ (by decide +kernel)) boot_len (pa_cons (pv 0) pa_nil)) (pv 1)))))) (pss_one (ps_ret pe_bl)) pss_nil) (pss_one (ps_ret (pe_callB (cr_all rfl) rfl (T.fr _ (by decide +kernel)) (by decide +kernel) (pa_cons (pe_lc (own := [("sign", 2)]) rfl sc_is_word.nd (pi_str (pv 0)) (blkOk_by (N := ["thing", "longest", "sign"]) (sc := defScope s_is_word) (by decide +kernel)) (fun _ _ _ _ _ => by exact (pg_name (i := 2) sc_is_word.nd rfl (Or.inl rfl))) (fun _ _ _ _ _ => by exact pts_nil) (fun _ _ _ _ _ => by exact (pe_cmpR op_in_sign (pv 2) (pe_glob (v := .str "abcdefghijklmnopqrstuvwxyz") rfl h_LETTERS ⟨_, rfl⟩) rfl))) pa_nil))))), ?_⟩
    refine ⟨_, rfl, _, _, _, _, true, rfl, .ty "str", .base (.str _), kit_s_s K, true, rfl, iteF ?_⟩
    refine ⟨_, rfl, z, rfl, hz, ?_⟩
    have fin : ∀ G b, Same H G → wordB n z = b → Q (.bl b) G := fun G b sG e => by
      rw [← e]
      exact q G sG
    refine ⟨_, _, rfl, rfl, _, rfl, ?_⟩
    by_cases c1 : 1 ≤ z.length
    rotate_left
    · rw [show decide ((1 : Int) ≤ (z.length : Int)) = false from decide_eq_false (by omega)]
      refine iteF ⟨_, rfl, iteT (fin H false (Same.refl _) ?_)⟩
      unfold wordB
      rw [decide_eq_false c1]
      rfl
    rw [show decide ((1 : Int) ≤ (z.length : Int)) = true from decide_eq_true (by omega)]
    refine iteT ⟨_, rfl, _, _, rfl, rfl, _, rfl, ?_⟩
    by_cases c2 : z.length ≤ n
    rotate_left
    · rw [show decide ((z.length : Int) ≤ (n : Int)) = false from decide_eq_false (by omega)]
      refine iteT (fin H false (Same.refl _) ?_)
      unfold wordB
      rw [decide_eq_false c2, Bool.and_false]
      rfl
    rw [show decide ((z.length : Int) ≤ (n : Int)) = true from decide_eq_true (by omega)]
    refine iteF ?_
    refine ⟨_, rfl, z, rfl, fun D hD => ?_⟩
    refine lc_it walk_str (fun i G => Same H G ∧ G D = some (.lst (((z.cps.toList.take i).map letB).map V.bl))) ⟨NF.Same.new (Same.refl H) hD, upd_same⟩ (fun i G _ z => trivial) ?_ ?_
    · rintro i x G G' hi ⟨sG, hG⟩ ⟨rfl, c, hc, rfl⟩
      have hi' : i < z.cps.toList.length := by rw [Array.length_toList]; exact hi
      have ec : z.cps.toList[i]? = some c := by rw [Array.getElem?_toList]; exact hc
      refine ⟨rfl, _, rfl, c, _, rfl, rfl, ?_⟩
      refine ⟨_, hG, by
        rw [List.length_map, List.length_map, List.length_take]
        have : z.cps.toList.length = z.length := Array.length_toList
        exact Nat.lt_of_lt_of_le (show min i z.cps.toList.length < 1001 by omega) (by decide), NF.Same.mut sG hD, ?_⟩
      rw [upd_same, take_snoc ec, List.map_append, List.map_append]
      rfl
    · rintro G ⟨sG, hG⟩
      refine ⟨D, _, rfl, SqL.of hG, ?_⟩
      rw [List.all_map]
      have et : z.cps.toList.take z.cps.size = z.cps.toList := by
        rw [← Array.length_toList]; exact List.take_length
      refine fin G _ sG ?_
      unfold wordB
      rw [decide_eq_true c1, decide_eq_true c2]
      show z.cps.toList.all letB = _
      rw [et]
      rfl
theorem ok_is_row_name {f : Addr} {fd : FuncData} {tok : Tok} (F : FunD K "is_row_name" "is_row_name" (defArgs s_is_row_name) (defBody s_is_row_name) (defScope s_is_row_name) [] [] f fd) (T : Txt K mg gs FS) (h_LONGEST_NAME : mg "LONGEST_NAME" = some (.int 8 tok)) (c_is_word : Cal P w K mg base 1 "is_word" spWord) : FnOk P w K mg base CX0 2 f fd ["thing"] spName := by
  refine F.ok sc_is_row_name (fun vs H Q E h => ?_) (fun cdv A outer s H vs Q E hr h => ?_)
  · obtain ⟨z, rfl, _⟩ := h
    rfl
  · obtain ⟨z, rfl, hz, q⟩ := h
    refine ⟨_, PSs.nox (pss_one (ps_ret (pe_c c_is_word hr (by decide) rfl (pa_cons (pv 0) (pa_cons (pe_glob (v := .int 8) rfl h_LONGEST_NAME ⟨_, rfl⟩) pa_nil))))), ?_⟩
    exact ⟨_, rfl, z, 8, rfl, hz, by decide, q⟩
theorem ok_is_unknown {f : Addr} {fd : FuncData} {tok : Tok} (F : FunD K "is_unknown" "is_unknown" (defArgs s_is_unknown) (defBody s_is_unknown) (defScope s_is_unknown) [] [] f fd) (T : Txt K mg gs FS) (h_LONGEST_UNKNOWN : mg "LONGEST_UNKNOWN" = some (.int 2 tok)) (c_is_word : Cal P w K mg base 1 "is_word" spWord) : FnOk P w K mg base CX0 2 f fd ["thing"] spUnk := by
  refine F.ok sc_is_unknown (fun vs H Q E h => ?_) (fun cdv A outer s H vs Q E hr h => ?_)
  · obtain ⟨z, rfl, _⟩ := h
    rfl
  · obtain ⟨z, rfl, hz, q⟩ := h
    refine ⟨_, PSs.nox (pss_one (ps_ret (pe_c c_is_word hr (by decide) rfl (pa_cons (pv 0) (pa_cons (pe_glob (v := .int 2) rfl h_LONGEST_UNKNOWN ⟨_, rfl⟩) pa_nil))))), ?_⟩
    exact ⟨_, rfl, z, 2, rfl, hz, by decide, q⟩
end
end K29
set_option Elab.async false
set_option linter.all false
set_option maxRecDepth 100000
set_option maxHeartbeats 4000000
/-! enumerate(xs, start=k) of a list. -/
namespace NF
open PySem PySem.Spec PyProof.Rows L2 He RZ
section
variable {M : Model} {A : Around} {E : Value → Shared → Prop} {s : Shared} {env : Env}
theorem callWith_typeK {pos : Pos} {T : String} {first : List Value} {args : List (Bool × Sem Value)} {keywords : List (Option Str × Sem Value)} {Q : Value → Shared → Prop}
    (hplain : args.any (·.1) = false) (hkw : keywords.any (·.1.isNone) = false)
    (h : wpAny M A (evalArgs (.type T) true args keywords) (fun a s₁ => wpAny M A (call (.type T) (first ++ a.pos) a.kw) Q E s₁) E s) :
    wpAny M A (callWith pos (.type T) first args keywords) Q E s := by
  unfold callWith
  refine wpAny_bind (wpAny_holding (wpAny_mono h (fun a s₁ h₁ => wpAny_bind (wpAny_standAt ?_)) fun _ _ x => x))
  simp only [hplain, hkw, Bool.or_false]
  refine wpAny_bind (wpAny_pure ?_)
  exact wpAny_bind (wpAny_mono h₁ (fun r s₂ hr => wpAny_bind (wpAny_holding (wpAny_point (wpAny_pure hr)))) fun _ _ x => x)
theorem callWith_kwT {pos : Pos} {T : String} {e : Expr} {rest : List Expr} {kws : List Keyword} {Q : Value → Shared → Prop}
    (h : wpAny M A (spliced (backTo pos (starEach (e :: rest) env))) (fun vs s₁ => wpAny M A (evalAll ((backToKw pos (keywordEach kws env)).map (·.2)))
      (fun kvs s₂ => wpAny M A (call (.type T) vs (((backToKw pos (keywordEach kws env)).filterMap (·.1)).zip kvs)) Q E s₂) E s₁) E s)
    (he : backTo pos (starEach (e :: rest) env) = (false, eval e env) :: backTo pos (starEach rest env) := by rfl)
    (hplain : (backTo pos (starEach (e :: rest) env)).any (·.1) = false := by rfl)
    (hall : (backToKw pos (keywordEach kws env)).all (·.1.isSome) = true := by rfl)
    (hkw : (backToKw pos (keywordEach kws env)).any (·.1.isNone) = false := by rfl) :
    wpAny M A (callWith pos (.type T) [] (backTo pos (starEach (e :: rest) env)) (backToKw pos (keywordEach kws env))) Q E s := by
  refine callWith_typeK hplain hkw ?_
  rw [he] at h ⊢
  exact evalArgs_kwB hall h
end
/-- the list at a as it stands at each turn, each item in a new pair behind its number, from k on -/
def Its (K : PySem.W.Frag) (k : Int) (a : Addr) : It :=
  ⟨fun i H => ∃ (xs : List V) (x : V), SqL K H a xs ∧ xs[i]? = some x, fun i H v H' => ∃ T x, v = .ref T ∧ H T = none ∧ H' = upd H T (.tup [.int (k + (i : Nat)), x]) ∧ ∀ xs, SqL K H a xs → xs[i]? = some x, fun i H => ∃ xs : List V, SqL K H a xs ∧ xs.length = i⟩
theorem turn_enumS {P : Program} {w : World} {K : PySem.W.Frag} {elts : List Expr} {kk : Nat} {tpos : Pos} {k : Int} (a e it : Addr) (hne : e ≠ it) (hae : e ≠ a) (hai : a ≠ it) :
    Turn P w K (.Tuple elts kk tpos) (Its K k a) [e, it] e (fun i h => (∃ old, IsEnum h e it (k + (i : Nat)) old) ∧ h.IsListIter it a i) where
  mem := by simp
  obj := fun i h st b hb => by
    obtain ⟨⟨old, he⟩, ⟨o, ho, hc, hd⟩⟩ := st
    have e' : b = e ∨ b = it := by simpa using hb
    rcases e' with z | z
    · rw [z]; exact ⟨_, he, fun v q => nomatch q⟩
    · rw [z]; exact ⟨o, ho, fun v q => by rw [hd] at q; cases q⟩
  keep := fun i h h' st k => let ⟨⟨old, he⟩, hi⟩ := st; ⟨⟨old, k e (by simp) _ he⟩, hi.at fun o q => k it (by simp) o q⟩
  item := by
    intro X hP hw hK hc i pins s σ H E I hf st hg
    subst hP hw hK
    obtain ⟨⟨old, he⟩, hit⟩ := st
    obtain ⟨xs, x, hq, hx⟩ := hg
    obtain ⟨its, rv, p, hz⟩ := I.list hq
    obtain ⟨u, hu, ru⟩ := rv.get hx
    have hel : e < s.heap.objs.size := Heap.lt_size he
    have hil : it < s.heap.objs.size := by obtain ⟨_, q, _⟩ := hit; exact Heap.lt_size q
    have li : i < its.toArray.size := by
      have := (List.getElem?_eq_some_iff.mp hu).1
      simpa using this
    have hd : X.A.in1.handled = none := I.ok.hd hc
    refine wpAny_pyNext_enum_itemC (i := i) (Draws.list hd it a hai its.toArray) he ⟨hit, p.isList⟩ li hne (by simp [hne, hae]) fun x' h' tk hP ho st2 hT hsz hk => ?_
    obtain rfl : u = x' := by
      have : its[i]? = some x' := by simpa using hP
      exact Option.some.inj (hu.symm.trans this)
    refine ⟨_, rfl, wpAny_letOwnedTupleGo_enum (s := { s with heap := h', toks := tk + 1 }) ho fun h'' he' sb => ?_⟩
    have hT2 : h''.get? s.heap.objs.size = some { cls := .type "tuple", data := .seq #[.int (k + (i : Nat)) tk, u] } := (sb.2 _ (Nat.ne_of_gt hel)).trans hT
    have new : ObjOk X.prog X.w (upd H s.heap.objs.size (.tup [.int (k + (i : Nat)), x])) h'' s.heap.objs.size (.tup [.int (k + (i : Nat)), x]) :=
      ⟨by show 2 ≤ sizeLine; decide, [.int (k + (i : Nat)) tk, u], .cons ⟨_, rfl⟩ (.cons ru .nil), ⟨_, hT2, rfl, _, rfl⟩⟩
    have I1 : Inv X pins σ (upd H s.heap.objs.size (.tup [.int (k + (i : Nat)), x])) { s with heap := h'', toks := tk + 1 } :=
      I.turnedNew (ch := [e, it]) (fun b ob hb q => (sb.2 b (fun z => hb (by simp [z]))).trans (hk b ob (fun z => hb (by simp [z])) (fun z => hb (by simp [z])) q)) hf (Nat.le_refl _) new
    refine ⟨.ref s.heap.objs.size, _, I1, rfl, ⟨_, x, rfl, I.hok.fresh (Nat.le_refl _), rfl, fun ys hy => by rw [I.list_inj hy hq]; exact hx⟩, ⟨⟨u, ?_⟩, st2.1.at fun o q => (sb.2 it (Ne.symm hne)).trans q⟩, fun b hb => ?_⟩
    · have e1 : k + ((i + 1 : Nat) : Int) = k + (i : Int) + 1 := by omega
      rw [e1]; exact he'
    · have hb' : b < s.heap.objs.size := by
        have e' : b = e ∨ b = it := by simpa using hb
        rcases e' with z | z
        · rw [z]; exact hel
        · rw [z]; exact hil
      rw [upd_ne (Nat.ne_of_lt hb')]
      exact (hf b hb).1
  done := by
    intro X hP hw hK hc i pins s σ H E I hf st hg
    subst hP hw hK
    obtain ⟨⟨old, he⟩, hit⟩ := st
    obtain ⟨xs, hq, hx⟩ := hg
    obtain ⟨its, rv, p, hz⟩ := I.list hq
    obtain ⟨f0, f1, f2, f3, f4, f5⟩ := hf it (by simp)
    have hl := rv.length
    have hd : X.A.in1.handled = none := I.ok.hd hc
    have en : its.toArray.size = i := by simp; omega
    subst en
    exact wpAny_pyNext_enum_endD (Draws.list hd it a hai its.toArray) he ⟨hit, p.isList⟩ fun h' eb => ⟨rfl, I.turned (t' := s.toks) (fun b o hb q => eb b o hb q) f0 f1 f3 f4 f5⟩
  self := fun A i s Q E st h => let ⟨⟨_, he⟩, _⟩ := st; wpAny_pyIter_enum he h
def iEnumS (K : PySem.W.Frag) (ta tk : TA) : TI := fun σ H R => ta σ H fun vs H1 => tk σ H1 fun zs H2 => ∃ a xs k, vs = [.ref a] ∧ zs = [.int k] ∧ 0 ≤ k ∧ k < 1000000 ∧ SqL K H2 a xs ∧ R (Its K k a) H2
theorem pi_enumS {X : Cx} {e : Expr} {ta tk : TA} {p pos tpos : Pos} {elts : List Expr} {kk : Nat} {kws : List Keyword} (hg : Gl X "enumerate") (hm : X.mg "enumerate" = none) (ha : PA X [e] ta) (hk : PK X kws tk)
    (he : backTo pos (starEach [e] X.env) = (false, eval e X.env) :: backTo pos (starEach [] X.env) := by rfl) (hpl : (backTo pos (starEach [e] X.env)).any (·.1) = false := by rfl)
    (hall : (backToKw pos (keywordEach kws X.env)).all (·.1.isSome) = true := by rfl) (hnone : (backToKw pos (keywordEach kws X.env)).any (·.1.isNone) = false := by rfl) (hks : (backToKw pos (keywordEach kws X.env)).filterMap (·.1) = [Str.ofString "start"] := by rfl) :
    PI X (.Tuple elts kk tpos) (.Call (.Name "enumerate" p) [e] kws pos) (iEnumS X.K ta tk) := by
  refine ⟨fun pins s σ H R I h => ?_⟩
  refine wpAny_Call_Name_kw (ld_blt I hg hm boot_enumerate ?_)
  refine callWith_kwT (thn (ha.run pos pins s σ H _ I h) fun us s1 ⟨vs, H1, I1, r1, q1⟩ => thn (hk.run pos pins s1 σ H1 _ I1 q1) fun ws s2 ⟨zs, H2, I2, r2, a, xs, k, ex, ez, k0, k1, hq, q⟩ => ?_) he hpl hall hnone
  rw [hks]
  subst ex ez
  obtain rfl := Vals.ref1 r1
  obtain ⟨w1, rfl, t, rfl⟩ : ∃ w1, ws = [w1] ∧ ∃ t, w1 = Value.int k t := by
    cases r2 with
    | cons r rr =>
      cases rr
      obtain ⟨t, e⟩ := r
      exact ⟨_, rfl, t, e⟩
  obtain ⟨its, rv, p', hz⟩ := I2.list hq
  show wpAny _ _ (call (.type "enumerate") [.ref a] [(Str.ofString "start", .int k t)]) _ _ s2
  refine enum_begins_start (begins_list a its.toArray) p'.isList (by omega) (by omega) fun h' he' hit hsz hkp => wpAny_pyIter_enum he' ?_
  have I3 : Inv X pins σ H2 { s2 with heap := h' } := I2.kept (t' := s2.toks) hkp
  have la : a < s2.heap.objs.size := p'.lt
  refine ⟨s2.heap.objs.size + 1, [s2.heap.objs.size + 1, s2.heap.objs.size], _, _, H2, rfl, I3, turn_enumS (k := k) a (s2.heap.objs.size + 1) s2.heap.objs.size (Nat.succ_ne_self _) (Nat.ne_of_gt (Nat.lt_succ_of_lt la)) (Nat.ne_of_lt la), ⟨⟨.none, by rw [Int.ofNat_zero, Int.add_zero]; exact he'⟩, ⟨_, hit, rfl, rfl⟩⟩, fun b hb => ?_, q⟩
  have e' : b = s2.heap.objs.size + 1 ∨ b = s2.heap.objs.size := by simpa using hb
  have hle : s2.heap.objs.size ≤ b := by
    rcases e' with z | z
    · rw [z]; exact Nat.le_add_right _ _
    · rw [z]; exact Nat.le_refl _
  exact I2.fpOk hle (I2.hok.fresh hle)
theorem walk_enumS {K : PySem.W.Frag} {k : Int} {a : Addr} {xs : List V} : Walk (Its K k a) xs.length (fun H => SqL K H a xs) (YPair (fun i => some (.int (k + (i : Nat)))) (fun i => xs[i]?)) := by
  refine ⟨fun i _ hi q => ⟨xs, xs[i], q, by simp [hi]⟩, fun _ q => ⟨xs, q, rfl⟩, fun i H v H' _ q y => ?_⟩
  obtain ⟨T, x, h1, h2, h3, h4⟩ := y
  exact ⟨T, .int (k + (i : Nat)), x, h1, h2, h3, rfl, h4 xs q⟩
end NF
set_option Elab.async false
set_option linter.all false
set_option maxRecDepth 100000
set_option maxHeartbeats 4000000
/-! enumerate(t) and enumerate(t, start=k) of a tuple. -/
namespace NF
open PySem PySem.Spec PyProof.Rows L2 He RZ
theorem meets_enum1 {v : Value} {o : Obj} {H : Heap → Prop} (B : Begins v o H) :
    Meets (Builtin.«enumerate.__new__» ⟨[.type "enumerate", v], []⟩) (fun _ R s => H s.heap ∧
      R (.ok (.ret (.ref (s.heap.push o).objs.size))) { s with heap := (s.heap.push o).push { cls := .type "enumerate", data := .fields #[.none, .bool false, .ref s.heap.objs.size, rawInt 0, .none, .none] } }) :=
  .of_wp fun prog w A R s h => by
    obtain ⟨hp, g, d, tk, os⟩ := s
    obtain ⟨h1, h⟩ := h
    have hsub := sub_enumerate
    have q1 : ∀ {A' : Around} {E : Value → Shared → Prop} {Q : Value → Shared → Prop}, Q (.ref hp.objs.size) ⟨hp.push o, g, d, tk, os⟩ → wpAny (model prog w) A' (pyIter v) Q E ⟨hp, g, d, tk, os⟩ :=
      fun q => B.iter prog w _ _ ⟨hp, g, d, tk, os⟩ _ h1 q
    wp_walk using q1
    refine wpAny_stack_any fun st => wpAny_pure ?_
    split
    · rename_i c _ _ _ _ _
      cases (c == Value.type "enumerate")
      · wp_walk using q1
        exact ⟨_, rfl, h⟩
      · wp_walk using q1
        exact ⟨_, rfl, h⟩
    · wp_walk using q1
      exact ⟨_, rfl, h⟩
section
variable {prog : Program} {w : World} {A : Around} {E : Value → Shared → Prop} {s : Shared}
theorem enum_begins1 {v : Value} {o : Obj} {H : Heap → Prop} {Q : Value → Shared → Prop} (B : Begins v o H) (h1 : H s.heap)
    (h : ∀ h', IsEnum h' (s.heap.objs.size + 1) s.heap.objs.size 0 .none → h'.get? s.heap.objs.size = some o → h'.objs.size = s.heap.objs.size + 2 →
      (∀ b o, s.heap.get? b = some o → h'.get? b = some o) → Q (.ref (s.heap.objs.size + 1)) { s with heap := h' }) :
    wpAny (model prog w) A (call (.type "enumerate") [v]) Q E s := by
  refine callType_new F.called_enumerate (by decide) (F.typeCall_enumerate_1 _) (F.newCall_enumerate_1 _) (fun obj => F.args_object_init_2 obj _) F.entry_enumerate_new
    (meets_enum1 B) ⟨h1, ?_⟩
  have hz : (s.heap.push o).objs.size = s.heap.objs.size + 1 := Heap.size_push ..
  show _ ∧ _
  rw [hz]
  have he : IsEnum ((s.heap.push o).push { cls := .type "enumerate", data := .fields #[.none, .bool false, .ref s.heap.objs.size, rawInt 0, .none, .none] }) (s.heap.objs.size + 1) s.heap.objs.size 0 .none := by
    have := Heap.get?_push_size (s.heap.push o) (o := { cls := .type "enumerate", data := .fields #[.none, .bool false, .ref s.heap.objs.size, rawInt 0, .none, .none] }) rfl
    rw [hz] at this; exact this
  exact ⟨⟨_, he, rfl⟩, h _ he (Heap.get?_push_of_some _ (Heap.get?_push_size _ B.free)) (by rw [Heap.size_push, hz]) fun b o x => Heap.get?_push_of_some _ (Heap.get?_push_of_some _ x)⟩
end
/-- the tuple at a, each item in a new pair behind its number, from k on -/
def Itst (K : PySem.W.Frag) (k : Int) (a : Addr) : It :=
  ⟨fun i H => ∃ (xs : List V) (x : V), SqT K H a xs ∧ xs[i]? = some x, fun i H v H' => ∃ T x, v = .ref T ∧ H T = none ∧ H' = upd H T (.tup [.int (k + (i : Nat)), x]) ∧ ∀ xs, SqT K H a xs → xs[i]? = some x, fun i H => ∃ xs : List V, SqT K H a xs ∧ xs.length = i⟩
theorem turn_enumT {P : Program} {w : World} {K : PySem.W.Frag} {elts : List Expr} {kk : Nat} {tpos : Pos} {k : Int} (a e it : Addr) (hne : e ≠ it) (hae : e ≠ a) (hai : a ≠ it) :
    Turn P w K (.Tuple elts kk tpos) (Itst K k a) [e, it] e (fun i h => (∃ old, IsEnum h e it (k + (i : Nat)) old) ∧ h.IsTupleIter it a i) where
  mem := by simp
  obj := fun i h st b hb => by
    obtain ⟨⟨old, he⟩, ⟨o, ho, hc, hd⟩⟩ := st
    have e' : b = e ∨ b = it := by simpa using hb
    rcases e' with z | z
    · rw [z]; exact ⟨_, he, fun v q => nomatch q⟩
    · rw [z]; exact ⟨o, ho, fun v q => by rw [hd] at q; cases q⟩
  keep := fun i h h' st k => let ⟨⟨old, he⟩, hi⟩ := st; ⟨⟨old, k e (by simp) _ he⟩, hi.at fun o q => k it (by simp) o q⟩
  item := by
    intro X hP hw hK hc i pins s σ H E I hf st hg
    subst hP hw hK
    obtain ⟨⟨old, he⟩, hit⟩ := st
    obtain ⟨xs, x, hq, hx⟩ := hg
    obtain ⟨its, rv, p, hz⟩ := I.tuple hq
    obtain ⟨u, hu, ru⟩ := rv.get hx
    have hel : e < s.heap.objs.size := Heap.lt_size he
    have hil : it < s.heap.objs.size := by obtain ⟨_, q, _⟩ := hit; exact Heap.lt_size q
    have li : i < its.toArray.size := by
      have := (List.getElem?_eq_some_iff.mp hu).1
      simpa using this
    have hd : X.A.in1.handled = none := I.ok.hd hc
    refine wpAny_pyNext_enum_itemC (i := i) (Draws.tuple hd it a hai its.toArray) he ⟨hit, p⟩ li hne (by simp [hne, hae]) fun x' h' tk hP ho st2 hT hsz hk => ?_
    obtain rfl : u = x' := by
      have : its[i]? = some x' := by simpa using hP
      exact Option.some.inj (hu.symm.trans this)
    refine ⟨_, rfl, wpAny_letOwnedTupleGo_enum (s := { s with heap := h', toks := tk + 1 }) ho fun h'' he' sb => ?_⟩
    have hT2 : h''.get? s.heap.objs.size = some { cls := .type "tuple", data := .seq #[.int (k + (i : Nat)) tk, u] } := (sb.2 _ (Nat.ne_of_gt hel)).trans hT
    have new : ObjOk X.prog X.w (upd H s.heap.objs.size (.tup [.int (k + (i : Nat)), x])) h'' s.heap.objs.size (.tup [.int (k + (i : Nat)), x]) :=
      ⟨by show 2 ≤ sizeLine; decide, [.int (k + (i : Nat)) tk, u], .cons ⟨_, rfl⟩ (.cons ru .nil), ⟨_, hT2, rfl, _, rfl⟩⟩
    have I1 : Inv X pins σ (upd H s.heap.objs.size (.tup [.int (k + (i : Nat)), x])) { s with heap := h'', toks := tk + 1 } :=
      I.turnedNew (ch := [e, it]) (fun b ob hb q => (sb.2 b (fun z => hb (by simp [z]))).trans (hk b ob (fun z => hb (by simp [z])) (fun z => hb (by simp [z])) q)) hf (Nat.le_refl _) new
    refine ⟨.ref s.heap.objs.size, _, I1, rfl, ⟨_, x, rfl, I.hok.fresh (Nat.le_refl _), rfl, fun ys hy => by rw [I.tuple_inj hy hq]; exact hx⟩, ⟨⟨u, ?_⟩, st2.1.at fun o q => (sb.2 it (Ne.symm hne)).trans q⟩, fun b hb => ?_⟩
    · have e1 : k + ((i + 1 : Nat) : Int) = k + (i : Int) + 1 := by omega
      rw [e1]; exact he'
    · have hb' : b < s.heap.objs.size := by
        have e' : b = e ∨ b = it := by simpa using hb
        rcases e' with z | z
        · rw [z]; exact hel
        · rw [z]; exact hil
      rw [upd_ne (Nat.ne_of_lt hb')]
      exact (hf b hb).1
  done := by
    intro X hP hw hK hc i pins s σ H E I hf st hg
    subst hP hw hK
    obtain ⟨⟨old, he⟩, hit⟩ := st
    obtain ⟨xs, hq, hx⟩ := hg
    obtain ⟨its, rv, p, hz⟩ := I.tuple hq
    obtain ⟨f0, f1, f2, f3, f4, f5⟩ := hf it (by simp)
    have hl := rv.length
    have hd : X.A.in1.handled = none := I.ok.hd hc
    have en : its.toArray.size = i := by simp; omega
    subst en
    exact wpAny_pyNext_enum_endD (Draws.tuple hd it a hai its.toArray) he ⟨hit, p⟩ fun h' eb => ⟨rfl, I.turned (t' := s.toks) (fun b o hb q => eb b o hb q) f0 f1 f3 f4 f5⟩
  self := fun A i s Q E st h => let ⟨⟨_, he⟩, _⟩ := st; wpAny_pyIter_enum he h
def iEnumT (K : PySem.W.Frag) (ta : TA) : TI := fun σ H R => ta σ H fun vs H1 => ∃ a xs, vs = [.ref a] ∧ SqT K H1 a xs ∧ R (Itst K 0 a) H1
theorem pi_enumT {X : Cx} {e : Expr} {ta : TA} {p pos tpos : Pos} {elts : List Expr} {kk : Nat} (hg : Gl X "enumerate") (hm : X.mg "enumerate" = none) (ha : PA X [e] ta) (hs : starEach [e] X.env = [(false, eval e X.env)] := by rfl) :
    PI X (.Tuple elts kk tpos) (.Call (.Name "enumerate" p) [e] [] pos) (iEnumT X.K ta) := by
  refine ⟨fun pins s σ H R I h => ?_⟩
  refine Call_ (ld_blt I hg hm boot_enumerate (PyProof.Rows.callWith_type1 (thn (ha.run pos pins s σ H _ I h) fun us s1 ⟨vs, H1, I1, r1, q1⟩ => ?_) hs rfl))
  obtain ⟨a, xs, ex, hq, q⟩ := q1
  subst ex
  cases r1 with
  | cons r rr =>
    cases rr
    cases r
    obtain ⟨its, rv, p', hz⟩ := I1.tuple hq
    have la : a < s1.heap.objs.size := by
      obtain ⟨_, z, _⟩ := id p'
      exact Heap.lt_size z
    refine enum_begins1 (begins_tuple a its.toArray) p' fun h' he hit hsz hk => wpAny_pyIter_enum he ?_
    have I2 : Inv X pins σ H1 { s1 with heap := h' } := I1.kept (t' := s1.toks) hk
    refine ⟨s1.heap.objs.size + 1, [s1.heap.objs.size + 1, s1.heap.objs.size], _, _, H1, rfl, I2, turn_enumT (k := 0) a (s1.heap.objs.size + 1) s1.heap.objs.size (Nat.succ_ne_self _) (Nat.ne_of_gt (Nat.lt_succ_of_lt la)) (Nat.ne_of_lt la), ⟨⟨.none, he⟩, ⟨_, hit, rfl, rfl⟩⟩, fun b hb => ?_, q⟩
    have e' : b = s1.heap.objs.size + 1 ∨ b = s1.heap.objs.size := by simpa using hb
    have hle : s1.heap.objs.size ≤ b := by
      rcases e' with z | z
      · rw [z]; exact Nat.le_add_right _ _
      · rw [z]; exact Nat.le_refl _
    exact I1.fpOk hle (I1.hok.fresh hle)
def iEnumST (K : PySem.W.Frag) (ta tk : TA) : TI := fun σ H R => ta σ H fun vs H1 => tk σ H1 fun zs H2 => ∃ a xs k, vs = [.ref a] ∧ zs = [.int k] ∧ 0 ≤ k ∧ k < 1000000 ∧ SqT K H2 a xs ∧ R (Itst K k a) H2
theorem pi_enumST {X : Cx} {e : Expr} {ta tk : TA} {p pos tpos : Pos} {elts : List Expr} {kk : Nat} {kws : List Keyword} (hg : Gl X "enumerate") (hm : X.mg "enumerate" = none) (ha : PA X [e] ta) (hk : PK X kws tk)
    (he : backTo pos (starEach [e] X.env) = (false, eval e X.env) :: backTo pos (starEach [] X.env) := by rfl) (hpl : (backTo pos (starEach [e] X.env)).any (·.1) = false := by rfl)
    (hall : (backToKw pos (keywordEach kws X.env)).all (·.1.isSome) = true := by rfl) (hnone : (backToKw pos (keywordEach kws X.env)).any (·.1.isNone) = false := by rfl) (hks : (backToKw pos (keywordEach kws X.env)).filterMap (·.1) = [Str.ofString "start"] := by rfl) :
    PI X (.Tuple elts kk tpos) (.Call (.Name "enumerate" p) [e] kws pos) (iEnumST X.K ta tk) := by
  refine ⟨fun pins s σ H R I h => ?_⟩
  refine wpAny_Call_Name_kw (ld_blt I hg hm boot_enumerate ?_)
  refine callWith_kwT (thn (ha.run pos pins s σ H _ I h) fun us s1 ⟨vs, H1, I1, r1, q1⟩ => thn (hk.run pos pins s1 σ H1 _ I1 q1) fun ws s2 ⟨zs, H2, I2, r2, a, xs, k, ex, ez, k0, k1, hq, q⟩ => ?_) he hpl hall hnone
  rw [hks]
  subst ex ez
  obtain rfl := Vals.ref1 r1
  obtain ⟨w1, rfl, t, rfl⟩ : ∃ w1, ws = [w1] ∧ ∃ t, w1 = Value.int k t := by
    cases r2 with
    | cons r rr =>
      cases rr
      obtain ⟨t, e⟩ := r
      exact ⟨_, rfl, t, e⟩
  obtain ⟨its, rv, p', hz⟩ := I2.tuple hq
  have la : a < s2.heap.objs.size := by
    obtain ⟨_, z, _⟩ := id p'
    exact Heap.lt_size z
  show wpAny _ _ (call (.type "enumerate") [.ref a] [(Str.ofString "start", .int k t)]) _ _ s2
  refine enum_begins_start (begins_tuple a its.toArray) p' (by omega) (by omega) fun h' he' hit hsz hkp => wpAny_pyIter_enum he' ?_
  have I3 : Inv X pins σ H2 { s2 with heap := h' } := I2.kept (t' := s2.toks) hkp
  refine ⟨s2.heap.objs.size + 1, [s2.heap.objs.size + 1, s2.heap.objs.size], _, _, H2, rfl, I3, turn_enumT (k := k) a (s2.heap.objs.size + 1) s2.heap.objs.size (Nat.succ_ne_self _) (Nat.ne_of_gt (Nat.lt_succ_of_lt la)) (Nat.ne_of_lt la), ⟨⟨.none, by rw [Int.ofNat_zero, Int.add_zero]; exact he'⟩, ⟨_, hit, rfl, rfl⟩⟩, fun b hb => ?_, q⟩
  have e' : b = s2.heap.objs.size + 1 ∨ b = s2.heap.objs.size := by simpa using hb
  have hle : s2.heap.objs.size ≤ b := by
    rcases e' with z | z
    · rw [z]; exact Nat.le_add_right _ _
    · rw [z]; exact Nat.le_refl _
  exact I2.fpOk hle (I2.hok.fresh hle)
theorem walk_enumT {K : PySem.W.Frag} {k : Int} {a : Addr} {xs : List V} : Walk (Itst K k a) xs.length (fun H => SqT K H a xs) (YPair (fun i => some (.int (k + (i : Nat)))) (fun i => xs[i]?)) := by
  refine ⟨fun i _ hi q => ⟨xs, xs[i], q, by simp [hi]⟩, fun _ q => ⟨xs, q, rfl⟩, fun i H v H' _ q y => ?_⟩
  obtain ⟨T, x, h1, h2, h3, h4⟩ := y
  exact ⟨T, .int (k + (i : Nat)), x, h1, h2, h3, rfl, h4 xs q⟩
end NF
set_option Elab.async false
set_option linter.all false
set_option maxRecDepth 100000
set_option maxHeartbeats 4000000
/-! bool(x) of an instance whose class has its own __bool__. -/
namespace NF
open PySem PySem.Spec PyProof.Rows L2 He RZ NT
theorem new_boolO {prog : Program} {w : World} {A0 : Around} {s0 : Shared} {a : Addr} :
    MeetsIn prog w (Builtin.«bool.__new__» ⟨[.type "bool", .ref a], []⟩) (fun A R s => A = A0 ∧ s = s0 ∧ wpAny (model prog w) A.in1 (truthy (.ref a)) (fun b s' => R (.ok (.ret (.bool b))) s') (fun e s' => R (.error e) s') s) :=
  MeetsIn.of_wp fun A R s hs => by
    obtain ⟨_, _, hs⟩ := hs
    have f1 := F.conv_sub_bool
    obtain ⟨hp, g, d, tk, os⟩ := s
    repeat (any_goals (first | assumption | (refine wpAny_bind (wpAny_mono hs (fun b s' h => ?_) fun _ _ e => e)) | wp_step))
    all_goals first | exact ⟨_, rfl, h⟩ | exact hs | skip
structure BlM (K : PySem.W.Frag) (C f : Addr) : Prop where
  o1 : PySem.W.findIn K (.ref C) "__bool__" = some (some (.ref f))
  o2 : PySem.W.isFn K (.ref f) = true
structure BlC (P : Program) (w : World) (K : PySem.W.Frag) (mg : Str → Option Value) (base : Heap) (k : Nat) (C : Addr) (sp : Sp) : Prop where
  ex : ∃ (f : Addr) (fd : FuncData) (ps : List Str), FnOk P w K mg base CX0 k f fd ps sp ∧ BlM K C f ∧ Binds K fd ps []
section
variable {X : Cx} {k j : Nat} {C : Addr} {sp : Sp}
theorem run_fn2 {pins : List (Addr × Obj)} {σ : L2.St} {H : Hp} {s : Shared} {Q : VK} {us : List Value} {vs : List V} {f : Addr} {fd : FuncData} {ps : List Str} (F : FnOk X.prog X.w X.K X.mg X.base CX0 k f fd ps sp) (hr : Room (k + 2) X.A) (hb : Binds X.K fd ps [])
    (I : Inv X pins σ H s) (r : Vals vs us) (h : sp (vs ++ []) H Q E0) : wpAny (model X.prog X.w) X.A.in1.in1 (call (.ref f) us) (EP X pins σ Q) X.xe s := by
  have r2 : Vals (vs ++ []) (us ++ []) := r.append .nil
  have hl : (us ++ []).length = ps.length := by rw [← r2.length]; exact F.len _ _ _ _ h
  refine wpAny_call (codeAny_mono (F.run X.A.in1.in1 X.stack s H ⟨us, []⟩ (us ++ []) (vs ++ []) Q E0 hr.in1.in1 I.env0.in1.in1 (hb s us I.kIn hl) r2 h) fun r s' hq => ?_)
  cases r with
  | error e => exact pass0 pins σ H s e s' I hq
  | ok fl =>
    cases fl with
    | ret u => exact I.after hq
    | next => exact False.elim hq
    | brk => exact False.elim hq
    | cont => exact False.elim hq
def rBoolO (C : Addr) (sp : Sp) : List V → Hp → VK → Prop := fun xs H Q => ∃ a dx fs, xs = [.ref a] ∧ H a = some (.ins C dx fs) ∧ sp [.ref a] H (fun r H' => ∃ b, r = .bl b ∧ Q (.bl b) H') E0
theorem call_boolO (c : BlC X.prog X.w X.K X.mg X.base k C sp) (hr : Room j X.A) (hk : k + 2 ≤ j) : CallR X (.type "bool") (rBoolO C sp) := by
  obtain ⟨f, fd, ps, Fk, ⟨hs, hf⟩, hb⟩ := c.ex
  intro pins s σ H xs us Q I r h
  obtain ⟨a, dx, fs, rfl, ha, q⟩ := h
  obtain rfl := Vals.ref1 r
  obtain ⟨mA, O, _⟩ := ins_get I.hok ha
  obtain ⟨od, J, _⟩ := O.look
  obtain ⟨m, hF⟩ := I.fr
  refine callType_newIn F.called_bool F.newNe_bool (F.typeCall_bool_1 _) (F.newCall_bool_1 _) (fun obj => F.args_object_init_2 obj _) F.entry_bool_new (new_boolO (A0 := X.A.in1) (s0 := s)) ⟨rfl, rfl, ?_⟩
  refine PySem.W.truthy_K hF I.ok.mod.kin J hs hf ?_
  refine wpAny_mono (run_fn2 (us := [.ref a]) (vs := [.ref a]) Fk (hr.mono hk) hb I (.cons rfl .nil) q) (fun u s' z => ?_) fun _ _ e => e
  obtain ⟨z, H', I', rz, b, rfl, q'⟩ := z
  obtain rfl : u = Value.bool b := rz
  exact ⟨rfl, .bl b, H', I', rfl, q'⟩
end
/-- .. as the head's run finds it; d: the class that has the def -/
def blB (c d : Str) (K : PySem.W.Frag) : Bool := eqO (PySem.W.findIn K (.ref (ga K c)) "__bool__") (some (some (.ref (ma K (ga K d) "__bool__")))) && PySem.W.isFn K (.ref (ma K (ga K d) "__bool__"))
theorem bl_ok {c d : Str} {K : PySem.W.Frag} (h : blB c d K = true) : BlM K (ga K c) (ma K (ga K d) "__bool__") := by
  obtain ⟨h1, h2⟩ := ba h
  exact ⟨eqO_ok h1, h2⟩
end NF
set_option Elab.async false
set_option linter.all false
set_option maxRecDepth 100000
set_option maxHeartbeats 4000000
/-! Lists or tuples: enumerate, the rest behind the first, bool of a tuple. -/
namespace NF
open PySem PySem.Spec PyProof.Rows L2 He RZ NT
theorem pi_or {X : Cx} {tg e : Expr} {t1 t2 : TI} (h1 : PI X tg e t1) (h2 : PI X tg e t2) : PI X tg e (fun σ H R => t1 σ H R ∨ t2 σ H R) :=
  ⟨fun pins s σ H R I h => h.elim (h1.run pins s σ H R I) (h2.run pins s σ H R I)⟩
def iEnumR (K : PySem.W.Frag) (ta : TA) : TI := fun σ H R => iEnum K ta σ H R ∨ iEnumT K ta σ H R
theorem pi_enumR {X : Cx} {e : Expr} {ta : TA} {p pos tpos : Pos} {elts : List Expr} {kk : Nat} (hg : Gl X "enumerate") (hm : X.mg "enumerate" = none) (ha : PA X [e] ta) (hs : starEach [e] X.env = [(false, eval e X.env)] := by rfl) :
    PI X (.Tuple elts kk tpos) (.Call (.Name "enumerate" p) [e] [] pos) (iEnumR X.K ta) := pi_or (pi_enum hg hm ha hs) (pi_enumT hg hm ha hs)
/-- a pair of a number and an entry -/
def YEnum (xs : List V) : Nat → Hp → V → Hp → Prop := fun i H v H' => ∃ T x, v = .ref T ∧ H T = none ∧ H' = upd H T (.tup [.int (i : Int), x]) ∧ xs[i]? = some x
theorem for_enumR {K : PySem.W.Frag} {i : Nat} {a : Addr} {xs : List V} {g : TG} {tb : TS} {D : Ends} {σ : L2.St} {H : Hp} (hv : σ[i]? = some (some (.ref a))) (hr : Row K H a xs) (Pv : Nat → L2.St → Hp → Prop) (h0 : Pv 0 σ H) (hm : ∀ i σ H', Pv i σ H' → Same H H')
    (hs : ∀ i x σ H H', i < xs.length → Pv i σ H → YEnum xs i H x H' → g x σ H' fun σ2 H2 => tb { D with nx := Pv (i + 1), ct := Pv (i + 1), bk := D.nx } σ2 H2) (hd : ∀ σ H, Pv xs.length σ H → D.nx σ H) :
    tFor (iEnumR K (tCons (tVar i) tNil)) g tb D σ H := by
  rcases hr with hr | hr
  · refine .inl ⟨_, hv, a, xs, rfl, hr, for_it walk_enum Pv h0 (fun i σ H' _ p => L2.Same.seq (hm i σ H' p) hr) (fun i x σ G G' hi p y => hs i x σ G G' hi p ?_) hd⟩
    obtain ⟨T, v1, v2, e1, e2, e3, e4, e5⟩ := y
    cases e4
    exact ⟨T, v2, e1, e2, e3, e5⟩
  · refine .inr ⟨_, hv, a, xs, rfl, hr, for_it walk_enumT Pv h0 (fun i σ H' _ p => NF.Same.tup (hm i σ H' p) hr) (fun i x σ G G' hi p y => hs i x σ G G' hi p ?_) hd⟩
    obtain ⟨T, v1, v2, e1, e2, e3, e4, e5⟩ := y
    have e4 : some (V.int (0 + (i : Int))) = some v1 := e4
    rw [Int.zero_add] at e4
    cases e4
    exact ⟨T, v2, e1, e2, e3, e5⟩
theorem for_enumM {K : PySem.W.Frag} {i : Nat} {a : Addr} {xs : List V} {g : TG} {tb : TS} {D : Ends} {σ : L2.St} {H H0 : Hp} (hv : σ[i]? = some (some (.ref a))) (hr : Row K H0 a xs) (Pv : Nat → L2.St → Hp → Prop) (h0 : Pv 0 σ H) (hm : ∀ i σ H', Pv i σ H' → Same H0 H')
    (hs : ∀ i x σ H H', i < xs.length → Pv i σ H → YEnum xs i H x H' → g x σ H' fun σ2 H2 => tb { D with nx := Pv (i + 1), ct := Pv (i + 1), bk := D.nx } σ2 H2) (hd : ∀ σ H, Pv xs.length σ H → D.nx σ H) :
    tFor (iEnumR K (tCons (tVar i) tNil)) g tb D σ H := by
  rcases hr with hr | hr
  · refine .inl ⟨_, hv, a, xs, rfl, L2.Same.seq (hm 0 σ H h0) hr, for_it walk_enum Pv h0 (fun i σ H' _ p => L2.Same.seq (hm i σ H' p) hr) (fun i x σ G G' hi p y => hs i x σ G G' hi p ?_) hd⟩
    obtain ⟨T, v1, v2, e1, e2, e3, e4, e5⟩ := y
    cases e4
    exact ⟨T, v2, e1, e2, e3, e5⟩
  · refine .inr ⟨_, hv, a, xs, rfl, NF.Same.tup (hm 0 σ H h0) hr, for_it walk_enumT Pv h0 (fun i σ H' _ p => NF.Same.tup (hm i σ H' p) hr) (fun i x σ G G' hi p y => hs i x σ G G' hi p ?_) hd⟩
    obtain ⟨T, v1, v2, e1, e2, e3, e4, e5⟩ := y
    have e4 : some (V.int (0 + (i : Int))) = some v1 := e4
    rw [Int.zero_add] at e4
    cases e4
    exact ⟨T, v2, e1, e2, e3, e5⟩
theorem sl_row {X : Cx} : SlR X (fun x lo hi H Q => rSlL X.K x lo hi H Q ∨ rSlA X.K x lo hi H Q) := SlR.or sl_list sl_tupA
/-- t[1:] -/
theorem slr_rest {K : PySem.W.Frag} {H : Hp} {a : Addr} {xs : List V} {Q : VK} (hr : Row K H a xs) (h1 : 1 ≤ xs.length) (q : ∀ p H', Same H H' → Row K H' p (xs.drop 1) → Q (.ref p) H') :
    rSlL K (.ref a) (some 1) none H Q ∨ rSlA K (.ref a) (some 1) none H Q := by
  rcases hr with hr | hr
  · refine .inl ⟨a, xs, rfl, hr, fun p hp => ?_⟩
    rw [show (1 : Int) = ((1 : Nat) : Int) from rfl, cut_from]
    exact q p _ (NF.Same.new (Same.refl H) hp) (.inl (SqL.of upd_same))
  · refine .inr ⟨a, xs, rfl, hr, fun z => ?_, fun _ p hp => ?_⟩
    · exfalso
      have z1 := z.1
      rw [show (1 : Int) = ((1 : Nat) : Int) from rfl, HT.sIx_nat] at z1
      omega
    · rw [show (1 : Int) = ((1 : Nat) : Int) from rfl, cut_from]
      exact q p _ (NF.Same.new (Same.refl H) hp) (.inr (SqT.of upd_same))
/-- bool(a tuple) -/
theorem call_boolT {X : Cx} {K : PySem.W.Frag} (hK : X.K = K := by rfl) : CallR X (.type "bool") (fun xs H Q => ∃ (a : Addr) (zs : List V), xs = [.ref a] ∧ SqT K H a zs ∧ Q (.bl (!zs.isEmpty)) H) := by
  subst hK
  intro pins s σ H xs us Q I r h
  obtain ⟨a, zs, rfl, hq, q⟩ := h
  obtain rfl := Vals.ref1 r
  obtain ⟨its, rv, pl, hz⟩ := I.tuple hq
  have hl := line63
  have hlen := rv.length
  refine callType_newIn F.called_bool F.newNe_bool (F.typeCall_bool_1 _) (F.newCall_bool_1 _) (fun obj => F.args_object_init_2 obj _) F.entry_bool_new (new_boolO (A0 := X.A.in1) (s0 := s)) ⟨rfl, rfl, ?_⟩
  refine truthy_tuple pl (by simp only [List.size_toArray]; omega) ?_
  refine ⟨rfl, .bl (!zs.isEmpty), H, I.tok _, ?_, q⟩
  rw [isEmpty_of rv]
  rfl
end NF
set_option Elab.async false
set_option linter.all false
set_option maxRecDepth 100000
set_option maxHeartbeats 4000000
namespace K29
open PySem PySem.Spec PyProof.Rows L2 He NF RZ NT
/-- a maker as a row of a web bears it: an unknown one, or a told one -/
inductive MkD
  | unk (u : Str)
  | mak (n : Nat) (b : List Deed) (ws : List (List Deed))
structure RowD where
  name : Str
  mkr : MkD
  srcs : List Str
def MkV (K : PySem.W.Frag) (C : Addr) (H : Hp) (v : V) : MkD → Prop
  | .unk u => v = .str u
  | .mak n b ws => ∃ x, v = .ref x ∧ MakAt K C H x n b ws
theorem MkV.mono {K : PySem.W.Frag} {C : Addr} {H H' : Hp} {v : V} : ∀ {m : MkD}, MkV K C H v m → Same H H' → MkV K C H' v m
  | .unk _, h, _ => h
  | .mak _ _ _, ⟨x, e, h⟩, s => ⟨x, e, h.mono s⟩
def vS (l : List Str) : List V := l.map V.str
def RowR (K : PySem.W.Frag) (C : Addr) (H : Hp) (a : Addr) (r : RowD) : Prop := ∃ v ps, Row K H a [.str r.name, v, .ref ps] ∧ MkV K C H v r.mkr ∧ Row K H ps (vS r.srcs)
theorem RowR.mono {K : PySem.W.Frag} {C : Addr} {H H' : Hp} {a : Addr} {r : RowD} (h : RowR K C H a r) (s : Same H H') : RowR K C H' a r := by
  obtain ⟨v, ps, h1, h2, h3⟩ := h
  exact ⟨v, ps, h1.mono s, h2.mono s, h3.mono s⟩
def RowsR (K : PySem.W.Frag) (C : Addr) (H : Hp) (a : Addr) (rs : List RowD) : Prop := ∃ as : List Addr, Row K H a (as.map V.ref) ∧ as.length = rs.length ∧ ∀ (j : Nat) (x : Addr) (r : RowD), as[j]? = some x → rs[j]? = some r → RowR K C H x r
theorem RowsR.mono {K : PySem.W.Frag} {C : Addr} {H H' : Hp} {a : Addr} {rs : List RowD} (h : RowsR K C H a rs) (s : Same H H') : RowsR K C H' a rs := by
  obtain ⟨as, h1, h2, h3⟩ := h
  exact ⟨as, h1.mono s, h2, fun j x r e1 e2 => (h3 j x r e1 e2).mono s⟩
def okName (z : Str) : Prop := wordB 8 z = true
theorem okName.len {z : Str} (h : okName z) : z.length ≤ 100000 := by
  have := of_decide_eq_true (ba (ba h).1).2
  omega
/-- the sources of a row -/
structure SrcsOk (ss : List Str) : Prop where
  s1 : 1 ≤ ss.length
  s3 : ss.length ≤ 3
  w : ∀ z ∈ ss, okName z
/-- a right web -/
structure GoodW (gs : List Str) (rs : List RowD) : Prop where
  g3 : gs.length ≤ 3
  gn : ∀ g ∈ gs, okName g
  r1 : 1 ≤ rs.length
  r6 : rs.length ≤ 6
  rn : ∀ r ∈ rs, okName r.name
  so : ∀ r ∈ rs, SrcsOk r.srcs
  un : ∀ r ∈ rs, ∀ u, r.mkr = .unk u → wordB 2 u = true
  tl : ∀ r ∈ rs, ∀ n b ws, r.mkr = .mak n b ws → n = r.srcs.length ∧ GoodM n b ws
  like : ∀ r ∈ rs, ∀ r' ∈ rs, ∀ u, r.mkr = .unk u → r'.mkr = .unk u → r.srcs.length = r'.srcs.length
  nd : (gs ++ rs.map RowD.name).Nodup
  inn : ∀ r ∈ rs, ∀ z ∈ r.srcs, z ∈ gs ++ rs.map RowD.name
def spChkG (K : PySem.W.Frag) : Sp := fun vs H Q _ => ∃ a gs, vs = [.ref a] ∧ Row K H a (vS gs) ∧ gs.length ≤ 3 ∧ (∀ g ∈ gs, okName g) ∧ ∀ H', Same H H' → Q .non H'
def spSrcs (K : PySem.W.Frag) : Sp := fun vs H Q _ => ∃ a ss v, vs = [.ref a, v] ∧ Row K H a (vS ss) ∧ SrcsOk ss ∧ (v = .non ∨ v = .int (ss.length : Int)) ∧ ∀ H', Same H H' → Q (.bl true) H'
theorem sc_check_givens : FnScope ["givens", "number", "name"] ["givens"] (defScope s_check_givens) := ⟨rfl, rfl, rfl, by decide +kernel, rfl, by decide +kernel, by decide +kernel⟩
theorem sc_are_sources : FnScope ["thing", "inlets", "name"] ["thing", "inlets"] (defScope s_are_sources) := ⟨rfl, rfl, rfl, by decide +kernel, rfl, by decide +kernel, by decide +kernel⟩
section
variable {P : Program} {w : World} {K : PySem.W.Frag} {mg : Str → Option Value} {base : Heap} {gs fs : List Str} {C : Addr} {tok : Tok}
theorem ok_check_givens {f : Addr} {fd : FuncData} (F : FunD K "check_givens" "check_givens" (defArgs s_check_givens) (defBody s_check_givens) (defScope s_check_givens) [] [] f fd) (T : Txt K mg gs FS) (h_MOST_GIVENS : mg "MOST_GIVENS" = some (.int 3 tok)) (c_is_row : Cal P w K mg base 1 "is_row" (spIsRow K)) (c_is_row_name : Cal P w K mg base 2 "is_row_name" spName) : FnOk P w K mg base CX0 3 f fd ["givens"] (spChkG K) := by
  refine F.ok sc_check_givens (fun vs H Q E h => ?_) (fun cdv A outer s H vs Q E hr h => ?_)
  · obtain ⟨a, gs, rfl, _⟩ := h
    rfl
  · obtain ⟨a, gs, rfl, ha, g3, gn, q⟩ := h
    refine ⟨_, PSs.nox (pss_cons (ps_if (PW.pt (pw_or (pt_not (pt_val (pe_c c_is_row hr (by decide) rfl (pa_cons (pv 0) pa_nil)))) (pw_or1 (pt_cmpR op_gt (pe_callB call_len_seq rfl (T.fr _ (by decide +kernel)) boot_len (pa_cons (pv 0) pa_nil)) (pe_glob (v := .int 3) rfl h_MOST_GIVENS ⟨_, rfl⟩) (nomark _))))) (pss_one ps_never) pss_nil) (pss_one (ps_for PassesOwn.never rfl (pi_enumR rfl (T.fr _ (by decide +kernel)) (pa_cons (pv 0) pa_nil)) (pgt (K := K) (n := 2) rfl rfl (pgs_cons (pg_name (i := 1) sc_check_givens.nd rfl (Or.inl rfl)) (pgs_cons (pg_name (i := 2) sc_check_givens.nd rfl (Or.inl rfl)) pgs_nil))) (pss_one (ps_if (pt_not (pt_val (pe_c c_is_row_name hr (by decide) rfl (pa_cons (pv 2) pa_nil)))) (pss_one ps_never) pss_nil))))), ?_⟩
    refine ⟨_, rfl, a, _, rfl, ha, fun H1 s1 => ⟨true, rfl, iteF ?_⟩⟩
    refine ⟨_, rfl, a, _, rfl, ha.mono s1, ?_⟩
    rw [show (vS gs).length = gs.length from List.length_map ..]
    refine ⟨_, _, rfl, rfl, _, rfl, iteF' (decide_eq_false (by omega)) ?_⟩
    refine for_enumR (K := K) rfl (ha.mono s1) (fun j σ G => Same H1 G ∧ ∃ v1 v2 : Option V, σ = [some (.ref a), v1, v2]) ⟨Same.refl _, _, _, rfl⟩ (fun j σ G z => z.1) ?_ ?_
    · rintro j u σ G G' hj ⟨sG, v1, v2, rfl⟩ ⟨T, x, rfl, hT, rfl, hx⟩
      have t1 := NF.Same.new (o := .tup [V.int (j : Int), x]) (Same.refl G) hT
      refine ⟨T, _, rfl, SqT.of upd_same, rfl, _, _, rfl, ?_⟩
      refine ⟨_, _, rfl, ?_⟩
      refine ⟨rfl, ?_⟩
      rw [show (vS gs).length = gs.length from List.length_map ..] at hj
      unfold vS at hx
      rw [List.getElem?_map, List.getElem?_eq_getElem hj] at hx
      obtain rfl : V.str gs[j] = x := Option.some.inj hx
      have on := gn gs[j] (List.getElem_mem hj)
      refine ⟨_, rfl, gs[j], rfl, on.len, fun G2 s2 => ?_⟩
      rw [show wordB 8 gs[j] = true from on]
      exact ⟨_, rfl, iteF ⟨Same.trans sG (Same.trans t1 s2), _, _, rfl⟩⟩
    · rintro σ G ⟨sG, v1, v2, rfl⟩
      exact q G (Same.trans s1 sG)
theorem ok_are_sources {f : Addr} {fd : FuncData} (F : FunD K "are_sources" "are_sources" (defArgs s_are_sources) (defBody s_are_sources) (defScope s_are_sources) [] [] f fd) (T : Txt K mg gs FS) (h_MOST_INLETS : mg "MOST_INLETS" = some (.int 3 tok)) (c_is_row : Cal P w K mg base 1 "is_row" (spIsRow K)) (c_is_row_name : Cal P w K mg base 2 "is_row_name" spName) : FnOk P w K mg base CX0 3 f fd ["thing", "inlets"] (spSrcs K) := by
  refine F.ok sc_are_sources (fun vs H Q E h => ?_) (fun cdv A outer s H vs Q E hr h => ?_)
  · obtain ⟨a, ss, v, rfl, _⟩ := h
    rfl
  · obtain ⟨a, ss, v, rfl, ha, ok, hv, q⟩ := h
    have s1' := ok.s1
    have s3' := ok.s3
    refine ⟨_, PSs.nox (pss_cons (ps_if (PW.pt (pw_or (pt_not (pt_val (pe_c c_is_row hr (by decide) rfl (pa_cons (pv 0) pa_nil)))) (pw_or1 (pt_not (pt_chain op_le op_le pe_int (pe_callB call_len_seq rfl (T.fr _ (by decide +kernel)) boot_len (pa_cons (pv 0) pa_nil)) (pe_glob (v := .int 3) rfl h_MOST_INLETS ⟨_, rfl⟩)))))) (pss_one (ps_ret pe_bl)) pss_nil) (pss_one (ps_ret (pe_and (pe_cmpR op_in_seq (pv 1) (pe_tup (pa_cons pe_non (pa_cons (pe_callB call_len_seq rfl (T.fr _ (by decide +kernel)) boot_len (pa_cons (pv 0) pa_nil)) pa_nil))) rfl) (pe_one (pe_callB (cr_all rfl) rfl (T.fr _ (by decide +kernel)) (by decide +kernel) (pa_cons (pe_lc (own := [("name", 2)]) rfl sc_are_sources.nd (pi_row (pv 0)) (blkOk_by (N := ["thing", "inlets", "name"]) (sc := defScope s_are_sources) (by decide +kernel)) (fun _ _ _ _ _ => by exact (pg_name (i := 2) sc_are_sources.nd rfl (Or.inl rfl))) (fun _ _ _ _ _ => by exact pts_nil) (fun _ _ _ _ _ => by exact (pe_c c_is_row_name hr (by decide) rfl (pa_cons (pv 2) pa_nil)))) pa_nil))))))), ?_⟩
    have vl : (vS ss).length = ss.length := List.length_map ..
    refine ⟨_, rfl, a, _, rfl, ha, fun H1 s1 => ⟨true, rfl, iteF ?_⟩⟩
    refine ⟨_, rfl, a, _, rfl, ha.mono s1, ?_⟩
    rw [vl]
    refine ⟨_, _, rfl, rfl, _, rfl, iteT' (decide_eq_true (by omega)) ⟨_, _, rfl, rfl, _, rfl, ?_⟩⟩
    rw [show decide ((ss.length : Int) ≤ 3) = true from decide_eq_true (by omega)]
    refine iteF ?_
    refine ⟨_, rfl, _, rfl, a, _, rfl, ha.mono s1, ?_⟩
    rw [vl]
    refine ⟨(by show 2 ≤ sizeLine; decide), fun t ht => ⟨t, [.non, .int (ss.length : Int)], rfl, .inr (SqT.of upd_same), by rcases hv with rfl | rfl <;> rfl, rfl, ?_⟩⟩
    have s2 := NF.Same.new (o := .tup [.non, .int (ss.length : Int)]) (Same.refl H1) ht
    generalize upd H1 t (.tup [.non, .int (ss.length : Int)]) = H2 at s2
    have ei : inV v [.non, .int (ss.length : Int)] = true := by
      rcases hv with rfl | rfl
      · rfl
      · unfold inV
        rw [List.any_cons, List.any_cons]
        rw [show eqV (.int (ss.length : Int)) (.int (ss.length : Int)) = true from beq_self_eq_true _]
        simp
    rw [show (if false = true then !inV v [.non, .int (ss.length : Int)] else inV v [.non, .int (ss.length : Int)]) = true from ei]
    refine ⟨_, rfl, iteT ?_⟩
    have s12 := Same.trans s1 s2
    refine ⟨_, rfl, a, rfl, ?_⟩
    refine lc_row (ha.mono s12) (fun D j G => Same H2 G ∧ G D = some (.lst ((List.replicate j true).map V.bl))) (fun D hD => ⟨NF.Same.new (Same.refl H2) hD, upd_same⟩) (fun D i G _ z => z.1) ?_ ?_
    · rintro D hD j v G hv ⟨hG, hD2⟩
      have hj := (List.getElem?_eq_some_iff.mp hv).1
      rw [vl] at hj
      unfold vS at hv
      rw [List.getElem?_map, List.getElem?_eq_getElem hj] at hv
      obtain rfl : V.str ss[j] = v := Option.some.inj hv
      have on := ok.w ss[j] (List.getElem_mem hj)
      refine ⟨rfl, _, rfl, ss[j], rfl, on.len, fun G2 s2 => ?_⟩
      rw [show wordB 8 ss[j] = true from on]
      refine ⟨_, s2 _ _ hD2, by rw [List.length_map, List.length_replicate]; exact Nat.lt_of_lt_of_le (show j < 10 by omega) (by decide), NF.Same.mut (Same.trans hG s2) hD, ?_⟩
      rw [upd_same, List.replicate_succ', List.map_append]
      rfl
    · rintro D hD G ⟨hG, hD2⟩
      refine ⟨D, _, rfl, SqL.of hD2, ?_⟩
      have : (List.replicate ((vS ss).length) true).all id = true := by
        rw [List.all_replicate]
        simp
      rw [this]
      exact q G (Same.trans s12 hG)
end
end K29
set_option Elab.async false
set_option linter.all false
set_option maxRecDepth 100000
set_option maxHeartbeats 4000000
namespace K29
open PySem PySem.Spec PyProof.Rows L2 He NF RZ NT
/-- a row whose maker fits its sources -/
structure RowOk (r : RowD) : Prop where
  nm : okName r.name
  so : SrcsOk r.srcs
  un : ∀ u, r.mkr = .unk u → wordB 2 u = true
  tl : ∀ n b ws, r.mkr = .mak n b ws → n = r.srcs.length
theorem GoodW.row {gs : List Str} {rs : List RowD} (g : GoodW gs rs) {r : RowD} (h : r ∈ rs) : RowOk r := ⟨g.rn r h, g.so r h, g.un r h, fun n b ws e => (g.tl r h n b ws e).1⟩
def spMadeR (K : PySem.W.Frag) (C : Addr) : Sp := fun vs H Q _ => ∃ a d r kvs, vs = [.ref a, .ref d] ∧ RowR K C H a r ∧ RowOk r ∧ H d = some (.dK kvs) ∧ (∀ u, r.mkr = .unk u → valV kvs (.inr u) = none ∨ valV kvs (.inr u) = some (.int (r.srcs.length : Int))) ∧ ∀ H', Same H H' → Q (.bl true) H'
def spChkR (K : PySem.W.Frag) (C : Addr) : Sp := fun vs H Q _ => ∃ a gs rs, vs = [.ref a] ∧ RowsR K C H a rs ∧ GoodW gs rs ∧ ∀ H', Same H H' → Q .non H'
theorem sc_is_made_row : FnScope ["thing", "unknown", "maker"] ["thing", "unknown"] (defScope s_is_made_row) := ⟨rfl, rfl, rfl, by decide +kernel, rfl, by decide +kernel, by decide +kernel⟩
theorem sc_check_rows : FnScope ["rows", "unknown", "number", "row"] ["rows"] (defScope s_check_rows) := ⟨rfl, rfl, rfl, by decide +kernel, rfl, by decide +kernel, by decide +kernel⟩
section
variable {P : Program} {w : World} {K : PySem.W.Frag} {mg : Str → Option Value} {base : Heap} {gs fs : List Str} {C : Addr} {tok : Tok}
theorem ok_is_made_row {f : Addr} {fd : FuncData} (F : FunD K "is_made_row" "is_made_row" (defArgs s_is_made_row) (defBody s_is_made_row) (defScope s_is_made_row) [] [] f fd) (T : Txt K mg gs FS) (hM : mg "Maker" = some (.ref C)) (mc : MakC K C) (kS : PySem.W.kitOne K (.type "str") (.ref C) = some false) (c_is_row : Cal P w K mg base 1 "is_row" (spIsRow K)) (c_is_row_name : Cal P w K mg base 2 "is_row_name" spName) (c_is_unknown : Cal P w K mg base 2 "is_unknown" spUnk) (c_are_sources : Cal P w K mg base 3 "are_sources" (spSrcs K)) : FnOk P w K mg base CX0 4 f fd ["thing", "unknown"] (spMadeR K C) := by
  refine F.ok sc_is_made_row (fun vs H Q E h => ?_) (fun cdv A outer s H vs Q E hr h => ?_)
  · obtain ⟨a, d, r, kvs, rfl, _⟩ := h
    rfl
  · obtain ⟨a, d, r, kvs, rfl, hr1, ok, hd, hk, q⟩ := h
    have hu1 : (A.deeper (envOfC "is_made_row" (defScope s_is_made_row) s.heap.objs.size f cdv)).units + 1 < cLine := by
      have := hr.un
      omega
    refine ⟨_, PSs.nox (pss_cons (ps_if (PW.pt (pw_or (pt_not (pt_val (pe_c c_is_row hr (by decide) rfl (pa_cons (pv 0) pa_nil)))) (pw_or (pt_cmpR op_ne (pe_callB call_len_seq rfl (T.fr _ (by decide +kernel)) boot_len (pa_cons (pv 0) pa_nil)) pe_int (nomark _)) (pw_or1 (pt_not (pt_val (pe_c c_is_row_name hr (by decide) rfl (pa_cons (pe_ix (ixs (K := K)) (pv 0) pe_int fun _ _ => rfl) pa_nil)))))))) (pss_one (ps_ret pe_bl)) pss_nil) (pss_cons (ps_set (i := 2) sc_is_made_row.nd rfl (Or.inl rfl) (pe_ix (ixs (K := K)) (pv 0) pe_int fun _ _ => rfl)) (pss_cons (ps_if (pt_val (pe_callB call_isi rfl (T.fr _ (by decide +kernel)) (by decide +kernel) (pa_cons (pv 2) (pa_cons (pe_gl hM) pa_nil)))) (pss_one (ps_ret (pe_c c_are_sources hr (by decide) rfl (pa_cons (pe_ix (ixs (K := K)) (pv 0) pe_int fun _ _ => rfl) (pa_cons (pe_fld (pv 2) rfl) pa_nil))))) pss_nil) (pss_one (ps_ret (pe_and (pe_c c_is_unknown hr (by decide) rfl (pa_cons (pv 2) pa_nil)) (pe_one (pe_c c_are_sources hr (by decide) rfl (pa_cons (pe_ix (ixs (K := K)) (pv 0) pe_int fun _ _ => rfl) (pa_cons (pe_dget1 hu1 (pv 1) (pv 2) ⟨rfl, rfl, rfl, rfl⟩) pa_nil)))))))))), ?_⟩
    obtain ⟨v, ps, ha, hv, hps⟩ := hr1
    refine ⟨_, rfl, a, _, rfl, ha, fun H1 s1 => ⟨true, rfl, iteF ?_⟩⟩
    refine ⟨_, rfl, a, _, rfl, ha.mono s1, rfl, _, rfl, iteF ?_⟩
    refine ⟨_, rfl, ix_done (K := K) (ha.mono s1) (show atI [V.str r.name, v, V.ref ps] 0 = some (V.str r.name) from rfl) ?_⟩
    refine ⟨r.name, rfl, ok.nm.len, fun H2 s2 => ?_⟩
    rw [show wordB 8 r.name = true from ok.nm]
    refine ⟨_, rfl, iteF ?_⟩
    have s12 := Same.trans s1 s2
    refine ⟨_, rfl, ix_done (K := K) (ha.mono s12) (show atI [V.str r.name, v, V.ref ps] 1 = some v from rfl) ?_⟩
    have hv := hv.mono s12
    cases em : r.mkr with
    | unk u =>
      rw [em] at hv
      obtain rfl : v = .str u := hv
      refine ⟨_, rfl, _, _, _, _, false, rfl, .own C, .base (.str _), kS, false, rfl, iteF ?_⟩
      have ou := ok.un u em
      have ul : u.length ≤ 100000 := by
        have := of_decide_eq_true (ba (ba ou).1).2
        omega
      refine ⟨_, rfl, u, rfl, ul, fun H3 s3 => ?_⟩
      rw [ou]
      refine ⟨_, rfl, iteT ?_⟩
      have s13 := Same.trans s12 s3
      refine ⟨_, rfl, ix_done (K := K) (ha.mono s13) (show atI [V.str r.name, V.str u, V.ref ps] 2 = some (V.ref ps) from rfl) ?_⟩
      have hd3 := s13 _ _ hd
      refine ⟨_, rfl, d, rfl, .inl ⟨kvs, .inl hd3⟩, _, rfl, _, DGet.k (k := Sum.inr u) hd3, ?_⟩
      refine ⟨ps, r.srcs, _, rfl, hps.mono s13, ok.so, ?_, fun H4 s4 => q H4 (Same.trans s13 s4)⟩
      rcases hk u em with e | e
      · rw [e]
        exact .inl rfl
      · rw [e]
        exact .inr rfl
    | mak n b ws =>
      rw [em] at hv
      obtain ⟨x, rfl, ma⟩ := hv
      obtain ⟨dx, pb, pw, hx, _, _⟩ := id ma
      refine ⟨_, rfl, _, _, _, _, true, rfl, .own C, mc.ty hx, mc.self, true, rfl, iteT ?_⟩
      refine ⟨_, rfl, ix_done (K := K) (ha.mono s12) (show atI [V.str r.name, V.ref x, V.ref ps] 2 = some (V.ref ps) from rfl) ?_⟩
      refine ⟨_, rfl, x, C, dx, _, _, rfl, hx, mc.cl, mc.ni, rfl, ?_⟩
      exact ⟨ps, r.srcs, _, rfl, hps.mono s12, ok.so, .inr (by rw [ok.tl n b ws em]), fun H4 s4 => q H4 (Same.trans s12 s4)⟩
end
end K29
set_option Elab.async false
set_option linter.all false
set_option maxRecDepth 100000
set_option maxHeartbeats 4000000
/-! Expressions of a law's own that give things as data, while they draw from the source at p. -/
namespace NF
open PySem PySem.Spec PyProof.Rows L2 He RZ NT
section
variable {K : PySem.W.Frag} {p : Addr} {B H H' H'' : Hp} {σ : L2.St}
theorem wo_mono (s : Same H H') : Same (wo H p) (wo H' p) := fun a o e => by
  by_cases h : a = p
  · rw [h, wo_none] at e
    cases e
  · rw [wo_ne h] at e ⊢
    exact s a o e
theorem wo_into (n : B p = none) (s : Same B H) : Same B (wo H p) := fun a o e => (wo_ne (ne_of_none e n)).trans (s a o e)
/-- all but the source stands -/
def Out (p : Addr) (H H' : Hp) : Prop := Src H' p ∧ Same (wo H p) (wo H' p)
theorem Out.refl (h : Src H p) : Out p H H := ⟨h, Same.refl _⟩
theorem Out.trans (a : Out p H H') (b : Out p H' H'') : Out p H H'' := ⟨b.1, Same.trans a.2 b.2⟩
theorem Out.of_same (h : Src H p) (s : Same H H') : Out p H H' := ⟨h.mono s, wo_mono s⟩
theorem Out.of_pick (s : Same (wo H p) H') (h : Src H' p) : Out p H H' := ⟨h, wo_into wo_none s⟩
theorem src_ne {q : Addr} (h : Src H p) (n : H q = none) : q ≠ p := fun z => by
  obtain ⟨_, _, _, e⟩ := h
  rw [z, e] at n
  cases n
theorem dp_out {v : V} {d : PyData} (h : Dp K (wo H p) v d) (o : Out p H H') : Dp K (wo H' p) v d := dp_mono o.2 d h
def Ev (K : PySem.W.Frag) (p : Addr) (B : Hp) (σ : L2.St) (P : PyData → Prop) (te : TE) : Prop := ∀ H (Q : VK), Src H p → Same B (wo H p) → (∀ v d H', Out p H H' → P d → Dp K (wo H' p) v d → Q v H') → te σ H Q
def EvA (K : PySem.W.Frag) (p : Addr) (B : Hp) (σ : L2.St) (R : List PyData → Prop) (ta : TA) : Prop := ∀ H (Q : List V → Hp → Prop), Src H p → Same B (wo H p) → (∀ vs ds H', Out p H H' → R ds → DpAll K (wo H' p) vs ds → Q vs H') → ta σ H Q
def EvT (K : PySem.W.Frag) (p : Addr) (B : Hp) (σ : L2.St) (tt : TT) : Prop := ∀ H (Q : Bool → Hp → Prop), Src H p → Same B (wo H p) → (∀ b H', Out p H H' → Q b H') → tt σ H Q
variable {P P1 P2 : PyData → Prop} {R R2 : List PyData → Prop} {te ta tb : TE} {tt : TT} {ts : TA}
theorem Ev.imp (h : Ev K p B σ P te) (k : ∀ d, P d → P1 d) : Ev K p B σ P1 te := fun H Q hs ss q => h H Q hs ss fun v d H' o pd hv => q v d H' o (k d pd) hv
theorem ev_sc {v : V} {d : PyData} (hd : ∀ H, Dp K H v d) (h : ∀ H (Q : VK), Q v H → te σ H Q) : Ev K p B σ (· = d) te := fun H Q hs _ q => h H Q (q v d H (Out.refl hs) rfl (hd _))
theorem ev_int {i : Int} : Ev K p B σ (· = .int i) (tC (.int i)) := ev_sc (fun _ => .int i) fun _ _ q => q
theorem ev_bl {b : Bool} : Ev K p B σ (· = .bool b) (tC (.bl b)) := ev_sc (fun _ => .bl b) fun _ _ q => q
theorem ev_str {s : Str} : Ev K p B σ (· = .str s) (tC (.str s)) := ev_sc (fun _ => .str s) fun _ _ q => q
theorem ev_non : Ev K p B σ (· = .none) (tC .non) := ev_sc (fun _ => .non) fun _ _ q => q
theorem ev_neg {i : Int} : Ev K p B σ (· = .int (-i)) (tUn (rU fun i => .int (-i)) (tC (.int i))) := ev_sc (fun _ => .int _) fun _ _ q => ⟨_, rfl, q⟩
theorem ev_var {i : Nat} {v : V} {d : PyData} (e : σ[i]? = some (some v)) (hd : Dp K B v d) : Ev K p B σ (· = d) (tVar i) := fun H Q hs ss q => ⟨v, e, q v d H (Out.refl hs) rfl (dp_mono ss d hd)⟩
theorem evA_nil : EvA K p B σ (· = []) tNil := fun H Q hs _ q => q [] [] H (Out.refl hs) rfl .nil
theorem evA_cons (h : Ev K p B σ P te) (a : EvA K p B σ R ts) : EvA K p B σ (fun ds => ∃ d l, ds = d :: l ∧ P d ∧ R l) (tCons te ts) := fun H Q hs ss q =>
  h H _ hs ss fun v d H1 o1 pd hv => a H1 _ o1.1 (Same.trans ss o1.2) fun vs ds H2 o2 rd hvs => q (v :: vs) (d :: ds) H2 (o1.trans o2) ⟨d, ds, rfl, pd, rd⟩ (.cons (dp_out hv o2) hvs)
theorem ev_tup (a : EvA K p B σ R ts) (hl : ∀ ds, R ds → ds.length ≤ 1000) : Ev K p B σ (fun d => ∃ ds, d = .tuple ds ∧ R ds) (tTup ts) := fun H Q hs ss q =>
  a H _ hs ss fun vs ds H1 o1 rd hv => ⟨by rw [dpall_len hv]; exact Nat.le_trans (hl ds rd) (by decide), fun x hx => by
    have o2 := Out.of_same o1.1 (NF.Same.new (o := .tup vs) (Same.refl H1) hx)
    exact q _ _ _ (o1.trans o2) ⟨ds, rfl, rd⟩ (.tup (SqT.of (by rw [wo_ne (src_ne o1.1 hx)]; exact upd_same)) (dpall_mono o2.2 ds hv))⟩
theorem ev_lst (a : EvA K p B σ R ts) (hl : ∀ ds, R ds → ds.length ≤ 1000) : Ev K p B σ (fun d => ∃ ds, d = .list ds ∧ R ds) (tLst ts) := fun H Q hs ss q =>
  a H _ hs ss fun vs ds H1 o1 rd hv => ⟨by rw [dpall_len hv]; exact Nat.le_trans (hl ds rd) (by decide), fun x hx => by
    have o2 := Out.of_same o1.1 (NF.Same.new (o := .lst vs) (Same.refl H1) hx)
    exact q _ _ _ (o1.trans o2) ⟨ds, rfl, rd⟩ (.lst (SqL.of (by rw [wo_ne (src_ne o1.1 hx)]; exact upd_same)) (dpall_mono o2.2 ds hv))⟩
theorem dp_tup {v : V} {l : List PyData} (h : Dp K H v (.tuple l)) : ∃ a xs, v = .ref a ∧ SqT K H a xs ∧ DpAll K H xs l := by
  cases h with
  | tup h a => exact ⟨_, _, rfl, h, a⟩
theorem dp_lst {v : V} {l : List PyData} (h : Dp K H v (.list l)) : ∃ a xs, v = .ref a ∧ SqL K H a xs ∧ DpAll K H xs l := by
  cases h with
  | lst h a => exact ⟨_, _, rfl, h, a⟩
theorem dp_int {v : V} {i : Int} (h : Dp K H v (.int i)) : v = .int i := by
  cases h
  rfl
theorem ev_cat (a : Ev K p B σ P1 ta) (b : Ev K p B σ P2 tb) (k : ∀ d1 d2, P1 d1 → P2 d2 → ∃ l1 l2, d1 = .tuple l1 ∧ d2 = .tuple l2 ∧ l1.length + l2.length ≤ 10000 ∧ P (.tuple (l1 ++ l2))) : Ev K p B σ P (tOp (rCatA K) ta tb) := fun H Q hs ss q =>
  a H _ hs ss fun v1 d1 H1 o1 p1 h1 => b H1 _ o1.1 (Same.trans ss o1.2) fun v2 d2 H2 o2 p2 h2 => by
    obtain ⟨l1, l2, rfl, rfl, hl, pp⟩ := k d1 d2 p1 p2
    obtain ⟨x, xs, rfl, hx, dx⟩ := dp_tup (dp_out h1 o2)
    obtain ⟨y, ys, rfl, hy, dy⟩ := dp_tup h2
    have o12 := o1.trans o2
    refine ⟨x, y, xs, ys, rfl, rfl, NF.Same.tup wo_same' hx, NF.Same.tup wo_same' hy, by rw [dpall_len dx, dpall_len dy]; exact Nat.le_trans hl (by decide), fun e => ?_, fun _ e => ?_, fun _ _ z hz => ?_⟩
    · subst e
      cases dx
      exact q _ _ _ o12 pp (.tup hy dy)
    · subst e
      cases dy
      rw [List.append_nil] at pp
      exact q _ _ _ o12 pp (.tup hx dx)
    · have o3 := Out.of_same o2.1 (NF.Same.new (o := .tup (xs ++ ys)) (Same.refl H2) hz)
      exact q _ _ _ (o12.trans o3) pp (.tup (SqT.of (by rw [wo_ne (src_ne o2.1 hz)]; exact upd_same)) (dpall_app (dpall_mono o3.2 _ dx) (dpall_mono o3.2 _ dy)))
theorem dpall_rep : ∀ {k : Nat} {xs : List V} {l : List PyData}, DpAll K H xs l → DpAll K H (List.replicate k xs).flatten (List.replicate k l).flatten
  | 0, _, _, _ => .nil
  | k + 1, _, _, h => by
    rw [List.replicate_succ, List.replicate_succ, List.flatten_cons, List.flatten_cons]
    exact dpall_app h (dpall_rep h)
theorem ev_rep (a : Ev K p B σ P1 ta) (b : Ev K p B σ P2 tb) (k : ∀ d1 d2, P1 d1 → P2 d2 → ∃ l i, d1 = .tuple l ∧ d2 = .int i ∧ l ≠ [] ∧ 2 ≤ i ∧ i ≤ 1000 ∧ l.length ≤ 1000 ∧ P (.tuple (List.replicate i.toNat l).flatten)) : Ev K p B σ P (tOp (rRepT K) ta tb) := fun H Q hs ss q =>
  a H _ hs ss fun v1 d1 H1 o1 p1 h1 => b H1 _ o1.1 (Same.trans ss o1.2) fun v2 d2 H2 o2 p2 h2 => by
    obtain ⟨l1, i, rfl, rfl, ne, i2, i3, hl, pp⟩ := k d1 d2 p1 p2
    obtain ⟨x, xs, rfl, hx, dx⟩ := dp_tup (dp_out h1 o2)
    obtain rfl := dp_int h2
    have xl := dpall_len dx
    refine ⟨x, i, xs, rfl, rfl, NF.Same.tup wo_same' hx, fun e => ne (List.eq_nil_of_length_eq_zero (by rw [← xl, e]; rfl)), i2, i3, by omega, fun z hz => ?_⟩
    have o3 := Out.of_same o2.1 (NF.Same.new (o := .tup (List.replicate i.toNat xs).flatten) (Same.refl H2) hz)
    exact q _ _ _ (o1.trans (o2.trans o3)) pp (.tup (SqT.of (by rw [wo_ne (src_ne o2.1 hz)]; exact upd_same)) (dpall_rep (dpall_mono o3.2 _ dx)))
theorem ev_i2 {g : Int → Int → Int} (a : Ev K p B σ P1 ta) (b : Ev K p B σ P2 tb) (k : ∀ d1 d2, P1 d1 → P2 d2 → ∃ i j, d1 = .int i ∧ d2 = .int j ∧ P (.int (g i j))) : Ev K p B σ P (tOp (rI0 fun i j => .int (g i j)) ta tb) := fun H Q hs ss q =>
  a H _ hs ss fun v1 d1 H1 o1 p1 h1 => b H1 _ o1.1 (Same.trans ss o1.2) fun v2 d2 H2 o2 p2 h2 => by
    obtain ⟨i, j, rfl, rfl, pp⟩ := k d1 d2 p1 p2
    obtain rfl := dp_int h1
    obtain rfl := dp_int h2
    exact ⟨i, j, rfl, rfl, q _ _ _ (o1.trans o2) pp (.int _)⟩
theorem atI_get {xs : List V} {i : Int} (h0 : 0 ≤ i) (h1 : i < xs.length) : ∃ v, xs[i.toNat]? = some v ∧ atI xs i = some v := by
  obtain ⟨n, rfl⟩ : ∃ n : Nat, i = (n : Int) := ⟨i.toNat, by omega⟩
  have hn : n < xs.length := by omega
  refine ⟨xs[n], by rw [Int.toNat_natCast]; exact List.getElem?_eq_getElem hn, ?_⟩
  exact atI_nat (List.getElem?_eq_getElem hn)
theorem ev_ixl (a : Ev K p B σ P1 ta) (b : Ev K p B σ P2 tb) (k : ∀ d1 d2, P1 d1 → P2 d2 → ∃ l i, d1 = .list l ∧ d2 = .int i ∧ 0 ≤ i ∧ i < l.length ∧ ∀ d ∈ l, P d) : Ev K p B σ P (tOp (rIxL K) ta tb) := fun H Q hs ss q =>
  a H _ hs ss fun v1 d1 H1 o1 p1 h1 => b H1 _ o1.1 (Same.trans ss o1.2) fun v2 d2 H2 o2 p2 h2 => by
    obtain ⟨l1, i, rfl, rfl, i0, i1, pp⟩ := k d1 d2 p1 p2
    obtain ⟨x, xs, rfl, hx, dx⟩ := dp_lst (dp_out h1 o2)
    obtain rfl := dp_int h2
    have xl := dpall_len dx
    obtain ⟨v, e1, e2⟩ := atI_get (xs := xs) i0 (by omega)
    have il : i.toNat < l1.length := by omega
    exact ⟨x, xs, i, v, rfl, rfl, L2.Same.seq wo_same' hx, e2, q v l1[i.toNat] H2 (o1.trans o2) (pp _ (List.getElem_mem il)) (dpall_get dx e1 (List.getElem?_eq_getElem il))⟩
theorem ev_pick {i : Nat} {m : Int} (e : σ[i]? = some (some (.ref p))) (m1 : 0 < m) (m2 : m < 1073741824) : Ev K p B σ (fun d => ∃ k, d = .int k ∧ 0 ≤ k ∧ k < m) (tCall spPick [] E0 (tCons (tVar i) (tCons (tC (.int m)) tNil))) := fun H Q hs ss q =>
  ⟨_, e, wo H p, p, m, rfl, wo_same', wo_none, hs, m1, m2, fun d H' d0 d1 s1 hs' => q (.int d) (.int d) H' (Out.of_pick s1 hs') ⟨d, rfl, d0, d1⟩ (.int d)⟩
theorem ev_if (t : EvT K p B σ tt) (a : Ev K p B σ P ta) (b : Ev K p B σ P tb) : Ev K p B σ P (tIf tt ta tb) := fun H Q hs ss q =>
  t H _ hs ss fun bo H1 o1 => by
    cases bo with
    | true => exact iteT (a H1 Q o1.1 (Same.trans ss o1.2) fun v d H2 o2 pd hv => q v d H2 (o1.trans o2) pd hv)
    | false => exact iteF (b H1 Q o1.1 (Same.trans ss o1.2) fun v d H2 o2 pd hv => q v d H2 (o1.trans o2) pd hv)
/-- a number that is drawn, asked whether it is another -/
theorem evT_eq {j : Int} (a : Ev K p B σ P1 ta) (k : ∀ d, P1 d → ∃ i, d = .int i) : EvT K p B σ (tTest (tOp rEq ta (tC (.int j)))) := fun H Q hs ss q =>
  a H _ hs ss fun v1 d1 H1 o1 p1 h1 => by
    obtain ⟨i, rfl⟩ := k d1 p1
    obtain rfl := dp_int h1
    exact ⟨rfl, _, rfl, q _ _ o1⟩
theorem ev_eq {j : Int} (a : Ev K p B σ P1 ta) (k : ∀ d, P1 d → ∃ i, d = .int i) : Ev K p B σ (fun d => ∃ b, d = .bool b) (tOp rEq ta (tC (.int j))) := fun H Q hs ss q =>
  a H _ hs ss fun v1 d1 H1 o1 p1 h1 => by
    obtain ⟨i, rfl⟩ := k d1 p1
    obtain rfl := dp_int h1
    exact ⟨rfl, q _ _ _ o1 ⟨_, rfl⟩ (.bl _)⟩
theorem dpall_drop : ∀ {n : Nat} {xs : List V} {l : List PyData}, DpAll K H xs l → DpAll K H (xs.drop n) (l.drop n)
  | 0, _, _, h => h
  | _ + 1, _, _, .nil => .nil
  | n + 1, _, _, .cons _ a => dpall_drop (n := n) a
theorem dpall_take : ∀ {n : Nat} {xs : List V} {l : List PyData}, DpAll K H xs l → DpAll K H (xs.take n) (l.take n)
  | 0, _, _, _ => .nil
  | _ + 1, _, _, .nil => .nil
  | n + 1, _, _, .cons h a => .cons h (dpall_take (n := n) a)
/-- a part of a tuple -/
theorem ev_sl {tl th : TO} (a : Ev K p B σ P1 ta) (hl : ∀ H (Q : Option Int → Hp → Prop), (∀ o, Q o H) → tl σ H Q) (hh : ∀ H (Q : Option Int → Hp → Prop), (∀ o, Q o H) → th σ H Q)
    (k : ∀ d, P1 d → ∃ l, d = .tuple l ∧ ∀ l', (∀ t ∈ l', t ∈ l) → l'.length ≤ l.length → P (.tuple l')) : Ev K p B σ P (tSl (rSlA K) ta tl th) := fun H Q hs ss q =>
  a H _ hs ss fun v1 d1 H1 o1 p1 h1 => hl _ _ fun lo => hh _ _ fun hi => by
    obtain ⟨l, rfl, kk⟩ := k d1 p1
    obtain ⟨x, xs, rfl, hx, dx⟩ := dp_tup h1
    refine ⟨x, xs, rfl, NF.Same.tup wo_same' hx, fun _ => q _ _ _ o1 (kk l (fun _ h => h) (Nat.le_refl _)) h1, fun _ z hz => ?_⟩
    have o3 := Out.of_same o1.1 (NF.Same.new (o := .tup (cutV xs lo hi)) (Same.refl H1) hz)
    have dc : DpAll K (wo H1 p) (cutV xs lo hi) ((l.drop (HT.sIx xs.length 0 lo)).take (HT.sIx xs.length xs.length hi - HT.sIx xs.length 0 lo)) := dpall_take (dpall_drop dx)
    exact q _ _ _ (o1.trans o3) (kk _ (fun t ht => List.mem_of_mem_drop (List.mem_of_mem_take ht)) (by rw [List.length_take, List.length_drop]; omega)) (.tup (SqT.of (by rw [wo_ne (src_ne o1.1 hz)]; exact upd_same)) (dpall_mono o3.2 _ dc))
/-- an item of a tuple that stands -/
theorem ev_ixt {i : Nat} {a : Addr} {xs : List V} {j : Int} {v : V} {d : PyData} {tj : TE} (e : σ[i]? = some (some (.ref a))) (h : SqT K B a xs) (hv : atI xs j = some v) (hd : Dp K B v d) (hj : ∀ H (Q : VK), Q (.int j) H → tj σ H Q) : Ev K p B σ (· = d) (tOp (rIxT K) (tVar i) tj) := fun H Q hs ss q =>
  ⟨_, e, hj _ _ ⟨a, xs, j, v, rfl, rfl, NF.Same.tup wo_same' (NF.Same.tup ss h), hv, q v d H (Out.refl hs) rfl (dp_mono ss d hd)⟩⟩
/-- tuple(t) -/
theorem ev_tof (a : Ev K p B σ P ta) (k : ∀ d, P d → ∃ l, d = .tuple l) : Ev K p B σ P (tCB (rTupOf K) (tCons ta tNil)) := fun H Q hs ss q =>
  a H _ hs ss fun v1 d1 H1 o1 p1 h1 => by
    obtain ⟨l, rfl⟩ := k d1 p1
    obtain ⟨x, xs, rfl, hx, dx⟩ := dp_tup h1
    refine ⟨x, xs, rfl, .inr (NF.Same.tup wo_same' hx), fun y H2 s2 hy => ?_⟩
    have o2 := Out.of_same o1.1 s2
    have ny : H2 p ≠ none := fun z => by
      obtain ⟨_, _, _, e⟩ := o2.1
      rw [e] at z
      cases z
    obtain ⟨_, _, _, ep⟩ := o2.1
    exact q _ _ _ (o1.trans o2) p1 (.tup (SqT.wo hy ep trivial) (dpall_mono o2.2 _ dx))
end
section
variable {K : PySem.W.Frag} {p : Addr} {B : Hp} {σ : L2.St} {te ta tb : TE} {ts : TA} {d : PyData} {l : List PyData}
theorem evE_cons (h : Ev K p B σ (· = d) te) (a : EvA K p B σ (· = l) ts) : EvA K p B σ (· = d :: l) (tCons te ts) := fun H Q hs ss q =>
  h H _ hs ss fun v d1 H1 o1 pd hv => a H1 _ o1.1 (Same.trans ss o1.2) fun vs ds H2 o2 rd hvs => q (v :: vs) (d1 :: ds) H2 (o1.trans o2) (by rw [pd, rd]) (.cons (dp_out hv o2) hvs)
theorem evE_tup (a : EvA K p B σ (· = l) ts) (hl : l.length ≤ 1000) : Ev K p B σ (· = .tuple l) (tTup ts) :=
  Ev.imp (ev_tup a fun ds e => by rw [e]; exact hl) fun d ⟨ds, e1, e2⟩ => by rw [e1, e2]
theorem evE_lst (a : EvA K p B σ (· = l) ts) (hl : l.length ≤ 1000) : Ev K p B σ (· = .list l) (tLst ts) :=
  Ev.imp (ev_lst a fun ds e => by rw [e]; exact hl) fun d ⟨ds, e1, e2⟩ => by rw [e1, e2]
theorem flat_one {α : Type} {x : α} : ∀ n : Nat, (List.replicate n [x]).flatten = List.replicate n x
  | 0 => rfl
  | n + 1 => by
    rw [List.replicate_succ, List.flatten_cons, flat_one n, List.replicate_succ]
    rfl
theorem evE_rep {i : Int} (a : Ev K p B σ (· = .tuple [d]) ta) (h2 : 2 ≤ i) (h3 : i ≤ 1000) : Ev K p B σ (· = .tuple (List.replicate i.toNat d)) (tOp (rRepT K) ta (tC (.int i))) :=
  ev_rep a ev_int fun d1 d2 e1 e2 => ⟨[d], i, e1, e2, by simp, h2, h3, by show 1 ≤ 1000; decide, by rw [flat_one]⟩
end
/-! ### the shape of a goal before a loop -/
theorem set_in {i : Nat} {v : V} {σ : L2.St} {H : Hp} {Q : L2.St → Hp → Prop} (h : Q (σ.set i (some v)) H) : gName i v σ H Q := h
theorem cons_c {v : V} {tr : TA} {σ : L2.St} {H : Hp} {Q : List V → Hp → Prop} (h : tr σ H fun xs H2 => Q (v :: xs) H2) : tCons (tC v) tr σ H Q := h
theorem cons_v {i : Nat} {v : V} {tr : TA} {σ : L2.St} {H : Hp} {Q : List V → Hp → Prop} (e : σ[i]? = some (some v)) (h : tr σ H fun xs H2 => Q (v :: xs) H2) : tCons (tVar i) tr σ H Q := ⟨v, e, h⟩
theorem cons_e {te : TE} {tr : TA} {σ : L2.St} {H : Hp} {Q : List V → Hp → Prop} (h : te σ H fun x H1 => tr σ H1 fun xs H2 => Q (x :: xs) H2) : tCons te tr σ H Q := h
theorem next_in {D : Ends} {σ : L2.St} {H : Hp} (h : D.nx σ H) : tNext D σ H := h
theorem seq_in {t u : TS} {D : Ends} {σ : L2.St} {H : Hp} (h : t { D with nx := u D } σ H) : tSeq t u D σ H := h
theorem for_in {K : PySem.W.Frag} {te : TE} {g : TG} {tb : TS} {D : Ends} {σ : L2.St} {H : Hp} (h : te σ H fun x H1 => ∃ a, x = .ref a ∧ (∃ xs, SqL K H1 a xs) ∧ ∃ W : Nat → Nat → L2.St → Hp → Prop, (∃ m, W 0 m σ H1) ∧ ∀ i m σ H, W i m σ H →
    ((Itl K a).stop i H ∧ D.nx σ H) ∨ ((Itl K a).go i H ∧ ∃ N : L2.St → Hp → Prop, (∀ σ' H', N σ' H' → ∃ m', m' < m ∧ W (i + 1) m' σ' H') ∧ ∀ x H', (Itl K a).yld i H x H' → g x σ H' fun σ2 H2 => tb { D with nx := N, ct := N, bk := D.nx } σ2 H2)) : tFor (iList K te) g tb D σ H := h
end NF
set_option Elab.async false
set_option linter.all false
set_option maxRecDepth 100000
set_option maxHeartbeats 4000000
namespace K29
open PySem PySem.Spec PyProof.Rows L2 He NF RZ NT
def spChkN (K : PySem.W.Frag) (C : Addr) : Sp := fun vs H Q _ => ∃ a b gs rs, vs = [.ref a, .ref b] ∧ Row K H a (vS gs) ∧ RowsR K C H b rs ∧ GoodW gs rs ∧ ∀ H', Same H H' → Q .non H'
theorem sc_check_names : FnScope ["givens", "rows", "found", "name", "row", "source"] ["givens", "rows"] (defScope s_check_names) := ⟨rfl, rfl, rfl, by decide +kernel, rfl, by decide +kernel, by decide +kernel⟩
section
variable {P : Program} {w : World} {K : PySem.W.Frag} {mg : Str → Option Value} {base : Heap} {gs fs : List Str} {C : Addr} {tok : Tok}
theorem ok_check_rows {f : Addr} {fd : FuncData} (F : FunD K "check_rows" "check_rows" (defArgs s_check_rows) (defBody s_check_rows) (defScope s_check_rows) [] [] f fd) (T : Txt K mg gs FS) (mc : MakC K C) (kM : PySem.W.kitOne K (.ref C) (.type "str") = some false) (h_MOST_ROWS : mg "MOST_ROWS" = some (.int 6 tok)) (c_is_row : Cal P w K mg base 1 "is_row" (spIsRow K)) (c_is_made_row : Cal P w K mg base 4 "is_made_row" (spMadeR K C)) : FnOk P w K mg base CX0 5 f fd ["rows"] (spChkR K C) := by
  refine F.ok sc_check_rows (fun vs H Q E h => ?_) (fun cdv A outer s H vs Q E hr h => ?_)
  · obtain ⟨a, gs, rs, rfl, _⟩ := h
    rfl
  · obtain ⟨a, gs, rs, rfl, hrs, g, q⟩ := h
    have hu1 : (A.deeper (envOfC "check_rows" (defScope s_check_rows) s.heap.objs.size f cdv)).units + 1 < cLine := by
      have := hr.un
      omega
    refine ⟨_, PSs.nox (pss_cons (ps_if (PW.pt (pw_or (pt_not (pt_val (pe_c c_is_row hr (by decide) rfl (pa_cons (pv 0) pa_nil)))) (pw_or1 (pt_not (pt_chain op_le op_le pe_int (pe_callB call_len_seq rfl (T.fr _ (by decide +kernel)) boot_len (pa_cons (pv 0) pa_nil)) (pe_glob (v := .int 6) rfl h_MOST_ROWS ⟨_, rfl⟩)))))) (pss_one ps_never) pss_nil) (pss_cons (ps_set (i := 1) sc_check_rows.nd rfl (Or.inl rfl) pe_dnewK) (pss_one (ps_for PassesOwn.never rfl (pi_enumR rfl (T.fr _ (by decide +kernel)) (pa_cons (pv 0) pa_nil)) (pgt (K := K) (n := 2) rfl rfl (pgs_cons (pg_name (i := 2) sc_check_rows.nd rfl (Or.inl rfl)) (pgs_cons (pg_name (i := 3) sc_check_rows.nd rfl (Or.inl rfl)) pgs_nil))) (pss_cons (ps_if (pt_not (pt_val (pe_c c_is_made_row hr (by decide) rfl (pa_cons (pv 3) (pa_cons (pv 1) pa_nil))))) (pss_one ps_never) pss_nil) (pss_one (ps_if (pt_val (pe_callB call_isi rfl (T.fr _ (by decide +kernel)) (by decide +kernel) (pa_cons (pe_ix (ixs (K := K)) (pv 3) pe_int fun _ _ => rfl) (pa_cons (pe_bltn (v := .ty "str") rfl (T.fr _ (by decide +kernel)) (by decide +kernel) rfl) pa_nil)))) (pss_one (ps_dput hu1 (pv 1) (pe_ix (ixs (K := K)) (pv 3) pe_int fun _ _ => rfl) (pe_callB call_len_seq rfl (T.fr _ (by decide +kernel)) boot_len (pa_cons (pe_ix (ixs (K := K)) (pv 3) pe_int fun _ _ => rfl) pa_nil)) rfl)) pss_nil))))))), ?_⟩
    have r1 := g.r1
    have r6 := g.r6
    obtain ⟨as, ha, hl, hr1⟩ := hrs
    have al : (as.map V.ref).length = rs.length := by rw [List.length_map, hl]
    refine ⟨_, rfl, a, _, rfl, ha, fun H1 s1 => ⟨true, rfl, iteF ?_⟩⟩
    refine ⟨_, rfl, a, _, rfl, ha.mono s1, ?_⟩
    rw [al]
    refine ⟨_, _, rfl, rfl, _, rfl, iteT' (decide_eq_true (by omega)) ⟨_, _, rfl, rfl, _, rfl, ?_⟩⟩
    rw [show decide ((rs.length : Int) ≤ 6) = true from decide_eq_true (by omega)]
    refine iteF ?_
    intro D hD
    have sD := NF.Same.new (o := .dK []) (Same.refl H1) hD
    refine for_enumM (K := K) (H0 := H1) rfl (ha.mono s1) (fun j σ G => Same H1 G ∧ ∃ kvs, G D = some (.dK kvs) ∧ kvs.length ≤ j ∧ (∀ u v, valV kvs (.inr u) = some v → ∃ r ∈ rs, r.mkr = .unk u ∧ v = .int (r.srcs.length : Int)) ∧ ∃ v1 v2 : Option V, σ = [some (.ref a), some (.ref D), v1, v2]) ⟨sD, [], upd_same, Nat.zero_le _, (fun u v e => by cases e), _, _, rfl⟩ (fun j σ G z => z.1) ?_ ?_
    · rintro j u σ G G' hj ⟨sG, kvs, hG, hk, dok, v1, v2, rfl⟩ ⟨T, x, rfl, hT, rfl, hx⟩
      have t1 := NF.Same.new (o := .tup [V.int (j : Int), x]) (Same.refl G) hT
      refine ⟨T, _, rfl, SqT.of upd_same, rfl, _, _, rfl, ?_⟩
      refine ⟨_, _, rfl, ?_⟩
      refine ⟨rfl, ?_⟩
      generalize upd G T (.tup [V.int (j : Int), x]) = G1 at t1
      have hG1 := t1 _ _ hG
      rw [List.length_map] at hj
      rw [List.getElem?_map, List.getElem?_eq_getElem hj] at hx
      obtain rfl : V.ref as[j] = x := Option.some.inj hx
      have hjr : j < rs.length := by omega
      have hm : rs[j] ∈ rs := List.getElem_mem hjr
      have rr := (hr1 j as[j] rs[j] (List.getElem?_eq_getElem hj) (List.getElem?_eq_getElem hjr)).mono (Same.trans s1 (Same.trans sG t1))
      refine ⟨_, rfl, _, rfl, as[j], D, rs[j], kvs, rfl, rr, g.row hm, hG1, fun u e => ?_, fun G2 s2 => ⟨true, rfl, iteF ?_⟩⟩
      · cases z : valV kvs (.inr u) with
        | none => exact .inl rfl
        | some v =>
          obtain ⟨r', hr', e1, rfl⟩ := dok u v z
          rw [g.like r' hr' rs[j] hm u e1 e]
          exact .inr rfl
      have hG2 := s2 _ _ hG1
      have sG2 := Same.trans sG (Same.trans t1 s2)
      obtain ⟨v, ps, hra, hrv, hps⟩ := rr.mono s2
      refine ⟨_, rfl, ix_done (K := K) hra (show atI [V.str rs[j].name, v, V.ref ps] 1 = some v from rfl) ?_⟩
      cases em : rs[j].mkr with
      | mak n b ws =>
        rw [em] at hrv
        obtain ⟨y, rfl, dx, _, _, hy, _⟩ := hrv
        refine ⟨_, _, _, _, false, rfl, .ty "str", mc.ty hy, kM, false, rfl, iteF ?_⟩
        exact ⟨sG2, kvs, hG2, by omega, dok, _, _, rfl⟩
      | unk u =>
        rw [em] at hrv
        obtain rfl : v = .str u := hrv
        refine ⟨_, _, _, _, true, rfl, .ty "str", .base (.str _), kit_s_s K, true, rfl, iteT ?_⟩
        refine ⟨_, rfl, ix_done (K := K) hra (show atI [V.str rs[j].name, V.str u, V.ref ps] 2 = some (V.ref ps) from rfl) ?_⟩
        refine ⟨ps, _, rfl, hps, _, rfl, _, rfl, ix_done (K := K) hra (show atI [V.str rs[j].name, V.str u, V.ref ps] 1 = some (V.str u) from rfl) ?_⟩
        refine ⟨D, _, rfl, DPut.k (k := Sum.inr u) hG2 (Nat.lt_of_le_of_lt (show kvs.length ≤ 6 by omega) (by decide)), ?_⟩
        refine ⟨NF.Same.mut sG2 hD, _, upd_same, ?_, fun u' v' e => ?_, _, _, rfl⟩
        · have := length_putK kvs (Sum.inr u) (V.int ((vS rs[j].srcs).length : Int))
          omega
        · rw [valV_put] at e
          by_cases c : (Sum.inr u' : Key) = Sum.inr u
          · rw [if_pos c] at e
            cases e
            cases c
            exact ⟨rs[j], hm, em, by rw [show (vS rs[j].srcs).length = rs[j].srcs.length from List.length_map ..]⟩
          · rw [if_neg c] at e
            exact dok u' v' e
    · rintro σ G ⟨sG, kvs, hG, hk, dok, v1, v2, rfl⟩
      exact q G (Same.trans s1 sG)
end
end K29
set_option Elab.async false
set_option linter.all false
set_option maxRecDepth 100000
set_option maxHeartbeats 4000000
namespace K29
open PySem PySem.Spec PyProof.Rows L2 He NF RZ NT
section
variable {P : Program} {w : World} {K : PySem.W.Frag} {mg : Str → Option Value} {base : Heap} {gs fs : List Str} {C : Addr} {tok : Tok}
theorem ok_check_names {f : Addr} {fd : FuncData} (F : FunD K "check_names" "check_names" (defArgs s_check_names) (defBody s_check_names) (defScope s_check_names) [] [] f fd) (T : Txt K mg gs FS) : FnOk P w K mg base CX0 1 f fd ["givens", "rows"] (spChkN K C) := by
  refine F.ok sc_check_names (fun vs H Q E h => ?_) (fun cdv A outer s H vs Q E hr h => ?_)
  · obtain ⟨a, b, gs, rs, rfl, _⟩ := h
    rfl
  · obtain ⟨a, b, gs, rs, rfl, hg, hrs, g, q⟩ := h
    have hu1 : (A.deeper (envOfC "check_names" (defScope s_check_names) s.heap.objs.size f cdv)).units + 1 < cLine := by
      have := hr.un
      omega
    refine ⟨_, PSs.nox (pss_cons (ps_set (i := 2) sc_check_names.nd rfl (Or.inl rfl) pe_dnewK) (pss_cons (ps_for PassesOwn.never rfl (pi_list (pe_op op_cat (pe_callTy call_list_of rfl (T.fr _ (by decide +kernel)) (by decide +kernel) (pa_cons (pv 0) pa_nil)) (pe_lc (own := [("row", 4)]) rfl sc_check_names.nd (pi_row (pv 1)) (blkOk_by (N := ["givens", "rows", "found", "name", "row", "source"]) (sc := defScope s_check_names) (by decide +kernel)) (fun _ _ _ _ _ => by exact (pg_name (i := 4) sc_check_names.nd rfl (Or.inl rfl))) (fun _ _ _ _ _ => by exact pts_nil) (fun _ _ _ _ _ => by exact (pe_ix (ixs (K := K)) (pv 4) pe_int fun _ _ => rfl))))) (pg_name (i := 3) sc_check_names.nd rfl (Or.inl rfl)) (pss_cons (ps_if (pt_cmp (pc_din hu1 (pv 3) (pv 2))) (pss_one ps_never) pss_nil) (pss_one (ps_dput hu1 (pv 2) (pv 3) pe_bl rfl)))) (pss_one (ps_for PassesOwn.never rfl (pi_row (pv 1)) (pg_name (i := 4) sc_check_names.nd rfl (Or.inl rfl)) (pss_one (ps_for PassesOwn.never rfl (pi_row (pe_ix (ixs (K := K)) (pv 4) pe_int fun _ _ => rfl)) (pg_name (i := 5) sc_check_names.nd rfl (Or.inl rfl)) (pss_one (ps_if (pt_cmp (pc_dnotin hu1 (pv 5) (pv 2))) (pss_one ps_never) pss_nil)))))))), ?_⟩
    have r1 := g.r1
    have r6 := g.r6
    have g3 := g.g3
    obtain ⟨as, hb, hl, hr1⟩ := id hrs
    intro D hD
    have sD := NF.Same.new (o := .dK []) (Same.refl H) hD
    have hD0 := upd_same (H := H) (a := D) (o := .dK [])
    generalize upd H D (.dK []) = H1 at sD hD0
    -- the names
    refine ⟨_, rfl, a, _, rfl, hg.mono sD, fun L1 hL1 => ?_⟩
    have s2 := NF.Same.new (o := .lst (vS gs)) (Same.refl H1) hL1
    have hL1' := upd_same (H := H1) (a := L1) (o := .lst (vS gs))
    generalize upd H1 L1 (.lst (vS gs)) = H2 at s2 hL1'
    have s02 := Same.trans sD s2
    refine ⟨_, rfl, b, rfl, ?_⟩
    refine lc_row (hb.mono s02) (fun X j G => Same H2 G ∧ G X = some (.lst (vS ((rs.map RowD.name).take j)))) (fun X hX => ⟨NF.Same.new (Same.refl H2) hX, upd_same⟩) (fun X j G _ z => z.1) ?_ ?_
    · rintro X hX j v G hv ⟨sG, hG⟩
      have hj := (List.getElem?_eq_some_iff.mp hv).1
      rw [List.length_map] at hj
      obtain rfl : V.ref (as[j]) = v := by
        rw [List.getElem?_map, List.getElem?_eq_getElem hj] at hv
        exact Option.some.inj hv
      have hjr : j < rs.length := by omega
      obtain ⟨v, ps, hra, _, _⟩ := (hr1 j as[j] rs[j] (List.getElem?_eq_getElem hj) (List.getElem?_eq_getElem hjr)).mono (Same.trans s02 sG)
      refine ⟨rfl, _, rfl, ix_done (K := K) hra (show atI [V.str rs[j].name, v, V.ref ps] 0 = some (V.str rs[j].name) from rfl) ?_⟩
      refine ⟨_, hG, by unfold vS; rw [List.length_map, List.length_take, List.length_map]; exact Nat.lt_of_le_of_lt (show min j rs.length ≤ 6 by omega) (by decide), NF.Same.mut sG hX, ?_⟩
      rw [upd_same, List.take_add_one, List.getElem?_map, List.getElem?_eq_getElem hjr]
      unfold vS
      rw [List.map_append]
      rfl
    rintro X hX H3 ⟨s3, hX3⟩
    rw [List.length_map, hl, List.take_of_length_le (by simp)] at hX3
    have hL3 := s3 _ _ hL1'
    refine ⟨L1, X, _, _, rfl, rfl, hL3, hX3, by
      unfold vS
      rw [List.length_map, List.length_map, List.length_map]
      exact Nat.le_trans (show gs.length + rs.length ≤ 9 by omega) (by decide), fun L hL => ?_⟩
    have s4 := NF.Same.new (o := .lst (vS gs ++ vS (rs.map RowD.name))) (Same.refl H3) hL
    have hL' := upd_same (H := H3) (a := L) (o := .lst (vS gs ++ vS (rs.map RowD.name)))
    generalize upd H3 L (.lst (vS gs ++ vS (rs.map RowD.name))) = H4 at s4 hL'
    have s04 := Same.trans s02 (Same.trans s3 s4)
    have hD4 := s4 _ _ (s3 _ _ (s2 _ _ hD0))
    obtain ⟨ns, hns⟩ : ∃ ns, ns = gs ++ rs.map RowD.name := ⟨_, rfl⟩
    have nd := g.nd
    have inn := g.inn
    rw [← hns] at nd inn
    have eL : vS gs ++ vS (rs.map RowD.name) = vS ns := by
      unfold vS
      rw [hns, List.map_append]
    rw [eL] at hL'
    have nl : ns.length ≤ 9 := by
      rw [hns, List.length_append, List.length_map]
      omega
    have vl : (vS ns).length = ns.length := List.length_map ..
    have LD : L ≠ D := fun z => by
      rw [z, hD4] at hL'
      cases hL'
    -- all but the dict
    have sw : Same H (wo H4 D) := wo_into hD s04
    have hLw : (wo H4 D) L = some (.lst (vS ns)) := (wo_ne LD).trans hL'
    have sW : Same (wo H4 D) H4 := wo_same'
    have nD : (wo H4 D) D = none := wo_none
    have hrsw := hrs.mono sw
    generalize wo H4 D = B at sw hLw sW nD hrsw
    refine ⟨L, rfl, ⟨_, SqL.of hL'⟩, for_list (xs := vS ns) (fun j σ G => Same B G ∧ ∃ kvs, G D = some (.dK kvs) ∧ kvs.length ≤ j ∧ (∀ z : Str, (valV kvs (.inr z)).isSome = decide (z ∈ ns.take j)) ∧ ∃ v3 v4 v5 : Option V, σ = [some (.ref a), some (.ref b), some (.ref D), v3, v4, v5]) ⟨sW, [], hD4, Nat.zero_le _, (fun z => by simp [valV]), none, none, none, rfl⟩ (fun j σ G _ z => SqL.of (z.1 _ _ hLw)) ?_ ?_⟩
    · rintro j v σ G hv ⟨sG, kvs, hG, hk, dom, v3, v4, v5, rfl⟩
      have hj := (List.getElem?_eq_some_iff.mp hv).1
      rw [vl] at hj
      unfold vS at hv
      rw [List.getElem?_map, List.getElem?_eq_getElem hj] at hv
      obtain rfl : V.str ns[j] = v := Option.some.inj hv
      have new : (valV kvs (.inr ns[j])).isSome = false := by
        rw [dom]
        refine decide_eq_false fun hm => ?_
        obtain ⟨i, hi, e⟩ := List.getElem_of_mem hm
        rw [List.length_take] at hi
        rw [List.getElem_take] at e
        have := (List.nodup_iff_pairwise_ne.mp nd) |> List.pairwise_iff_getElem.mp
        exact this i j (by omega) hj (by omega) e
      refine ⟨_, rfl, _, rfl, D, _, rfl, DGet.k (k := Sum.inr ns[j]) hG, _, rfl, ?_⟩
      rw [new]
      refine iteF ?_
      refine ⟨_, rfl, _, rfl, D, _, rfl, DPut.k (k := Sum.inr ns[j]) hG (Nat.lt_of_le_of_lt (show kvs.length ≤ 9 by omega) (by decide)), ?_⟩
      refine ⟨NF.Same.mut sG nD, _, upd_same, ?_, fun z => ?_, _, _, _, rfl⟩
      · have := length_putK kvs (Sum.inr ns[j]) (V.bl true)
        omega
      · rw [valV_put, List.take_add_one, List.getElem?_eq_getElem hj]
        by_cases c : (Sum.inr z : Key) = Sum.inr ns[j]
        · rw [if_pos c]
          cases c
          symm
          exact decide_eq_true (List.mem_append.mpr (.inr (List.mem_singleton.mpr rfl)))
        · rw [if_neg c, dom]
          have : z ≠ ns[j] := fun e => c (by rw [e])
          exact decide_eq_decide.mpr ⟨fun h => List.mem_append.mpr (.inl h), fun h => (List.mem_append.mp h).elim id fun h => absurd (List.mem_singleton.mp h) this⟩
    · rintro σ G ⟨sG, kvs, hG, hk, dom, v3, v4, v5, rfl⟩
      rw [vl, List.take_length] at dom
      obtain ⟨as', hb', hl', hr'⟩ := hrsw
      refine ⟨_, rfl, b, rfl, ?_⟩
      refine for_rowM (H0 := B) hb' (fun j σ Z => Same B Z ∧ Z D = some (.dK kvs) ∧ ∃ v3 v4 v5 : Option V, σ = [some (.ref a), some (.ref b), some (.ref D), v3, v4, v5]) ⟨sG, hG, _, _, _, rfl⟩ (fun j σ Z z => z.1) ?_ ?_
      · rintro j v σ Z hv ⟨sZ, hZ, v3, v4, v5, rfl⟩
        have hj := (List.getElem?_eq_some_iff.mp hv).1
        rw [List.length_map] at hj
        obtain rfl : V.ref (as'[j]) = v := by
          rw [List.getElem?_map, List.getElem?_eq_getElem hj] at hv
          exact Option.some.inj hv
        have hjr : j < rs.length := by omega
        have hm : rs[j] ∈ rs := List.getElem_mem hjr
        obtain ⟨v, ps, hra, _, hps⟩ := hr' j as'[j] rs[j] (List.getElem?_eq_getElem hj) (List.getElem?_eq_getElem hjr)
        refine ⟨_, rfl, ix_done (K := K) (hra.mono sZ) (show atI [V.str rs[j].name, v, V.ref ps] 2 = some (V.ref ps) from rfl) ?_⟩
        refine ⟨ps, rfl, ?_⟩
        refine for_rowM (H0 := B) hps (fun i σ Y => Same B Y ∧ Y D = some (.dK kvs) ∧ ∃ v3 v5 : Option V, σ = [some (.ref a), some (.ref b), some (.ref D), v3, some (.ref as'[j]), v5]) ⟨sZ, hZ, _, _, rfl⟩ (fun i σ Y z => z.1) ?_ ?_
        · rintro i y σ Y hy ⟨sY, hY, v3, v5, rfl⟩
          have hi := (List.getElem?_eq_some_iff.mp hy).1
          rw [show (vS rs[j].srcs).length = rs[j].srcs.length from List.length_map ..] at hi
          unfold vS at hy
          rw [List.getElem?_map, List.getElem?_eq_getElem hi] at hy
          obtain rfl : V.str rs[j].srcs[i] = y := Option.some.inj hy
          refine ⟨_, rfl, _, rfl, D, _, rfl, DGet.k (k := Sum.inr rs[j].srcs[i]) hY, _, rfl, ?_⟩
          rw [dom, decide_eq_true (inn rs[j] hm _ (List.getElem_mem hi))]
          exact iteF ⟨sY, hY, _, _, rfl⟩
        · rintro σ Y ⟨sY, hY, v3, v5, rfl⟩
          exact ⟨sY, hY, _, _, _, rfl⟩
      · rintro σ Z ⟨sZ, hZ, v3, v4, v5, rfl⟩
        exact q Z (Same.trans sw sZ)
end
end K29
set_option Elab.async false
set_option linter.all false
set_option maxRecDepth 100000
set_option maxHeartbeats 4000000
namespace K29
open PySem PySem.Spec PyProof.Rows L2 He NF RZ NT
structure WebC (K : PySem.W.Frag) (C : Addr) : Prop where
  cl : Cls K C
  ng : NoAttr K C "givens"
  nr : NoAttr K C "rows"
  nn : NoAttr K C "names"
  ac : PySem.W.findIn K (.ref C) "__class__" = some (some (.builtin "object.__class__"))
  ag : PySem.W.specialIn K (.builtin "object.__class__") "__get__" = some (some (.builtin "getset_descriptor.__get__"))
  at_ : PySem.W.takesIn K (.builtin "object.__class__") = some true
  am : PySem.W.mroIn K C (.type "object") = some true
  self : PySem.W.kitOne K (.ref C) (.ref C) = some true
  tup : PySem.W.kitOne K (.type "tuple") (.ref C) = some false
  lst : PySem.W.kitOne K (.type "list") (.ref C) = some false
theorem WebC.ty {K : PySem.W.Frag} {C : Addr} (c : WebC K C) {H : Hp} {a dx : Addr} {fs : List (Str × V)} (h : H a = some (.ins C dx fs)) : TyX K H (.ref a) (.ref C) := .base (.ins h c.cl c.ac c.ag c.at_ c.am)
/-- a row that is a tuple; its maker stands in B -/
def RowX (K : PySem.W.Frag) (C : Addr) (B H : Hp) (a : Addr) (r : RowD) : Prop := ∃ v ps, SqT K H a [.str r.name, v, .ref ps] ∧ MkV K C B v r.mkr ∧ SqT K H ps (vS r.srcs)
theorem RowX.mono {K : PySem.W.Frag} {C : Addr} {B H H' : Hp} {a : Addr} {r : RowD} (h : RowX K C B H a r) (s : Same H H') : RowX K C B H' a r := by
  obtain ⟨v, ps, h1, h2, h3⟩ := h
  exact ⟨v, ps, NF.Same.tup s h1, h2, NF.Same.tup s h3⟩
theorem RowX.baseMono {K : PySem.W.Frag} {C : Addr} {B B' H : Hp} {a : Addr} {r : RowD} (h : RowX K C B H a r) (s : Same B B') : RowX K C B' H a r := by
  obtain ⟨v, ps, h1, h2, h3⟩ := h
  exact ⟨v, ps, h1, h2.mono s, h3⟩
theorem RowX.put {K : PySem.W.Frag} {C : Addr} {B H : Hp} {a x : Addr} {r : RowD} {o u : HO} (h : RowX K C B H a r) (hx : H x = some u) (n : match u with | .lst _ => True | .ins _ _ _ => True | _ => False) : RowX K C B (upd H x o) a r := by
  obtain ⟨v, ps, h1, h2, h3⟩ := h
  exact ⟨v, ps, SqT.put h1 hx n, h2, SqT.put h3 hx n⟩
def RowsX (K : PySem.W.Frag) (C : Addr) (B H : Hp) (p : Addr) (rs : List RowD) : Prop := ∃ as : List Addr, SqT K H p (as.map V.ref) ∧ as.length = rs.length ∧ ∀ (j : Nat) (x : Addr) (r : RowD), as[j]? = some x → rs[j]? = some r → RowX K C B H x r
theorem RowsX.mono {K : PySem.W.Frag} {C : Addr} {B H H' : Hp} {p : Addr} {rs : List RowD} (h : RowsX K C B H p rs) (s : Same H H') : RowsX K C B H' p rs := by
  obtain ⟨as, h1, h2, h3⟩ := h
  exact ⟨as, NF.Same.tup s h1, h2, fun j x r e1 e2 => (h3 j x r e1 e2).mono s⟩
theorem RowsX.put {K : PySem.W.Frag} {C : Addr} {B H : Hp} {p x : Addr} {rs : List RowD} {o u : HO} (h : RowsX K C B H p rs) (hx : H x = some u) (n : match u with | .lst _ => True | .ins _ _ _ => True | _ => False) : RowsX K C B (upd H x o) p rs := by
  obtain ⟨as, h1, h2, h3⟩ := h
  exact ⟨as, SqT.put h1 hx n, h2, fun j y r e1 e2 => (h3 j y r e1 e2).put hx n⟩
theorem RowsX.baseMono {K : PySem.W.Frag} {C : Addr} {B B' H : Hp} {p : Addr} {rs : List RowD} (h : RowsX K C B H p rs) (s : Same B B') : RowsX K C B' H p rs := by
  obtain ⟨as, h1, h2, h3⟩ := h
  exact ⟨as, h1, h2, fun j x r e1 e2 => (h3 j x r e1 e2).baseMono s⟩
def wf (pg pr pn : Addr) : List (Str × V) := [("givens", .ref pg), ("rows", .ref pr), ("names", .ref pn)]
theorem wf_eq (pg pr pn : Addr) : putF "names" (.ref pn) (putF "rows" (.ref pr) (putF "givens" (.ref pg) [])) = wf pg pr pn := by rfl
def WebAt (K : PySem.W.Frag) (CW C : Addr) (H : Hp) (x : Addr) (gs : List Str) (rs : List RowD) : Prop := ∃ dx pg pr pn, H x = some (.ins CW dx (wf pg pr pn)) ∧ SqT K H pg (vS gs) ∧ RowsX K C H H pr rs ∧ SqT K H pn (vS (rs.map RowD.name))
theorem WebAt.mono {K : PySem.W.Frag} {CW C : Addr} {H H' : Hp} {x : Addr} {gs : List Str} {rs : List RowD} (h : WebAt K CW C H x gs rs) (s : Same H H') : WebAt K CW C H' x gs rs := by
  obtain ⟨dx, pg, pr, pn, h1, h2, h3, h4⟩ := h
  exact ⟨dx, pg, pr, pn, s _ _ h1, NF.Same.tup s h2, (h3.mono s).baseMono s, NF.Same.tup s h4⟩
def spWInit (K : PySem.W.Frag) (CW C : Addr) : Sp := fun vs H Q _ => ∃ x dx a b gs rs, vs = [.ref x, .ref a, .ref b] ∧ H x = some (.ins CW dx []) ∧ Row K (wo H x) a (vS gs) ∧ RowsR K C (wo H x) b rs ∧ GoodW gs rs ∧
  ∀ H', Same (wo H x) H' → WebAt K CW C H' x gs rs → Q .non H'
theorem sc_Web___init__ : FnScope ["self", "givens", "rows", "row"] ["self", "givens", "rows"] (defScope s_Web_init) := ⟨rfl, rfl, rfl, by decide +kernel, rfl, by decide +kernel, by decide +kernel⟩
section
variable {P : Program} {w : World} {K : PySem.W.Frag} {mg : Str → Option Value} {base : Heap} {gs fs : List Str} {C CW : Addr} {tok : Tok}
theorem ok_Web_init {f : Addr} {fd : FuncData} (F : FunD K "__init__" "Web.__init__" (defArgs s_Web_init) (defBody s_Web_init) (defScope s_Web_init) [] [] f fd) (T : Txt K mg gs FS) (wc : WebC K CW) (c_check_givens : Cal P w K mg base 3 "check_givens" (spChkG K)) (c_check_rows : Cal P w K mg base 5 "check_rows" (spChkR K C)) (c_check_names : Cal P w K mg base 1 "check_names" (spChkN K C)) : FnOk P w K mg base CX0 6 f fd ["self", "givens", "rows"] (spWInit K CW C) := by
  refine F.ok sc_Web___init__ (fun vs H Q E h => ?_) (fun cdv A outer s H vs Q E hr h => ?_)
  · obtain ⟨x, dx, a, b, gs, rs, rfl, _⟩ := h
    rfl
  · obtain ⟨x, dx, a, b, gs, rs, rfl, hx, hg, hrs, g, q⟩ := h
    refine ⟨_, PSs.nox (pss_cons (ps_expr (pe_c c_check_givens hr (by decide) rfl (pa_cons (pv 1) pa_nil))) (pss_cons (ps_expr (pe_c c_check_rows hr (by decide) rfl (pa_cons (pv 2) pa_nil))) (pss_cons (ps_expr (pe_c c_check_names hr (by decide) rfl (pa_cons (pv 1) (pa_cons (pv 2) pa_nil)))) (pss_cons (ps_fld (pv 0) (pe_callTy cr_tup rfl (T.fr _ (by decide +kernel)) (by decide +kernel) (pa_cons (pv 1) pa_nil)) rfl) (pss_cons (ps_fld (pv 0) (pe_callTy cr_tup rfl (T.fr _ (by decide +kernel)) (by decide +kernel) (pa_cons (pe_lc (own := [("row", 3)]) rfl sc_Web___init__.nd (pi_row (pv 2)) (blkOk_by (N := ["self", "givens", "rows", "row"]) (sc := defScope s_Web_init) (by decide +kernel)) (fun _ _ _ _ _ => by exact (pg_name (i := 3) sc_Web___init__.nd rfl (Or.inl rfl))) (fun _ _ _ _ _ => by exact pts_nil) (fun _ _ _ _ _ => by exact (pe_tup (pa_cons (pe_ix (ixs (K := K)) (pv 3) pe_int fun _ _ => rfl) (pa_cons (pe_ix (ixs (K := K)) (pv 3) pe_int fun _ _ => rfl) (pa_cons (pe_callTy (cr_tupK (K := K)) rfl (T.fr _ (by decide +kernel)) (by decide +kernel) (pa_cons (pe_ix (ixs (K := K)) (pv 3) pe_int fun _ _ => rfl) pa_nil)) pa_nil)))))) pa_nil)) rfl) (pss_one (ps_fld (pv 0) (pe_callTy cr_tup rfl (T.fr _ (by decide +kernel)) (by decide +kernel) (pa_cons (pe_lc (own := [("row", 3)]) rfl sc_Web___init__.nd (pi_row (pv 2)) (blkOk_by (N := ["self", "givens", "rows", "row"]) (sc := defScope s_Web_init) (by decide +kernel)) (fun _ _ _ _ _ => by exact (pg_name (i := 3) sc_Web___init__.nd rfl (Or.inl rfl))) (fun _ _ _ _ _ => by exact pts_nil) (fun _ _ _ _ _ => by exact (pe_ix (ixs (K := K)) (pv 3) pe_int fun _ _ => rfl))) pa_nil)) rfl))))))), ?_⟩
    have hg0 := hg.mono wo_same'
    have hr0 := hrs.mono wo_same'
    have r1 := g.r1
    have r6 := g.r6
    have g3 := g.g3
    refine ⟨_, rfl, a, gs, rfl, hg0, g3, g.gn, fun H1 s1 => ?_⟩
    refine ⟨_, rfl, b, gs, rs, rfl, hr0.mono s1, g, fun H2 s2 => ?_⟩
    refine ⟨_, rfl, _, rfl, a, b, gs, rs, rfl, hg0.mono (Same.trans s1 s2), hr0.mono (Same.trans s1 s2), g, fun H3 s3 => ?_⟩
    have s03 := Same.trans s1 (Same.trans s2 s3)
    have sw : Same (wo H x) H3 := Same.trans wo_same' s03
    have hx3 := s03 _ _ hx
    -- the givens
    refine ⟨_, rfl, a, _, rfl, hg.mono sw, fun p1 H4 s4 t1 => ?_⟩
    have hx4 := s4 _ _ hx3
    have sw4 := Same.trans sw s4
    refine ⟨_, rfl, x, CW, dx, _, rfl, hx4, wc.cl, wc.ng, (by decide), ?_⟩
    have sw5 := NF.Same.put (o := .ins CW dx (putF "givens" (.ref p1) [])) sw4 wo_none
    have hx5 := upd_same (H := H4) (a := x) (o := .ins CW dx (putF "givens" (.ref p1) []))
    have t1 := SqT.put (o := .ins CW dx (putF "givens" (.ref p1) [])) t1 hx4 trivial
    generalize upd H4 x (.ins CW dx (putF "givens" (.ref p1) [])) = H5 at sw5 hx5 t1
    obtain ⟨as, ha0, hl, hrB⟩ := id hrs
    have ha := ha0.mono sw5
    -- the rows
    refine ⟨_, rfl, b, rfl, ?_⟩
    refine lc_row ha (fun D j G => Same H5 G ∧ ∃ bs : List Addr, bs.length = j ∧ G D = some (.lst (bs.map V.ref)) ∧ ∀ (k : Nat) (y : Addr) (r : RowD), bs[k]? = some y → rs[k]? = some r → RowX K C (wo H x) G y r) (fun D hD => ⟨NF.Same.new (Same.refl H5) hD, [], rfl, upd_same, fun k y r e => by simp at e⟩) (fun D i G _ z => z.1) ?_ ?_
    · rintro D hD j v G hv ⟨sG, bs, hbs, hD2, hts⟩
      have hj := (List.getElem?_eq_some_iff.mp hv).1
      rw [List.length_map] at hj
      obtain rfl : V.ref (as[j]) = v := by
        rw [List.getElem?_map, List.getElem?_eq_getElem hj] at hv
        exact Option.some.inj hv
      have hjr : j < rs.length := by omega
      obtain ⟨v, ps, hra, hrv, hps⟩ := hrB j as[j] rs[j] (List.getElem?_eq_getElem hj) (List.getElem?_eq_getElem hjr)
      have hraG := hra.mono (Same.trans sw5 sG)
      refine ⟨rfl, _, rfl, ix_done (K := K) hraG (show atI [V.str rs[j].name, v, V.ref ps] 0 = some (V.str rs[j].name) from rfl) ?_⟩
      refine ⟨_, rfl, ix_done (K := K) hraG (show atI [V.str rs[j].name, v, V.ref ps] 1 = some v from rfl) ?_⟩
      refine ⟨_, rfl, ix_done (K := K) hraG (show atI [V.str rs[j].name, v, V.ref ps] 2 = some (V.ref ps) from rfl) ?_⟩
      refine ⟨ps, _, rfl, hps.mono (Same.trans sw5 sG), fun p2 G2 s2 t2 => ?_⟩
      refine ⟨(by show 3 ≤ sizeLine; decide), fun tt htt => ?_⟩
      have s3' := NF.Same.new (o := .tup [V.str rs[j].name, v, V.ref p2]) (Same.refl G2) htt
      have htt' := upd_same (H := G2) (a := tt) (o := .tup [V.str rs[j].name, v, V.ref p2])
      generalize upd G2 tt (.tup [V.str rs[j].name, v, V.ref p2]) = G3 at s3' htt'
      have s23 := Same.trans s2 s3'
      have hD3 := s23 _ _ hD2
      refine ⟨_, hD3, by rw [List.length_map, hbs]; exact Nat.lt_of_lt_of_le (show j < 10000 by omega) (by decide), NF.Same.mut (Same.trans sG s23) hD, bs ++ [tt], by simp [hbs], ?_, fun k y r e1 e2 => ?_⟩
      · rw [upd_same, List.map_append]
        rfl
      · refine RowX.put ?_ hD3 trivial
        rcases Nat.lt_trichotomy k j with h | h | h
        · rw [List.getElem?_append_left (by omega)] at e1
          exact (hts k y r e1 e2).mono s23
        · subst h
          rw [List.getElem?_append_right (by omega), hbs, Nat.sub_self] at e1
          rw [List.getElem?_eq_getElem hjr] at e2
          cases e1
          cases e2
          exact ⟨v, p2, SqT.of htt', hrv, NF.Same.tup s3' t2⟩
        · rw [List.getElem?_eq_none (by simp [hbs]; omega)] at e1
          cases e1
    rintro D hD G ⟨sG, bs, hbs, hD2, hts⟩
    rw [List.length_map, hl] at hbs
    refine ⟨D, _, rfl, .inl (SqL.of hD2), fun p2 G2 s2' t2 => ?_⟩
    have hx6 := s2' _ _ (sG _ _ hx5)
    have s56 := Same.trans sG s2'
    have rx : RowsX K C (wo H x) G2 p2 rs := ⟨bs, t2, hbs, fun j y r e1 e2 => (hts j y r e1 e2).mono s2'⟩
    refine ⟨_, rfl, x, CW, dx, _, rfl, hx6, wc.cl, wc.nr, (show 1 < 1000 by decide), ?_⟩
    have sw7 := NF.Same.put (o := .ins CW dx (putF "rows" (.ref p2) (putF "givens" (.ref p1) []))) (Same.trans sw5 s56) wo_none
    have hx7 := upd_same (H := G2) (a := x) (o := .ins CW dx (putF "rows" (.ref p2) (putF "givens" (.ref p1) [])))
    have t1 := SqT.put (o := .ins CW dx (putF "rows" (.ref p2) (putF "givens" (.ref p1) []))) (NF.Same.tup s56 t1) hx6 trivial
    have rx := RowsX.put (o := .ins CW dx (putF "rows" (.ref p2) (putF "givens" (.ref p1) []))) rx hx6 trivial
    generalize upd G2 x (.ins CW dx (putF "rows" (.ref p2) (putF "givens" (.ref p1) []))) = H7 at sw7 hx7 t1 rx
    -- the names
    obtain ⟨as7, ha7, hl7, hr7⟩ := hrs.mono sw7
    refine ⟨_, rfl, b, rfl, ?_⟩
    refine lc_row ha7 (fun X j G => Same H7 G ∧ G X = some (.lst (vS ((rs.map RowD.name).take j)))) (fun X hX => ⟨NF.Same.new (Same.refl H7) hX, upd_same⟩) (fun X j G _ z => z.1) ?_ ?_
    · rintro X hX j v G hv ⟨sG, hG⟩
      have hj := (List.getElem?_eq_some_iff.mp hv).1
      rw [List.length_map] at hj
      obtain rfl : V.ref (as7[j]) = v := by
        rw [List.getElem?_map, List.getElem?_eq_getElem hj] at hv
        exact Option.some.inj hv
      have hjr : j < rs.length := by omega
      obtain ⟨v, ps, hra, _, _⟩ := (hr7 j as7[j] rs[j] (List.getElem?_eq_getElem hj) (List.getElem?_eq_getElem hjr)).mono sG
      refine ⟨rfl, _, rfl, ix_done (K := K) hra (show atI [V.str rs[j].name, v, V.ref ps] 0 = some (V.str rs[j].name) from rfl) ?_⟩
      refine ⟨_, hG, by unfold vS; rw [List.length_map, List.length_take, List.length_map]; exact Nat.lt_of_le_of_lt (show min j rs.length ≤ 6 by omega) (by decide), NF.Same.mut sG hX, ?_⟩
      rw [upd_same, List.take_add_one, List.getElem?_map, List.getElem?_eq_getElem hjr]
      unfold vS
      rw [List.map_append]
      rfl
    rintro X hX G8 ⟨s8, hX8⟩
    rw [List.length_map, hl7, List.take_of_length_le (by simp)] at hX8
    refine ⟨X, _, rfl, .inl (SqL.of hX8), fun p3 G9 s9 t3 => ?_⟩
    have s79 := Same.trans s8 s9
    have hx9 := s79 _ _ hx7
    refine ⟨_, rfl, x, CW, dx, _, rfl, hx9, wc.cl, wc.nn, (show 2 < 1000 by decide), ?_⟩
    have swE := NF.Same.put (o := .ins CW dx (putF "names" (.ref p3) (putF "rows" (.ref p2) (putF "givens" (.ref p1) [])))) (Same.trans sw7 s79) wo_none
    refine q _ swE ⟨dx, p1, p2, p3, ?_, SqT.put (NF.Same.tup s79 t1) hx9 trivial, ?_, SqT.put t3 hx9 trivial⟩
    · rw [upd_same, ← wf_eq]
    · exact ((rx.mono s79).put hx9 trivial).baseMono swE
end
end K29
set_option Elab.async false
set_option linter.all false
set_option maxRecDepth 100000
set_option maxHeartbeats 4000000
/-! == of tuples whose items are compared by an own ==, with either answer. -/
namespace NF
open PySem PySem.SeqAt
open AutoSeq1 (wpAny_loadPart')
open MeetsSeq MeetsSeq2 MeetsSeq3 SeqRoads2 GQ
section
variable {prog : Program} {w : World} {A : Around} {R : Result → Shared → Prop}
theorem tuple_eqH (l b : Addr) (items items2 : Array Value) (n n2 : Nat) (dd dd2 : Option Addr) (sl sl2 : Array (Option Value)) (I : Nat → Shared → Prop)
    (turn : ∀ i (h1 : i < items.size) (h2 : i < items2.size) s, I i s → wpAny (model prog w) A.in1 (eqBool items[i] items2[i]) (fun r s' => (r = true ∧ I (i + 1) s') ∨ (r = false ∧ R (.ok (.ret (.bool false))) s')) (fun e s' => R (.error e) s') s)
    (fin : ∀ s, I (min items.size items2.size) s → R (.ok (.ret (.bool (items.size == items2.size)))) s) {s : Shared} (hl1 : s.heap.get? l = some { cls := .type "tuple", dict := dd, data := .seq items n, slots := sl }) (hb1 : s.heap.get? b = some { cls := .type "tuple", dict := dd2, data := .seq items2 n2, slots := sl2 }) (h : I 0 s) :
    wpAny (model prog w) A.in1 (Builtin.«tuple.__eq__» ⟨[.ref l, .ref b], []⟩) (FinOf prog w A R) (fun e s' => R (.error e) s') s := by
  have f2 := AutoSeq1.sub_tuple_tuple
  have hZ : (items.toList.zip items2.toList).length = min items.size items2.size := by simp
  have h0 := h
  obtain ⟨hp, g, d, tk, os⟩ := s
  wp_walk using wpAny_loadPart' hl1, wpAny_loadPart' hb1, wpAny_forIn_list _ (fun rest b s' => b.1 = none ∧ ∃ i, rest = (items.toList.zip items2.toList).drop i ∧ i ≤ min items.size items2.size ∧ I i s') _
  case turn =>
    rintro ⟨y, x⟩ rest b s' ⟨hb', i, hz, hi, hI⟩
    have hlt : i < (items.toList.zip items2.toList).length := by
      rcases Nat.lt_or_ge i (items.toList.zip items2.toList).length with h' | h'
      · exact h'
      · rw [List.drop_of_length_le h'] at hz; cases hz
    have hm : i < min items.size items2.size := hZ ▸ hlt
    have h1 : i < items.size := Nat.lt_of_lt_of_le hm (Nat.min_le_left _ _)
    have h2 : i < items2.size := Nat.lt_of_lt_of_le hm (Nat.min_le_right _ _)
    rw [List.drop_eq_getElem_cons hlt] at hz
    injection hz with hyx hrest
    have hy : y = items[i] := by have := congrArg Prod.fst hyx; simpa using this
    have hx : x = items2[i] := by have := congrArg Prod.snd hyx; simpa using this
    subst hy hx
    refine wpAny_bind (wpAny_mono (turn i h1 h2 s' hI) (fun r s2 q2 => ?_) fun _ _ x => x)
    rcases q2 with ⟨hr, q2⟩ | ⟨hr, q2⟩
    · subst hr
      wp_walk
      exact ⟨rfl, i + 1, hrest, hm, q2⟩
    · subst hr
      wp_walk
      exact q2
  case fin =>
    rintro ⟨b1, b2⟩ s' ⟨hb', i, hz, hi, hI⟩
    simp only at hb'
    subst hb'
    have hge : min items.size items2.size ≤ i := by
      rcases Nat.lt_or_ge i (items.toList.zip items2.toList).length with h' | h'
      · rw [List.drop_eq_getElem_cons h'] at hz; cases hz
      · exact hZ ▸ h'
    have hi' : i = min items.size items2.size := by omega
    have hR : R (.ok (.ret (.bool (items.size == items2.size)))) s' := fin s' (hi' ▸ hI)
    wp_walk
    simpa [Builtin.Tuple.tupleCompareSizes] using hR
  case h =>
    exact ⟨rfl, 0, rfl, Nat.zero_le _, h0⟩
end
section
variable {prog : Program} {w : World} {A : Around} {E : Value → Shared → Prop} {s : Shared}
theorem rc_tupH {l b : Addr} {items items2 : Array Value} {Q : Value → Shared → Prop} (hu : A.units < cLine) (I : Nat → Shared → Prop)
    (hl : s.heap.IsTuple l items) (hb : s.heap.IsTuple b items2)
    (turn : ∀ i (h1 : i < items.size) (h2 : i < items2.size) s, I i s → wpAny (model prog w) A.in1 (eqBool items[i] items2[i]) (fun r s' => (r = true ∧ I (i + 1) s') ∨ (r = false ∧ Q (.bool false) s')) E s)
    (fin : ∀ s, I (min items.size items2.size) s → Q (.bool (items.size == items2.size)) s) (h : I 0 s) : wpAny (model prog w) A (richCompare .Eq (.ref l) (.ref b)) Q E s := by
  obtain ⟨⟨cls, dd, data, sl⟩, ho, hc, n, hd⟩ := id hl
  obtain ⟨⟨cls2, dd2, data2, sl2⟩, ho2, hc2, n2, hd2⟩ := id hb
  simp only at hc hd hc2 hd2
  subst hc hd hc2 hd2
  refine wpAny_richCompare_same_room (op := .Eq) ⟨_, ho, rfl⟩ ⟨_, ho2, rfl⟩ F.slot_tuple_eq (call_here F.slot_tuple_eq ⟨_, ho, rfl⟩ F.entry_tuple_eq (F.args_tuple_eq_2 _ _) ?_) hu
  refine tuple_eqH (R := wants (fun v s' => v ≠ .notImplemented ∧ Q v s') E) l b items items2 n n2 dd dd2 sl sl2 I (fun i h1 h2 s q => wpAny_mono (turn i h1 h2 s q) (fun r s' z => ?_) fun _ _ x => x) (fun s' q => ⟨(fun x => nomatch x), fin s' q⟩) ho ho2 h
  rcases z with z | ⟨z, q⟩
  · exact .inl z
  · exact .inr ⟨z, (fun x => nomatch x), q⟩
end
end NF
namespace NF
open PySem PySem.Spec PyProof.Rows L2 He RZ NT
/-- how two values compare, by the abstract heap -/
abbrev Eqb := V → V → Bool → Hp → Prop
def MonB (D : Eqb) : Prop := ∀ x y k H H', Same H H' → D x y k H → D x y k H'
/-- tuples are told once -/
def Uq (K : PySem.W.Frag) (H : Hp) : Prop := ∀ a xs ys, SqT K H a xs → SqT K H a ys → xs = ys
/-- nothing is unlike itself -/
def Rfx (K : PySem.W.Frag) (D : Eqb) : Prop := ∀ x k H, Uq K H → D x x k H → k = true
theorem eqV_self {x : V} (h : flatV x = true) : eqV x x = true := by
  cases x <;> first | rfl | exact beq_self_eq_true _ | exact decide_eq_true rfl | exact absurd h (fun z => nomatch z)
theorem rfx_flat {K : PySem.W.Frag} : Rfx K fun x y k _ => flatV x = true ∧ flatV y = true ∧ eqV x y = k := fun x k H _ d => by
  rw [← d.2.2]
  exact eqV_self d.1
theorem rfx_or {K : PySem.W.Frag} {D D' : Eqb} (h : Rfx K D) (h' : Rfx K D') : Rfx K fun x y k H => D x y k H ∨ D' x y k H := fun x k H u d => d.elim (h x k H u) (h' x k H u)
def EqB (X : Cx) (n : Nat) (D : Eqb) : Prop :=
  ∀ (A : Around) (pins : List (Addr × Obj)) (s : Shared) (σ : L2.St) (H : Hp) (x y : V) (k : Bool) (u v : Value), L2.Sub X n A → Inv X pins σ H s → RelV x u → RelV y v → D x y k H →
    wpAny (model X.prog X.w) A (eqBool u v) (fun r s' => r = k ∧ ∃ H', Inv X pins σ H' s' ∧ Same H H') X.xe s
def RcB (X : Cx) (n : Nat) (D : Eqb) : Prop :=
  ∀ (A : Around) (pins : List (Addr × Obj)) (s : Shared) (σ : L2.St) (H : Hp) (x y : V) (k : Bool) (u v : Value), L2.Sub X n A → Inv X pins σ H s → RelV x u → RelV y v → D x y k H →
    wpAny (model X.prog X.w) A (richCompare .Eq u v) (fun r s' => r = .bool k ∧ ∃ H', Inv X pins σ H' s' ∧ Same H H') X.xe s
section
variable {X : Cx} {n m : Nat} {D D' : Eqb}
theorem EqB.mono (h : EqB X n D) (hn : n ≤ m) : EqB X m D := fun A pins s σ H x y k u v sb => h A pins s σ H x y k u v (sb.mono hn)
theorem EqB.or (h : EqB X n D) (h' : EqB X n D') : EqB X n (fun x y k H => D x y k H ∨ D' x y k H) := fun A pins s σ H x y k u v sb I rx ry d => by
  rcases d with d | d
  · exact h A pins s σ H x y k u v sb I rx ry d
  · exact h' A pins s σ H x y k u v sb I rx ry d
theorem MonB.or (h : MonB D) (h' : MonB D') : MonB (fun x y k H => D x y k H ∨ D' x y k H) := fun x y k H H' e d => d.elim (fun d => .inl (h x y k H H' e d)) fun d => .inr (h' x y k H H' e d)
def DFlatB : Eqb := fun x y k _ => flatV x = true ∧ flatV y = true ∧ eqV x y = k
theorem monB_flat : MonB DFlatB := fun _ _ _ _ _ _ d => d
theorem eqB_flat : EqB X 0 DFlatB := by
  intro A pins s σ H x y k u v sb I rx ry d
  obtain ⟨fx, fy, e⟩ := d
  have q := eqAt_V (A := A) (s := s) rx ry fx fy
  rw [e] at q
  exact q X.prog X.w X.xe _ ⟨rfl, H, I, Same.refl _⟩
/-- tuples, item by item -/
def DTupB (K : PySem.W.Frag) (D : Eqb) : Eqb := fun x y k H => ∃ a b xs ys, ∃ e : Nat → Bool, x = .ref a ∧ y = .ref b ∧ SqT K H a xs ∧ SqT K H b ys ∧ (∀ i u v, xs[i]? = some u → ys[i]? = some v → D u v (e i) H) ∧ k = ((List.range (min xs.length ys.length)).all e && xs.length == ys.length)
theorem monB_tup {K : PySem.W.Frag} (hD : MonB D) : MonB (DTupB K D) := fun x y k H H' s d => by
  obtain ⟨a, b, xs, ys, e, hx, hy, h1, h2, p, hk⟩ := d
  exact ⟨a, b, xs, ys, e, hx, hy, NF.Same.tup s h1, NF.Same.tup s h2, fun i u v e1 e2 => hD _ _ _ _ _ s (p i u v e1 e2), hk⟩
theorem rcB_tup (hD : MonB D) (h : EqB X n D) : RcB X (n + 1) (DTupB X.K D) := by
  intro A pins s σ H x y k u v sb I rx ry d
  obtain ⟨a, b, xs, ys, e, rfl, rfl, ha, hb, p, hk⟩ := d
  cases rx
  cases ry
  obtain ⟨its, r, e1, z⟩ := I.tuple ha
  obtain ⟨its2, r2, e2, z2⟩ := I.tuple hb
  have l1 : its.toArray.size = xs.length := by rw [List.size_toArray, ← r.length]
  have l2 : its2.toArray.size = ys.length := by rw [List.size_toArray, ← r2.length]
  refine rc_tupH sb.room.units0 (fun i s' => (∃ H', Inv X pins σ H' s' ∧ Same H H') ∧ (List.range i).all e = true) e1 e2 (fun i h1 h2 s' q => ?_) (fun s' q => ?_) ⟨⟨H, I, Same.refl _⟩, rfl⟩
  · obtain ⟨⟨H1, I1, s1⟩, q⟩ := q
    have k1 : i < xs.length := by omega
    have k2 : i < ys.length := by omega
    have g1 : its[i]? = some its.toArray[i] := by
      have h1' : i < its.length := by simpa using h1
      rw [List.getElem?_eq_getElem h1'] <;> simp
    have g2 : its2[i]? = some its2.toArray[i] := by
      have h2' : i < its2.length := by simpa using h2
      rw [List.getElem?_eq_getElem h2'] <;> simp
    obtain ⟨u, hu, ru⟩ := r.get (List.getElem?_eq_getElem k1)
    obtain ⟨v, hv, rv⟩ := r2.get (List.getElem?_eq_getElem k2)
    rw [g1] at hu
    rw [g2] at hv
    rw [Option.some.inj hu, Option.some.inj hv]
    refine wpAny_mono (h A.in1 pins s' σ H1 _ _ (e i) u v sb.in1 I1 ru rv (hD _ _ _ _ _ s1 (p i _ _ (List.getElem?_eq_getElem k1) (List.getElem?_eq_getElem k2)))) (fun r s2 z => ?_) fun _ _ x => x
    obtain ⟨hr, H2, I2, s2'⟩ := z
    subst hr
    cases ei : e i with
    | true => exact .inl ⟨rfl, ⟨H2, I2, Same.trans s1 s2'⟩, by rw [List.range_succ, List.all_append, q, List.all_cons, ei]; rfl⟩
    | false =>
      refine .inr ⟨rfl, ?_, H2, I2, Same.trans s1 s2'⟩
      have : k = false := by
        rw [hk, Bool.and_eq_false_iff]
        left
        rw [Bool.eq_false_iff]
        intro z
        have := List.all_eq_true.mp z i (List.mem_range.mpr (by omega))
        rw [ei] at this
        cases this
      rw [this]
  · obtain ⟨z, q⟩ := q
    refine ⟨?_, z⟩
    rw [l1, l2] at q
    rw [hk, q, l1, l2, Bool.true_and]
theorem rfx_tup {K : PySem.W.Frag} (h : Rfx K D) : Rfx K (DTupB K D) := fun x k H u d => by
  obtain ⟨a, b, xs, ys, e, hx, hy, h1, h2, p, hk⟩ := d
  subst hx
  injection hy with hy
  subst hy
  obtain rfl := u a xs ys h1 h2
  rw [hk, Nat.min_self, beq_self_eq_true, Bool.and_true, List.all_eq_true]
  intro i hi
  have hi := List.mem_range.mp hi
  exact h _ _ H u (p i _ _ (List.getElem?_eq_getElem hi) (List.getElem?_eq_getElem hi))
theorem all_eq {α : Type} [DecidableEq α] : ∀ (l l2 : List α), ((List.range (min l.length l2.length)).all (fun i => decide (l[i]? = l2[i]?)) && l.length == l2.length) = decide (l = l2) := fun l l2 => by
  by_cases h : l = l2
  · subst h
    rw [decide_eq_true rfl, beq_self_eq_true, Bool.and_true, List.all_eq_true]
    exact fun i _ => decide_eq_true rfl
  · rw [decide_eq_false h]
    by_cases hl : l.length = l2.length
    · rw [Bool.and_eq_false_iff]
      left
      rw [Bool.eq_false_iff]
      intro z
      refine h (List.ext_getElem? fun i => ?_)
      by_cases hi : i < l.length
      · exact of_decide_eq_true (List.all_eq_true.mp z i (List.mem_range.mpr (by omega)))
      · rw [List.getElem?_eq_none (by omega), List.getElem?_eq_none (by omega)]
    · rw [Bool.and_eq_false_iff]
      right
      exact beq_eq_false_iff_ne.mpr hl
/-- rows of texts -/
theorem eqV_str {a b : Str} : eqV (.str a) (.str b) = decide (a = b) := by
  by_cases h : a = b
  · subst h
    rw [decide_eq_true rfl]
    exact eqV_self rfl
  · rw [decide_eq_false h]
    exact beq_eq_false_iff_ne.mpr h
theorem tupB_str {K : PySem.W.Frag} {H : Hp} {a b : Addr} {l l2 : List Str} (h1 : SqT K H a (l.map V.str)) (h2 : SqT K H b (l2.map V.str)) : DTupB K DFlatB (.ref a) (.ref b) (decide (l = l2)) H := by
  refine ⟨a, b, _, _, fun i => decide (l[i]? = l2[i]?), rfl, rfl, h1, h2, fun i u v e1 e2 => ?_, ?_⟩
  · rw [List.getElem?_map] at e1 e2
    cases g1 : l[i]? with
    | none => rw [g1] at e1; cases e1
    | some x =>
      cases g2 : l2[i]? with
      | none => rw [g2] at e2; cases e2
      | some y =>
        rw [g1] at e1
        rw [g2] at e2
        cases e1
        cases e2
        refine ⟨rfl, rfl, ?_⟩
        show eqV (.str x) (.str y) = decide (l[i]? = l2[i]?)
        rw [eqV_str, g1, g2]
        by_cases h : x = y
        · subst h
          simp
        · simp [h]
  · rw [List.length_map, List.length_map]
    exact (all_eq l l2).symm
/-- instances of a class with the text's own == -/
def DInsB (C : Addr) (R : Addr → Addr → Bool → Hp → Prop) : Eqb := fun x y k H => ∃ a b dx dy fs gs, x = .ref a ∧ y = .ref b ∧ H a = some (.ins C dx fs) ∧ H b = some (.ins C dy gs) ∧ R a b k H
theorem monB_ins {C : Addr} {R : Addr → Addr → Bool → Hp → Prop} (hR : ∀ a b k H H', Same H H' → R a b k H → R a b k H') : MonB (DInsB C R) := fun x y k H H' s d => by
  obtain ⟨a, b, dx, dy, fs, gs, hx, hy, h1, h2, r⟩ := d
  exact ⟨a, b, dx, dy, fs, gs, hx, hy, s _ _ h1, s _ _ h2, hR a b k H H' s r⟩
theorem rcB_ins {C : Addr} {sp : Sp} {R : Addr → Addr → Bool → Hp → Prop} (c : EqC X.prog X.w X.K X.mg X.base n C sp) (hsp : ∀ a b k H (Q : VK), R a b k H → (∀ H', Same H H' → Q (.bl k) H') → sp [.ref a, .ref b] H Q E0) : RcB X n (DInsB C R) := by
  obtain ⟨f, fd, ps, F, hs, hf, _, hb⟩ := c.ex
  intro A pins s σ H x y k u v sb I rx ry d
  obtain ⟨a, b, dx, dy, fs, gs, rfl, rfl, ha, hb', hr⟩ := d
  cases rx
  cases ry
  obtain ⟨mA, J, _⟩ := ins_get I.hok ha
  obtain ⟨mB, J', _⟩ := ins_get I.hok hb'
  obtain ⟨od, J, _⟩ := J.look
  obtain ⟨od', J', _⟩ := J'.look
  obtain ⟨m, hF⟩ := I.fr
  refine PySem.W.cmp_K (op := .Eq) (tb := .ref C) sb.room.units0 hF I.ok.mod.kin J J'.type (by simp [PySem.W.notFirst]) hs hf ?_
  have hq := hsp a b k H (fun v H' => v = .bl k ∧ Same H H') hr fun H' e => ⟨rfl, e⟩
  have e0 : Env0 X.prog X.w X.K X.mg X.base A X.stack s H := by
    have e := I.env0
    exact ⟨by rw [sb.fr]; exact e.frames, e.mod, e.bs, e.bsz, e.funs, e.frf, e.hok, e.bare⟩
  have hl := F.len _ _ _ _ hq
  have r2 : Vals [V.ref a, V.ref b] [Value.ref a, Value.ref b] := .cons rfl (.cons rfl .nil)
  refine wpAny_call (codeAny_mono (F.run A X.stack s H ⟨[.ref a, .ref b], []⟩ [.ref a, .ref b] [.ref a, .ref b] _ E0 sb.room e0 (by
    have := hb s [.ref a, .ref b] I.kIn (by simpa using hl)
    simpa using this) r2 hq) fun r s' hq => ?_)
  cases r with
  | error e => exact False.elim hq
  | ok fl =>
    cases fl with
    | ret w =>
      obtain ⟨z, H', I', rz, ez, ex⟩ := I.after hq
      subst ez
      cases rz
      exact ⟨rfl, H', I', ex⟩
    | next => exact False.elim hq
    | brk => exact False.elim hq
    | cont => exact False.elim hq
/-- the same object is equal to itself -/
theorem RcB.eqB (h : RcB X n D) (hr : ∀ x y k H, D x y k H → ∃ a b, x = .ref a ∧ y = .ref b) (hs : Rfx X.K D) : EqB X n D := by
  intro A pins s σ H x y k u v sb I rx ry d
  obtain ⟨a, b, rfl, rfl⟩ := hr _ _ _ _ d
  cases rx
  cases ry
  by_cases hab : a = b
  · subst hab
    have : k = true := hs _ k H (fun a xs ys h1 h2 => I.tuple_inj h1 h2) d
    exact SeqAt.EqAt.same (A := A) (s := s) (.ref a) X.prog X.w X.xe _ ⟨this.symm, H, I, Same.refl _⟩
  · refine GQ.eqBool_refG hab (wpAny_mono (h A pins s σ H (.ref a) (.ref b) k _ _ sb I rfl rfl d) (fun r s' q => ?_) fun _ _ x => x)
    obtain ⟨hr', q⟩ := q
    exact ⟨k, hr', rfl, q⟩
/-- x == y as an expression -/
def rEqB (D : Eqb) : R2 := fun x y H Q => ∃ k, D x y k H ∧ ∀ H', Same H H' → Q (.bl k) H'
theorem op_eqB (h : RcB X n D) (hr : Room n X.A) : OpR X (compareOp .Eq) (rEqB D) := by
  intro pins s σ H x y v u Q I rx ry hq
  obtain ⟨k, d, q⟩ := hq
  show wpAny (model X.prog X.w) X.A (richCompare .Eq v u) (EP X pins σ Q) X.xe s
  refine wpAny_mono (h X.A pins s σ H x y k v u ⟨hr, rfl⟩ I rx ry d) (fun r s' z => ?_) fun _ _ x => x
  obtain ⟨hr', H', I', e⟩ := z
  subst hr'
  exact ⟨.bl k, H', I', rfl, q H' e⟩
end
end NF
set_option Elab.async false
set_option linter.all false
set_option maxRecDepth 100000
set_option maxHeartbeats 4000000
namespace K29
open PySem PySem.Spec PyProof.Rows L2 He NF RZ NT
instance decMk : DecidableEq MkD := fun a b => match a, b with
  | .unk u, .unk v => if h : u = v then isTrue (by rw [h]) else isFalse fun e => h (by injection e)
  | .unk _, .mak _ _ _ => isFalse fun e => nomatch e
  | .mak _ _ _, .unk _ => isFalse fun e => nomatch e
  | .mak n b ws, .mak n2 b2 ws2 => if h : (n, b, ws) = (n2, b2, ws2) then isTrue (by injection h with h1 h2; injection h2 with h2 h3; rw [h1, h2, h3]) else isFalse fun e => h (by injection e with e1 e2 e3; rw [e1, e2, e3])
instance decRow : DecidableEq RowD := fun a b => match a, b with
  | ⟨n, m, s⟩, ⟨n2, m2, s2⟩ => if h : (n, m, s) = (n2, m2, s2) then isTrue (by injection h with h1 h2; injection h2 with h2 h3; rw [h1, h2, h3]) else isFalse fun e => h (by injection e with e1 e2 e3; rw [e1, e2, e3])
/-- both told, or both unknown -/
def likeM : MkD → MkD → Prop
  | .unk _, .unk _ => True
  | .mak _ _ _, .mak _ _ _ => True
  | _, _ => False
def MEqR (K : PySem.W.Frag) (C : Addr) : Addr → Addr → Bool → Hp → Prop := fun a c k H => ∃ n b ws n2 b2 ws2, MakAt K C H a n b ws ∧ MakAt K C H c n2 b2 ws2 ∧ k = decide ((n, b, ws) = (n2, b2, ws2))
theorem meq_mono {K : PySem.W.Frag} {C : Addr} : ∀ a b k H H', Same H H' → MEqR K C a b k H → MEqR K C a b k H' := fun a b k H H' s ⟨n, b1, ws, n2, b2, ws2, h1, h2, e⟩ => ⟨n, b1, ws, n2, b2, ws2, h1.mono s, h2.mono s, e⟩
theorem dV_inj : ∀ {a b : List Deed}, a.map dV = b.map dV → a = b
  | [], [], _ => rfl
  | [], _ :: _, h => nomatch h
  | _ :: _, [], h => nomatch h
  | x :: a, y :: b, h => by
    injection h with h1 h2
    rw [dV_inj h2]
    congr 1
    cases x with
    | none =>
      cases y with
      | none => rfl
      | some j => cases h1
    | some i =>
      cases y with
      | none => cases h1
      | some j =>
        injection h1 with h1
        congr 1
        omega
theorem ref_inj : ∀ {a b : List Addr}, a.map V.ref = b.map V.ref → a = b
  | [], [], _ => rfl
  | [], _ :: _, h => nomatch h
  | _ :: _, [], h => nomatch h
  | x :: a, y :: b, h => by
    injection h with h1 h2
    injection h1 with h1
    rw [ref_inj h2, h1]
theorem mak_uq {K : PySem.W.Frag} {C : Addr} {H : Hp} {x : Addr} {n n2 : Nat} {b b2 : List Deed} {ws ws2 : List (List Deed)} (u : Uq K H) (h : MakAt K C H x n b ws) (h2 : MakAt K C H x n2 b2 ws2) : (n, b, ws) = (n2, b2, ws2) := by
  obtain ⟨dx, pb, pw, e1, e2, as, e3, e4, e5⟩ := h
  obtain ⟨dx', pb', pw', f1, f2, as', f3, f4, f5⟩ := h2
  rw [e1] at f1
  injection f1 with f1
  injection f1 with _ _ f1
  unfold mf at f1
  injection f1 with g1 f1
  injection g1 with _ g1
  injection g1 with g1
  injection f1 with g2 f1
  injection g2 with _ g2
  injection g2 with g2
  injection f1 with g3 f1
  injection g3 with _ g3
  injection g3 with g3
  subst g2 g3
  obtain rfl := dV_inj (u _ _ _ e2 f2)
  obtain rfl := ref_inj (u _ _ _ e3 f3)
  have hw : ws = ws2 := by
    refine List.ext_getElem (by omega) fun i h1 h2 => ?_
    have hi : i < as.length := by omega
    exact dV_inj (u _ _ _ (e5 i as[i] ws[i] (List.getElem?_eq_getElem hi) (List.getElem?_eq_getElem h1)) (f5 i as[i] ws2[i] (List.getElem?_eq_getElem hi) (List.getElem?_eq_getElem h2)))
  subst hw
  have : n = n2 := by omega
  subst this
  rfl
def DMk (K : PySem.W.Frag) (C : Addr) : Eqb := fun x y k H => DFlatB x y k H ∨ DInsB C (MEqR K C) x y k H
def DIt (K : PySem.W.Frag) (C : Addr) : Eqb := fun x y k H => DMk K C x y k H ∨ DTupB K DFlatB x y k H
def DRw (K : PySem.W.Frag) (C : Addr) : Eqb := DTupB K (DIt K C)
def DRws (K : PySem.W.Frag) (C : Addr) : Eqb := DTupB K (DRw K C)
theorem mon_mk {K : PySem.W.Frag} {C : Addr} : MonB (DMk K C) := MonB.or monB_flat (monB_ins meq_mono)
theorem mon_it {K : PySem.W.Frag} {C : Addr} : MonB (DIt K C) := MonB.or mon_mk (monB_tup monB_flat)
theorem mon_rw {K : PySem.W.Frag} {C : Addr} : MonB (DRw K C) := monB_tup mon_it
theorem rfx_meq {K : PySem.W.Frag} {C : Addr} : Rfx K (DInsB C (MEqR K C)) := fun x k H u d => by
  obtain ⟨a, b, dx, dy, fs, gs, hx, hy, h1, h2, n, b1, ws, n2, b2, ws2, m1, m2, e⟩ := d
  rw [hx] at hy
  injection hy with hy
  subst hy
  rw [e]
  exact decide_eq_true (mak_uq u m1 m2)
theorem rfx_it {K : PySem.W.Frag} {C : Addr} : Rfx K (DIt K C) := rfx_or (rfx_or rfx_flat rfx_meq) (rfx_tup rfx_flat)
section
variable {X : Cx} {C : Addr} {j : Nat}
theorem tup_refs {K : PySem.W.Frag} {D : Eqb} : ∀ x y k H, DTupB K D x y k H → ∃ a b, x = .ref a ∧ y = .ref b := fun x y k H ⟨a, b, _, _, _, hx, hy, _⟩ => ⟨a, b, hx, hy⟩
theorem ins_refs {D : Addr → Addr → Bool → Hp → Prop} : ∀ x y k H, DInsB C D x y k H → ∃ a b, x = .ref a ∧ y = .ref b := fun x y k H ⟨a, b, _, _, _, _, hx, hy, _⟩ => ⟨a, b, hx, hy⟩
theorem eq_mk (c : EqC X.prog X.w X.K X.mg X.base 1 C (spMEq X.K C)) : EqB X 1 (DMk X.K C) := by
  refine EqB.or (eqB_flat.mono (Nat.zero_le _)) (RcB.eqB (rcB_ins c ?_) ins_refs rfx_meq)
  rintro a b k H Q ⟨n, b1, ws, n2, b2, ws2, h1, h2, e⟩ q
  exact ⟨a, n, b1, ws, .ref b, rfl, h1, .inl ⟨b, n2, b2, ws2, rfl, h2, by rw [← e]; exact q H (Same.refl _)⟩⟩
theorem eq_it (c : EqC X.prog X.w X.K X.mg X.base 1 C (spMEq X.K C)) : EqB X 1 (DIt X.K C) := EqB.or (eq_mk c) (RcB.eqB (rcB_tup monB_flat eqB_flat) tup_refs (rfx_tup rfx_flat))
theorem eq_rw (c : EqC X.prog X.w X.K X.mg X.base 1 C (spMEq X.K C)) : EqB X 2 (DRw X.K C) := RcB.eqB (rcB_tup mon_it (eq_it c)) tup_refs (rfx_tup rfx_it)
theorem op_eqRows (c : EqC X.prog X.w X.K X.mg X.base 1 C (spMEq X.K C)) (hr : Room j X.A) (hj : 3 ≤ j) : OpR X (compareOp .Eq) (rEqB (DRws X.K C)) := op_eqB (rcB_tup mon_rw (eq_rw c)) (hr.mono hj)
theorem op_eqStrs (hr : Room j X.A) (hj : 1 ≤ j) : OpR X (compareOp .Eq) (rEqB (DTupB X.K DFlatB)) := op_eqB (rcB_tup monB_flat eqB_flat) (hr.mono hj)
end
theorem dit_mk {K : PySem.W.Frag} {C : Addr} {H : Hp} {v v2 : V} {m m2 : MkD} (mc : MakC K C) (h : MkV K C H v m) (h2 : MkV K C H v2 m2) (l : likeM m m2) : DIt K C v v2 (decide (m = m2)) H := by
  cases m with
  | unk u =>
    cases m2 with
    | mak => exact l.elim
    | unk u2 =>
      rw [show v = .str u from h, show v2 = .str u2 from h2]
      refine .inl (.inl ⟨rfl, rfl, ?_⟩)
      rw [eqV_str]
      by_cases z : u = u2
      · subst z
        rw [decide_eq_true rfl, decide_eq_true rfl]
      · rw [decide_eq_false z, decide_eq_false (fun e => z (by injection e))]
  | mak n b ws =>
    cases m2 with
    | unk => exact l.elim
    | mak n2 b2 ws2 =>
      obtain ⟨x, rfl, hx⟩ := h
      obtain ⟨x2, rfl, hx2⟩ := h2
      obtain ⟨dx, _, _, e1, _⟩ := id hx
      obtain ⟨dx2, _, _, e2, _⟩ := id hx2
      refine .inl (.inr ⟨x, x2, dx, dx2, _, _, rfl, rfl, e1, e2, n, b, ws, n2, b2, ws2, hx, hx2, ?_⟩)
      by_cases z : (n, b, ws) = (n2, b2, ws2)
      · injection z with z1 z2
        injection z2 with z2 z3
        subst z1 z2 z3
        rw [decide_eq_true rfl, decide_eq_true rfl]
      · rw [decide_eq_false z, decide_eq_false (fun e => z (by injection e with e1 e2 e3; rw [e1, e2, e3]))]
theorem drw_row {K : PySem.W.Frag} {C : Addr} {H : Hp} {a b : Addr} {r r2 : RowD} (mc : MakC K C) (h : RowX K C H H a r) (h2 : RowX K C H H b r2) (l : likeM r.mkr r2.mkr) : DRw K C (.ref a) (.ref b) (decide (r = r2)) H := by
  obtain ⟨v, ps, h1, hm, hs⟩ := h
  obtain ⟨v2, ps2, g1, gm, gs⟩ := h2
  refine ⟨a, b, _, _, fun i => match i with | 0 => decide (r.name = r2.name) | 1 => decide (r.mkr = r2.mkr) | _ => decide (r.srcs = r2.srcs), rfl, rfl, h1, g1, fun i u w e1 e2 => ?_, ?_⟩
  · match i with
    | 0 =>
      cases e1
      cases e2
      exact .inl (.inl ⟨rfl, rfl, eqV_str⟩)
    | 1 =>
      cases e1
      cases e2
      exact dit_mk mc hm gm l
    | 2 =>
      cases e1
      cases e2
      exact .inr (tupB_str hs gs)
    | i + 3 => cases e1
  · show _ = ((decide (r.name = r2.name) && (decide (r.mkr = r2.mkr) && (decide (r.srcs = r2.srcs) && true))) && true)
    obtain ⟨n, m, s⟩ := r
    obtain ⟨n2, m2, s2⟩ := r2
    by_cases z1 : n = n2 <;> by_cases z2 : m = m2 <;> by_cases z3 : s = s2 <;> simp [z1, z2, z3]
def Like (rs rs2 : List RowD) : Prop := ∀ (i : Nat) (r r2 : RowD), rs[i]? = some r → rs2[i]? = some r2 → likeM r.mkr r2.mkr
theorem drws_rows {K : PySem.W.Frag} {C : Addr} {H : Hp} {a b : Addr} {rs rs2 : List RowD} (mc : MakC K C) (h : RowsX K C H H a rs) (h2 : RowsX K C H H b rs2) (l : Like rs rs2) : DRws K C (.ref a) (.ref b) (decide (rs = rs2)) H := by
  obtain ⟨as, h1, hl, hr⟩ := h
  obtain ⟨as2, g1, gl, gr⟩ := h2
  refine ⟨a, b, _, _, fun i => decide (rs[i]? = rs2[i]?), rfl, rfl, h1, g1, fun i u w e1 e2 => ?_, ?_⟩
  · rw [List.getElem?_map] at e1 e2
    cases z1 : as[i]? with
    | none => rw [z1] at e1; cases e1
    | some x =>
      cases z2 : as2[i]? with
      | none => rw [z2] at e2; cases e2
      | some y =>
        rw [z1] at e1
        rw [z2] at e2
        cases e1
        cases e2
        have i1 := (List.getElem?_eq_some_iff.mp z1).1
        have i2 := (List.getElem?_eq_some_iff.mp z2).1
        have j1 : rs[i]? = some rs[i] := List.getElem?_eq_getElem (by omega)
        have j2 : rs2[i]? = some rs2[i] := List.getElem?_eq_getElem (by omega)
        have d := drw_row mc (hr i x _ z1 j1) (gr i y _ z2 j2) (l i _ _ j1 j2)
        have e : decide (rs[i]? = rs2[i]?) = decide (rs[i] = rs2[i]) := by
          rw [j1, j2]
          by_cases z : rs[i] = rs2[i]
          · rw [decide_eq_true z, decide_eq_true (by rw [z])]
          · rw [decide_eq_false z, decide_eq_false (fun e => z (by injection e))]
        show DRw K C _ _ (decide (rs[i]? = rs2[i]?)) H
        rw [e]
        exact d
  · rw [List.length_map, List.length_map, hl, gl]
    exact (all_eq rs rs2).symm
/-- ==: with another web whose makers are told and unknown at the same rows, with what is none -/
def spWEq (K : PySem.W.Frag) (CW C : Addr) : Sp := fun vs H Q _ => ∃ (x : Addr) (gs : List Str) (rs : List RowD) (v : V), vs = [.ref x, v] ∧ WebAt K CW C H x gs rs ∧
  ((∃ x2 gs2 rs2, v = .ref x2 ∧ WebAt K CW C H x2 gs2 rs2 ∧ (gs = gs2 → Like rs rs2) ∧ ∀ H', Same H H' → Q (.bl (decide ((gs, rs) = (gs2, rs2)))) H') ∨ (∃ t, TyX K H v t ∧ PySem.W.kitOne K t (.ref CW) = some false ∧ Q (.bl false) H))
theorem sc_Web___eq__ : FnScope ["self", "other"] ["self", "other"] (defScope s_Web_eq) := ⟨rfl, rfl, rfl, by decide +kernel, rfl, by decide +kernel, by decide +kernel⟩
section
variable {P : Program} {w : World} {K : PySem.W.Frag} {mg : Str → Option Value} {base : Heap} {gs fs : List Str} {C CW : Addr}
theorem ok_Web_eq {f : Addr} {fd : FuncData} (F : FunD K "__eq__" "Web.__eq__" (defArgs s_Web_eq) (defBody s_Web_eq) (defScope s_Web_eq) [] [] f fd) (T : Txt K mg gs FS) (hW : mg "Web" = some (.ref CW)) (wc : WebC K CW) (mc : MakC K C) (o_meq : EqC P w K mg base 1 C (spMEq K C)) : FnOk P w K mg base CX0 4 f fd ["self", "other"] (spWEq K CW C) := by
  refine F.ok sc_Web___eq__ (fun vs H Q E h => ?_) (fun cdv A outer s H vs Q E hr h => ?_)
  · obtain ⟨x, gs, rs, v, rfl, _⟩ := h
    rfl
  · obtain ⟨x, gs, rs, v, rfl, ⟨dx, pg, pr, pn, hx, hg, hrs, hn⟩, q⟩ := h
    refine ⟨_, PSs.nox (pss_one (ps_ret (pe_and (pe_callB call_isi rfl (T.fr _ (by decide +kernel)) (by decide +kernel) (pa_cons (pv 1) (pa_cons (pe_gl hW) pa_nil))) (pe_and (pe_cmpR (op_eqStrs hr (by decide)) (pe_fld (pv 0) rfl) (pe_fld (pv 1) rfl) (nomark _)) (pe_one (pe_cmpR (op_eqRows o_meq hr (by decide)) (pe_fld (pv 0) rfl) (pe_fld (pv 1) rfl) (nomark _))))))), ?_⟩
    rcases q with ⟨x2, gs2, rs2, rfl, ⟨dx2, pg2, pr2, pn2, hx2, hg2, hrs2, hn2⟩, lk, q⟩ | ⟨t, ty, hk, q⟩
    · have tx := wc.ty hx2
      refine ⟨_, rfl, _, _, _, _, true, rfl, .own CW, tx, wc.self, true, rfl, iteT ?_⟩
      refine ⟨_, rfl, x, CW, dx, _, _, rfl, hx, wc.cl, wc.ng, rfl, _, rfl, x2, CW, dx2, _, _, rfl, hx2, wc.cl, wc.ng, rfl, ?_⟩
      refine ⟨_, tupB_str hg hg2, fun H1 s1 => ⟨_, rfl, ite2 (fun h1 => ?_) (fun h1 => ?_)⟩⟩
      · have h1 := of_decide_eq_true h1
        refine ⟨_, rfl, x, CW, dx, _, _, rfl, s1 _ _ hx, wc.cl, wc.nr, rfl, _, rfl, x2, CW, dx2, _, _, rfl, s1 _ _ hx2, wc.cl, wc.nr, rfl, ?_⟩
        refine ⟨_, drws_rows mc ((hrs.mono s1).baseMono s1) ((hrs2.mono s1).baseMono s1) (lk h1), fun H2 s2 => ?_⟩
        have := q H2 (Same.trans s1 s2)
        subst h1
        have e : decide ((gs, rs) = (gs, rs2)) = decide (rs = rs2) := by
          by_cases z : rs = rs2
          · subst z
            rw [decide_eq_true rfl, decide_eq_true rfl]
          · rw [decide_eq_false z, decide_eq_false (fun h => z (by injection h))]
        rw [e] at this
        exact this
      · have h1 : ¬ gs = gs2 := fun z => h1 (decide_eq_true z)
        have := q H1 s1
        rw [decide_eq_false (fun h => h1 (by injection h))] at this
        exact this
    · exact ⟨_, rfl, _, _, _, _, false, rfl, .own CW, ty, hk, false, rfl, iteF q⟩
end
end K29
set_option Elab.async false
set_option linter.all false
set_option maxRecDepth 100000
set_option maxHeartbeats 4000000
/-! The text of a form: its words, that they are read back. -/
namespace NF
open PySem PySem.Spec PyProof.Rows L2 He RZ NT
/-- the word of a number -/
def strN (i : Int) : Str := Str.ofString (toString i)
theorem strN_cps (m : Nat) : (strN (m : Int)).cps.toList = (Nat.toDigits 10 m).map Char.toNat := PySem.W.KIN.signs_num m
theorem digs {m : Nat} : PySem.NumText.AllDigits ((Nat.toDigits 10 m).map Char.toNat) := by
  intro c hc
  obtain ⟨ch, hch, e⟩ := List.mem_map.mp hc
  have r := PyProof.Rows.digit_range (Nat.isDigit_of_mem_toDigits (by decide) (by decide) hch)
  rw [← e]
  exact r
theorem digs_ne (m : Nat) : Nat.toDigits 10 m ≠ [] := fun e => by
  have h := PySem.toDigits_len_ge 10 m
  rw [e] at h
  exact absurd h (by decide)
theorem digs_head (m : Nat) (h : 0 < m) : ((Nat.toDigits 10 m).map Char.toNat).getD 0 0 ≠ 48 := by
  induction m using Nat.strongRecOn with
  | _ m ih =>
    by_cases c : m < 10
    · rw [Nat.toDigits_of_lt_base c]
      have : ∀ d : Nat, d < 10 → (d = 0 ∨ (Nat.digitChar d).toNat ≠ 48) := by decide
      exact (this m c).resolve_left (by omega)
    · have t : Nat.toDigits 10 (m / 10) ++ Nat.toDigits 10 (m % 10) = Nat.toDigits 10 (10 * (m / 10) + m % 10) := Nat.toDigits_append_toDigits (by decide) (by omega) (Nat.mod_lt m (by decide))
      rw [Nat.div_add_mod] at t
      have z := ih (m / 10) (by omega) (by omega)
      have ne := digs_ne (m / 10)
      rw [← t, List.map_append]
      cases e : Nat.toDigits 10 (m / 10) with
      | nil => exact absurd e ne
      | cons a as =>
        rw [e] at z
        exact z
theorem strN_len {m k : Nat} (hk : 0 < k) (h : m < 10 ^ k) : (strN (m : Int)).length ≤ k := by
  have : (strN (m : Int)).length = (Nat.toDigits 10 m).length := by
    rw [← cps_len, strN_cps, List.length_map]
  rw [this]
  exact digits10_le hk h
theorem strN_num {i : Int} (h0 : 0 ≤ i) (h1 : i < 10 ^ 60) : numW (strN i) = some i := by
  obtain ⟨m, rfl⟩ := Int.eq_ofNat_of_zero_le h0
  have hm : m < 10 ^ 60 := by omega
  have hlen := strN_len (k := 60) (by decide) hm
  have hl1 : 1 ≤ (strN (m : Int)).length := by
    rw [← cps_len, strN_cps, List.length_map]
    exact List.length_pos_iff.mpr (digs_ne m)
  have hd : PySem.NumText.AllDigits (strN (m : Int)).cps.toList := by rw [strN_cps]; exact digs
  have hok : numOk (strN (m : Int)) = true := by
    unfold numOk
    rw [Bool.and_eq_true, Bool.and_eq_true, Bool.and_eq_true]
    refine ⟨⟨⟨decide_eq_true hl1, decide_eq_true hlen⟩, ?_⟩, List.all_eq_true.mpr fun c hc => (dig_iff c).mpr (hd c hc)⟩
    by_cases z : m = 0
    · subst z
      decide +kernel
    · have := digs_head m (by omega)
      rw [strN_cps, decide_eq_false this, Bool.and_false]
      rfl
  unfold numW
  rw [if_pos hok, PySem.intText_digits hd (by rw [strN_cps]; exact fun e => digs_ne m (List.map_eq_nil_iff.mp e)) (by omega), strN_cps, PySem.W.KIN.val_back]
theorem strN_free {i : Int} (h0 : 0 ≤ i) : 32 ∉ (strN i).cps.toList := by
  obtain ⟨m, rfl⟩ := Int.eq_ofNat_of_zero_le h0
  rw [strN_cps]
  intro h
  have := digs 32 h
  omega
/-- the words of a form -/
def wordsF (x : List Int × List Int × Int) : List Str :=
  if x.2.1 = [] then x.1.map strN ++ ([("never" : Str)] : List Str) else x.1.map strN ++ ([("then" : Str)] : List Str) ++ x.2.1.map strN ++ ([("up" : Str), strN x.2.2] : List Str)
def textF (x : List Int × List Int × Int) : Str := Txt.join " " (wordsF x)
theorem climb_words {m : Int} {l : List Int} (c : climbs m l) (hl : ∀ v ∈ l, numW (strN v) = some v) {rest : List Str} (hr : ∀ w r, rest = w :: r → numW w = none) : climbW numW m (l.map strN ++ rest) = l := by
  induction l generalizing m with
  | nil =>
    cases rest with
    | nil => rfl
    | cons w r =>
      show climbW numW m (w :: r) = []
      unfold climbW
      rw [hr w r rfl]
  | cons v l ih =>
    show climbW numW m (strN v :: (l.map strN ++ rest)) = v :: l
    unfold climbW
    rw [hl v (List.mem_cons_self ..)]
    dsimp only
    rw [if_neg (by have := c.1; omega), ih c.2 fun u hu => hl u (List.mem_cons_of_mem _ hu)]
theorem drop_words {l : List Int} {rest : List Str} : (l.map strN ++ rest).drop l.length = rest := by
  have := List.drop_left (l₁ := l.map strN) (l₂ := rest)
  rw [List.length_map] at this
  exact this
theorem read_words {x : List Int × List Int × Int} (g : Good x.1 x.2.1 x.2.2) (f : Few x (10 ^ 60)) : readW numW (isW "never") (isW "then") (isW "up") (wordsF x) = .ok x.1 x.2.1 x.2.2 := by
  obtain ⟨h, l, r⟩ := x
  have memD : ∀ {l : List Int} {v : Int}, v ∈ l → ∃ i, i < l.length ∧ l.getD i 0 = v := fun {l v} hv => by
    obtain ⟨i, hi, e⟩ := List.getElem_of_mem hv
    exact ⟨i, hi, by rw [List.getD_eq_getElem?_getD, List.getElem?_eq_getElem hi]; exact e⟩
  have nh : ∀ v ∈ h, numW (strN v) = some v := fun v hv => by
    obtain ⟨i, hi, rfl⟩ := memD hv
    have := few_head f hi
    exact strN_num this.1 this.2
  have nl : ∀ v ∈ l, numW (strN v) = some v := fun v hv => by
    obtain ⟨i, hi, rfl⟩ := memD hv
    have := few_loop f hi
    exact strN_num this.1 this.2
  have nr := strN_num f.r0 f.r1
  have e1 : numW "never" = none := numW_none (by decide +kernel)
  have e2 : numW "then" = none := numW_none (by decide +kernel)
  have e3 : numW "up" = none := numW_none (by decide +kernel)
  unfold wordsF
  dsimp only at g nr ⊢
  by_cases hl : l = []
  · rw [if_pos hl]
    have eh := climb_words (rest := [("never" : Str)]) g.hd nh fun w r z => by
      injection z with z _
      rw [← z]
      exact e1
    unfold readW
    dsimp only
    rw [eh, drop_words]
    dsimp only
    rw [if_pos (show isW "never" "never" = true from by decide +kernel), if_pos rfl, g.rl hl, hl]
  · rw [if_neg hl]
    have er : h.map strN ++ ([("then" : Str)] : List Str) ++ l.map strN ++ ([("up" : Str), strN r] : List Str) = h.map strN ++ (("then" : Str) :: (l.map strN ++ ([("up" : Str), strN r] : List Str))) := by simp
    rw [er]
    have eh := climb_words (rest := ("then" : Str) :: (l.map strN ++ ([("up" : Str), strN r] : List Str))) g.hd nh fun w r z => by
      injection z with z _
      rw [← z]
      exact e2
    have cl : climbs (lastD 0 h) l := by
      unfold lastD
      by_cases z : h = []
      · rw [if_pos z]
        exact g.lp
      · rw [if_neg z]
        have j := g.join z hl
        have lp := g.lp
        cases l with
        | nil => exact absurd rfl hl
        | cons a as => exact ⟨j, lp.2⟩
    have el := climb_words (rest := ([("up" : Str), strN r] : List Str)) cl nl fun w r z => by
      injection z with z _
      rw [← z]
      exact e3
    have eu : climbW numW (l.getD (l.length - 1) 0 - l.getD 0 0) [strN r] = [r] := by
      unfold climbW
      rw [nr]
      dsimp only
      have := g.last hl
      rw [if_neg (by omega)]
      rfl
    unfold readW
    dsimp only
    rw [eh, drop_words]
    dsimp only
    rw [if_neg (show ¬ isW "never" "then" = true from by decide +kernel), if_pos (show isW "then" "then" = true from by decide +kernel), el, if_neg hl, drop_words]
    dsimp only
    rw [if_pos (show isW "up" "up" = true from by decide +kernel), eu]
    dsimp only
    rw [if_neg (by simp)]
theorem words_free {x : List Int × List Int × Int} (f : Few x (10 ^ 60)) : ∀ w ∈ wordsF x, 32 ∉ w.cps.toList := by
  obtain ⟨h, l, r⟩ := x
  have memD : ∀ {l : List Int} {v : Int}, v ∈ l → ∃ i, i < l.length ∧ l.getD i 0 = v := fun {l v} hv => by
    obtain ⟨i, hi, e⟩ := List.getElem_of_mem hv
    exact ⟨i, hi, by rw [List.getD_eq_getElem?_getD, List.getElem?_eq_getElem hi]; exact e⟩
  have nh : ∀ w ∈ h.map strN, 32 ∉ w.cps.toList := fun w hw => by
    obtain ⟨v, hv, rfl⟩ := List.mem_map.mp hw
    obtain ⟨i, hi, rfl⟩ := memD hv
    exact strN_free (few_head f hi).1
  have nl : ∀ w ∈ l.map strN, 32 ∉ w.cps.toList := fun w hw => by
    obtain ⟨v, hv, rfl⟩ := List.mem_map.mp hw
    obtain ⟨i, hi, rfl⟩ := memD hv
    exact strN_free (few_loop f hi).1
  have nr : 32 ∉ (strN r).cps.toList := strN_free f.r0
  unfold wordsF
  dsimp only
  intro w hw
  by_cases hl : l = []
  · rw [if_pos hl] at hw
    rcases List.mem_append.mp hw with z | z
    · exact nh w z
    · rw [List.mem_singleton.mp z]
      decide +kernel
  · rw [if_neg hl] at hw
    rcases List.mem_append.mp hw with z | z
    · rcases List.mem_append.mp z with z | z
      · rcases List.mem_append.mp z with z | z
        · exact nh w z
        · rw [List.mem_singleton.mp z]
          decide +kernel
      · exact nl w z
    · rcases List.mem_cons.mp z with rfl | z
      · decide +kernel
      · rw [List.mem_singleton.mp z]
        exact nr
theorem words_ne {x : List Int × List Int × Int} : wordsF x ≠ [] := by
  unfold wordsF
  by_cases hl : x.2.1 = []
  · rw [if_pos hl]
    simp
  · rw [if_neg hl]
    simp
theorem text_words {x : List Int × List Int × Int} (f : Few x (10 ^ 60)) : Txt.split (textF x) " " = wordsF x :=
  TL.split_join (y := " ") (s := 32) (S := []) (by decide +kernel) (by decide +kernel) words_ne fun p hp => words_free f p hp
end NF
set_option Elab.async false
set_option linter.all false
/-! f'..' as an expression with a name of its own, so that a comprehension's reading finds it. -/
namespace NF
open PySem PySem.Spec PyProof.Rows L2
def tJ (ts : List TE) : TE := fun σ H Q => tJs ts Str.empty σ H fun out H1 => Q (.str out) H1
theorem pe_joinedN {X : Cx} {v1 v2 : Expr} {rest : List Expr} {ts : List TE} {pos : Pos} (h : PJ X (v1 :: v2 :: rest) ts) : PE X (.JoinedStr (v1 :: v2 :: rest) pos) (tJ ts) := pe_joined h
end NF
set_option Elab.async false
set_option linter.all false
set_option maxRecDepth 100000
set_option maxHeartbeats 4000000
namespace K29
open PySem PySem.Spec PyProof.Rows L2 He NF RZ NT
/-- a thing that str(..) makes this text of -/
def TxtV (v : V) (t : Str) : Prop := v = .str t ∨ ∃ i : Int, v = .int i ∧ i.natAbs.log2 < 1920 ∧ t = toString i
def TxtsV (xs : List V) (ts : List Str) : Prop := xs.length = ts.length ∧ ∀ (j : Nat) (v : V) (t : Str), xs[j]? = some v → ts[j]? = some t → TxtV v t
/-- how long texts are together -/
def tot (ts : List Str) : Nat := (ts.map (·.length)).sum + ts.length
def lineD (w : Str) (ts : List Str) : Str := Txt.join " " (w :: ts)
def spToD (K : PySem.W.Frag) : Sp := fun vs H Q _ => ∃ z a xs ts, vs = [.str z, .ref a] ∧ Row K H a xs ∧ TxtsV xs ts ∧ z.length + tot ts ≤ 1000000 ∧ ∀ H', Same H H' → Q (.str (lineD z ts)) H'
theorem len_le_tot (ts : List Str) : ts.length ≤ tot ts := Nat.le_add_left ..
theorem lenJ (a : Str) (ys : List Str) : (Txt.join a ys).length ≤ (ys.map (·.length)).sum + ys.length * a.length := by
  rw [show Txt.join a ys = Str.join a ys from StrLaws.glued_eq_join a ys]
  exact StrLaws.join_length_le a ys
theorem len_line (z : Str) (ts : List Str) : (lineD z ts).length ≤ z.length + tot ts + 1 := by
  have := lenJ " " (z :: ts)
  rw [show (" " : Str).length = 1 by decide +kernel, List.map_cons, List.sum_cons, List.length_cons] at this
  unfold lineD tot
  omega
theorem sc_text_of_deeds : FnScope ["word", "deeds", "deed"] ["word", "deeds"] (defScope s_text_of_deeds) := ⟨rfl, rfl, rfl, by decide +kernel, rfl, by decide +kernel, by decide +kernel⟩
section
variable {P : Program} {w : World} {K : PySem.W.Frag} {mg : Str → Option Value} {base : Heap} {gs fs : List Str} {C CW : Addr} {tok : Tok}
theorem ok_text_of_deeds {f : Addr} {fd : FuncData} (F : FunD K "text_of_deeds" "text_of_deeds" (defArgs s_text_of_deeds) (defBody s_text_of_deeds) (defScope s_text_of_deeds) [] [] f fd) (T : Txt K mg gs FS) : FnOk P w K mg base CX0 1 f fd ["word", "deeds"] (spToD K) := by
  refine F.ok sc_text_of_deeds (fun vs H Q E h => ?_) (fun cdv A outer s H vs Q E hr h => ?_)
  · obtain ⟨z, a, xs, ts, rfl, _⟩ := h
    rfl
  · obtain ⟨z, a, xs, ts, rfl, ha, hx, hz, q⟩ := h
    refine ⟨_, PSs.nox (pss_one (ps_ret (pe_join pe_str (pe_op op_cat (pe_lst (pa_cons (pv 0) pa_nil)) (pe_lc (own := [("deed", 2)]) rfl sc_text_of_deeds.nd (pi_row (pv 1)) (blkOk_by (N := ["word", "deeds", "deed"]) (sc := defScope s_text_of_deeds) (by decide +kernel)) (fun _ _ _ _ _ => by exact (pg_name (i := 2) sc_text_of_deeds.nd rfl (Or.inl rfl))) (fun _ _ _ _ _ => by exact pts_nil) (fun _ _ _ _ _ => by exact (pe_callTy (call_str_int.or SkE.call_str_str) rfl (T.fr _ (by decide +kernel)) (by decide +kernel) (pa_cons (pv 2) pa_nil)))))))), ?_⟩
    obtain ⟨xl, hx⟩ := hx
    have tl := len_le_tot ts
    refine ⟨⟨_, rfl⟩, ?_⟩
    refine ⟨_, rfl, (by show 1 ≤ sizeLine; decide), fun L0 hL0 => ?_⟩
    have s1 := NF.Same.new (o := .lst [V.str z]) (Same.refl H) hL0
    have hL0' := upd_same (H := H) (a := L0) (o := .lst [V.str z])
    generalize upd H L0 (.lst [V.str z]) = H1 at s1 hL0'
    refine ⟨_, rfl, a, rfl, ?_⟩
    refine lc_row (ha.mono s1) (fun D j G => Same H1 G ∧ G D = some (.lst (vS (ts.take j)))) (fun D hD => ⟨NF.Same.new (Same.refl H1) hD, upd_same⟩) (fun D j G _ z => z.1) ?_ ?_
    · rintro D hD j v G hv ⟨sG, hG⟩
      have hj := (List.getElem?_eq_some_iff.mp hv).1
      have hjt : j < ts.length := by omega
      have et := List.getElem?_eq_getElem hjt
      have put : ∃ acc, G D = some (.lst acc) ∧ acc.length < sizeLine ∧ (Same H1 (upd G D (.lst (acc ++ [V.str ts[j]]))) ∧ (upd G D (.lst (acc ++ [V.str ts[j]]))) D = some (.lst (vS (ts.take (j + 1))))) := by
        refine ⟨_, hG, by unfold vS; rw [List.length_map, List.length_take]; exact Nat.lt_of_lt_of_le (show min j ts.length < 1000001 by omega) (by decide), NF.Same.mut sG hD, ?_⟩
        rw [upd_same, take_snoc et]
        unfold vS
        rw [List.map_append]
        rfl
      rcases hx j v ts[j] hv et with rfl | ⟨i, rfl, hi, e⟩
      · exact ⟨rfl, _, rfl, .inr ⟨_, rfl, put⟩⟩
      · rw [e] at put
        exact ⟨rfl, _, rfl, .inl ⟨i, rfl, hi, put⟩⟩
    · rintro D hD G ⟨sG, hG⟩
      rw [xl, List.take_length] at hG
      have hL0G := sG _ _ hL0'
      refine ⟨L0, D, _, _, rfl, rfl, hL0G, hG, by unfold vS; rw [List.length_map]; exact Nat.le_trans (show 1 + ts.length ≤ 1000001 by omega) (by decide), fun L hL => ?_⟩
      have s3 := NF.Same.new (o := .lst ([V.str z] ++ vS ts)) (Same.refl G) hL
      refine ⟨" ", L, z :: ts, rfl, rfl, .inl (SqL.of upd_same), ?_, q _ (Same.trans s1 (Same.trans sG s3))⟩
      rw [show (" " : Str).length = 1 by decide +kernel, List.map_cons, List.sum_cons, List.length_cons]
      unfold tot at hz
      omega
end
end K29
set_option Elab.async false
set_option linter.all false
set_option maxRecDepth 100000
set_option maxHeartbeats 4000000
namespace K29
open PySem PySem.Spec PyProof.Rows L2 He NF RZ NT
def deedS : Deed → Str
  | none => "give"
  | some i => toString (i : Int)
theorem deedS_ok {n : Nat} {d : Deed} (hn : n ≤ 3) (h : ∀ i, d = some i → i < n) : TxtV (dV d) (deedS d) ∧ (deedS d).length ≤ 4 := by
  cases d with
  | none => exact ⟨.inl rfl, by decide +kernel⟩
  | some i =>
    have := h i rfl
    refine ⟨.inr ⟨(i : Int), rfl, ?_, rfl⟩, ?_⟩
    · rw [Int.natAbs_natCast]
      match i, this with
      | 0, _ => decide
      | 1, _ => decide +kernel
      | 2, _ => decide +kernel
      | k + 3, h => omega
    · match i, this with
      | 0, _ => decide +kernel
      | 1, _ => decide +kernel
      | 2, _ => decide +kernel
      | k + 3, h => omega
theorem deeds_txt {n : Nat} {b : List Deed} (hn : n ≤ 3) (h : ∀ i, some i ∈ b → i < n) : TxtsV (b.map dV) (b.map deedS) := by
  refine ⟨by rw [List.length_map, List.length_map], fun j v t e1 e2 => ?_⟩
  rw [List.getElem?_map] at e1 e2
  obtain ⟨d, ed, rfl⟩ := Option.map_eq_some_iff.mp e1
  rw [ed] at e2
  cases e2
  exact (deedS_ok hn fun i e => h i (by rw [← e]; exact List.mem_of_getElem? ed)).1
theorem tot_le {ts : List Str} {B : Nat} (h : ∀ t ∈ ts, t.length ≤ B) : tot ts ≤ ts.length * (B + 1) := by
  unfold tot
  induction ts with
  | nil => simp
  | cons t ts ih =>
    have h1 := h t List.mem_cons_self
    have h2 := ih fun x hx => h x (List.mem_cons_of_mem _ hx)
    rw [List.map_cons, List.sum_cons, List.length_cons, Nat.succ_mul]
    omega
theorem deeds_tot {n : Nat} {b : List Deed} (hn : n ≤ 3) (h : ∀ i, some i ∈ b → i < n) : tot (b.map deedS) ≤ b.length * 5 := by
  have := tot_le (ts := b.map deedS) (B := 4) fun t ht => by
    obtain ⟨d, hd, rfl⟩ := List.mem_map.mp ht
    exact (deedS_ok hn fun i e => h i (by rw [← e]; exact hd)).2
  rw [List.length_map] at this
  exact this
theorem vS_txt (ss : List Str) : TxtsV (vS ss) ss := by
  unfold vS
  refine ⟨List.length_map .., fun j v t e1 e2 => ?_⟩
  rw [List.getElem?_map, e2] at e1
  cases e1
  exact .inl rfl
def startR (r : RowD) : Str := lineD (((Str.empty ++ ("row " : Str)) ++ r.name) ++ (" of" : Str)) r.srcs
def partsR (b : List Deed) (ws : List (List Deed)) : List Str := lineD "begin" (b.map deedS) :: ws.map fun v => lineD "way" (v.map deedS)
def rowT (r : RowD) : Str := match r.mkr with
  | .unk u => ((Str.empty ++ startR r) ++ (" by " : Str)) ++ u
  | .mak _ b ws => ((Str.empty ++ startR r) ++ (": " : Str)) ++ Txt.join "; " (partsR b ws)
def webT (gs : List Str) (rs : List RowD) : List Str := gs.map (fun g => (Str.empty ++ ("given " : Str)) ++ g) ++ rs.map rowT
theorem name_len {z : Str} (h : okName z) : z.length ≤ 8 := of_decide_eq_true (ba (ba h).1).2
theorem len_start {r : RowD} (h : RowOk r) : (startR r).length ≤ 50 := by
  have h1 := len_line (((Str.empty ++ ("row " : Str)) ++ r.name) ++ (" of" : Str)) r.srcs
  rw [Str.length_append, Str.length_append, Str.length_append] at h1
  have h2 := name_len h.nm
  have h3 := tot_le (ts := r.srcs) (B := 8) fun t ht => name_len (h.so.w t ht)
  have h4 := h.so.s3
  have e1 : (Str.empty : Str).length = 0 := by decide +kernel
  have e2 : ("row " : Str).length = 4 := by decide +kernel
  have e3 : (" of" : Str).length = 3 := by decide +kernel
  unfold startR
  omega
theorem unk_len {z : Str} (h : wordB 2 z = true) : z.length ≤ 2 := of_decide_eq_true (ba (ba h).1).2
def spToR (K : PySem.W.Frag) (C : Addr) : Sp := fun vs H Q _ => ∃ a r, vs = [.ref a] ∧ RowX K C H H a r ∧ RowOk r ∧ (∀ n b ws, r.mkr = .mak n b ws → GoodM n b ws) ∧ ∀ H', Same H H' → Q (.str (rowT r)) H'
theorem sc_text_of_row : FnScope ["row", "start", "parts", "name", "maker", "sources", "way"] ["row"] (defScope s_text_of_row) := ⟨rfl, rfl, rfl, by decide +kernel, rfl, by decide +kernel, by decide +kernel⟩
section
variable {P : Program} {w : World} {K : PySem.W.Frag} {mg : Str → Option Value} {base : Heap} {gs fs : List Str} {C CW : Addr} {tok : Tok}
theorem ok_text_of_row {f : Addr} {fd : FuncData} (F : FunD K "text_of_row" "text_of_row" (defArgs s_text_of_row) (defBody s_text_of_row) (defScope s_text_of_row) [] [] f fd) (T : Txt K mg gs FS) (mc : MakC K C) (kM : PySem.W.kitOne K (.ref C) (.type "str") = some false) (c_text_of_deeds : Cal P w K mg base 1 "text_of_deeds" (spToD K)) : FnOk P w K mg base CX0 2 f fd ["row"] (spToR K C) := by
  refine F.ok sc_text_of_row (fun vs H Q E h => ?_) (fun cdv A outer s H vs Q E hr h => ?_)
  · obtain ⟨a, r, rfl, _⟩ := h
    rfl
  · obtain ⟨a, r, rfl, hr1, ok, gm, q⟩ := h
    refine ⟨_, PSs.nox (pss_cons (ps_asg (pv 0) (pgt (K := K) (n := 3) rfl rfl (pgs_cons (pg_name (i := 3) sc_text_of_row.nd rfl (Or.inl rfl)) (pgs_cons (pg_name (i := 4) sc_text_of_row.nd rfl (Or.inl rfl)) (pgs_cons (pg_name (i := 5) sc_text_of_row.nd rfl (Or.inl rfl)) pgs_nil))))) (pss_cons (ps_set (i := 1) sc_text_of_row.nd rfl (Or.inl rfl) (pe_c c_text_of_deeds hr (by decide) rfl (pa_cons (pe_joinedN (.cons pe_str (.cons (pe_fmt (pv 3)) (.cons pe_str .nil)))) (pa_cons (pv 5) pa_nil)))) (pss_cons (ps_if (pt_val (pe_callB call_isi rfl (T.fr _ (by decide +kernel)) (by decide +kernel) (pa_cons (pv 4) (pa_cons (pe_bltn (v := .ty "str") rfl (T.fr _ (by decide +kernel)) (by decide +kernel) rfl) pa_nil)))) (pss_one (ps_ret (pe_joinedN (.cons (pe_fmt (pv 1)) (.cons pe_str (.cons (pe_fmt (pv 4)) .nil)))))) pss_nil) (pss_cons (ps_set (i := 2) sc_text_of_row.nd rfl (Or.inl rfl) (pe_op op_cat (pe_lst (pa_cons (pe_c c_text_of_deeds hr (by decide) rfl (pa_cons pe_str (pa_cons (pe_fld (pv 4) rfl) pa_nil))) pa_nil)) (pe_lc (own := [("way", 6)]) rfl sc_text_of_row.nd (pi_tup (pe_fld (pv 4) rfl)) (blkOk_by (N := ["row", "start", "parts", "name", "maker", "sources", "way"]) (sc := defScope s_text_of_row) (by decide +kernel)) (fun _ _ _ _ _ => by exact (pg_name (i := 6) sc_text_of_row.nd rfl (Or.inl rfl))) (fun _ _ _ _ _ => by exact pts_nil) (fun _ _ _ _ _ => by exact (pe_c c_text_of_deeds hr (by decide) rfl (pa_cons pe_str (pa_cons (pv 6) pa_nil))))))) (pss_one (ps_ret (pe_op op_add_str (pe_joinedN (.cons (pe_fmt (pv 1)) (.cons pe_str .nil))) (pe_join pe_str (pv 2))))))))), ?_⟩
    obtain ⟨v, ps, ha, hv, hps⟩ := hr1
    have nl := name_len ok.nm
    have sl := len_start ok
    have e0 : (Str.empty : Str).length = 0 := by decide +kernel
    have e1 : ("row " : Str).length = 4 := by decide +kernel
    have e2 : (" of" : Str).length = 3 := by decide +kernel
    have e3 : (" by " : Str).length = 4 := by decide +kernel
    have e4 : (": " : Str).length = 2 := by decide +kernel
    have big : ∀ k : Nat, k ≤ 1000000 → k ≤ sizeLine := fun k h => Nat.le_trans h (by decide)
    have so3 := ok.so.s3
    have tt := tot_le (ts := r.srcs) (B := 8) fun t ht => name_len (ok.so.w t ht)
    refine ⟨_, rfl, a, _, rfl, ha, rfl, _, _, rfl, ?_⟩
    refine ⟨_, _, rfl, ?_⟩
    refine ⟨_, _, rfl, ?_⟩
    refine ⟨rfl, ?_⟩
    refine ⟨_, rfl, big _ (by rw [Str.length_append]; omega), _, rfl, .inl ⟨r.name, rfl, big _ (by omega), _, rfl, big _ (by rw [Str.length_append, Str.length_append]; omega), _, rfl, big _ (by rw [Str.length_append, Str.length_append, Str.length_append]; omega), ?_⟩⟩
    refine ⟨_, rfl, _, ps, _, r.srcs, rfl, .inr hps, vS_txt _, by rw [Str.length_append, Str.length_append, Str.length_append]; omega, fun H1 s1 => ?_⟩
    have hv := hv.mono s1
    cases em : r.mkr with
    | unk u =>
      rw [em] at hv
      obtain rfl : v = .str u := hv
      have ul := unk_len (ok.un u em)
      refine ⟨_, rfl, _, _, _, _, true, rfl, .ty "str", .base (.str _), kit_s_s K, true, rfl, iteT ?_⟩
      have sl : (lineD (((Str.empty ++ ("row " : Str)) ++ r.name) ++ (" of" : Str)) r.srcs).length ≤ 50 := sl
      refine ⟨_, rfl, .inl ⟨_, rfl, big _ (by omega), _, rfl, big _ (by rw [Str.length_append]; omega), _, rfl, big _ (by rw [Str.length_append, Str.length_append]; omega), _, rfl, .inl ⟨u, rfl, big _ (by omega), _, rfl, big _ (by rw [Str.length_append, Str.length_append, Str.length_append]; omega), ?_⟩⟩⟩
      have := q H1 s1
      unfold rowT at this
      rw [em] at this
      exact this
    | mak n b ws =>
      rw [em] at hv
      obtain ⟨x, rfl, dx, pb, pw, hx, hb, as, hw, hl, hws⟩ := hv
      have g := gm n b ws em
      have n3 := g.n3
      have m4 := g.m4
      have bl := g.bl
      refine ⟨_, rfl, _, _, _, _, false, rfl, .ty "str", mc.ty hx, kM, false, rfl, iteF ?_⟩
      have bt := deeds_tot n3 g.bd
      refine ⟨_, rfl, x, C, dx, _, _, rfl, hx, mc.cl, mc.nb, rfl, ?_⟩
      have eb : ("begin" : Str).length = 5 := by decide +kernel
      have ew : ("way" : Str).length = 3 := by decide +kernel
      refine ⟨_, pb, _, b.map deedS, rfl, .inr hb, deeds_txt n3 g.bd, by rw [eb]; omega, fun H2 s2 => ?_⟩
      refine ⟨(by show 1 ≤ sizeLine; decide), fun L0 hL0 => ?_⟩
      have s3 := NF.Same.new (o := .lst [V.str (lineD "begin" (b.map deedS))]) (Same.refl H2) hL0
      have hL0' := upd_same (H := H2) (a := L0) (o := .lst [V.str (lineD "begin" (b.map deedS))])
      generalize upd H2 L0 (.lst [V.str (lineD "begin" (b.map deedS))]) = H3 at s3 hL0'
      have s13 := Same.trans s2 s3
      have s03 := Same.trans s1 s13
      refine ⟨_, rfl, x, C, dx, _, _, rfl, s13 _ _ hx, mc.cl, mc.nw, rfl, pw, rfl, ⟨_, NF.Same.tup s13 hw⟩, fun D hD => ?_⟩
      have wt : ∀ v ∈ ws, tot (v.map deedS) ≤ 3000 := fun v hv => by
        have h1 := deeds_tot n3 (g.wy v hv).2.2
        have h2 := (g.wy v hv).2.1
        omega
      refine lc_tup (xs := as.map V.ref) (fun j G => Same H3 G ∧ G D = some (.lst (vS ((ws.take j).map fun v => lineD "way" (v.map deedS))))) ⟨NF.Same.new (Same.refl H3) hD, upd_same⟩ (fun j G _ z => NF.Same.tup (Same.trans s13 z.1) hw) ?_ ?_
      · rintro j v G hv ⟨sG, hG⟩
        have hj := (List.getElem?_eq_some_iff.mp hv).1
        rw [List.length_map] at hj
        obtain rfl : V.ref (as[j]) = v := by
          rw [List.getElem?_map, List.getElem?_eq_getElem hj] at hv
          exact Option.some.inj hv
        have hjw : j < ws.length := by omega
        have hr1 := NF.Same.tup (Same.trans s13 sG) (hws j as[j] ws[j] (List.getElem?_eq_getElem hj) (List.getElem?_eq_getElem hjw))
        have hm : ws[j] ∈ ws := List.getElem_mem hjw
        refine ⟨rfl, _, rfl, _, as[j], _, ws[j].map deedS, rfl, .inr hr1, deeds_txt n3 (g.wy _ hm).2.2, by have := wt _ hm; rw [ew]; omega, fun G2 s2 => ?_⟩
        refine ⟨_, s2 _ _ hG, by unfold vS; rw [List.length_map, List.length_map, List.length_take]; exact Nat.lt_of_le_of_lt (show min j ws.length ≤ 4 by omega) (by decide), NF.Same.mut (Same.trans sG s2) hD, ?_⟩
        rw [upd_same, take_snoc (List.getElem?_eq_getElem hjw), List.map_append]
        unfold vS
        rw [List.map_append]
        rfl
      · rintro G ⟨sG, hG⟩
        rw [List.length_map, hl, List.take_length] at hG
        have hL0G := sG _ _ hL0'
        refine ⟨L0, D, _, _, rfl, rfl, hL0G, hG, by
          unfold vS
          rw [List.length_map, List.length_map]
          exact Nat.le_trans (show 1 + ws.length ≤ 5 by omega) (by decide), fun L hL => ?_⟩
        have s4 := NF.Same.new (o := .lst ([V.str (lineD "begin" (b.map deedS))] ++ vS (ws.map fun v => lineD "way" (v.map deedS)))) (Same.refl G) hL
        have hL' := upd_same (H := G) (a := L) (o := .lst ([V.str (lineD "begin" (b.map deedS))] ++ vS (ws.map fun v => lineD "way" (v.map deedS))))
        generalize upd G L (.lst ([V.str (lineD "begin" (b.map deedS))] ++ vS (ws.map fun v => lineD "way" (v.map deedS)))) = G4 at s4 hL'
        have sl : (lineD (((Str.empty ++ ("row " : Str)) ++ r.name) ++ (" of" : Str)) r.srcs).length ≤ 50 := sl
        have lb := len_line "begin" (b.map deedS)
        rw [eb] at lb
        have lw : ((ws.map fun v => lineD "way" (v.map deedS)).map (·.length)).sum ≤ ws.length * 3100 := by
          have := tot_le (ts := ws.map fun v => lineD "way" (v.map deedS)) (B := 3099) fun t ht => by
            obtain ⟨v, hv, rfl⟩ := List.mem_map.mp ht
            have h1 := len_line "way" (v.map deedS)
            rw [ew] at h1
            have := wt v hv
            omega
          unfold tot at this
          rw [List.length_map] at this
          omega
        have w4 : ws.length * 3100 ≤ 4 * 3100 := Nat.mul_le_mul_right _ m4
        have es : ("; " : Str).length = 2 := by decide +kernel
        have jb : ((partsR b ws).map (·.length)).sum + (partsR b ws).length * ("; " : Str).length ≤ 16000 := by
          rw [es]
          unfold partsR
          rw [List.map_cons, List.sum_cons, List.length_cons, List.length_map]
          omega
        have jl := lenJ "; " (partsR b ws)
        refine ⟨_, rfl, .inl ⟨_, rfl, big _ (by omega), _, rfl, big _ (by rw [Str.length_append]; omega), _, rfl, big _ (by rw [Str.length_append, Str.length_append]; omega), ?_⟩⟩
        refine ⟨⟨_, rfl⟩, _, rfl, _, L, partsR b ws, rfl, rfl, .inl (SqL.of hL'), by omega, ?_⟩
        refine ⟨_, _, rfl, rfl, big _ (by rw [Str.length_append, Str.length_append]; omega), ?_⟩
        have := q G4 (Same.trans s03 (Same.trans sG s4))
        unfold rowT at this
        rw [em] at this
        exact this
end
end K29
set_option Elab.async false
set_option linter.all false
set_option maxRecDepth 100000
set_option maxHeartbeats 4000000
namespace K29
open PySem PySem.Spec PyProof.Rows L2 He NF RZ NT
def spWrite (K : PySem.W.Frag) (CW C : Addr) : Sp := fun vs H Q _ => ∃ x gs rs, vs = [.ref x] ∧ WebAt K CW C H x gs rs ∧ GoodW gs rs ∧ ∀ p H', Same H H' → SqT K H' p (vS (webT gs rs)) → Q (.ref p) H'
theorem sc_write_web : FnScope ["web", "name", "row"] ["web"] (defScope s_write_web) := ⟨rfl, rfl, rfl, by decide +kernel, rfl, by decide +kernel, by decide +kernel⟩
section
variable {P : Program} {w : World} {K : PySem.W.Frag} {mg : Str → Option Value} {base : Heap} {gs fs : List Str} {C CW : Addr} {tok : Tok}
theorem ok_write_web {f : Addr} {fd : FuncData} (F : FunD K "write_web" "write_web" (defArgs s_write_web) (defBody s_write_web) (defScope s_write_web) [] [] f fd) (T : Txt K mg gs FS) (wc : WebC K CW) (c_text_of_row : Cal P w K mg base 2 "text_of_row" (spToR K C)) : FnOk P w K mg base CX0 3 f fd ["web"] (spWrite K CW C) := by
  refine F.ok sc_write_web (fun vs H Q E h => ?_) (fun cdv A outer s H vs Q E hr h => ?_)
  · obtain ⟨x, gs, rs, rfl, _⟩ := h
    rfl
  · obtain ⟨x, gs, rs, rfl, wa, g, q⟩ := h
    refine ⟨_, PSs.nox (pss_one (ps_ret (pe_callTy cr_tup rfl (T.fr _ (by decide +kernel)) (by decide +kernel) (pa_cons (pe_op op_cat (pe_lc (own := [("name", 1)]) rfl sc_write_web.nd (pi_tup (pe_fld (pv 0) rfl)) (blkOk_by (N := ["web", "name", "row"]) (sc := defScope s_write_web) (by decide +kernel)) (fun _ _ _ _ _ => by exact (pg_name (i := 1) sc_write_web.nd rfl (Or.inl rfl))) (fun _ _ _ _ _ => by exact pts_nil) (fun _ _ _ _ _ => by exact (pe_joinedN (.cons pe_str (.cons (pe_fmt (pv 1)) .nil))))) (pe_lc (own := [("row", 2)]) rfl sc_write_web.nd (pi_tup (pe_fld (pv 0) rfl)) (blkOk_by (N := ["web", "name", "row"]) (sc := defScope s_write_web) (by decide +kernel)) (fun _ _ _ _ _ => by exact (pg_name (i := 2) sc_write_web.nd rfl (Or.inl rfl))) (fun _ _ _ _ _ => by exact pts_nil) (fun _ _ _ _ _ => by exact (pe_c c_text_of_row hr (by decide) rfl (pa_cons (pv 2) pa_nil))))) pa_nil)))), ?_⟩
    obtain ⟨dx, pg, pr, pn, hx, hg, hrs, hn⟩ := id wa
    have g3 := g.g3
    have r6 := g.r6
    have e0 : (Str.empty : Str).length = 0 := by decide +kernel
    have e1 : ("given " : Str).length = 6 := by decide +kernel
    have big : ∀ k : Nat, k ≤ 1000000 → k ≤ sizeLine := fun k h => Nat.le_trans h (by decide)
    refine ⟨_, rfl, x, CW, dx, _, _, rfl, hx, wc.cl, wc.ng, rfl, pg, rfl, ⟨_, hg⟩, fun D hD => ?_⟩
    refine lc_tup (xs := vS gs) (fun j G => Same H G ∧ G D = some (.lst (vS ((gs.take j).map fun g => (Str.empty ++ ("given " : Str)) ++ g)))) ⟨NF.Same.new (Same.refl H) hD, upd_same⟩ (fun j G _ z => NF.Same.tup z.1 hg) ?_ ?_
    · rintro j v G hv ⟨sG, hG⟩
      have hj := (List.getElem?_eq_some_iff.mp hv).1
      rw [show (vS gs).length = gs.length from List.length_map ..] at hj
      unfold vS at hv
      rw [List.getElem?_map, List.getElem?_eq_getElem hj] at hv
      obtain rfl : V.str gs[j] = v := Option.some.inj hv
      have nl := name_len (g.gn gs[j] (List.getElem_mem hj))
      refine ⟨rfl, _, rfl, big _ (by rw [Str.length_append]; omega), _, rfl, .inl ⟨gs[j], rfl, big _ (by omega), _, rfl, big _ (by rw [Str.length_append, Str.length_append]; omega), ?_⟩⟩
      refine ⟨_, hG, by unfold vS; rw [List.length_map, List.length_map, List.length_take]; exact Nat.lt_of_le_of_lt (show min j gs.length ≤ 3 by omega) (by decide), NF.Same.mut sG hD, ?_⟩
      rw [upd_same, take_snoc (List.getElem?_eq_getElem hj), List.map_append]
      unfold vS
      rw [List.map_append]
      rfl
    rintro H1 ⟨s1, hD1⟩
    rw [show (vS gs).length = gs.length from List.length_map .., List.take_length] at hD1
    obtain ⟨as, har, hl, hrr⟩ := id hrs
    refine ⟨_, rfl, x, CW, dx, _, _, rfl, s1 _ _ hx, wc.cl, wc.nr, rfl, pr, rfl, ⟨_, NF.Same.tup s1 har⟩, fun D2 hD2 => ?_⟩
    refine lc_tup (xs := as.map V.ref) (fun j G => Same H1 G ∧ G D2 = some (.lst (vS ((rs.take j).map rowT)))) ⟨NF.Same.new (Same.refl H1) hD2, upd_same⟩ (fun j G _ z => NF.Same.tup (Same.trans s1 z.1) har) ?_ ?_
    · rintro j v G hv ⟨sG, hG⟩
      have hj := (List.getElem?_eq_some_iff.mp hv).1
      rw [List.length_map] at hj
      obtain rfl : V.ref (as[j]) = v := by
        rw [List.getElem?_map, List.getElem?_eq_getElem hj] at hv
        exact Option.some.inj hv
      have hjr : j < rs.length := by omega
      have hm : rs[j] ∈ rs := List.getElem_mem hjr
      have sHG := Same.trans s1 sG
      have rx := ((hrr j as[j] rs[j] (List.getElem?_eq_getElem hj) (List.getElem?_eq_getElem hjr)).mono sHG).baseMono sHG
      refine ⟨rfl, _, rfl, as[j], rs[j], rfl, rx, g.row hm, (fun n b ws e => (g.tl _ hm n b ws e).2), fun G2 s2 => ?_⟩
      refine ⟨_, s2 _ _ hG, by unfold vS; rw [List.length_map, List.length_map, List.length_take]; exact Nat.lt_of_le_of_lt (show min j rs.length ≤ 6 by omega) (by decide), NF.Same.mut (Same.trans sG s2) hD2, ?_⟩
      rw [upd_same, take_snoc (List.getElem?_eq_getElem hjr), List.map_append]
      unfold vS
      rw [List.map_append]
      rfl
    · rintro G ⟨sG, hG⟩
      rw [List.length_map, hl, List.take_length] at hG
      have hD1G := sG _ _ hD1
      refine ⟨D, D2, _, _, rfl, rfl, hD1G, hG, by
        unfold vS
        rw [List.length_map, List.length_map, List.length_map, List.length_map]
        exact Nat.le_trans (show gs.length + rs.length ≤ 9 by omega) (by decide), fun L hL => ?_⟩
      have s3 := NF.Same.new (o := .lst (vS (gs.map fun g => (Str.empty ++ ("given " : Str)) ++ g) ++ vS (rs.map rowT))) (Same.refl G) hL
      refine ⟨L, _, rfl, .inl (SqL.of upd_same), fun p G4 s4 t4 => ?_⟩
      refine q p G4 (Same.trans s1 (Same.trans sG (Same.trans s3 s4))) ?_
      unfold webT
      unfold vS at t4 ⊢
      rw [List.map_append]
      exact t4
end
end K29
set_option Elab.async false
set_option linter.all false
set_option maxRecDepth 100000
set_option maxHeartbeats 4000000
/-! The lines of a web, read back. -/
namespace K29
open PySem PySem.Spec PyProof.Rows L2 He NF RZ NT
/-- a sign that doesn't stand in a text -/
def Free (c : Nat) (z : Str) : Prop := c ∉ z.cps.toList
theorem join_cons {s x : Str} : ∀ {l : List Str}, l ≠ [] → Str.join s (x :: l) = x ++ s ++ Str.join s l
  | [], h => absurd rfl h
  | _ :: _, _ => rfl
theorem join_app {s : Str} : ∀ {us ts : List Str}, us ≠ [] → ts ≠ [] → Str.join s (us ++ ts) = Str.join s us ++ s ++ Str.join s ts
  | [], _, h, _ => absurd rfl h
  | [u], ts, _, h => by
    show Str.join s (u :: ts) = u ++ s ++ Str.join s ts
    exact join_cons h
  | u :: v :: us, ts, _, h => by
    have ih := join_app (s := s) (us := v :: us) (ts := ts) (by simp) h
    rw [List.cons_append, join_cons (by simp), ih, join_cons (x := u) (l := v :: us) (by simp)]
    simp only [Str.append_assoc]
theorem jEq (s : Str) (l : List Str) : Txt.join s l = Str.join s l := StrLaws.glued_eq_join s l
theorem line_app {us ts : List Str} (h : us ≠ []) : lineD (Txt.join " " us) ts = Txt.join " " (us ++ ts) := by
  unfold lineD
  rw [jEq, jEq, jEq]
  by_cases c : ts = []
  · rw [c, List.append_nil]
    rfl
  · rw [join_cons c, join_app h c]
/-- the words ahead of the colon -/
def wordsR (r : RowD) : List Str := "row" :: r.name :: "of" :: r.srcs
theorem wordsR_ne (r : RowD) : wordsR r ≠ [] := List.cons_ne_nil _ _
theorem start_words (r : RowD) : startR r = Txt.join " " (wordsR r) := by
  have e : ((Str.empty ++ ("row " : Str)) ++ r.name) ++ (" of" : Str) = Txt.join " " ["row", r.name, "of"] := by
    rw [jEq]
    show _ = ("row" : Str) ++ (" " : Str) ++ (r.name ++ (" " : Str) ++ ("of" : Str))
    rw [show ("row " : Str) = ("row" : Str) ++ (" " : Str) by decide +kernel, show (" of" : Str) = (" " : Str) ++ ("of" : Str) by decide +kernel, Str.empty_append]
    simp only [Str.append_assoc]
  unfold startR
  rw [e, line_app (by simp)]
  rfl
theorem letB_not {c d : Nat} (h : letB c = true) (hd : letB d = false) : c ≠ d := fun e => by
  rw [e, hd] at h
  cases h
theorem word_free {n : Nat} {z : Str} (h : wordB n z = true) {c : Nat} (hc : letB c = false) : Free c z := fun hm => by
  have := List.all_eq_true.mp (ba h).2 c hm
  rw [hc] at this
  cases this
theorem sp_no : letB 32 = false := by decide +kernel
theorem co_no : letB 58 = false := by decide +kernel
theorem se_no : letB 59 = false := by decide +kernel
theorem split_words {l : List Str} (hn : l ≠ []) (h : ∀ z ∈ l, Free 32 z) : Txt.split (Txt.join " " l) " " = l :=
  TL.split_join (y := " ") (s := 32) (S := []) (by decide +kernel) (by decide +kernel) hn fun p hp => h p hp
theorem start_free {r : RowD} (ok : RowOk r) : ∀ z ∈ wordsR r, Free 32 z := fun z hz => by
  unfold wordsR at hz
  simp only [List.mem_cons] at hz
  rcases hz with rfl | rfl | rfl | h
  · unfold Free; decide +kernel
  · exact word_free ok.nm sp_no
  · unfold Free; decide +kernel
  · exact word_free (ok.so.w z h) sp_no
theorem split_start {r : RowD} (ok : RowOk r) : Txt.split (startR r) " " = wordsR r := by
  rw [start_words]
  exact split_words (wordsR_ne r) (start_free ok)
/-- an open row's line -/
theorem unk_words {r : RowD} {u : Str} (e : r.mkr = .unk u) : rowT r = Txt.join " " (wordsR r ++ (["by", u] : List Str)) := by
  unfold rowT
  rw [e]
  show ((Str.empty ++ startR r) ++ (" by " : Str)) ++ u = _
  rw [start_words, jEq, jEq, join_app (wordsR_ne r) (by simp), show (" by " : Str) = (" " : Str) ++ (("by" : Str) ++ (" " : Str)) by decide +kernel, Str.empty_append]
  show _ = _ ++ (" " : Str) ++ (("by" : Str) ++ (" " : Str) ++ u)
  simp only [Str.append_assoc]
theorem split_unk {r : RowD} {u : Str} (ok : RowOk r) (e : r.mkr = .unk u) : Txt.split (rowT r) " " = wordsR r ++ (["by", u] : List Str) := by
  rw [unk_words e]
  refine split_words (by simp [wordsR]) fun z hz => ?_
  rcases List.mem_append.mp hz with h | h
  · exact start_free ok z h
  · simp only [List.mem_cons, List.not_mem_nil, or_false] at h
    rcases h with rfl | rfl
    · unfold Free; decide +kernel
    · exact word_free (ok.un _ e) sp_no
theorem free_app {c : Nat} {a b : Str} (h1 : Free c a) (h2 : Free c b) : Free c (a ++ b) := fun h => by
  have : c ∈ a.cps.toList ++ b.cps.toList := by
    rw [Str.cps_append, Array.toList_append] at h
    exact h
  exact (List.mem_append.mp this).elim h1 h2
theorem free_join {c : Nat} {s : Str} (hs : Free c s) : ∀ {l : List Str}, (∀ z ∈ l, Free c z) → Free c (Str.join s l)
  | [], _ => fun h => by cases h
  | [x], h => h x (List.mem_singleton.mpr rfl)
  | x :: y :: l, h => by
    rw [join_cons (by simp)]
    exact free_app (free_app (h x List.mem_cons_self) hs) (free_join hs fun z hz => h z (List.mem_cons_of_mem _ hz))
/-- the colon of a told row -/
theorem part_mak {r : RowD} {n : Nat} {b : List Deed} {ws : List (List Deed)} (ok : RowOk r) (e : r.mkr = .mak n b ws) : Txt.partition (rowT r) ":" = (startR r, (":" : Str), (" " : Str) ++ Txt.join "; " (partsR b ws)) := by
  have h : rowT r = startR r ++ (":" : Str) ++ ((" " : Str) ++ Txt.join "; " (partsR b ws)) := by
    unfold rowT
    rw [e]
    show ((Str.empty ++ startR r) ++ (": " : Str)) ++ _ = _
    rw [show (": " : Str) = (":" : Str) ++ (" " : Str) by decide +kernel, Str.empty_append]
    simp only [Str.append_assoc]
  rw [h]
  refine TL.partition_app (s := 58) (S := []) (by decide +kernel) ?_
  have : Free 58 (startR r) := by
    rw [start_words, jEq]
    refine free_join (by unfold Free; decide +kernel) fun z hz => ?_
    unfold wordsR at hz
    simp only [List.mem_cons] at hz
    rcases hz with rfl | rfl | rfl | h
    · unfold Free; decide +kernel
    · exact word_free ok.nm co_no
    · unfold Free; decide +kernel
    · exact word_free (ok.so.w z h) co_no
  exact this
/-- an open row has no colon -/
theorem part_unk {r : RowD} {u : Str} (ok : RowOk r) (e : r.mkr = .unk u) : Txt.partition (rowT r) ":" = (rowT r, Str.empty, Str.empty) := by
  refine TL.partition_none (s := 58) (S := []) (by decide +kernel) ?_
  have : Free 58 (rowT r) := by
    rw [unk_words e, jEq]
    refine free_join (by unfold Free; decide +kernel) fun z hz => ?_
    rcases List.mem_append.mp hz with h | h
    · unfold wordsR at h
      simp only [List.mem_cons] at h
      rcases h with rfl | rfl | rfl | h
      · unfold Free; decide +kernel
      · exact word_free ok.nm co_no
      · unfold Free; decide +kernel
      · exact word_free (ok.so.w z h) co_no
    · simp only [List.mem_cons, List.not_mem_nil, or_false] at h
      rcases h with rfl | rfl
      · unfold Free; decide +kernel
      · exact word_free (ok.un _ e) co_no
  exact this
/-- the parts behind the colon -/
theorem parts_join : ∀ {l : List Str}, l ≠ [] → (" " : Str) ++ Str.join "; " l = Str.join ";" (l.map fun z => (" " : Str) ++ z)
  | [], h => absurd rfl h
  | [x], _ => rfl
  | x :: y :: l, _ => by
    have ih := parts_join (l := y :: l) (List.cons_ne_nil _ _)
    rw [List.map_cons, join_cons (x := x) (l := y :: l) (List.cons_ne_nil _ _), join_cons (x := (" " : Str) ++ x) (l := (y :: l).map fun z => (" " : Str) ++ z) (List.cons_ne_nil _ _), ← ih, show ("; " : Str) = (";" : Str) ++ (" " : Str) by decide +kernel]
    simp only [Str.append_assoc]
theorem deed_free {n : Nat} {d : Deed} (hn : n ≤ 3) (h : ∀ i, d = some i → i < n) {c : Nat} (hc : c = 32 ∨ c = 59) : Free c (deedS d) := by
  unfold Free
  cases d with
  | none => rcases hc with rfl | rfl <;> decide +kernel
  | some i =>
    have := h i rfl
    match i, this with
    | 0, _ => rcases hc with rfl | rfl <;> decide +kernel
    | 1, _ => rcases hc with rfl | rfl <;> decide +kernel
    | 2, _ => rcases hc with rfl | rfl <;> decide +kernel
    | k + 3, h => omega
theorem split_part {n : Nat} {w : Str} {b : List Deed} (hn : n ≤ 3) (hb : ∀ i, some i ∈ b → i < n) (hw : Free 32 w) : Txt.split ((" " : Str) ++ lineD w (b.map deedS)) " " = (("" :: w :: b.map deedS) : List Str) := by
  have e : (" " : Str) ++ lineD w (b.map deedS) = Txt.join " " (("" :: w :: b.map deedS) : List Str) := by
    unfold lineD
    rw [jEq, jEq, join_cons (x := "") (by simp)]
    rw [show ("" : Str) ++ (" " : Str) = (" " : Str) by decide +kernel]
  rw [e]
  refine split_words (by simp) fun z hz => ?_
  simp only [List.mem_cons] at hz
  rcases hz with rfl | rfl | h
  · unfold Free; decide +kernel
  · exact hw
  · obtain ⟨d, hd, rfl⟩ := List.mem_map.mp h
    exact deed_free hn (fun i e => hb i (by rw [← e]; exact hd)) (.inl rfl)
theorem split_parts {n : Nat} {b : List Deed} {ws : List (List Deed)} (hn : n ≤ 3) (hb : ∀ i, some i ∈ b → i < n) (hw : ∀ v ∈ ws, ∀ i, some i ∈ v → i < n) : Txt.split ((" " : Str) ++ Txt.join "; " (partsR b ws)) ";" = (partsR b ws).map fun z => (" " : Str) ++ z := by
  rw [jEq, parts_join (by unfold partsR; simp), ← jEq]
  refine TL.split_join (y := ";") (s := 59) (S := []) (by decide +kernel) (by decide +kernel) (by unfold partsR; simp) fun p hp => ?_
  have fl : ∀ (z : Str) (v : List Deed), Free 59 z → (∀ i, some i ∈ v → i < n) → Free 59 (lineD z (v.map deedS)) := fun z v hz hv => by
    unfold lineD
    rw [jEq]
    refine free_join (by unfold Free; decide +kernel) fun y hy => ?_
    rcases List.mem_cons.mp hy with rfl | hy
    · exact hz
    · obtain ⟨d, hd, rfl⟩ := List.mem_map.mp hy
      exact deed_free hn (fun i e => hv i (by rw [← e]; exact hd)) (.inr rfl)
  obtain ⟨z, hz, rfl⟩ := List.mem_map.mp hp
  have : Free 59 z := by
    unfold partsR at hz
    rcases List.mem_cons.mp hz with rfl | hz
    · exact fl _ _ (by unfold Free; decide +kernel) hb
    · obtain ⟨v, hv, rfl⟩ := List.mem_map.mp hz
      exact fl _ _ (by unfold Free; decide +kernel) (hw v hv)
  exact free_app (by unfold Free; decide +kernel) this
end K29
set_option Elab.async false
set_option linter.all false
set_option maxRecDepth 100000
set_option maxHeartbeats 4000000
namespace K29
open PySem PySem.Spec PyProof.Rows L2 He NF RZ NT
def spDeedOf : Sp := fun vs H Q _ => ∃ d n, vs = [.str (deedS d)] ∧ n ≤ 3 ∧ (∀ i, d = some i → i < n) ∧ Q (dV d) H
/-- deeds behind a word -/
def spBehind (K : PySem.W.Frag) : Sp := fun vs H Q _ => ∃ (w : Str) (b : List Deed) (n : Nat), vs = [.str ((" " : Str) ++ lineD w (b.map deedS)), .str w] ∧ n ≤ 3 ∧ (∀ i, some i ∈ b → i < n) ∧ Free 32 w ∧ w.length ≤ 10 ∧ PyData.canLay0 (.str w) = true ∧ b.length ≤ 600 ∧ ∀ D H', Same H H' → H D = none → H' D = some (.lst (b.map dV)) → Q (.ref D) H'
theorem sc_deed_of : FnScope ["word"] ["word"] (defScope s_deed_of) := ⟨rfl, rfl, rfl, by decide +kernel, rfl, by decide +kernel, by decide +kernel⟩
theorem sc_deeds_behind : FnScope ["part", "wanted", "words", "word"] ["part", "wanted"] (defScope s_deeds_behind) := ⟨rfl, rfl, rfl, by decide +kernel, rfl, by decide +kernel, by decide +kernel⟩
section
variable {P : Program} {w : World} {K : PySem.W.Frag} {mg : Str → Option Value} {base : Heap} {gs fs : List Str} {C CW : Addr} {tok : Tok}
theorem ok_deed_of {f : Addr} {fd : FuncData} (F : FunD K "deed_of" "deed_of" (defArgs s_deed_of) (defBody s_deed_of) (defScope s_deed_of) [] [] f fd) (T : Txt K mg gs FS) (h_FIGURES : mg "FIGURES" = some (.str "0123456789" tok)) : FnOk P w K mg base CX0 1 f fd ["word"] spDeedOf := by
  refine F.ok sc_deed_of (fun vs H Q E h => ?_) (fun cdv A outer s H vs Q E hr h => ?_)
  · obtain ⟨d, n, rfl, _⟩ := h
    rfl
  · obtain ⟨d, n, rfl, hn, hd, q⟩ := h
    refine ⟨_, PSs.nox (pss_one (ps_ret (pe_ifExp (PW.pt (pw_and (pt_cmpR op_eq (pe_callB call_len_str rfl (T.fr _ (by decide +kernel)) boot_len (pa_cons (pv 0) pa_nil)) pe_int (nomark _)) (pw_and1 (pt_cmpR op_in_sign (pv 0) (pe_glob (v := .str "0123456789") rfl h_FIGURES ⟨_, rfl⟩) rfl)))) (pe_callTy call_int_str rfl (T.fr _ (by decide +kernel)) (by decide +kernel) (pa_cons (pv 0) pa_nil)) (pv 0)))), ?_⟩
    cases d with
    | none =>
      refine ⟨_, rfl, _, rfl, by decide, rfl, _, rfl, iteF' (by decide +kernel) (iteF ?_)⟩
      exact ⟨_, rfl, q⟩
    | some i =>
      have := hd i rfl
      obtain ⟨c, e1, e2, e3⟩ : ∃ c, deedS (some i) = ⟨#[c]⟩ ∧ c ∈ ("0123456789" : Str).cps.toList ∧ PySem.intText? ⟨#[c]⟩ = some (i : Int) := by
        match i, this with
        | 0, _ => exact ⟨48, by decide +kernel, by decide +kernel, by decide +kernel⟩
        | 1, _ => exact ⟨49, by decide +kernel, by decide +kernel, by decide +kernel⟩
        | 2, _ => exact ⟨50, by decide +kernel, by decide +kernel, by decide +kernel⟩
        | k + 3, h => omega
      rw [e1]
      refine ⟨_, rfl, _, rfl, Nat.le_trans (show 1 ≤ 2 by decide) (by decide), rfl, _, rfl, iteT' (decide_eq_true rfl) ⟨_, rfl, c, _, rfl, rfl, _, rfl, iteT' (decide_eq_true e2) ?_⟩⟩
      exact ⟨_, rfl, _, (i : Int), rfl, e3, by show 1 ≤ 640; decide, q⟩
theorem ok_deeds_behind {f : Addr} {fd : FuncData} (F : FunD K "deeds_behind" "deeds_behind" (defArgs s_deeds_behind) (defBody s_deeds_behind) (defScope s_deeds_behind) [] [] f fd) (T : Txt K mg gs FS) (c_deed_of : Cal P w K mg base 1 "deed_of" spDeedOf) : FnOk P w K mg base CX0 2 f fd ["part", "wanted"] (spBehind K) := by
  refine F.ok sc_deeds_behind (fun vs H Q E h => ?_) (fun cdv A outer s H vs Q E hr h => ?_)
  · obtain ⟨z, b, n, rfl, _⟩ := h
    rfl
  · obtain ⟨z, b, n, rfl, hn, hb, hz, zl, zc, bl, q⟩ := h
    have hu : (A.deeper (envOfC "deeds_behind" (defScope s_deeds_behind) s.heap.objs.size f cdv)).units + 64 < cLine := by
      have := hr.un
      omega
    refine ⟨_, PSs.nox (pss_cons (ps_set (i := 2) sc_deeds_behind.nd rfl (Or.inl rfl) (pe_split (pv 0) pe_str)) (pss_cons (ps_if (pt_cmpR (op_neD hu) (pe_slice sl_list (pv 2) po_none (po_some pe_int)) (pe_lst (pa_cons pe_str (pa_cons (pv 1) pa_nil))) (nomark _)) (pss_one (ps_ret pe_non)) pss_nil) (pss_one (ps_ret (pe_lc (own := [("word", 3)]) rfl sc_deeds_behind.nd (pi_list (pe_slice sl_list (pv 2) (po_some pe_int) po_none)) (blkOk_by (N := ["part", "wanted", "words", "word"]) (sc := defScope s_deeds_behind) (by decide +kernel)) (fun _ _ _ _ _ => by exact (pg_name (i := 3) sc_deeds_behind.nd rfl (Or.inl rfl))) (fun _ _ _ _ _ => by exact pts_nil) (fun _ _ _ _ _ => by exact (pe_c c_deed_of hr (by decide) rfl (pa_cons (pv 3) pa_nil)))))))), ?_⟩
    have bt := deeds_tot hn hb
    have ll := len_line z (b.map deedS)
    have e1 : (" " : Str).length = 1 := by decide +kernel
    refine ⟨_, rfl, ⟨_, rfl⟩, _, _, rfl, rfl, by decide +kernel, Nat.le_trans (by rw [Str.length_append]; omega : _ ≤ 10000) (by decide), ?_⟩
    rw [split_part hn hb hz]
    intro W hW
    have s1 := NF.Same.new (o := .lst ((("" :: z :: b.map deedS) : List Str).map V.str)) (Same.refl H) hW
    have hW' := upd_same (H := H) (a := W) (o := .lst ((("" :: z :: b.map deedS) : List Str).map V.str))
    generalize upd H W (.lst ((("" :: z :: b.map deedS) : List Str).map V.str)) = H1 at s1 hW'
    -- the first two words
    refine ⟨_, rfl, _, rfl, W, _, rfl, SqL.of hW', fun X hX => ?_⟩
    rw [show cutV ((("" :: z :: b.map deedS) : List Str).map V.str) none (some (2 : Int)) = [V.str "", V.str z] from cut_to (n := 2)]
    have s2 := NF.Same.new (o := .lst [V.str "", V.str z]) (Same.refl H1) hX
    have hX' := upd_same (H := H1) (a := X) (o := .lst [V.str "", V.str z])
    generalize upd H1 X (.lst [V.str "", V.str z]) = H2 at s2 hX'
    refine ⟨_, rfl, (by show 2 ≤ sizeLine; decide), fun Y hY => ?_⟩
    have s3 := NF.Same.new (o := .lst [V.str "", V.str z]) (Same.refl H2) hY
    have hY' := upd_same (H := H2) (a := Y) (o := .lst [V.str "", V.str z])
    generalize upd H2 Y (.lst [V.str "", V.str z]) = H3 at s3 hY'
    have sh : SeqAt.shaped (.list [.str "", .str z]) = true := by
      show (PyData.canLayAll0 [.str "", .str z] && decide (1 ≤ 64)) = true
      show ((PyData.canLay0 (.str "") && (PyData.canLay0 (.str z) && true)) && true) = true
      rw [zc]
      decide +kernel
    refine ⟨.list [.str "", .str z], .list [.str "", .str z], .lst (SqL.of (s3 _ _ hX')) (.cons (.str _) (.cons (.str _) .nil)), .lst (SqL.of hY') (.cons (.str _) (.cons (.str _) .nil)), sh, sh, _, rfl, ?_⟩
    rw [SeqAt.eqv_refl _ (ba sh).1]
    refine iteF ?_
    have s13 := Same.trans s2 s3
    -- the deeds
    refine ⟨_, rfl, _, rfl, W, _, rfl, SqL.of (s13 _ _ hW'), fun R hR => ?_⟩
    rw [show cutV ((("" :: z :: b.map deedS) : List Str).map V.str) (some (2 : Int)) none = (b.map deedS).map V.str from cut_from (n := 2)]
    have s4 := NF.Same.new (o := .lst ((b.map deedS).map V.str)) (Same.refl H3) hR
    have hR' := upd_same (H := H3) (a := R) (o := .lst ((b.map deedS).map V.str))
    generalize upd H3 R (.lst ((b.map deedS).map V.str)) = H4 at s4 hR'
    have s04 := Same.trans s1 (Same.trans s13 s4)
    refine ⟨R, rfl, ⟨_, SqL.of hR'⟩, fun D hD => ?_⟩
    refine lc_list (xs := (b.map deedS).map V.str) (fun j G => Same H4 G ∧ G D = some (.lst ((b.take j).map dV))) ⟨NF.Same.new (Same.refl H4) hD, upd_same⟩ (fun j G _ z => SqL.of (z.1 _ _ hR')) ?_ ?_
    · rintro j v G hv ⟨sG, hG⟩
      have hj := (List.getElem?_eq_some_iff.mp hv).1
      rw [List.length_map, List.length_map] at hj
      rw [List.getElem?_map, List.getElem?_map, List.getElem?_eq_getElem hj] at hv
      obtain rfl : V.str (deedS b[j]) = v := Option.some.inj hv
      refine ⟨rfl, _, rfl, b[j], n, rfl, hn, (fun i e => hb i (by rw [← e]; exact List.getElem_mem hj)), ?_⟩
      refine ⟨_, hG, by rw [List.length_map, List.length_take]; exact Nat.lt_of_le_of_lt (show min j b.length ≤ 600 by omega) (by decide), NF.Same.mut sG hD, ?_⟩
      rw [upd_same, take_snoc (List.getElem?_eq_getElem hj), List.map_append]
      rfl
    · rintro G ⟨sG, hG⟩
      rw [List.length_map, List.length_map, List.take_length] at hG
      exact q D G (Same.trans s04 sG) (L2.Same.free s04 hD) hG
end
end K29
set_option Elab.async false
set_option linter.all false
set_option maxRecDepth 100000
set_option maxHeartbeats 4000000
/-! try whose body lets nothing out: its clauses are never asked. -/
namespace NF
open PySem PySem.Spec PyProof.Rows L2 He RZ
theorem ps_try_calm {X : Cx} {body : List Stmt} {h₀ : ExceptHandler} {hds : List ExceptHandler} {pos : Pos} {tb : TS} (hb : ∀ pn : List (Addr × Obj), PSs (X.tr pn (fun _ _ => False)) body tb) : PS X (.Try body (h₀ :: hds) [] [] pos) tb := by
  refine ⟨fun pins s σ H D I h => ?_⟩
  have ok := I.ok
  refine wpAny_Try_except ?_
  refine wpAny_mono ((hb (X.pn ++ pins)).run [] s σ H D (I.toTry _) h) (fun f s1 hsp => ?_) (fun e s1 he => he.elim)
  cases f with
  | next =>
    obtain ⟨σ', H', J', q⟩ := hsp
    exact wpAny_execs_nil ⟨σ', H', J'.ofTry ok, q⟩
  | brk =>
    obtain ⟨σ', H', J', q⟩ := hsp
    exact ⟨σ', H', J'.ofTry ok, q⟩
  | cont =>
    obtain ⟨σ', H', J', q⟩ := hsp
    exact ⟨σ', H', J'.ofTry ok, q⟩
  | ret u =>
    obtain ⟨v, σ', H', J', r, q⟩ := hsp
    exact ⟨v, σ', H', J'.ofTry ok, r, q⟩
end NF
set_option Elab.async false
set_option linter.all false
set_option maxRecDepth 100000
set_option maxHeartbeats 4000000
namespace K29
open PySem PySem.Spec PyProof.Rows L2 He NF RZ NT
/-- a maker is read -/
def spMakerIn (K : PySem.W.Frag) (C : Addr) : Sp := fun vs H Q _ => ∃ (n : Nat) (b : List Deed) (ws : List (List Deed)), vs = [.str ((" " : Str) ++ Txt.join "; " (partsR b ws)), .int (n : Int)] ∧ GoodM n b ws ∧ ∀ x H', Same H H' → MakAt K C H' x n b ws → Q (.ref x) H'
theorem sc_maker_in : FnScope ["text", "inlets", "parts", "begin", "ways", "part"] ["text", "inlets"] (defScope s_maker_in) := ⟨rfl, rfl, rfl, by decide +kernel, rfl, by decide +kernel, by decide +kernel⟩
theorem len_parts {n : Nat} {b : List Deed} {ws : List (List Deed)} (g : GoodM n b ws) : (Txt.join "; " (partsR b ws)).length ≤ 20000 := by
  have n3 := g.n3
  have m4 := g.m4
  have bl := g.bl
  have bt := deeds_tot n3 g.bd
  have eb : ("begin" : Str).length = 5 := by decide +kernel
  have ew : ("way" : Str).length = 3 := by decide +kernel
  have es : ("; " : Str).length = 2 := by decide +kernel
  have lb := len_line "begin" (b.map deedS)
  rw [eb] at lb
  have wt : ∀ v ∈ ws, tot (v.map deedS) ≤ 3000 := fun v hv => by
    have h1 := deeds_tot n3 (g.wy v hv).2.2
    have h2 := (g.wy v hv).2.1
    omega
  have lw : ((ws.map fun v => lineD "way" (v.map deedS)).map (·.length)).sum ≤ ws.length * 3100 := by
    have := tot_le (ts := ws.map fun v => lineD "way" (v.map deedS)) (B := 3099) fun t ht => by
      obtain ⟨v, hv, rfl⟩ := List.mem_map.mp ht
      have h1 := len_line "way" (v.map deedS)
      rw [ew] at h1
      have := wt v hv
      omega
    unfold tot at this
    rw [List.length_map] at this
    omega
  have w4 : ws.length * 3100 ≤ 4 * 3100 := Nat.mul_le_mul_right _ m4
  have jl := lenJ "; " (partsR b ws)
  rw [es] at jl
  have : ((partsR b ws).map (·.length)).sum + (partsR b ws).length * 2 ≤ 16000 := by
    unfold partsR
    rw [List.map_cons, List.sum_cons, List.length_cons, List.length_map]
    omega
  omega
section
variable {P : Program} {w : World} {K : PySem.W.Frag} {mg : Str → Option Value} {base : Heap} {gs fs : List Str} {C CW : Addr} {tok : Tok}
theorem ok_maker_in {f : Addr} {fd : FuncData} (F : FunD K "maker_in" "maker_in" (defArgs s_maker_in) (defBody s_maker_in) (defScope s_maker_in) [] [] f fd) (T : Txt K mg gs FS) (c_deeds_behind : Cal P w K mg base 2 "deeds_behind" (spBehind K)) (m_Maker : Mak P w K mg base 7 0 "Maker" C (spMkInit K C) []) : FnOk P w K mg base CX0 9 f fd ["text", "inlets"] (spMakerIn K C) := by
  refine F.ok sc_maker_in (fun vs H Q E h => ?_) (fun cdv A outer s H vs Q E hr h => ?_)
  · obtain ⟨n, b, ws, rfl, _⟩ := h
    rfl
  · obtain ⟨n, b, ws, rfl, g, q⟩ := h
    refine ⟨_, PSs.nox (pss_cons (ps_set (i := 2) sc_maker_in.nd rfl (Or.inl rfl) (pe_split (pv 0) pe_str)) (pss_cons (ps_set (i := 3) sc_maker_in.nd rfl (Or.inl rfl) (pe_c c_deeds_behind hr (by decide) rfl (pa_cons (pe_ix (ixl (K := K)) (pv 2) pe_int fun _ _ => rfl) (pa_cons pe_str pa_nil)))) (pss_cons (ps_setLc (i := 4) (own := [("part", 5)]) rfl sc_maker_in.nd rfl rfl (sw_true rfl rfl rfl (by decide +kernel)) (pi_list (pe_slice sl_list (pv 2) (po_some pe_int) po_none)) (blkOk_by (N := ["text", "inlets", "parts", "begin", "ways", "part"]) (sc := defScope s_maker_in) (by decide +kernel)) (fun _ _ _ _ _ => by exact (pg_name (i := 5) sc_maker_in.nd rfl (Or.inl rfl))) (fun _ _ _ _ _ => by exact pts_nil) (fun _ _ _ _ _ => by exact (pe_c c_deeds_behind hr (by decide) rfl (pa_cons (pv 5) (pa_cons pe_str pa_nil))))) (pss_one (ps_try_calm (fun pn => (pss_one (ps_ret (pe_mk m_Maker hr (by decide) rfl (pa_cons (pv 1) (pa_cons (pv 3) (pa_cons (pv 4) pa_nil)))))))))))), ?_⟩
    have n3 := g.n3
    have m4 := g.m4
    have bl := g.bl
    have pl := len_parts g
    have e1 : (" " : Str).length = 1 := by decide +kernel
    have ll : ∀ v ∈ ws, v.length ≤ 600 := fun v hv => by have := (g.wy v hv).2.1; omega
    refine ⟨_, rfl, ⟨_, rfl⟩, _, _, rfl, rfl, by decide +kernel, Nat.le_trans (by rw [Str.length_append]; omega : _ ≤ 30000) (by decide), ?_⟩
    rw [split_parts n3 g.bd fun v hv => (g.wy v hv).2.2]
    intro W hW
    obtain ⟨ps, hps⟩ : ∃ ps : List Str, ps = (partsR b ws).map fun z => (" " : Str) ++ z := ⟨_, rfl⟩
    have p0 : ps[0]? = some ((" " : Str) ++ lineD "begin" (b.map deedS)) := by rw [hps]; rfl
    have pd : ps.drop 1 = ws.map fun v => (" " : Str) ++ lineD "way" (v.map deedS) := by
      rw [hps]
      unfold partsR
      rw [List.map_cons, List.drop_one, List.tail_cons, List.map_map]
      rfl
    rw [← hps]
    have s1 := NF.Same.new (o := .lst (vS ps)) (Same.refl H) hW
    have hW' := upd_same (H := H) (a := W) (o := .lst (vS ps))
    show _
    refine ⟨_, rfl, W, _, _, _, rfl, rfl, SqL.of hW', atI_nat (by unfold vS; rw [List.getElem?_map, p0]; rfl), ?_⟩
    refine ⟨"begin", b, n, rfl, n3, g.bd, by unfold Free; decide +kernel, by decide +kernel, by decide +kernel, bl, fun D H2 s2 hD hD2 => ?_⟩
    have hW2 := s2 _ _ hW'
    refine ⟨_, rfl, _, rfl, W, _, rfl, SqL.of hW2, fun X hX => ?_⟩
    rw [show cutV (vS ps) (some (1 : Int)) none = vS (ws.map fun v => (" " : Str) ++ lineD "way" (v.map deedS)) from (cut_from (n := 1)).trans (by unfold vS; rw [← List.map_drop, pd])]
    have s3 := NF.Same.new (o := .lst (vS (ws.map fun v => (" " : Str) ++ lineD "way" (v.map deedS)))) (Same.refl H2) hX
    have hX' := upd_same (H := H2) (a := X) (o := .lst (vS (ws.map fun v => (" " : Str) ++ lineD "way" (v.map deedS))))
    generalize upd H2 X (.lst (vS (ws.map fun v => (" " : Str) ++ lineD "way" (v.map deedS)))) = H3 at s3 hX'
    refine ⟨X, rfl, ⟨_, SqL.of hX'⟩, fun Y hY => ?_⟩
    refine lc_list (xs := vS (ws.map fun v => (" " : Str) ++ lineD "way" (v.map deedS))) (fun j G => Same H3 G ∧ ∃ cs : List Addr, cs.length = j ∧ G Y = some (.lst (cs.map V.ref)) ∧ ∀ (k : Nat) (c : Addr) (v : List Deed), cs[k]? = some c → ws[k]? = some v → c ≠ Y ∧ G c = some (.lst (v.map dV))) ⟨NF.Same.new (Same.refl H3) hY, [], rfl, upd_same, fun k c v e => by simp at e⟩ (fun j G _ z => SqL.of (z.1 _ _ hX')) ?_ ?_
    · rintro j v G hv ⟨sG, cs, hcl, hG, hc⟩
      have hj := (List.getElem?_eq_some_iff.mp hv).1
      unfold vS at hj hv
      rw [List.length_map, List.length_map] at hj
      rw [List.getElem?_map, List.getElem?_map, List.getElem?_eq_getElem hj] at hv
      obtain rfl : V.str ((" " : Str) ++ lineD "way" (ws[j].map deedS)) = v := Option.some.inj hv
      have hm : ws[j] ∈ ws := List.getElem_mem hj
      refine ⟨rfl, _, rfl, "way", ws[j], n, rfl, n3, (g.wy _ hm).2.2, by unfold Free; decide +kernel, by decide +kernel, by decide +kernel, ll _ hm, fun c G2 s2 hcn hc2 => ?_⟩
      have hG2 := s2 _ _ hG
      have cY : c ≠ Y := fun z => by
        rw [z, hG] at hcn
        cases hcn
      refine ⟨_, hG2, by rw [List.length_map, hcl]; exact Nat.lt_of_lt_of_le (show j < 10000 by omega) (by decide), NF.Same.mut (Same.trans sG s2) hY, cs ++ [c], by simp [hcl], ?_, fun k c' v' e1 e2 => ?_⟩
      · rw [upd_same, List.map_append]
        rfl
      · rcases Nat.lt_trichotomy k j with h | h | h
        · rw [List.getElem?_append_left (by omega)] at e1
          obtain ⟨cd', this⟩ := hc k c' v' e1 e2
          refine ⟨cd', ?_⟩
          rw [upd_ne cd']
          exact s2 _ _ this
        · subst h
          rw [List.getElem?_append_right (by omega), hcl, Nat.sub_self] at e1
          rw [List.getElem?_eq_getElem hj] at e2
          cases e1
          cases e2
          exact ⟨cY, by rw [upd_ne cY]; exact hc2⟩
        · rw [List.getElem?_eq_none (by simp [hcl]; omega)] at e1
          cases e1
    · rintro G ⟨sG, cs, hcl, hG, hc⟩
      unfold vS at hcl
      rw [List.length_map, List.length_map] at hcl
      have hDG := sG _ _ (s3 _ _ hD2)
      have s0G := Same.trans s1 (Same.trans s2 (Same.trans s3 sG))
      refine ⟨_, rfl, _, rfl, _, rfl, ?_⟩
      intro x dx nx nd ne
      refine ⟨x, dx, D, Y, n, b, ws, rfl, upd_same, (show NF.Row K G D (b.map dV) from .inl (SqL.of hDG)).mono (same_woM nx nd), ?_, g, fun G2 s2' ma => ⟨rfl, ?_⟩⟩
      · exact WaysR.mono (H := G) ⟨cs, .inl (SqL.of hG), hcl, fun k c v e1 e2 => .inl (SqL.of (hc k c v e1 e2).2)⟩ (same_woM nx nd)
      · exact q x G2 (Same.trans s0G (same_made nx nd s2')) ma
end
end K29
set_option Elab.async false
set_option linter.all false
set_option maxRecDepth 100000
set_option maxHeartbeats 4000000
namespace K29
open PySem PySem.Spec PyProof.Rows L2 He NF RZ NT
theorem split_first {a t : Str} (h : Free 32 a) : Txt.split (a ++ (" " : Str) ++ t) " " = a :: Txt.split t " " := by
  have ey : TL.tl (" " : Str) = [32] := by decide +kernel
  have hk : (" " : Str).cps.all (· < 256) = true := by decide +kernel
  refine TL.map_tl_inj ?_
  rw [TL.split_spl _ " " (by rw [ey]; simp) (TL.kind_ok hk), List.map_cons, TL.split_spl t " " (by rw [ey]; simp) (TL.kind_ok hk), TL.tl_append, TL.tl_append, List.append_assoc, ey]
  have := TL.spl_part1 (s := 32) (S := []) (p := TL.tl a) (rest := TL.tl t) (acc := []) h
  rw [List.nil_append] at this
  exact this
def givenT (g : Str) : Str := (Str.empty ++ ("given " : Str)) ++ g
theorem split_given {g : Str} (h : okName g) : Txt.split (givenT g) " " = (["given", g] : List Str) := by
  have e : givenT g = Txt.join " " (["given", g] : List Str) := by
    unfold givenT
    rw [jEq, Str.empty_append]
    show _ = ("given" : Str) ++ (" " : Str) ++ g
    rw [show ("given " : Str) = ("given" : Str) ++ (" " : Str) by decide +kernel]
  rw [e]
  refine split_words (by simp) fun z hz => ?_
  simp only [List.mem_cons, List.not_mem_nil, or_false] at hz
  rcases hz with rfl | rfl
  · unfold Free; decide +kernel
  · exact word_free h sp_no
theorem row_first (r : RowD) : ∃ t, rowT r = ("row" : Str) ++ (" " : Str) ++ t := by
  have hs : ∃ t, startR r = ("row" : Str) ++ (" " : Str) ++ t := by
    rw [start_words, jEq]
    exact ⟨_, join_cons (x := "row") (l := r.name :: "of" :: r.srcs) (List.cons_ne_nil _ _)⟩
  obtain ⟨t, e⟩ := hs
  unfold rowT
  cases r.mkr with
  | unk u =>
    dsimp only
    rw [e, Str.empty_append]
    exact ⟨t ++ (" by " : Str) ++ u, by simp only [Str.append_assoc]⟩
  | mak n b ws =>
    dsimp only
    rw [e, Str.empty_append]
    exact ⟨t ++ (": " : Str) ++ Txt.join "; " (partsR b ws), by simp only [Str.append_assoc]⟩
theorem len_row {r : RowD} (ok : RowOk r) (gm : ∀ n b ws, r.mkr = .mak n b ws → GoodM n b ws) : (rowT r).length ≤ 30000 := by
  have sl := len_start ok
  have e0 : (Str.empty : Str).length = 0 := by decide +kernel
  have e3 : (" by " : Str).length = 4 := by decide +kernel
  have e4 : (": " : Str).length = 2 := by decide +kernel
  unfold rowT
  cases em : r.mkr with
  | unk u =>
    have := unk_len (ok.un u em)
    dsimp only
    rw [Str.length_append, Str.length_append, Str.length_append]
    omega
  | mak n b ws =>
    have := len_parts (gm n b ws em)
    dsimp only
    rw [Str.length_append, Str.length_append, Str.length_append]
    omega
/-- the name of a given that a line tells, if it tells one -/
def spGiven (K : PySem.W.Frag) : Sp := fun vs H Q _ => (∃ g, vs = [.str (givenT g)] ∧ okName g ∧ ∀ H', Same H H' → Q (.str g) H') ∨ (∃ r, vs = [.str (rowT r)] ∧ (rowT r).length ≤ 30000 ∧ ∀ H', Same H H' → Q .non H')
theorem sc_given_of : FnScope ["line", "words"] ["line"] (defScope s_given_of) := ⟨rfl, rfl, rfl, by decide +kernel, rfl, by decide +kernel, by decide +kernel⟩
section
variable {P : Program} {w : World} {K : PySem.W.Frag} {mg : Str → Option Value} {base : Heap} {gs fs : List Str} {C CW : Addr} {tok : Tok}
theorem ok_given_of {f : Addr} {fd : FuncData} (F : FunD K "given_of" "given_of" (defArgs s_given_of) (defBody s_given_of) (defScope s_given_of) [] [] f fd) (T : Txt K mg gs FS) (c_is_row_name : Cal P w K mg base 2 "is_row_name" spName) : FnOk P w K mg base CX0 3 f fd ["line"] (spGiven K) := by
  refine F.ok sc_given_of (fun vs H Q E h => ?_) (fun cdv A outer s H vs Q E hr h => ?_)
  · rcases h with ⟨g, rfl, _⟩ | ⟨r, rfl, _⟩ <;> rfl
  · rcases h with ⟨g, rfl, hg, q⟩ | ⟨r, rfl, hl, q⟩
    · refine ⟨_, PSs.nox (pss_cons (ps_set (i := 1) sc_given_of.nd rfl (Or.inl rfl) (pe_split (pv 0) pe_str)) (pss_cons (ps_if (PW.pt (pw_and (pt_cmpR op_eq (pe_callB call_len_seq rfl (T.fr _ (by decide +kernel)) boot_len (pa_cons (pv 1) pa_nil)) pe_int (nomark _)) (pw_and (pt_cmpR op_eq (pe_ix (ixl (K := K)) (pv 1) pe_int fun _ _ => rfl) pe_str (nomark _)) (pw_and1 (pt_val (pe_c c_is_row_name hr (by decide) rfl (pa_cons (pe_ix (ixl (K := K)) (pv 1) pe_int fun _ _ => rfl) pa_nil))))))) (pss_one (ps_ret (pe_ix (ixl (K := K)) (pv 1) pe_int fun _ _ => rfl))) pss_nil) (pss_one (ps_ret pe_non)))), ?_⟩
      have gl : (givenT g).length ≤ 100 := by
        unfold givenT
        rw [Str.length_append, Str.length_append, show (Str.empty : Str).length = 0 by decide +kernel, show ("given " : Str).length = 6 by decide +kernel]
        have := name_len hg
        omega
      refine ⟨_, rfl, ⟨_, rfl⟩, _, _, rfl, rfl, by decide +kernel, Nat.le_trans (show _ ≤ 102 by omega) (by decide), ?_⟩
      rw [split_given hg]
      intro W hW
      have s1 := NF.Same.new (o := .lst ((["given", g] : List Str).map V.str)) (Same.refl H) hW
      have hW' := upd_same (H := H) (a := W) (o := .lst ((["given", g] : List Str).map V.str))
      generalize upd H W (.lst ((["given", g] : List Str).map V.str)) = H1 at s1 hW'
      refine ⟨_, rfl, W, _, rfl, .inl (SqL.of hW'), rfl, _, rfl, iteT' rfl ?_⟩
      refine ⟨_, rfl, W, _, _, _, rfl, rfl, SqL.of hW', (rfl : atI [V.str "given", V.str g] 0 = some (V.str "given")), rfl, _, rfl, iteT' (by decide +kernel) ?_⟩
      refine ⟨_, rfl, W, _, _, _, rfl, rfl, SqL.of hW', (rfl : atI [V.str "given", V.str g] 1 = some (V.str g)), g, rfl, hg.len, fun H2 s2 => ?_⟩
      rw [show wordB 8 g = true from hg]
      refine ⟨_, rfl, iteT ?_⟩
      exact ⟨_, rfl, W, _, _, _, rfl, rfl, SqL.of (s2 _ _ hW'), (rfl : atI [V.str "given", V.str g] 1 = some (V.str g)), q H2 (Same.trans s1 s2)⟩
    · refine ⟨_, PSs.nox (pss_cons (ps_set (i := 1) sc_given_of.nd rfl (Or.inl rfl) (pe_split (pv 0) pe_str)) (pss_cons (ps_if (PW.pt (pw_and (pt_cmpR op_eq (pe_callB call_len_seq rfl (T.fr _ (by decide +kernel)) boot_len (pa_cons (pv 1) pa_nil)) pe_int (nomark _)) (pw_and (pt_cmpR op_eq (pe_ix (ixl (K := K)) (pv 1) pe_int fun _ _ => rfl) pe_str (nomark _)) (pw_and1 (pt_val (pe_c c_is_row_name hr (by decide) rfl (pa_cons (pe_ix (ixl (K := K)) (pv 1) pe_int fun _ _ => rfl) pa_nil))))))) (pss_one (ps_ret (pe_ix (ixl (K := K)) (pv 1) pe_int fun _ _ => rfl))) pss_nil) (pss_one (ps_ret pe_non)))), ?_⟩
      refine ⟨_, rfl, ⟨_, rfl⟩, _, _, rfl, rfl, by decide +kernel, Nat.le_trans (show _ ≤ 30002 by omega) (by decide), ?_⟩
      obtain ⟨t, et⟩ := row_first r
      rw [et, split_first (by unfold Free; decide +kernel)]
      intro W hW
      have s1 := NF.Same.new (o := .lst ((("row" : Str) :: Txt.split t " ").map V.str)) (Same.refl H) hW
      have hW' := upd_same (H := H) (a := W) (o := .lst ((("row" : Str) :: Txt.split t " ").map V.str))
      generalize upd H W (.lst ((("row" : Str) :: Txt.split t " ").map V.str)) = H1 at s1 hW'
      refine ⟨_, rfl, W, _, rfl, .inl (SqL.of hW'), rfl, _, rfl, ite2 (fun _ => ?_) (fun _ => ?_)⟩
      · refine ⟨_, rfl, W, _, _, _, rfl, rfl, SqL.of hW', atI_nat (by rfl), rfl, _, rfl, iteF' (by decide +kernel) ?_⟩
        exact iteF (q H1 s1)
      · exact iteF (q H1 s1)
end
end K29
set_option Elab.async false
set_option linter.all false
set_option maxRecDepth 100000
set_option maxHeartbeats 4000000
namespace K29
open PySem PySem.Spec PyProof.Rows L2 He NF RZ NT
/-- a line of a given is no row -/
def spRowOfG (K : PySem.W.Frag) : Sp := fun vs H Q _ => ∃ g, vs = [.str (givenT g)] ∧ okName g ∧ ∀ H', Same H H' → Q .non H'
theorem sc_row_of : FnScope ["line", "words", "sources", "start", "colon", "rest", "maker"] ["line"] (defScope s_row_of) := ⟨rfl, rfl, rfl, by decide +kernel, rfl, by decide +kernel, by decide +kernel⟩
theorem part_given {g : Str} (h : okName g) : Txt.partition (givenT g) ":" = (givenT g, Str.empty, Str.empty) := by
  refine TL.partition_none (s := 58) (S := []) (by decide +kernel) ?_
  have : Free 58 (givenT g) := by
    unfold givenT
    exact free_app (free_app (by unfold Free; decide +kernel) (by unfold Free; decide +kernel)) (word_free h co_no)
  exact this
theorem len_given {g : Str} (h : okName g) : (givenT g).length ≤ 100 := by
  unfold givenT
  rw [Str.length_append, Str.length_append, show (Str.empty : Str).length = 0 by decide +kernel, show ("given " : Str).length = 6 by decide +kernel]
  have := name_len h
  omega
section
variable {P : Program} {w : World} {K : PySem.W.Frag} {mg : Str → Option Value} {base : Heap} {gs fs : List Str} {C CW : Addr} {tok : Tok}
theorem ok_row_ofG {f : Addr} {fd : FuncData} (F : FunD K "row_of" "row_of" (defArgs s_row_of) (defBody s_row_of) (defScope s_row_of) [] [] f fd) (T : Txt K mg gs FS) (c_is_row_name : Cal P w K mg base 2 "is_row_name" spName) (c_is_unknown : Cal P w K mg base 2 "is_unknown" spUnk) (c_are_sources : Cal P w K mg base 3 "are_sources" (spSrcs K)) (c_maker_in : Cal P w K mg base 9 "maker_in" (spMakerIn K C)) : FnOk P w K mg base CX0 10 f fd ["line"] (spRowOfG K) := by
  refine F.ok sc_row_of (fun vs H Q E h => ?_) (fun cdv A outer s H vs Q E hr h => ?_)
  · obtain ⟨g, rfl, _⟩ := h
    rfl
  · obtain ⟨g, rfl, hg, q⟩ := h
    have hu : (A.deeper (envOfC "row_of" (defScope s_row_of) s.heap.objs.size f cdv)).units + 64 < cLine := by
      have := hr.un
      omega
    refine ⟨_, PSs.nox (pss_cons (ps_asg (pe_partition (pv 0) pe_str) (pgt (K := K) (n := 3) rfl rfl (pgs_cons (pg_name (i := 3) sc_row_of.nd rfl (Or.inl rfl)) (pgs_cons (pg_name (i := 4) sc_row_of.nd rfl (Or.inl rfl)) (pgs_cons (pg_name (i := 5) sc_row_of.nd rfl (Or.inl rfl)) pgs_nil))))) (pss_cons (ps_set (i := 1) sc_row_of.nd rfl (Or.inl rfl) (pe_split (pv 3) pe_str)) (pss_cons (ps_set (i := 2) sc_row_of.nd rfl (Or.inl rfl) (pe_slice sl_list (pv 1) (po_some pe_int) po_none)) (pss_cons (ps_if (pt_not (pt_truth (pv 4) (fun _ => rfl))) (pss_one (ps_set (i := 2) sc_row_of.nd rfl (Or.inl rfl) (pe_slice sl_list (pv 1) (po_some pe_int) (po_some (pe_un un_neg pe_int))))) pss_nil) (pss_cons (ps_if (PW.pt (pw_or (pt_cmpR op_ne (pe_ix (ixl (K := K)) (pv 1) pe_int fun _ _ => rfl) pe_str (nomark _)) (pw_or (pt_cmpR (op_neD hu) (pe_slice sl_list (pv 1) (po_some pe_int) (po_some pe_int)) (pe_lst (pa_cons pe_str pa_nil)) (nomark _)) (pw_or (pt_not (pt_val (pe_c c_is_row_name hr (by decide) rfl (pa_cons (pe_ix (ixl (K := K)) (pv 1) pe_int fun _ _ => rfl) pa_nil)))) (pw_or1 (pt_not (pt_val (pe_c c_are_sources hr (by decide) rfl (pa_cons (pv 2) (pa_cons pe_non pa_nil)))))))))) (pss_one (ps_ret pe_non)) pss_nil) (pss_cons (ps_if (pt_truth (pv 4) (fun _ => rfl)) (pss_one (ps_set (i := 6) sc_row_of.nd rfl (Or.inl rfl) (pe_c c_maker_in hr (by decide) rfl (pa_cons (pv 5) (pa_cons (pe_callB call_len_seq rfl (T.fr _ (by decide +kernel)) boot_len (pa_cons (pv 2) pa_nil)) pa_nil))))) (pss_one (ps_set (i := 6) sc_row_of.nd rfl (Or.inl rfl) (pe_ifExp (PW.pt (pw_and (pt_cmpR op_eq (pe_ix (ixl (K := K)) (pv 1) (pe_un un_neg pe_int) fun _ _ => rfl) pe_str (nomark _)) (pw_and1 (pt_val (pe_c c_is_unknown hr (by decide) rfl (pa_cons (pe_ix (ixl (K := K)) (pv 1) (pe_un un_neg pe_int) fun _ _ => rfl) pa_nil)))))) (pe_ix (ixl (K := K)) (pv 1) (pe_un un_neg pe_int) fun _ _ => rfl) pe_non)))) (pss_cons (ps_if (pt_cmpR op_isN (pv 6) pe_non (nomark _)) (pss_one (ps_ret pe_non)) pss_nil) (pss_one (ps_ret (pe_tup (pa_cons (pe_ix (ixl (K := K)) (pv 1) pe_int fun _ _ => rfl) (pa_cons (pv 6) (pa_cons (pv 2) pa_nil))))))))))))), ?_⟩
    have gl := len_given hg
    refine ⟨_, rfl, ⟨_, rfl⟩, _, _, rfl, rfl, by decide +kernel, Nat.le_trans (show _ ≤ 102 by omega) (by decide), ?_⟩
    rw [part_given hg]
    intro U hU
    have s1 := NF.Same.new (o := .tup [V.str (givenT g), V.str Str.empty, V.str Str.empty]) (Same.refl H) hU
    have hU' := upd_same (H := H) (a := U) (o := .tup [V.str (givenT g), V.str Str.empty, V.str Str.empty])
    generalize upd H U (.tup [V.str (givenT g), V.str Str.empty, V.str Str.empty]) = H1 at s1 hU'
    refine ⟨U, _, rfl, SqT.of hU', rfl, _, _, rfl, ?_⟩
    refine ⟨_, _, rfl, ?_⟩
    refine ⟨_, _, rfl, ?_⟩
    refine ⟨rfl, ?_⟩
    refine ⟨_, rfl, ⟨_, rfl⟩, _, _, rfl, rfl, by decide +kernel, Nat.le_trans (show _ ≤ 102 by omega) (by decide), ?_⟩
    rw [split_given hg]
    intro W hW
    have s2 := NF.Same.new (o := .lst ((["given", g] : List Str).map V.str)) (Same.refl H1) hW
    have hW' := upd_same (H := H1) (a := W) (o := .lst ((["given", g] : List Str).map V.str))
    generalize upd H1 W (.lst ((["given", g] : List Str).map V.str)) = H2 at s2 hW'
    refine ⟨_, rfl, _, rfl, W, _, rfl, SqL.of hW', fun X hX => ?_⟩
    have s3 := NF.Same.new (o := .lst (cutV ((["given", g] : List Str).map V.str) (some (3 : Int)) none)) (Same.refl H2) hX
    generalize upd H2 X (.lst (cutV ((["given", g] : List Str).map V.str) (some (3 : Int)) none)) = H3 at s3
    refine ⟨_, rfl, _, ⟨Nat.le_trans (show (Str.empty : Str).length ≤ 1 by decide +kernel) (by decide), rfl⟩, ?_⟩
    refine iteT' (by decide +kernel) ?_
    refine ⟨_, rfl, _, rfl, _, rfl, _, rfl, W, _, rfl, SqL.of (s3 _ _ hW'), fun Y hY => ?_⟩
    have s4 := NF.Same.new (o := .lst (cutV ((["given", g] : List Str).map V.str) (some (3 : Int)) (some (-2 : Int)))) (Same.refl H3) hY
    have sE := Same.trans s1 (Same.trans s2 (Same.trans s3 s4))
    refine ⟨_, rfl, W, _, _, _, rfl, rfl, SqL.of (s4 _ _ (s3 _ _ hW')), (rfl : atI [V.str "given", V.str g] 0 = some (V.str "given")), rfl, _, rfl, iteT' (by decide +kernel) ?_⟩
    exact iteT (q _ sE)
end
end K29
set_option Elab.async false
set_option linter.all false
set_option maxRecDepth 100000
set_option maxHeartbeats 4000000
namespace K29
open PySem PySem.Spec PyProof.Rows L2 He NF RZ NT
/-- a told row is read -/
def spRowOfM (K : PySem.W.Frag) (C : Addr) : Sp := fun vs H Q _ => ∃ (r : RowD) (n : Nat) (b : List Deed) (ws : List (List Deed)), vs = [.str (rowT r)] ∧ r.mkr = .mak n b ws ∧ RowOk r ∧ GoodM n b ws ∧ ∀ p H', Same H H' → RowR K C H' p r → Q (.ref p) H'
section
variable {P : Program} {w : World} {K : PySem.W.Frag} {mg : Str → Option Value} {base : Heap} {gs fs : List Str} {C CW : Addr} {tok : Tok}
theorem ok_row_ofM {f : Addr} {fd : FuncData} (F : FunD K "row_of" "row_of" (defArgs s_row_of) (defBody s_row_of) (defScope s_row_of) [] [] f fd) (T : Txt K mg gs FS) (c_is_row_name : Cal P w K mg base 2 "is_row_name" spName) (c_is_unknown : Cal P w K mg base 2 "is_unknown" spUnk) (c_are_sources : Cal P w K mg base 3 "are_sources" (spSrcs K)) (c_maker_in : Cal P w K mg base 9 "maker_in" (spMakerIn K C)) : FnOk P w K mg base CX0 10 f fd ["line"] (spRowOfM K C) := by
  refine F.ok sc_row_of (fun vs H Q E h => ?_) (fun cdv A outer s H vs Q E hr h => ?_)
  · obtain ⟨r, n, b, ws, rfl, _⟩ := h
    rfl
  · obtain ⟨r, n, b, ws, rfl, em, ok, g, q⟩ := h
    have hu : (A.deeper (envOfC "row_of" (defScope s_row_of) s.heap.objs.size f cdv)).units + 64 < cLine := by
      have := hr.un
      omega
    refine ⟨_, PSs.nox (pss_cons (ps_asg (pe_partition (pv 0) pe_str) (pgt (K := K) (n := 3) rfl rfl (pgs_cons (pg_name (i := 3) sc_row_of.nd rfl (Or.inl rfl)) (pgs_cons (pg_name (i := 4) sc_row_of.nd rfl (Or.inl rfl)) (pgs_cons (pg_name (i := 5) sc_row_of.nd rfl (Or.inl rfl)) pgs_nil))))) (pss_cons (ps_set (i := 1) sc_row_of.nd rfl (Or.inl rfl) (pe_split (pv 3) pe_str)) (pss_cons (ps_set (i := 2) sc_row_of.nd rfl (Or.inl rfl) (pe_slice sl_list (pv 1) (po_some pe_int) po_none)) (pss_cons (ps_if (pt_not (pt_truth (pv 4) (fun _ => rfl))) (pss_one (ps_set (i := 2) sc_row_of.nd rfl (Or.inl rfl) (pe_slice sl_list (pv 1) (po_some pe_int) (po_some (pe_un un_neg pe_int))))) pss_nil) (pss_cons (ps_if (PW.pt (pw_or (pt_cmpR op_ne (pe_ix (ixl (K := K)) (pv 1) pe_int fun _ _ => rfl) pe_str (nomark _)) (pw_or (pt_cmpR (op_neD hu) (pe_slice sl_list (pv 1) (po_some pe_int) (po_some pe_int)) (pe_lst (pa_cons pe_str pa_nil)) (nomark _)) (pw_or (pt_not (pt_val (pe_c c_is_row_name hr (by decide) rfl (pa_cons (pe_ix (ixl (K := K)) (pv 1) pe_int fun _ _ => rfl) pa_nil)))) (pw_or1 (pt_not (pt_val (pe_c c_are_sources hr (by decide) rfl (pa_cons (pv 2) (pa_cons pe_non pa_nil)))))))))) (pss_one (ps_ret pe_non)) pss_nil) (pss_cons (ps_if (pt_truth (pv 4) (fun _ => rfl)) (pss_one (ps_set (i := 6) sc_row_of.nd rfl (Or.inl rfl) (pe_c c_maker_in hr (by decide) rfl (pa_cons (pv 5) (pa_cons (pe_callB call_len_seq rfl (T.fr _ (by decide +kernel)) boot_len (pa_cons (pv 2) pa_nil)) pa_nil))))) (pss_one (ps_set (i := 6) sc_row_of.nd rfl (Or.inl rfl) (pe_ifExp (PW.pt (pw_and (pt_cmpR op_eq (pe_ix (ixl (K := K)) (pv 1) (pe_un un_neg pe_int) fun _ _ => rfl) pe_str (nomark _)) (pw_and1 (pt_val (pe_c c_is_unknown hr (by decide) rfl (pa_cons (pe_ix (ixl (K := K)) (pv 1) (pe_un un_neg pe_int) fun _ _ => rfl) pa_nil)))))) (pe_ix (ixl (K := K)) (pv 1) (pe_un un_neg pe_int) fun _ _ => rfl) pe_non)))) (pss_cons (ps_if (pt_cmpR op_isN (pv 6) pe_non (nomark _)) (pss_one (ps_ret pe_non)) pss_nil) (pss_one (ps_ret (pe_tup (pa_cons (pe_ix (ixl (K := K)) (pv 1) pe_int fun _ _ => rfl) (pa_cons (pv 6) (pa_cons (pv 2) pa_nil))))))))))))), ?_⟩
    have rl := len_row ok fun n' b' ws' e => by
      rw [em] at e
      cases e
      exact g
    have sl := len_start ok
    refine ⟨_, rfl, ⟨_, rfl⟩, _, _, rfl, rfl, by decide +kernel, Nat.le_trans (show _ ≤ 30002 by omega) (by decide), ?_⟩
    rw [part_mak ok em]
    intro U hU
    obtain ⟨rest, hrest⟩ : ∃ z, z = (" " : Str) ++ Txt.join "; " (partsR b ws) := ⟨_, rfl⟩
    rw [← hrest]
    dsimp only
    have s1 := NF.Same.new (o := .tup [V.str (startR r), V.str ":", V.str rest]) (Same.refl H) hU
    have hU' := upd_same (H := H) (a := U) (o := .tup [V.str (startR r), V.str ":", V.str rest])
    generalize upd H U (.tup [V.str (startR r), V.str ":", V.str rest]) = H1 at s1 hU'
    refine ⟨U, _, rfl, SqT.of hU', rfl, _, _, rfl, ?_⟩
    refine ⟨_, _, rfl, ?_⟩
    refine ⟨_, _, rfl, ?_⟩
    refine ⟨rfl, ?_⟩
    refine ⟨_, rfl, ⟨_, rfl⟩, _, _, rfl, rfl, by decide +kernel, Nat.le_trans (show _ ≤ 52 by omega) (by decide), ?_⟩
    rw [split_start ok]
    intro W hW
    have eW : (wordsR r).map V.str = V.str "row" :: V.str r.name :: V.str "of" :: vS r.srcs := rfl
    rw [eW]
    have s2 := NF.Same.new (o := .lst (V.str "row" :: V.str r.name :: V.str "of" :: vS r.srcs)) (Same.refl H1) hW
    have hW' := upd_same (H := H1) (a := W) (o := .lst (V.str "row" :: V.str r.name :: V.str "of" :: vS r.srcs))
    generalize upd H1 W (.lst (V.str "row" :: V.str r.name :: V.str "of" :: vS r.srcs)) = H2 at s2 hW'
    refine ⟨_, rfl, _, rfl, W, _, rfl, SqL.of hW', fun X hX => ?_⟩
    rw [show cutV (V.str "row" :: V.str r.name :: V.str "of" :: vS r.srcs) (some (3 : Int)) none = vS r.srcs from cut_from (n := 3)]
    have s3 := NF.Same.new (o := .lst (vS r.srcs)) (Same.refl H2) hX
    have hX' := upd_same (H := H2) (a := X) (o := .lst (vS r.srcs))
    generalize upd H2 X (.lst (vS r.srcs)) = H3 at s3 hX'
    have hW3 := s3 _ _ hW'
    have cl : (":" : Str).length ≤ sizeLine := Nat.le_trans (show (":" : Str).length ≤ 1 by decide +kernel) (by decide)
    refine ⟨_, rfl, _, ⟨cl, rfl⟩, ?_⟩
    refine iteF' (by decide +kernel) ?_
    refine ⟨_, rfl, W, _, _, _, rfl, rfl, SqL.of hW3, atI_nat (by rfl), rfl, _, rfl, iteF' (by decide +kernel) ?_⟩
    refine ⟨_, rfl, _, rfl, _, rfl, W, _, rfl, SqL.of hW3, fun Y hY => ?_⟩
    rw [show cutV (V.str "row" :: V.str r.name :: V.str "of" :: vS r.srcs) (some (2 : Int)) (some (3 : Int)) = [V.str "of"] from (cut_mid (a := 2) (b := 3) (by decide) (by simp)).trans (by simp)]
    have s4 := NF.Same.new (o := .lst [V.str "of"]) (Same.refl H3) hY
    have hY' := upd_same (H := H3) (a := Y) (o := .lst [V.str "of"])
    generalize upd H3 Y (.lst [V.str "of"]) = H4 at s4 hY'
    refine ⟨(by show 1 ≤ sizeLine; decide), fun Z hZ => ?_⟩
    have s5 := NF.Same.new (o := .lst [V.str "of"]) (Same.refl H4) hZ
    have hZ' := upd_same (H := H4) (a := Z) (o := .lst [V.str "of"])
    generalize upd H4 Z (.lst [V.str "of"]) = H5 at s5 hZ'
    refine ⟨.list [.str "of"], .list [.str "of"], .lst (SqL.of (s5 _ _ hY')) (.cons (.str _) .nil), .lst (SqL.of hZ') (.cons (.str _) .nil), by decide +kernel, by decide +kernel, _, rfl, iteF' (by decide +kernel) ?_⟩
    have s35 := Same.trans s4 s5
    have hW5 := s35 _ _ hW3
    refine ⟨_, rfl, W, _, _, _, rfl, rfl, SqL.of hW5, (atI_nat (j := 1) (by rfl) : atI (V.str "row" :: V.str r.name :: V.str "of" :: vS r.srcs) 1 = some (V.str r.name)), r.name, rfl, ok.nm.len, fun H6 s6 => ?_⟩
    rw [show wordB 8 r.name = true from ok.nm]
    refine ⟨_, rfl, iteF ?_⟩
    have s36 := Same.trans s35 s6
    refine ⟨_, rfl, X, r.srcs, _, rfl, .inl (SqL.of (s36 _ _ hX')), ok.so, .inl rfl, fun H7 s7 => ⟨_, rfl, iteF ?_⟩⟩
    have s37 := Same.trans s36 s7
    refine ⟨_, rfl, _, ⟨cl, rfl⟩, ?_⟩
    refine iteT' (by decide +kernel) ?_
    have hX7 := s37 _ _ hX'
    refine ⟨_, rfl, _, rfl, X, _, rfl, .inl (SqL.of hX7), n, b, ws, ?_, g, fun x H8 s8 ma => ?_⟩
    · rw [hrest, ok.tl n b ws em, show (vS r.srcs).length = r.srcs.length from List.length_map ..]
      rfl
    refine ⟨_, rfl, rfl, _, rfl, iteF' (decide_eq_false fun z => by cases z) ?_⟩
    have s38 := Same.trans s37 s8
    refine ⟨_, rfl, W, _, _, _, rfl, rfl, SqL.of (s38 _ _ hW3), (atI_nat (j := 1) (by rfl) : atI (V.str "row" :: V.str r.name :: V.str "of" :: vS r.srcs) 1 = some (V.str r.name)), ?_⟩
    refine ⟨_, rfl, _, rfl, (by show 3 ≤ sizeLine; decide), fun p hp => ?_⟩
    have s9 := NF.Same.new (o := .tup [V.str r.name, V.ref x, V.ref X]) (Same.refl H8) hp
    refine q p _ (Same.trans s1 (Same.trans s2 (Same.trans s3 (Same.trans s38 s9)))) ⟨.ref x, X, .inr (SqT.of upd_same), ?_, .inl (SqL.of (s9 _ _ (s38 _ _ hX')))⟩
    rw [em]
    exact ⟨x, rfl, ma.mono s9⟩
end
end K29
set_option Elab.async false
set_option linter.all false
set_option maxRecDepth 100000
set_option maxHeartbeats 4000000
namespace K29
open PySem PySem.Spec PyProof.Rows L2 He NF RZ NT
/-- an open row is read -/
def spRowOfU (K : PySem.W.Frag) (C : Addr) : Sp := fun vs H Q _ => ∃ (r : RowD) (u : Str), vs = [.str (rowT r)] ∧ r.mkr = .unk u ∧ RowOk r ∧ ∀ p H', Same H H' → RowR K C H' p r → Q (.ref p) H'
section
variable {P : Program} {w : World} {K : PySem.W.Frag} {mg : Str → Option Value} {base : Heap} {gs fs : List Str} {C CW : Addr} {tok : Tok}
theorem ok_row_ofU {f : Addr} {fd : FuncData} (F : FunD K "row_of" "row_of" (defArgs s_row_of) (defBody s_row_of) (defScope s_row_of) [] [] f fd) (T : Txt K mg gs FS) (c_is_row_name : Cal P w K mg base 2 "is_row_name" spName) (c_is_unknown : Cal P w K mg base 2 "is_unknown" spUnk) (c_are_sources : Cal P w K mg base 3 "are_sources" (spSrcs K)) (c_maker_in : Cal P w K mg base 9 "maker_in" (spMakerIn K C)) : FnOk P w K mg base CX0 10 f fd ["line"] (spRowOfU K C) := by
  refine F.ok sc_row_of (fun vs H Q E h => ?_) (fun cdv A outer s H vs Q E hr h => ?_)
  · obtain ⟨r, u, rfl, _⟩ := h
    rfl
  · obtain ⟨r, u, rfl, em, ok, q⟩ := h
    have hu : (A.deeper (envOfC "row_of" (defScope s_row_of) s.heap.objs.size f cdv)).units + 64 < cLine := by
      have := hr.un
      omega
    refine ⟨_, PSs.nox (pss_cons (ps_asg (pe_partition (pv 0) pe_str) (pgt (K := K) (n := 3) rfl rfl (pgs_cons (pg_name (i := 3) sc_row_of.nd rfl (Or.inl rfl)) (pgs_cons (pg_name (i := 4) sc_row_of.nd rfl (Or.inl rfl)) (pgs_cons (pg_name (i := 5) sc_row_of.nd rfl (Or.inl rfl)) pgs_nil))))) (pss_cons (ps_set (i := 1) sc_row_of.nd rfl (Or.inl rfl) (pe_split (pv 3) pe_str)) (pss_cons (ps_set (i := 2) sc_row_of.nd rfl (Or.inl rfl) (pe_slice sl_list (pv 1) (po_some pe_int) po_none)) (pss_cons (ps_if (pt_not (pt_truth (pv 4) (fun _ => rfl))) (pss_one (ps_set (i := 2) sc_row_of.nd rfl (Or.inl rfl) (pe_slice sl_list (pv 1) (po_some pe_int) (po_some (pe_un un_neg pe_int))))) pss_nil) (pss_cons (ps_if (PW.pt (pw_or (pt_cmpR op_ne (pe_ix (ixl (K := K)) (pv 1) pe_int fun _ _ => rfl) pe_str (nomark _)) (pw_or (pt_cmpR (op_neD hu) (pe_slice sl_list (pv 1) (po_some pe_int) (po_some pe_int)) (pe_lst (pa_cons pe_str pa_nil)) (nomark _)) (pw_or (pt_not (pt_val (pe_c c_is_row_name hr (by decide) rfl (pa_cons (pe_ix (ixl (K := K)) (pv 1) pe_int fun _ _ => rfl) pa_nil)))) (pw_or1 (pt_not (pt_val (pe_c c_are_sources hr (by decide) rfl (pa_cons (pv 2) (pa_cons pe_non pa_nil)))))))))) (pss_one (ps_ret pe_non)) pss_nil) (pss_cons (ps_if (pt_truth (pv 4) (fun _ => rfl)) (pss_one (ps_set (i := 6) sc_row_of.nd rfl (Or.inl rfl) (pe_c c_maker_in hr (by decide) rfl (pa_cons (pv 5) (pa_cons (pe_callB call_len_seq rfl (T.fr _ (by decide +kernel)) boot_len (pa_cons (pv 2) pa_nil)) pa_nil))))) (pss_one (ps_set (i := 6) sc_row_of.nd rfl (Or.inl rfl) (pe_ifExp (PW.pt (pw_and (pt_cmpR op_eq (pe_ix (ixl (K := K)) (pv 1) (pe_un un_neg pe_int) fun _ _ => rfl) pe_str (nomark _)) (pw_and1 (pt_val (pe_c c_is_unknown hr (by decide) rfl (pa_cons (pe_ix (ixl (K := K)) (pv 1) (pe_un un_neg pe_int) fun _ _ => rfl) pa_nil)))))) (pe_ix (ixl (K := K)) (pv 1) (pe_un un_neg pe_int) fun _ _ => rfl) pe_non)))) (pss_cons (ps_if (pt_cmpR op_isN (pv 6) pe_non (nomark _)) (pss_one (ps_ret pe_non)) pss_nil) (pss_one (ps_ret (pe_tup (pa_cons (pe_ix (ixl (K := K)) (pv 1) pe_int fun _ _ => rfl) (pa_cons (pv 6) (pa_cons (pv 2) pa_nil))))))))))))), ?_⟩
    have rl := len_row ok fun n' b' ws' e => by
      rw [em] at e
      cases e
    have sl := len_start ok
    refine ⟨_, rfl, ⟨_, rfl⟩, _, _, rfl, rfl, by decide +kernel, Nat.le_trans (show _ ≤ 30002 by omega) (by decide), ?_⟩
    rw [part_unk ok em]
    intro U hU
    dsimp only
    have s1 := NF.Same.new (o := .tup [V.str (rowT r), V.str Str.empty, V.str Str.empty]) (Same.refl H) hU
    have hU' := upd_same (H := H) (a := U) (o := .tup [V.str (rowT r), V.str Str.empty, V.str Str.empty])
    generalize upd H U (.tup [V.str (rowT r), V.str Str.empty, V.str Str.empty]) = H1 at s1 hU'
    refine ⟨U, _, rfl, SqT.of hU', rfl, _, _, rfl, ?_⟩
    refine ⟨_, _, rfl, ?_⟩
    refine ⟨_, _, rfl, ?_⟩
    refine ⟨rfl, ?_⟩
    refine ⟨_, rfl, ⟨_, rfl⟩, _, _, rfl, rfl, by decide +kernel, Nat.le_trans (show _ ≤ 30002 by omega) (by decide), ?_⟩
    rw [split_unk ok em]
    intro W hW
    have eW : (wordsR r ++ (["by", u] : List Str)).map V.str = V.str "row" :: V.str r.name :: V.str "of" :: (vS r.srcs ++ [V.str "by", V.str u]) := by
      unfold vS
      rw [List.map_append]
      rfl
    rw [eW]
    have s2 := NF.Same.new (o := .lst (V.str "row" :: V.str r.name :: V.str "of" :: (vS r.srcs ++ [V.str "by", V.str u]))) (Same.refl H1) hW
    have hW' := upd_same (H := H1) (a := W) (o := .lst (V.str "row" :: V.str r.name :: V.str "of" :: (vS r.srcs ++ [V.str "by", V.str u])))
    generalize upd H1 W (.lst (V.str "row" :: V.str r.name :: V.str "of" :: (vS r.srcs ++ [V.str "by", V.str u]))) = H2 at s2 hW'
    refine ⟨_, rfl, _, rfl, W, _, rfl, SqL.of hW', fun X hX => ?_⟩
    rw [show cutV (V.str "row" :: V.str r.name :: V.str "of" :: (vS r.srcs ++ [V.str "by", V.str u])) (some (3 : Int)) none = vS r.srcs ++ [V.str "by", V.str u] from cut_from (n := 3)]
    have s3a := NF.Same.new (o := .lst (vS r.srcs ++ [V.str "by", V.str u])) (Same.refl H2) hX
    generalize upd H2 X (.lst (vS r.srcs ++ [V.str "by", V.str u])) = H2a at s3a
    have el : (Str.empty : Str).length ≤ sizeLine := Nat.le_trans (show (Str.empty : Str).length ≤ 1 by decide +kernel) (by decide)
    refine ⟨_, rfl, _, ⟨el, rfl⟩, ?_⟩
    refine iteT' (by decide +kernel) ?_
    refine ⟨_, rfl, _, rfl, _, rfl, _, rfl, W, _, rfl, SqL.of (s3a _ _ hW'), fun X hX => ?_⟩
    rw [show cutV (V.str "row" :: V.str r.name :: V.str "of" :: (vS r.srcs ++ [V.str "by", V.str u])) (some (3 : Int)) (some (-2 : Int)) = vS r.srcs by
      unfold cutV
      rw [show HT.sIx (V.str "row" :: V.str r.name :: V.str "of" :: (vS r.srcs ++ [V.str "by", V.str u])).length 0 (some (3 : Int)) = 3 by rw [show (3 : Int) = ((3 : Nat) : Int) from rfl, HT.sIx_nat]; simp, show (-2 : Int) = -((2 : Nat) : Int) from rfl, sIx_negN (by decide)]
      simp]
    have s3b := NF.Same.new (o := .lst (vS r.srcs)) (Same.refl H2a) hX
    have hX' := upd_same (H := H2a) (a := X) (o := .lst (vS r.srcs))
    generalize upd H2a X (.lst (vS r.srcs)) = H3 at s3b hX'
    have s3 := Same.trans s3a s3b
    have hW3 := s3 _ _ hW'
    refine ⟨_, rfl, W, _, _, _, rfl, rfl, SqL.of hW3, atI_nat (by rfl), rfl, _, rfl, iteF' (by decide +kernel) ?_⟩
    refine ⟨_, rfl, _, rfl, _, rfl, W, _, rfl, SqL.of hW3, fun Y hY => ?_⟩
    rw [show cutV (V.str "row" :: V.str r.name :: V.str "of" :: (vS r.srcs ++ [V.str "by", V.str u])) (some (2 : Int)) (some (3 : Int)) = [V.str "of"] from (cut_mid (a := 2) (b := 3) (by decide) (by simp)).trans (by simp)]
    have s4 := NF.Same.new (o := .lst [V.str "of"]) (Same.refl H3) hY
    have hY' := upd_same (H := H3) (a := Y) (o := .lst [V.str "of"])
    generalize upd H3 Y (.lst [V.str "of"]) = H4 at s4 hY'
    refine ⟨(by show 1 ≤ sizeLine; decide), fun Z hZ => ?_⟩
    have s5 := NF.Same.new (o := .lst [V.str "of"]) (Same.refl H4) hZ
    have hZ' := upd_same (H := H4) (a := Z) (o := .lst [V.str "of"])
    generalize upd H4 Z (.lst [V.str "of"]) = H5 at s5 hZ'
    refine ⟨.list [.str "of"], .list [.str "of"], .lst (SqL.of (s5 _ _ hY')) (.cons (.str _) .nil), .lst (SqL.of hZ') (.cons (.str _) .nil), by decide +kernel, by decide +kernel, _, rfl, iteF' (by decide +kernel) ?_⟩
    have s35 := Same.trans s4 s5
    have hW5 := s35 _ _ hW3
    refine ⟨_, rfl, W, _, _, _, rfl, rfl, SqL.of hW5, (atI_nat (j := 1) (by rfl) : atI (V.str "row" :: V.str r.name :: V.str "of" :: (vS r.srcs ++ [V.str "by", V.str u])) 1 = some (V.str r.name)), r.name, rfl, ok.nm.len, fun H6 s6 => ?_⟩
    rw [show wordB 8 r.name = true from ok.nm]
    refine ⟨_, rfl, iteF ?_⟩
    have s36 := Same.trans s35 s6
    refine ⟨_, rfl, X, r.srcs, _, rfl, .inl (SqL.of (s36 _ _ hX')), ok.so, .inl rfl, fun H7 s7 => ⟨_, rfl, iteF ?_⟩⟩
    have s37 := Same.trans s36 s7
    refine ⟨_, rfl, _, ⟨el, rfl⟩, ?_⟩
    refine iteF' (by decide +kernel) ?_
    have ou := ok.un u em
    have at2' : atI (V.str "row" :: V.str r.name :: V.str "of" :: (vS r.srcs ++ [V.str "by", V.str u])) (-2) = some (V.str "by") := by
      unfold atI ixN
      rw [if_neg (by omega), if_pos (by simp; omega)]
      show (V.str "row" :: V.str r.name :: V.str "of" :: (vS r.srcs ++ [V.str "by", V.str u]))[((-2 : Int) + ((V.str "row" :: V.str r.name :: V.str "of" :: (vS r.srcs ++ [V.str "by", V.str u])).length : Int)).toNat]? = _
      rw [show ((-2 : Int) + ((V.str "row" :: V.str r.name :: V.str "of" :: (vS r.srcs ++ [V.str "by", V.str u])).length : Int)).toNat = (vS r.srcs).length + 3 by simp; omega]
      simp
    have at1' : atI (V.str "row" :: V.str r.name :: V.str "of" :: (vS r.srcs ++ [V.str "by", V.str u])) (-1) = some (V.str u) := by
      unfold atI ixN
      rw [if_neg (by omega), if_pos (by simp; omega)]
      show (V.str "row" :: V.str r.name :: V.str "of" :: (vS r.srcs ++ [V.str "by", V.str u]))[((-1 : Int) + ((V.str "row" :: V.str r.name :: V.str "of" :: (vS r.srcs ++ [V.str "by", V.str u])).length : Int)).toNat]? = _
      rw [show ((-1 : Int) + ((V.str "row" :: V.str r.name :: V.str "of" :: (vS r.srcs ++ [V.str "by", V.str u])).length : Int)).toNat = (vS r.srcs).length + 4 by simp; omega]
      simp
    have hW7 := s37 _ _ hW3
    refine ⟨_, rfl, _, rfl, W, _, _, _, rfl, rfl, SqL.of hW7, at2', rfl, _, rfl, iteT' (by decide +kernel) ?_⟩
    refine ⟨_, rfl, _, rfl, W, _, _, _, rfl, rfl, SqL.of hW7, at1', u, rfl, by have := unk_len ou; omega, fun H8 s8 => ?_⟩
    rw [ou]
    have s38 := Same.trans s37 s8
    refine ⟨_, rfl, iteT ?_⟩
    refine ⟨_, rfl, _, rfl, W, _, _, _, rfl, rfl, SqL.of (s38 _ _ hW3), at1', ?_⟩
    refine ⟨_, rfl, rfl, _, rfl, iteF' (decide_eq_false fun z => by cases z) ?_⟩
    refine ⟨_, rfl, W, _, _, _, rfl, rfl, SqL.of (s38 _ _ hW3), (atI_nat (j := 1) (by rfl) : atI (V.str "row" :: V.str r.name :: V.str "of" :: (vS r.srcs ++ [V.str "by", V.str u])) 1 = some (V.str r.name)), ?_⟩
    refine ⟨_, rfl, _, rfl, (by show 3 ≤ sizeLine; decide), fun p hp => ?_⟩
    have s9 := NF.Same.new (o := .tup [V.str r.name, V.str u, V.ref X]) (Same.refl H8) hp
    refine q p _ (Same.trans s1 (Same.trans s2 (Same.trans s3 (Same.trans s38 s9)))) ⟨.str u, X, .inr (SqT.of upd_same), ?_, .inl (SqL.of (s9 _ _ (s38 _ _ hX')))⟩
    rw [em]
    rfl
end
end K29
set_option Elab.async false
set_option linter.all false
namespace NF
open PySem PySem.Spec PyProof.Rows L2 He RZ NT
/-- two promises of one def that let out alike -/
theorem FnOk.orS {P : Program} {w : World} {K : PySem.W.Frag} {mg : Str → Option Value} {base : Heap} {CX : CXT} {k : Nat} {f : Addr} {fd : FuncData} {ps : List Str} {sp1 sp2 : Sp} (F1 : FnOk P w K mg base CX k f fd ps sp1) (F2 : FnOk P w K mg base CX k f fd ps sp2) : FnOk P w K mg base CX k f fd ps (spOr sp1 sp2) :=
  ⟨fun vs H Q E h => h.elim (F1.len vs H Q E) (F2.len vs H Q E), fun A outer s H args us vs Q E hr e b v h => h.elim (F1.run A outer s H args us vs Q E hr e b v) (F2.run A outer s H args us vs Q E hr e b v)⟩
end NF
set_option Elab.async false
set_option linter.all false
set_option maxRecDepth 100000
set_option maxHeartbeats 4000000
namespace K29
open PySem PySem.Spec PyProof.Rows L2 He NF RZ NT
def spRowOf (K : PySem.W.Frag) (C : Addr) : Sp := spOr (spRowOfG K) (spOr (spRowOfM K C) (spRowOfU K C))
def spLines (K : PySem.W.Frag) : Sp := fun vs H Q _ => ∃ a ls, vs = [.ref a] ∧ Row K H a (vS ls) ∧ 1 ≤ ls.length ∧ ls.length ≤ 9 ∧ ∀ H', Same H H' → Q (.bl true) H'
theorem sc_are_lines : FnScope ["thing", "line"] ["thing"] (defScope s_are_lines) := ⟨rfl, rfl, rfl, by decide +kernel, rfl, by decide +kernel, by decide +kernel⟩
section
variable {P : Program} {w : World} {K : PySem.W.Frag} {mg : Str → Option Value} {base : Heap} {gs fs : List Str} {C CW : Addr} {tok tok2 : Tok}
theorem ok_row_of {f : Addr} {fd : FuncData} (F : FunD K "row_of" "row_of" (defArgs s_row_of) (defBody s_row_of) (defScope s_row_of) [] [] f fd) (T : Txt K mg gs FS) (c_is_row_name : Cal P w K mg base 2 "is_row_name" spName) (c_is_unknown : Cal P w K mg base 2 "is_unknown" spUnk) (c_are_sources : Cal P w K mg base 3 "are_sources" (spSrcs K)) (c_maker_in : Cal P w K mg base 9 "maker_in" (spMakerIn K C)) : FnOk P w K mg base CX0 10 f fd ["line"] (spRowOf K C) := by
  exact FnOk.orS (ok_row_ofG F T c_is_row_name c_is_unknown c_are_sources c_maker_in) (FnOk.orS (ok_row_ofM F T c_is_row_name c_is_unknown c_are_sources c_maker_in) (ok_row_ofU F T c_is_row_name c_is_unknown c_are_sources c_maker_in))
theorem ok_are_lines {f : Addr} {fd : FuncData} (F : FunD K "are_lines" "are_lines" (defArgs s_are_lines) (defBody s_are_lines) (defScope s_are_lines) [] [] f fd) (T : Txt K mg gs FS) (h_MOST_GIVENS : mg "MOST_GIVENS" = some (.int 3 tok)) (h_MOST_ROWS : mg "MOST_ROWS" = some (.int 6 tok2)) (c_is_row : Cal P w K mg base 1 "is_row" (spIsRow K)) : FnOk P w K mg base CX0 2 f fd ["thing"] (spLines K) := by
  refine F.ok sc_are_lines (fun vs H Q E h => ?_) (fun cdv A outer s H vs Q E hr h => ?_)
  · obtain ⟨a, ls, rfl, _⟩ := h
    rfl
  · obtain ⟨a, ls, rfl, ha, l1, l9, q⟩ := h
    refine ⟨_, PSs.nox (pss_cons (ps_if (PW.pt (pw_or (pt_not (pt_val (pe_c c_is_row hr (by decide) rfl (pa_cons (pv 0) pa_nil)))) (pw_or1 (pt_not (pt_chain op_le op_le pe_int (pe_callB call_len_seq rfl (T.fr _ (by decide +kernel)) boot_len (pa_cons (pv 0) pa_nil)) (pe_op op_add (pe_glob (v := .int 3) rfl h_MOST_GIVENS ⟨_, rfl⟩) (pe_glob (v := .int 6) rfl h_MOST_ROWS ⟨_, rfl⟩))))))) (pss_one (ps_ret pe_bl)) pss_nil) (pss_one (ps_ret (pe_callB (cr_all rfl) rfl (T.fr _ (by decide +kernel)) (by decide +kernel) (pa_cons (pe_lc (own := [("line", 1)]) rfl sc_are_lines.nd (pi_row (pv 0)) (blkOk_by (N := ["thing", "line"]) (sc := defScope s_are_lines) (by decide +kernel)) (fun _ _ _ _ _ => by exact (pg_name (i := 1) sc_are_lines.nd rfl (Or.inl rfl))) (fun _ _ _ _ _ => by exact pts_nil) (fun _ _ _ _ _ => by exact (pe_callB (call_isiK (K := K)) rfl (T.fr _ (by decide +kernel)) (by decide +kernel) (pa_cons (pv 1) (pa_cons (pe_bltn (v := .ty "str") rfl (T.fr _ (by decide +kernel)) (by decide +kernel) rfl) pa_nil))))) pa_nil))))), ?_⟩
    have vl : (vS ls).length = ls.length := List.length_map ..
    refine ⟨_, rfl, a, _, rfl, ha, fun H1 s1 => ⟨true, rfl, iteF ?_⟩⟩
    refine ⟨_, rfl, a, _, rfl, ha.mono s1, ?_⟩
    rw [vl]
    refine ⟨_, _, rfl, rfl, _, rfl, iteT' (decide_eq_true (by omega)) ⟨_, _, rfl, rfl, _, _, rfl, rfl, _, rfl, ?_⟩⟩
    rw [show decide ((ls.length : Int) ≤ 3 + 6) = true from decide_eq_true (by omega)]
    refine iteF ?_
    refine ⟨_, rfl, a, rfl, ?_⟩
    refine lc_row (ha.mono s1) (fun D j G => Same H1 G ∧ G D = some (.lst ((List.replicate j true).map V.bl))) (fun D hD => ⟨NF.Same.new (Same.refl H1) hD, upd_same⟩) (fun D i G _ z => z.1) ?_ ?_
    · rintro D hD j v G hv ⟨hG, hD2⟩
      have hj := (List.getElem?_eq_some_iff.mp hv).1
      rw [vl] at hj
      unfold vS at hv
      rw [List.getElem?_map, List.getElem?_eq_getElem hj] at hv
      obtain rfl : V.str ls[j] = v := Option.some.inj hv
      refine ⟨rfl, _, rfl, _, _, _, _, true, rfl, .ty "str", .base (.str _), kit_s_s K, ?_⟩
      refine ⟨_, hD2, by rw [List.length_map, List.length_replicate]; exact Nat.lt_of_lt_of_le (show j < 10 by omega) (by decide), NF.Same.mut hG hD, ?_⟩
      rw [upd_same, List.replicate_succ', List.map_append]
      rfl
    · rintro D hD G ⟨hG, hD2⟩
      refine ⟨D, _, rfl, SqL.of hD2, ?_⟩
      have : (List.replicate ((vS ls).length) true).all id = true := by
        rw [List.all_replicate]
        simp
      rw [this]
      exact q G (Same.trans s1 hG)
end
end K29
set_option Elab.async false
set_option linter.all false
set_option maxRecDepth 100000
set_option maxHeartbeats 4000000
namespace K29
open PySem PySem.Spec PyProof.Rows L2 He NF RZ NT
theorem sqL_put {K : PySem.W.Frag} {H : Hp} {a p : Addr} {o : HO} {xs ys : List V} (h : SqL K H a xs) (hp : H p = some (.lst ys)) (n : xs ≠ ys) : SqL K (upd H p o) a xs := by
  rcases h with (h | ⟨w, h⟩) | h
  · refine .inl (.inl ?_)
    rw [upd_ne (fun z => by subst z; rw [h] at hp; cases hp; exact n rfl)]
    exact h
  · refine .inl (.inr ⟨w, ?_⟩)
    rw [upd_ne (fun z => by subst z; rw [h] at hp; cases hp)]
    exact h
  · exact .inr h
theorem row_put {K : PySem.W.Frag} {H : Hp} {a p : Addr} {o : HO} {xs ys : List V} (h : NF.Row K H a xs) (hp : H p = some (.lst ys)) (n : xs ≠ ys) : NF.Row K (upd H p o) a xs := h.elim (fun h => .inl (sqL_put h hp n)) fun h => .inr (SqT.put h hp trivial)
theorem str_refs {z : Str} {l : List V} {xs : List Addr} : V.str z :: l ≠ xs.map V.ref := fun e => by
  cases xs with
  | nil => cases e
  | cons x xs => injection e with e; cases e
theorem RowR.putL {K : PySem.W.Frag} {C : Addr} {H : Hp} {a p : Addr} {r : RowD} {xs : List Addr} {o : HO} (h : RowR K C H a r) (ok : RowOk r) (hp : H p = some (.lst (xs.map V.ref))) : RowR K C (upd H p o) a r := by
  obtain ⟨v, ps, h1, h2, h3⟩ := h
  refine ⟨v, ps, row_put h1 hp str_refs, ?_, row_put h3 hp ?_⟩
  · cases em : r.mkr with
    | unk u =>
      rw [em] at h2
      exact h2
    | mak n b ws =>
      rw [em] at h2
      obtain ⟨y, rfl, dx, pb, pw, hy, hb, as, hw, hl, hws⟩ := h2
      refine ⟨y, rfl, dx, pb, pw, ?_, SqT.put hb hp trivial, as, SqT.put hw hp trivial, hl, fun j c w e1 e2 => SqT.put (hws j c w e1 e2) hp trivial⟩
      rw [upd_ne fun z => by rw [z, hp] at hy; cases hy]
      exact hy
  · have := ok.so.s1
    cases es : r.srcs with
    | nil =>
      rw [es] at this
      exact absurd this (by decide)
    | cons z l => exact str_refs
def spRead (K : PySem.W.Frag) (CW C : Addr) : Sp := fun vs H Q _ => ∃ a gs rs, vs = [.ref a] ∧ NF.Row K H a (vS (webT gs rs)) ∧ GoodW gs rs ∧ ∀ x H', Same H H' → WebAt K CW C H' x gs rs → Q (.ref x) H'
theorem sc_read_web : FnScope ["lines", "givens", "rows", "number", "line", "given", "row"] ["lines"] (defScope s_read_web) := ⟨rfl, rfl, rfl, by decide +kernel, rfl, by decide +kernel, by decide +kernel⟩
section
variable {P : Program} {w : World} {K : PySem.W.Frag} {mg : Str → Option Value} {base : Heap} {gs fs : List Str} {C CW : Addr} {tok tok2 : Tok}
theorem ok_read_web {f : Addr} {fd : FuncData} (F : FunD K "read_web" "read_web" (defArgs s_read_web) (defBody s_read_web) (defScope s_read_web) [] [] f fd) (T : Txt K mg gs FS) (c_are_lines : Cal P w K mg base 2 "are_lines" (spLines K)) (c_given_of : Cal P w K mg base 3 "given_of" (spGiven K)) (c_row_of : Cal P w K mg base 10 "row_of" (spRowOf K C)) (m_Web2 : Mak P w K mg base 6 0 "Web" CW (spWInit K CW C) []) : FnOk P w K mg base CX0 11 f fd ["lines"] (spRead K CW C) := by
  refine F.ok sc_read_web (fun vs H Q E h => ?_) (fun cdv A outer s H vs Q E hr h => ?_)
  · obtain ⟨a, gs, rs, rfl, _⟩ := h
    rfl
  · obtain ⟨a, gs, rs, rfl, ha, g, q⟩ := h
    refine ⟨_, PSs.nox (pss_cons (ps_if (pt_not (pt_val (pe_c c_are_lines hr (by decide) rfl (pa_cons (pv 0) pa_nil)))) (pss_one ps_never) pss_nil) (pss_cons (ps_set (i := 1) sc_read_web.nd rfl (Or.inl rfl) (pe_lst pa_nil)) (pss_cons (ps_set (i := 2) sc_read_web.nd rfl (Or.inl rfl) (pe_lst pa_nil)) (pss_cons (ps_for PassesOwn.never rfl (pi_enumR rfl (T.fr _ (by decide +kernel)) (pa_cons (pv 0) pa_nil)) (pgt (K := K) (n := 2) rfl rfl (pgs_cons (pg_name (i := 3) sc_read_web.nd rfl (Or.inl rfl)) (pgs_cons (pg_name (i := 4) sc_read_web.nd rfl (Or.inl rfl)) pgs_nil))) (pss_cons (ps_set (i := 5) sc_read_web.nd rfl (Or.inl rfl) (pe_c c_given_of hr (by decide) rfl (pa_cons (pv 4) pa_nil))) (pss_cons (ps_set (i := 6) sc_read_web.nd rfl (Or.inl rfl) (pe_c c_row_of hr (by decide) rfl (pa_cons (pv 4) pa_nil))) (pss_one (ps_if (pt_cmpR op_notN (pv 6) pe_non (nomark _)) (pss_one (ps_expr (pe_bm PySem.F.plainAttrs_list PySem.F.slot_list_append PySem.F.type_list_append mt_append (pv 2) (pa_cons (pv 6) pa_nil)))) (pss_one (ps_if (PW.pt (pw_and (pt_cmpR op_notN (pv 5) pe_non (nomark _)) (pw_and1 (pt_not (pt_truth (pv 2) (fun _ => rfl)))))) (pss_one (ps_expr (pe_bm PySem.F.plainAttrs_list PySem.F.slot_list_append PySem.F.type_list_append mt_append (pv 1) (pa_cons (pv 5) pa_nil)))) (pss_one ps_never)))))))) (pss_one (ps_ret (pe_mk m_Web2 hr (by decide) rfl (pa_cons (pv 1) (pa_cons (pv 2) pa_nil))))))))), ?_⟩
    have g3 := g.g3
    have r1 := g.r1
    have r6 := g.r6
    have wl : (webT gs rs).length = gs.length + rs.length := by
      unfold webT
      rw [List.length_append, List.length_map, List.length_map]
    refine ⟨_, rfl, a, webT gs rs, rfl, ha, by omega, by omega, fun H1 s1 => ⟨true, rfl, iteF ?_⟩⟩
    refine ⟨(by show 0 ≤ sizeLine; decide), fun GA hGA => ?_⟩
    have sG := NF.Same.new (o := .lst []) (Same.refl H1) hGA
    have hGA' := upd_same (H := H1) (a := GA) (o := .lst [])
    generalize upd H1 GA (.lst []) = H2 at sG hGA'
    refine ⟨(by show 0 ≤ sizeLine; decide), fun RA hRA => ?_⟩
    have sR := NF.Same.new (o := .lst []) (Same.refl H2) hRA
    have hRA' := upd_same (H := H2) (a := RA) (o := .lst [])
    have hGA2 := sR _ _ hGA'
    have GR : GA ≠ RA := fun z => by
      rw [← z, hGA'] at hRA
      cases hRA
    have hRA1 : H1 RA = none := by
      cases e : H1 RA with
      | none => rfl
      | some o =>
        have := sG _ _ e
        rw [hRA] at this
        cases this
    generalize upd H2 RA (.lst []) = H3 at sR hRA' hGA2
    have s13 := Same.trans sG sR
    refine for_enumM (K := K) (H0 := H1) rfl (ha.mono s1) (fun j σ Z => Same H1 Z ∧ Z GA = some (.lst (vS (gs.take j))) ∧ (∃ xs : List Addr, Z RA = some (.lst (xs.map V.ref)) ∧ xs.length = j - gs.length ∧ ∀ (k : Nat) (x : Addr) (r : RowD), xs[k]? = some x → rs[k]? = some r → RowR K C Z x r) ∧ ∃ v3 v4 v5 v6 : Option V, σ = [some (.ref a), some (.ref GA), some (.ref RA), v3, v4, v5, v6]) ⟨s13, hGA2, ⟨[], hRA', by simp, fun k x r e => by simp at e⟩, _, _, _, _, rfl⟩ (fun j σ Z z => z.1) ?_ ?_
    · rintro j u σ Z Z' hj ⟨sZ, hg, ⟨xs, hx, xl, hrr⟩, v3, v4, v5, v6, rfl⟩ ⟨T, x, rfl, hT, rfl, hxx⟩
      have t1 := NF.Same.new (o := .tup [V.int (j : Int), x]) (Same.refl Z) hT
      refine ⟨T, _, rfl, SqT.of upd_same, rfl, _, _, rfl, ?_⟩
      refine ⟨_, _, rfl, ?_⟩
      refine ⟨rfl, ?_⟩
      generalize upd Z T (.tup [V.int (j : Int), x]) = Z1 at t1
      rw [show (vS (webT gs rs)).length = gs.length + rs.length from (List.length_map ..).trans wl] at hj
      by_cases c : j < gs.length
      · have hx1 : x = V.str (givenT gs[j]) := by
          unfold vS webT at hxx
          rw [List.getElem?_map, List.getElem?_append_left (by rw [List.length_map]; exact c), List.getElem?_map, List.getElem?_eq_getElem c] at hxx
          exact (Option.some.inj hxx).symm
        subst hx1
        have og := g.gn gs[j] (List.getElem_mem c)
        refine ⟨_, rfl, .inl ⟨gs[j], rfl, og, fun Z2 s2 => ?_⟩⟩
        refine ⟨_, rfl, .inl ⟨gs[j], rfl, og, fun Z3 s3 => ?_⟩⟩
        have sZ3 := Same.trans t1 (Same.trans s2 s3)
        have hx3 := sZ3 _ _ hx
        have hg3 := sZ3 _ _ hg
        have xe : xs = [] := List.eq_nil_of_length_eq_zero (by omega)
        refine ⟨_, rfl, rfl, _, rfl, iteF' rfl ?_⟩
        rw [xe] at hx3
        refine ⟨_, rfl, rfl, _, rfl, iteT' rfl ⟨_, rfl, false, .inl ⟨[], SqL.of hx3, rfl⟩, iteT' rfl ?_⟩⟩
        refine ⟨_, rfl, .inl ⟨rfl, _, SqL.of hg3⟩, _, rfl, GA, _, _, rfl, rfl, hg3, Nat.lt_of_le_of_lt (show (vS (gs.take j)).length ≤ 3 by unfold vS; rw [List.length_map, List.length_take]; omega) (by decide), ?_⟩
        refine ⟨NF.Same.mut (Same.trans sZ sZ3) hGA, ?_, ⟨[], ?_, by simp; omega, fun k y r' e1 _ => by simp at e1⟩, _, _, _, _, rfl⟩
        · rw [upd_same, take_snoc (List.getElem?_eq_getElem c)]
          unfold vS
          rw [List.map_append]
          rfl
        · rw [upd_ne (Ne.symm GR)]
          exact hx3
      · have hjr : j - gs.length < rs.length := by omega
        have hm : rs[j - gs.length] ∈ rs := List.getElem_mem hjr
        have ok := g.row hm
        have hx1 : x = V.str (rowT rs[j - gs.length]) := by
          unfold vS webT at hxx
          rw [List.getElem?_map, List.getElem?_append_right (by rw [List.length_map]; omega), List.length_map, List.getElem?_map, List.getElem?_eq_getElem hjr] at hxx
          exact (Option.some.inj hxx).symm
        subst hx1
        have rl := len_row ok fun n b ws e => (g.tl _ hm n b ws e).2
        refine ⟨_, rfl, .inr ⟨rs[j - gs.length], rfl, rl, fun Z2 s2 => ?_⟩⟩
        cases em : rs[j - gs.length].mkr with
        | unk u =>
          refine ⟨_, rfl, .inr (.inr ⟨rs[j - gs.length], u, rfl, em, ok, fun p Z3 s3 rr => ?_⟩)⟩
          have sZ3 := Same.trans t1 (Same.trans s2 s3)
          have hx3 := sZ3 _ _ hx
          have hg3 := sZ3 _ _ hg
          refine ⟨_, rfl, rfl, _, rfl, iteT' (by rfl) ?_⟩
          refine ⟨_, rfl, .inl ⟨rfl, _, SqL.of hx3⟩, _, rfl, RA, _, _, rfl, rfl, hx3, Nat.lt_of_le_of_lt (show (xs.map V.ref).length ≤ 6 by rw [List.length_map]; omega) (by decide), ?_⟩
          refine ⟨NF.Same.mut (Same.trans sZ sZ3) hRA1, ?_, ⟨xs ++ [p], ?_, ?_, fun k y r' e1 e2 => ?_⟩, _, _, _, _, rfl⟩
          · rw [upd_ne GR, List.take_of_length_le (by omega)]
            rw [List.take_of_length_le (by omega)] at hg3
            exact hg3
          · rw [upd_same, List.map_append]
            rfl
          · rw [List.length_append, xl]
            show j - gs.length + 1 = _
            omega
          · rcases Nat.lt_trichotomy k xs.length with h | h | h
            · rw [List.getElem?_append_left h] at e1
              exact ((hrr k y r' e1 e2).mono sZ3).putL (g.row (List.mem_of_getElem? e2)) hx3
            · rw [List.getElem?_append_right (by omega), h, Nat.sub_self] at e1
              cases e1
              rw [h, xl, List.getElem?_eq_getElem hjr] at e2
              cases e2
              exact rr.putL ok hx3
            · rw [List.getElem?_eq_none (by rw [List.length_append]; show xs.length + 1 ≤ k; omega)] at e1
              cases e1
        | mak n b ws =>
          refine ⟨_, rfl, .inr (.inl ⟨rs[j - gs.length], n, b, ws, rfl, em, ok, (g.tl _ hm n b ws em).2, fun p Z3 s3 rr => ?_⟩)⟩
          have sZ3 := Same.trans t1 (Same.trans s2 s3)
          have hx3 := sZ3 _ _ hx
          have hg3 := sZ3 _ _ hg
          refine ⟨_, rfl, rfl, _, rfl, iteT' (by rfl) ?_⟩
          refine ⟨_, rfl, .inl ⟨rfl, _, SqL.of hx3⟩, _, rfl, RA, _, _, rfl, rfl, hx3, Nat.lt_of_le_of_lt (show (xs.map V.ref).length ≤ 6 by rw [List.length_map]; omega) (by decide), ?_⟩
          refine ⟨NF.Same.mut (Same.trans sZ sZ3) hRA1, ?_, ⟨xs ++ [p], ?_, ?_, fun k y r' e1 e2 => ?_⟩, _, _, _, _, rfl⟩
          · rw [upd_ne GR, List.take_of_length_le (by omega)]
            rw [List.take_of_length_le (by omega)] at hg3
            exact hg3
          · rw [upd_same, List.map_append]
            rfl
          · rw [List.length_append, xl]
            show j - gs.length + 1 = _
            omega
          · rcases Nat.lt_trichotomy k xs.length with h | h | h
            · rw [List.getElem?_append_left h] at e1
              exact ((hrr k y r' e1 e2).mono sZ3).putL (g.row (List.mem_of_getElem? e2)) hx3
            · rw [List.getElem?_append_right (by omega), h, Nat.sub_self] at e1
              cases e1
              rw [h, xl, List.getElem?_eq_getElem hjr] at e2
              cases e2
              exact rr.putL ok hx3
            · rw [List.getElem?_eq_none (by rw [List.length_append]; show xs.length + 1 ≤ k; omega)] at e1
              cases e1
    · rintro σ Z ⟨sZ, hg, ⟨xs, hx, xl, hrr⟩, v3, v4, v5, v6, rfl⟩
      rw [show (vS (webT gs rs)).length = gs.length + rs.length from (List.length_map ..).trans wl] at hg xl
      rw [List.take_of_length_le (by omega)] at hg
      refine ⟨_, rfl, _, rfl, ?_⟩
      intro x dx nx nd ne
      refine ⟨x, dx, GA, RA, gs, rs, rfl, upd_same, (show NF.Row K Z GA (vS gs) from .inl (SqL.of hg)).mono (same_woM nx nd), RowsR.mono (H := Z) ⟨xs, .inl (SqL.of hx), by omega, hrr⟩ (same_woM nx nd), g, fun Z2 s2 wa => ⟨rfl, ?_⟩⟩
      exact q x Z2 (Same.trans s1 (Same.trans sZ (same_made nx nd s2))) wa
end
end K29
set_option Elab.async false
set_option linter.all false
set_option maxRecDepth 100000
set_option maxHeartbeats 4000000
namespace K29
open PySem PySem.Spec PyProof.Rows L2 He NF RZ NT
/-! a web as a law tells it: tuples of tuples -/
def MkL (K : PySem.W.Frag) (H : Hp) (v : V) : MkD → Prop
  | .unk u => v = .str u
  | .mak n b ws => ∃ q, v = .ref q ∧ MkrT K H q n b ws
theorem MkL.mono {K : PySem.W.Frag} {H H' : Hp} {v : V} : ∀ {m : MkD}, MkL K H v m → Same H H' → MkL K H' v m
  | .unk _, h, _ => h
  | .mak _ _ _, ⟨x, e, h⟩, s => ⟨x, e, h.mono s⟩
/-- what a tuple within needs of an object that is put or taken away -/
def soft : HO → Prop
  | .lst _ => True
  | .ins _ _ _ => True
  | _ => False
theorem soft_match {u : HO} (h : soft u) : match u with | .lst _ => True | .ins _ _ _ => True | _ => False := by
  cases u <;> first | exact trivial | exact h
theorem MkrT.put {K : PySem.W.Frag} {H : Hp} {q x : Addr} {n : Nat} {b : List Deed} {ws : List (List Deed)} {o : HO} {l : List V} (h : MkrT K H q n b ws) (hx : H x = some (.lst l)) : MkrT K (upd H x o) q n b ws := by
  obtain ⟨pb, pw, h1, h2, as, h3, h4, h5⟩ := h
  exact ⟨pb, pw, SqT.put h1 hx trivial, SqT.put h2 hx trivial, as, SqT.put h3 hx trivial, h4, fun j a w e1 e2 => SqT.put (h5 j a w e1 e2) hx trivial⟩
theorem MkL.put {K : PySem.W.Frag} {H : Hp} {v : V} {x : Addr} {o : HO} {l : List V} : ∀ {m : MkD}, MkL K H v m → H x = some (.lst l) → MkL K (upd H x o) v m
  | .unk _, h, _ => h
  | .mak _ _ _, ⟨y, e, h⟩, hx => ⟨y, e, h.put hx⟩
theorem MkL.wo {K : PySem.W.Frag} {H : Hp} {v : V} {p : Addr} : ∀ {m : MkD}, MkL K H v m → Src H p → MkL K (NF.wo H p) v m
  | .unk _, h, _ => h
  | .mak _ _ _, ⟨y, e, h⟩, hs => ⟨y, e, h.wo hs⟩
def RowL (K : PySem.W.Frag) (H : Hp) (a : Addr) (r : RowD) : Prop := ∃ v ps, SqT K H a [.str r.name, v, .ref ps] ∧ MkL K H v r.mkr ∧ SqT K H ps (vS r.srcs)
theorem RowL.mono {K : PySem.W.Frag} {H H' : Hp} {a : Addr} {r : RowD} (h : RowL K H a r) (s : Same H H') : RowL K H' a r := by
  obtain ⟨v, ps, h1, h2, h3⟩ := h
  exact ⟨v, ps, NF.Same.tup s h1, h2.mono s, NF.Same.tup s h3⟩
theorem RowL.put {K : PySem.W.Frag} {H : Hp} {a x : Addr} {r : RowD} {o : HO} {l : List V} (h : RowL K H a r) (hx : H x = some (.lst l)) : RowL K (upd H x o) a r := by
  obtain ⟨v, ps, h1, h2, h3⟩ := h
  exact ⟨v, ps, SqT.put h1 hx trivial, h2.put hx, SqT.put h3 hx trivial⟩
theorem RowL.wo {K : PySem.W.Frag} {H : Hp} {a p : Addr} {r : RowD} (h : RowL K H a r) (hs : Src H p) : RowL K (NF.wo H p) a r := by
  obtain ⟨v, ps, h1, h2, h3⟩ := h
  obtain ⟨_, _, _, e⟩ := id hs
  exact ⟨v, ps, SqT.wo h1 e trivial, h2.wo hs, SqT.wo h3 e trivial⟩
/-- the rows at a list of addresses -/
def RowsA (K : PySem.W.Frag) (H : Hp) (as : List Addr) (rs : List RowD) : Prop := as.length = rs.length ∧ ∀ (j : Nat) (x : Addr) (r : RowD), as[j]? = some x → rs[j]? = some r → RowL K H x r
theorem RowsA.mono {K : PySem.W.Frag} {H H' : Hp} {as : List Addr} {rs : List RowD} (h : RowsA K H as rs) (s : Same H H') : RowsA K H' as rs := ⟨h.1, fun j x r e1 e2 => (h.2 j x r e1 e2).mono s⟩
theorem RowsA.put {K : PySem.W.Frag} {H : Hp} {as : List Addr} {x : Addr} {rs : List RowD} {o : HO} {l : List V} (h : RowsA K H as rs) (hx : H x = some (.lst l)) : RowsA K (upd H x o) as rs := ⟨h.1, fun j y r e1 e2 => (h.2 j y r e1 e2).put hx⟩
theorem RowsA.wo {K : PySem.W.Frag} {H : Hp} {as : List Addr} {p : Addr} {rs : List RowD} (h : RowsA K H as rs) (hs : Src H p) : RowsA K (NF.wo H p) as rs := ⟨h.1, fun j y r e1 e2 => (h.2 j y r e1 e2).wo hs⟩
theorem RowsA.nil {K : PySem.W.Frag} {H : Hp} : RowsA K H [] [] := ⟨rfl, fun j x r e => by simp at e⟩
theorem RowsA.snoc {K : PySem.W.Frag} {H : Hp} {as : List Addr} {rs : List RowD} {a : Addr} {r : RowD} (h : RowsA K H as rs) (h1 : RowL K H a r) : RowsA K H (as ++ [a]) (rs ++ [r]) := by
  have hl := h.1
  refine ⟨by rw [List.length_append, List.length_append, hl]; rfl, fun j x q e1 e2 => ?_⟩
  rcases Nat.lt_trichotomy j as.length with c | c | c
  · rw [List.getElem?_append_left c] at e1
    rw [List.getElem?_append_left (by omega)] at e2
    exact h.2 j x q e1 e2
  · rw [List.getElem?_append_right (by omega), c, Nat.sub_self] at e1
    rw [List.getElem?_append_right (by omega), c, hl, Nat.sub_self] at e2
    cases e1
    cases e2
    exact h1
  · rw [List.getElem?_eq_none (by rw [List.length_append]; show as.length + 1 ≤ j; omega)] at e1
    cases e1
theorem RowsA.set {K : PySem.W.Frag} {H : Hp} {as : List Addr} {rs : List RowD} {a : Addr} {r : RowD} {i : Nat} (h : RowsA K H as rs) (h1 : RowL K H a r) : RowsA K H (as.set i a) (rs.set i r) := by
  refine ⟨by rw [List.length_set, List.length_set, h.1], fun j x q e1 e2 => ?_⟩
  by_cases c : i = j
  · subst c
    rw [List.getElem?_set_self'] at e1 e2
    cases z1 : as[i]? with
    | none => rw [z1] at e1; cases e1
    | some y =>
      cases z2 : rs[i]? with
      | none => rw [z2] at e2; cases e2
      | some s =>
        rw [z1] at e1
        rw [z2] at e2
        cases e1
        cases e2
        exact h1
  · rw [List.getElem?_set_ne c] at e1 e2
    exact h.2 j x q e1 e2
def WebL (K : PySem.W.Frag) (H : Hp) (a : Addr) (gs : List Str) (rs : List RowD) : Prop := ∃ pg pr as, SqT K H a [.ref pg, .ref pr] ∧ SqT K H pg (vS gs) ∧ SqT K H pr (as.map V.ref) ∧ RowsA K H as rs
theorem WebL.mono {K : PySem.W.Frag} {H H' : Hp} {a : Addr} {gs : List Str} {rs : List RowD} (h : WebL K H a gs rs) (s : Same H H') : WebL K H' a gs rs := by
  obtain ⟨pg, pr, as, h1, h2, h3, h4⟩ := h
  exact ⟨pg, pr, as, NF.Same.tup s h1, NF.Same.tup s h2, NF.Same.tup s h3, h4.mono s⟩
theorem WebL.wo {K : PySem.W.Frag} {H : Hp} {a p : Addr} {gs : List Str} {rs : List RowD} (h : WebL K H a gs rs) (hs : Src H p) : WebL K (NF.wo H p) a gs rs := by
  obtain ⟨pg, pr, as, h1, h2, h3, h4⟩ := h
  obtain ⟨_, _, _, e⟩ := id hs
  exact ⟨pg, pr, as, SqT.wo h1 e trivial, SqT.wo h2 e trivial, SqT.wo h3 e trivial, h4.wo hs⟩
/-! as data -/
def mkP : MkD → PyData
  | .unk u => .str u
  | .mak n b ws => .tuple [.int (n : Int), dataW b, dataWs ws]
def sP (l : List Str) : PyData := .tuple (l.map .str)
def rowP1 (r : RowD) : PyData := .tuple [.str r.name, mkP r.mkr, sP r.srcs]
def webP (gs : List Str) (rs : List RowD) : PyData := .tuple [sP gs, .tuple (rs.map rowP1)]
theorem eqv_str (a b : Str) : PyData.eqv (.str a) (.str b) = decide (a = b) := by
  show (a == b) = _
  by_cases h : a = b
  · subst h
    rw [decide_eq_true rfl]
    exact beq_self_eq_true _
  · rw [decide_eq_false h]
    exact beq_eq_false_iff_ne.mpr h
theorem eqv_sP (a b : List Str) : PyData.eqv (sP a) (sP b) = decide (a = b) := eqv_map eqv_str a b
theorem eqv_nat (a b : Nat) : PyData.eqv (.int (a : Int)) (.int (b : Int)) = decide (a = b) := by
  show ((a : Int) == (b : Int)) = _
  by_cases h : a = b
  · subst h
    rw [decide_eq_true rfl]
    exact beq_self_eq_true _
  · rw [decide_eq_false h]
    exact beq_eq_false_iff_ne.mpr (by omega)
theorem eqv_mkP (x y : MkD) : PyData.eqv (mkP x) (mkP y) = decide (x = y) := by
  cases x with
  | unk u =>
    cases y with
    | unk u2 =>
      show PyData.eqv (.str u) (.str u2) = _
      rw [eqv_str]
      by_cases h : u = u2
      · subst h
        rw [decide_eq_true rfl, decide_eq_true rfl]
      · rw [decide_eq_false h, decide_eq_false (fun e => h (by injection e))]
    | mak n b ws => exact (decide_eq_false (fun e => by cases e)).symm
  | mak n b ws =>
    cases y with
    | unk u2 => exact (decide_eq_false (fun e => by cases e)).symm
    | mak n2 b2 ws2 =>
      show (PyData.eqv (.int (n : Int)) (.int (n2 : Int)) && (PyData.eqv (dataW b) (dataW b2) && (PyData.eqv (dataWs ws) (dataWs ws2) && true))) = _
      rw [eqv_nat, eqv_wP, eqv_wsP]
      by_cases z1 : n = n2 <;> by_cases z2 : b = b2 <;> by_cases z3 : ws = ws2 <;> simp [z1, z2, z3]
theorem eqv_rowP1 (a b : RowD) : PyData.eqv (rowP1 a) (rowP1 b) = decide (a = b) := by
  obtain ⟨n, m, s⟩ := a
  obtain ⟨n2, m2, s2⟩ := b
  show (PyData.eqv (.str n) (.str n2) && (PyData.eqv (mkP m) (mkP m2) && (PyData.eqv (sP s) (sP s2) && true))) = _
  rw [eqv_str, eqv_mkP, eqv_sP]
  by_cases z1 : n = n2 <;> by_cases z2 : m = m2 <;> by_cases z3 : s = s2 <;> simp [z1, z2, z3]
theorem eqv_webP (gs gs2 : List Str) (rs rs2 : List RowD) : PyData.eqv (webP gs rs) (webP gs2 rs2) = decide ((gs, rs) = (gs2, rs2)) := by
  show (PyData.eqv (sP gs) (sP gs2) && (PyData.eqv (.tuple (rs.map rowP1)) (.tuple (rs2.map rowP1)) && true)) = _
  rw [eqv_sP, show PyData.eqv (.tuple (rs.map rowP1)) (.tuple (rs2.map rowP1)) = PyData.eqvAll (rs.map rowP1) (rs2.map rowP1) from rfl, eqv_map eqv_rowP1]
  by_cases z1 : gs = gs2 <;> by_cases z2 : rs = rs2 <;> simp [z1, z2]
theorem dp_strs {K : PySem.W.Frag} {H : Hp} : ∀ l : List Str, DpAll K H (vS l) (l.map .str)
  | [] => .nil
  | z :: l => .cons (.str _) (dp_strs l)
theorem dp_sP {K : PySem.W.Frag} {H : Hp} {a : Addr} {l : List Str} (h : SqT K H a (vS l)) : Dp K H (.ref a) (sP l) := .tup h (dp_strs l)
theorem dp_mkr {K : PySem.W.Frag} {H : Hp} {q : Addr} {n : Nat} {b : List Deed} {ws : List (List Deed)} (h : MkrT K H q n b ws) : Dp K H (.ref q) (mkP (.mak n b ws)) := by
  obtain ⟨pb, pw, h1, h2, h3⟩ := h
  exact .tup h1 (.cons (.int _) (.cons (dp_way h2) (.cons (dp_ways h3) .nil)))
theorem dp_mk {K : PySem.W.Frag} {H : Hp} {v : V} : ∀ {m : MkD}, MkL K H v m → Dp K H v (mkP m)
  | .unk u, h => by
    rw [show v = .str u from h]
    exact .str u
  | .mak n b ws, ⟨q, e, h⟩ => by
    rw [e]
    exact dp_mkr h
theorem dp_row1 {K : PySem.W.Frag} {H : Hp} {a : Addr} {r : RowD} (h : RowL K H a r) : Dp K H (.ref a) (rowP1 r) := by
  obtain ⟨v, ps, h1, h2, h3⟩ := h
  exact .tup h1 (.cons (.str _) (.cons (dp_mk h2) (.cons (dp_sP h3) .nil)))
theorem dp_rowsL {K : PySem.W.Frag} {H : Hp} : ∀ (as : List Addr) (rs : List RowD), RowsA K H as rs → DpAll K H (as.map V.ref) (rs.map rowP1)
  | [], [], _ => .nil
  | [], _ :: _, h => nomatch h.1
  | _ :: _, [], h => nomatch h.1
  | a :: as, r :: rs, h => .cons (dp_row1 (h.2 0 a r rfl rfl)) (dp_rowsL as rs ⟨by have := h.1; simpa using this, fun j x q e1 e2 => h.2 (j + 1) x q (by simpa using e1) (by simpa using e2)⟩)
theorem dp_web {K : PySem.W.Frag} {H : Hp} {a : Addr} {gs : List Str} {rs : List RowD} (h : WebL K H a gs rs) : Dp K H (.ref a) (webP gs rs) := by
  obtain ⟨pg, pr, as, h1, h2, h3, h4⟩ := h
  exact .tup h1 (.cons (dp_sP h2) (.cons (.tup h3 (dp_rowsL as rs h4)) .nil))
theorem letB_lt {c : Nat} (h : letB c = true) : c < 200 := by
  have h := of_decide_eq_true h
  have : ∀ c ∈ ("abcdefghijklmnopqrstuvwxyz" : Str).cps.toList, c < 200 := by decide +kernel
  exact this c h
theorem str_lay {n : Nat} {z : Str} (h : wordB n z = true) : PyData.canLay0 (.str z) = true := by
  show z.cps.all (· < 0x110000) = true
  rw [← Array.all_toList, List.all_eq_true]
  intro c hc
  have := List.all_eq_true.mp (ba h).2 c hc
  exact decide_eq_true (Nat.lt_of_lt_of_le (letB_lt this) (by decide))
theorem shaped_of {d : PyData} {n : Nat} (h1 : PyData.canLay0 d = true) (h2 : PyData.depth d ≤ n) (h3 : n ≤ 60) : SeqAt.shaped d = true := by
  show (PyData.canLay0 d && decide (PyData.depth d ≤ 64)) = true
  rw [h1, decide_eq_true (by omega)]
  rfl
theorem lay_sP {n : Nat} {l : List Str} (h : ∀ z ∈ l, wordB n z = true) : PyData.canLay0 (sP l) = true := lay_map l fun z hz => str_lay (h z hz)
theorem depth_sP (l : List Str) : PyData.depth (sP l) ≤ 1 := by
  show PyData.depthAll (l.map PyData.str) + 1 ≤ 1
  have := depth_map (f := PyData.str) (n := 0) l fun z _ => Nat.le_refl _
  omega
theorem lay_wsP (a : List (List Deed)) : PyData.canLay0 (dataWs a) = true := lay_map a fun w _ => lay_wP w
theorem depth_wsP (a : List (List Deed)) : PyData.depth (dataWs a) ≤ 2 := by
  show PyData.depthAll (a.map dataW) + 1 ≤ 2
  have := depth_map (f := dataW) (n := 1) a fun w _ => depth_wP w
  omega
theorem lay_mkP {m : MkD} (h : ∀ u, m = .unk u → wordB 2 u = true) : PyData.canLay0 (mkP m) = true := by
  cases m with
  | unk u => exact str_lay (h u rfl)
  | mak n b ws =>
    show (PyData.canLay0 (.int (n : Int)) && (PyData.canLay0 (dataW b) && (PyData.canLay0 (dataWs ws) && true))) = true
    rw [lay_wP, lay_wsP]
    rfl
theorem depth_mkP (m : MkD) : PyData.depth (mkP m) ≤ 3 := by
  cases m with
  | unk u => exact Nat.zero_le _
  | mak n b ws =>
    show max 0 (max (PyData.depth (dataW b)) (max (PyData.depth (dataWs ws)) 0)) + 1 ≤ 3
    have := depth_wP b
    have := depth_wsP ws
    omega
theorem lay_row {r : RowD} (h : RowOk r) : PyData.canLay0 (rowP1 r) = true := by
  show (PyData.canLay0 (.str r.name) && (PyData.canLay0 (mkP r.mkr) && (PyData.canLay0 (sP r.srcs) && true))) = true
  rw [str_lay h.nm, lay_mkP h.un, lay_sP (n := 8) h.so.w]
  rfl
theorem depth_row (r : RowD) : PyData.depth (rowP1 r) ≤ 4 := by
  show max 0 (max (PyData.depth (mkP r.mkr)) (max (PyData.depth (sP r.srcs)) 0)) + 1 ≤ 4
  have := depth_mkP r.mkr
  have := depth_sP r.srcs
  omega
theorem shaped_web {gs : List Str} {rs : List RowD} (g : GoodW gs rs) : SeqAt.shaped (webP gs rs) = true := by
  refine shaped_of (n := 6) ?_ ?_ (by decide)
  · show (PyData.canLay0 (sP gs) && (PyData.canLayAll0 (rs.map rowP1) && true)) = true
    rw [lay_sP (n := 8) g.gn, lay_map rs fun r hr => lay_row (g.row hr)]
    rfl
  · show max (PyData.depth (sP gs)) (max (PyData.depthAll (rs.map rowP1) + 1) 0) + 1 ≤ 6
    have := depth_sP gs
    have := depth_map (f := rowP1) (n := 4) rs fun r _ => depth_row r
    omega
end K29
set_option Elab.async false
set_option linter.all false
set_option maxRecDepth 100000
set_option maxHeartbeats 4000000
namespace K29
open PySem PySem.Spec PyProof.Rows L2 He NF RZ NT
/-! the law's webs: drawn -/
def MENU : List Str := ["g", "h", "x", "y", "z", "w", "ab", "ba", "row", "given", "by", "of"]
theorem menu_ok : ∀ z ∈ MENU, wordB 8 z = true := by decide +kernel
theorem menu_nd : MENU.Nodup := by decide +kernel
def unkM : Nat → List Str
  | 1 => ["f", "by", "f"]
  | 2 => ["k", "ab", "k"]
  | _ => ["of", "of", "m"]
theorem unkM_ok {n : Nat} : ∀ z ∈ unkM n, wordB 2 z = true := by
  unfold unkM
  split <;> decide +kernel
theorem unkM_one : ∀ i, 1 ≤ i → i ≤ 3 → ∀ j, 1 ≤ j → j ≤ 3 → ∀ u ∈ unkM i, u ∈ unkM j → i = j := by
  have key : ∀ i ∈ [1, 2, 3], ∀ j ∈ [1, 2, 3], ∀ u ∈ unkM i, u ∈ unkM j → i = j := by decide +kernel
  intro i i1 i3 j j1 j3
  exact key i (by simp; omega) j (by simp; omega)
/-- a row as it is drawn -/
structure DrawnR (r : RowD) : Prop where
  s1 : 1 ≤ r.srcs.length
  s3 : r.srcs.length ≤ 3
  un : ∀ u, r.mkr = .unk u → u ∈ unkM r.srcs.length
  tl : ∀ n b ws, r.mkr = .mak n b ws → n = r.srcs.length ∧ Drawn n b ws
/-- a web as it is drawn -/
structure DrawnW (gs : List Str) (rs : List RowD) : Prop where
  g3 : gs.length ≤ 3
  r1 : 1 ≤ rs.length
  r6 : rs.length ≤ 6
  menu : ∀ z ∈ gs ++ rs.map RowD.name, z ∈ MENU
  row : ∀ r ∈ rs, DrawnR r
  nd : (gs ++ rs.map RowD.name).Nodup
  inn : ∀ r ∈ rs, ∀ z ∈ r.srcs, z ∈ gs ++ rs.map RowD.name
theorem DrawnW.good {gs : List Str} {rs : List RowD} (d : DrawnW gs rs) : GoodW gs rs where
  g3 := d.g3
  gn := fun g h => menu_ok g (d.menu g (List.mem_append_left _ h))
  r1 := d.r1
  r6 := d.r6
  rn := fun r h => menu_ok _ (d.menu _ (List.mem_append_right _ (List.mem_map_of_mem h)))
  so := fun r h => ⟨(d.row r h).s1, (d.row r h).s3, fun z hz => menu_ok z (d.menu z (d.inn r h z hz))⟩
  un := fun r h u e => unkM_ok u ((d.row r h).un u e)
  tl := fun r h n b ws e => ⟨((d.row r h).tl n b ws e).1, ((d.row r h).tl n b ws e).2.good⟩
  like := fun r h r' h' u e e' => unkM_one _ (d.row r h).s1 (d.row r h).s3 _ (d.row r' h').s1 (d.row r' h').s3 u ((d.row r h).un u e) ((d.row r' h').un u e')
  nd := d.nd
  inn := d.inn
theorem perm_pop {α : Type} : ∀ (l : List α) (k : Nat) (h : k < l.length), (l[k] :: l.eraseIdx k).Perm l
  | [], _, h => nomatch h
  | x :: l, 0, _ => .refl _
  | x :: l, k + 1, h => by
    have hk : k < l.length := by simpa using h
    have := perm_pop l k hk
    exact (List.Perm.swap x l[k] (l.eraseIdx k)).trans (this.cons x)
theorem seq_ix {k n : Nat} (h : k < n) : seqIndex? (k : Int) n = some k := by
  unfold seqIndex?
  have : (decide (0 ≤ (k : Int)) && decide ((k : Int) < (n : Int))) = true := by
    rw [decide_eq_true (by omega), decide_eq_true (by omega)]
    rfl
  have e : (if (k : Int) < 0 then (k : Int) + (n : Int) else (k : Int)) = (k : Int) := if_neg (by omega)
  simp only [e]
  rw [if_pos this]
  rfl
theorem vS_len (l : List Str) : (vS l).length = l.length := List.length_map ..
theorem vS_get {l : List Str} {k : Nat} (h : k < l.length) : (vS l)[k]? = some (.str l[k]) := by
  unfold vS
  rw [List.getElem?_map, List.getElem?_eq_getElem h]
  rfl
theorem vS_get' {l : List Str} {k : Nat} {v : V} (h : (vS l)[k]? = some v) : ∃ hk : k < l.length, v = .str l[k] := by
  have hk := (List.getElem?_eq_some_iff.mp h).1
  rw [vS_len] at hk
  rw [vS_get hk] at h
  exact ⟨hk, (Option.some.inj h).symm⟩
theorem vS_erase (l : List Str) (k : Nat) : (vS l).eraseIdx k = vS (l.eraseIdx k) := by
  unfold vS
  induction l generalizing k with
  | nil => rfl
  | cons z l ih =>
    cases k with
    | zero => rfl
    | succ k => exact congrArg (V.str z :: ·) (ih k)
theorem vS_snoc (l : List Str) (z : Str) : vS l ++ [.str z] = vS (l ++ [z]) := by
  unfold vS
  rw [List.map_append]
  rfl
theorem small {n : Nat} (h : n ≤ 1000) : n < sizeLine := Nat.lt_of_le_of_lt h (by decide)
def spLWeb (K : PySem.W.Frag) : Sp := fun vs H Q _ => ∃ (H0 : Hp) (p : Addr) (mgi mr mw : Nat) (st : Bool), vs = [.ref p, .int (mgi : Int), .int (mr : Int), .int (mw : Int), .bl st] ∧ Same H0 H ∧ H0 p = none ∧ Src H p ∧ mgi ≤ 3 ∧ 1 ≤ mr ∧ mr ≤ 6 ∧ 1 ≤ mw ∧ mw ≤ 4 ∧
  ∀ a gs rs H', Same H0 H' → Src H' p → WebL K H' a gs rs → DrawnW gs rs → (∀ r ∈ rs, ∃ n b ws, r.mkr = .mak n b ws) → gs.length ≤ mgi → rs.length ≤ mr → Q (.ref a) H'
theorem sc__law_web : FnScope ["_law_source_here", "_law_most_givens", "_law_most_rows", "_law_most_ways", "_law_stops", "_law_menu", "_law_names", "_law_many", "_law_rows", "_law_k", "_law_told", "_law_name", "_law_inlets", "_law_sources"] ["_law_source_here", "_law_most_givens", "_law_most_rows", "_law_most_ways", "_law_stops"] (defScope s__law_web) := ⟨rfl, rfl, rfl, by decide +kernel, rfl, by decide +kernel, by decide +kernel⟩
theorem inl_le : ∀ k, k < 8 → (1 : Int) ≤ ([1, 2, 1, 2, 3, 1, 2, 1] : List Int).getD k 0 ∧ ([1, 2, 1, 2, 3, 1, 2, 1] : List Int).getD k 0 ≤ 3 := by decide
section
variable {P : Program} {w : World} {K : PySem.W.Frag} {mg : Str → Option Value} {base : Heap} {gs fs : List Str} {C : Addr}
theorem ok__law_web {f : Addr} {fd : FuncData} (F : FunD K "_law_web" "_law_web" (defArgs s__law_web) (defBody s__law_web) (defScope s__law_web) [] [] f fd) (T : Txt K mg gs FS) (c__law_pick : Cal P w K mg base 1 "_law_pick" spPick) (c__law_maker : Cal P w K mg base 3 "_law_maker" (spLMaker K)) : FnOk P w K mg base CX0 4 f fd ["_law_source_here", "_law_most_givens", "_law_most_rows", "_law_most_ways", "_law_stops"] (spLWeb K) := by
  refine F.ok sc__law_web (fun vs H Q E h => ?_) (fun cdv A outer s H vs Q E hr h => ?_)
  · obtain ⟨H0, p, mgi, mr, mw, st, rfl, _⟩ := h
    rfl
  · obtain ⟨H0, p, mgi, mr, mw, st, rfl, s0, n0, hs, g3, r1, r6, w1, w4, q⟩ := h
    refine ⟨_, PSs.nox (pss_cons (ps_set (i := 5) sc__law_web.nd rfl (Or.inl rfl) (pe_lst (pa_cons pe_str (pa_cons pe_str (pa_cons pe_str (pa_cons pe_str (pa_cons pe_str (pa_cons pe_str (pa_cons pe_str (pa_cons pe_str (pa_cons pe_str (pa_cons pe_str (pa_cons pe_str (pa_cons pe_str pa_nil)))))))))))))) (pss_cons (ps_set (i := 6) sc__law_web.nd rfl (Or.inr rfl) (pe_lst pa_nil)) (pss_cons (ps_set (i := 7) sc__law_web.nd rfl (Or.inl rfl) (pe_c c__law_pick hr (by decide) rfl (pa_cons (pv 0) (pa_cons (pe_op op_add (pv 1) pe_int) pa_nil)))) (pss_cons (ps_set (i := 8) sc__law_web.nd rfl (Or.inl rfl) (pe_op op_add pe_int (pe_c c__law_pick hr (by decide) rfl (pa_cons (pv 0) (pa_cons (pv 2) pa_nil))))) (pss_cons (ps_for PassesOwn.never rfl (pi_range1 rfl (T.fr _ (by decide +kernel)) (pa_cons (pe_op op_add (pv 7) (pv 8)) pa_nil)) (pg_name (i := 9) sc__law_web.nd rfl (Or.inl rfl)) (pss_one (ps_expr (pe_bm PySem.F.plainAttrs_list PySem.F.slot_list_append PySem.F.type_list_append mt_append (pv 6) (pa_cons (pe_bm PySem.F.plainAttrs_list PySem.F.slot_list_pop PySem.F.type_list_pop mt_popAt (pv 5) (pa_cons (pe_c c__law_pick hr (by decide) rfl (pa_cons (pv 0) (pa_cons (pe_callB call_len_seq rfl (T.fr _ (by decide +kernel)) boot_len (pa_cons (pv 5) pa_nil)) pa_nil))) pa_nil)) pa_nil))))) (pss_cons (ps_set (i := 10) sc__law_web.nd rfl (Or.inl rfl) (pe_lst pa_nil)) (pss_cons (ps_for PassesOwn.never rfl (pi_list (pe_slice sl_list (pv 6) (po_some (pv 7)) po_none)) (pg_name (i := 11) sc__law_web.nd rfl (Or.inl rfl)) (pss_cons (ps_set (i := 12) sc__law_web.nd rfl (Or.inl rfl) (pe_ix (ixl (K := K)) (pe_lst (pa_cons pe_int (pa_cons pe_int (pa_cons pe_int (pa_cons pe_int (pa_cons pe_int (pa_cons pe_int (pa_cons pe_int (pa_cons pe_int pa_nil))))))))) (pe_c c__law_pick hr (by decide) rfl (pa_cons (pv 0) (pa_cons pe_int pa_nil))) fun _ _ => rfl)) (pss_cons (ps_setLc (i := 13) (own := [("_law_k", 9)]) rfl sc__law_web.nd rfl rfl (sw_true rfl rfl rfl (by decide +kernel)) (pi_range1 rfl (T.fr _ (by decide +kernel)) (pa_cons (pv 12) pa_nil)) (blkOk_by (N := ["_law_source_here", "_law_most_givens", "_law_most_rows", "_law_most_ways", "_law_stops", "_law_menu", "_law_names", "_law_many", "_law_rows", "_law_k", "_law_told", "_law_name", "_law_inlets", "_law_sources"]) (sc := defScope s__law_web) (by decide +kernel)) (fun _ _ _ _ _ => by exact (pg_name (i := 9) sc__law_web.nd rfl (Or.inl rfl))) (fun _ _ _ _ _ => by exact pts_nil) (fun _ _ _ _ _ => by exact (pe_ix (ixl (K := K)) (pv 6) (pe_c c__law_pick hr (by decide) rfl (pa_cons (pv 0) (pa_cons (pe_callB (call_lenK (K := K)) rfl (T.fr _ (by decide +kernel)) boot_len (pa_cons (pv 6) pa_nil)) pa_nil))) fun _ _ => rfl))) (pss_one (ps_expr (pe_bm PySem.F.plainAttrs_list PySem.F.slot_list_append PySem.F.type_list_append mt_append (pv 10) (pa_cons (pe_tup (pa_cons (pv 11) (pa_cons (pe_c c__law_maker hr (by decide) rfl (pa_cons (pv 0) (pa_cons (pv 12) (pa_cons (pv 3) (pa_cons (pv 4) pa_nil))))) (pa_cons (pe_callTy cr_tup rfl (T.fr _ (by decide +kernel)) (by decide +kernel) (pa_cons (pv 13) pa_nil)) pa_nil)))) pa_nil))))))) (pss_one (ps_ret (pe_tup (pa_cons (pe_callTy cr_tup rfl (T.fr _ (by decide +kernel)) (by decide +kernel) (pa_cons (pe_slice sl_list (pv 6) po_none (po_some (pv 7))) pa_nil)) (pa_cons (pe_callTy cr_tup rfl (T.fr _ (by decide +kernel)) (by decide +kernel) (pa_cons (pv 10) pa_nil)) pa_nil)))))))))))), ?_⟩
    refine ⟨(by show 12 ≤ sizeLine; decide), fun M hM => ?_⟩
    have hMp : M ≠ p := src_ne (o := .lst []) hs hM
    have h0M := same_none s0 hM
    have hs1 : Src (upd H M (.lst (vS MENU))) p := src_put hs hMp
    have s1 : Same H0 (upd H M (.lst (vS MENU))) := NF.Same.put s0 h0M
    have hM1 : upd H M (.lst (vS MENU)) M = some (.lst (vS MENU)) := upd_same
    have ek : upd H M (.lst [V.str "g", V.str "h", V.str "x", V.str "y", V.str "z", V.str "w", V.str "ab", V.str "ba", V.str "row", V.str "given", V.str "by", V.str "of"]) = upd H M (.lst (vS MENU)) := rfl
    rw [ek]
    generalize upd H M (.lst (vS MENU)) = H1 at hs1 s1 hM1
    refine ⟨(by show 0 ≤ sizeLine; decide), fun N hN => ?_⟩
    have hNp : N ≠ p := src_ne (o := .lst []) hs1 hN
    have h0N := same_none s1 hN
    have hMN : M ≠ N := ne_of_none hM1 hN
    have hs2 := src_put (o := .lst []) hs1 hNp
    have s2 := NF.Same.put (o := .lst []) s1 h0N
    have hM2 := (upd_ne (o := .lst []) hMN).trans hM1
    have hN2 := upd_same (H := H1) (a := N) (o := .lst [])
    generalize upd H1 N (.lst []) = H2 at hs2 s2 hM2 hN2
    refine ⟨_, rfl, _, rfl, _, _, rfl, rfl, wo H2 p, p, (mgi : Int) + 1, rfl, wo_same', wo_none, hs2, by omega, by omega, fun d G1 d0 d1 t1 hs3 => ?_⟩
    obtain ⟨gm, rfl⟩ : ∃ n : Nat, d = n := ⟨d.toNat, by omega⟩
    have s3 := wo_same s2 n0 t1
    have hM3 := t1 _ _ ((wo_ne hMp).trans hM2)
    have hN3 := t1 _ _ ((wo_ne hNp).trans hN2)
    refine ⟨_, rfl, _, rfl, wo G1 p, p, (mr : Int), rfl, wo_same', wo_none, hs3, by omega, by omega, fun d' G2 d0' d1' t2 hs4 => ?_⟩
    obtain ⟨rk, rfl⟩ : ∃ n : Nat, d' = n := ⟨d'.toNat, by omega⟩
    have s4 := wo_same s3 n0 t2
    have hM4 := t2 _ _ ((wo_ne hMp).trans hM3)
    have hN4 := t2 _ _ ((wo_ne hNp).trans hN3)
    refine ⟨_, _, rfl, rfl, ?_⟩
    refine ⟨_, rfl, _, rfl, _, _, rfl, rfl, _, rfl, by omega, by omega, ?_⟩
    rw [show ((gm : Int) + (1 + (rk : Int))).toNat = gm + (1 + rk) by omega]
    refine for_range (lo := 0) (n := gm + (1 + rk)) (fun j σ G => Same H0 G ∧ Src G p ∧ (∃ ms ns : List Str, G M = some (.lst (vS ms)) ∧ G N = some (.lst (vS ns)) ∧ ns.length = j ∧ (ns ++ ms).Perm MENU) ∧ ∃ v9 : Option V, σ = [some (.ref p), some (.int (mgi : Int)), some (.int (mr : Int)), some (.int (mw : Int)), some (.bl st), some (.ref M), some (.ref N), some (.int (gm : Int)), some (.int (1 + (rk : Int))), v9, none, none, none, none])
      ⟨s4, hs4, ⟨MENU, [], hM4, hN4, rfl, .refl _⟩, none, rfl⟩ ?_ ?_
    · rintro j σ G hj ⟨sG, hsG, ⟨ms, ns, hMG, hNG, nl, pm⟩, v9, rfl⟩
      have ml : ms.length = 12 - j := by
        have := pm.length_eq
        rw [List.length_append, nl] at this
        have e : MENU.length = 12 := rfl
        omega
      refine ⟨_, rfl, .inl ⟨rfl, _, SqL.of hNG⟩, _, rfl, .inl ⟨rfl, _, SqL.of hMG⟩, _, rfl, _, rfl, M, _, rfl, .inl (SqL.of hMG), ?_⟩
      rw [vS_len]
      refine ⟨wo G p, p, (ms.length : Int), rfl, wo_same', wo_none, hsG, by omega, by omega, fun i Ga i0 i1 ta hsa => ?_⟩
      obtain ⟨k, rfl⟩ : ∃ n : Nat, i = n := ⟨i.toNat, by omega⟩
      have hk : k < ms.length := by omega
      have sa := wo_same sG n0 ta
      have hMa := ta _ _ ((wo_ne hMp).trans hMG)
      have hNa := ta _ _ ((wo_ne hNp).trans hNG)
      refine ⟨M, _, (k : Int), k, _, rfl, rfl, hMa, by omega, by omega, by rw [vS_len]; exact seq_ix hk, vS_get hk, ?_⟩
      rw [vS_erase]
      have hNb := (upd_ne (o := .lst (vS (ms.eraseIdx k))) (Ne.symm hMN)).trans hNa
      refine ⟨N, _, _, rfl, rfl, hNb, by rw [vS_len]; exact small (by omega), ?_⟩
      rw [vS_snoc]
      refine ⟨NF.Same.put (NF.Same.put sa h0M) h0N, src_put (src_put hsa hMp) hNp, ⟨ms.eraseIdx k, ns ++ [ms[k]], ?_, upd_same, by simp [nl], ?_⟩, _, rfl⟩
      · rw [upd_ne hMN, upd_same]
      · rw [List.append_assoc]
        exact (List.Perm.append_left ns (perm_pop ms k hk)).trans pm
    rintro σ G ⟨sG, hsG, ⟨ms, ns, hMG, hNG, nl, pm⟩, v9, rfl⟩
    have nnd : ns.Nodup := by
      have := (List.Perm.nodup_iff pm).mpr menu_nd
      exact (List.nodup_append.mp this).1
    have nin : ∀ z ∈ ns, z ∈ MENU := fun z hz => (List.Perm.mem_iff pm).mp (List.mem_append_left _ hz)
    clear hMG pm
    refine ⟨(by show 0 ≤ sizeLine; decide), fun D hD => ?_⟩
    have hDp : D ≠ p := src_ne (o := .lst []) hsG hD
    have h0D := same_none sG hD
    have hND : N ≠ D := ne_of_none hNG hD
    have hs5 := src_put (o := .lst []) hsG hDp
    have s5 := NF.Same.put (o := .lst []) sG h0D
    have hN5 := (upd_ne (o := .lst []) hND).trans hNG
    have hD5 := upd_same (H := G) (a := D) (o := .lst [])
    generalize upd G D (.lst []) = G5 at hs5 s5 hN5 hD5
    refine ⟨_, rfl, _, rfl, _, rfl, N, _, rfl, SqL.of hN5, fun S hS => ⟨S, rfl, ⟨_, SqL.of upd_same⟩, ?_⟩⟩
    rw [cut_from]
    have hSp : S ≠ p := src_ne (o := .lst []) hs5 hS
    have h0S := same_none s5 hS
    have hNS : N ≠ S := ne_of_none hN5 hS
    have hDS : D ≠ S := ne_of_none hD5 hS
    have edr : (vS ns).drop gm = vS (ns.drop gm) := by unfold vS; rw [List.map_drop]
    rw [edr]
    have hs6 := src_put (o := .lst (vS (ns.drop gm))) hs5 hSp
    have s6 := NF.Same.put (o := .lst (vS (ns.drop gm))) s5 h0S
    have hN6 := (upd_ne (o := .lst (vS (ns.drop gm))) hNS).trans hN5
    have hD6 := (upd_ne (o := .lst (vS (ns.drop gm))) hDS).trans hD5
    have hS6 := upd_same (H := G5) (a := S) (o := .lst (vS (ns.drop gm)))
    generalize upd G5 S (.lst (vS (ns.drop gm))) = G6 at hs6 s6 hN6 hD6 hS6
    have dl : (ns.drop gm).length = 1 + rk := by rw [List.length_drop, nl]; omega
    refine for_list (K := K) (a := S) (xs := vS (ns.drop gm)) (fun j σ G => Same H0 G ∧ Src G p ∧ G N = some (.lst (vS ns)) ∧ G S = some (.lst (vS (ns.drop gm))) ∧ (∃ (as : List Addr) (rs : List RowD), G D = some (.lst (as.map V.ref)) ∧ RowsA K G as rs ∧ rs.map RowD.name = (ns.drop gm).take j ∧ (∀ r ∈ rs, DrawnR r ∧ (∃ n b ws, r.mkr = .mak n b ws) ∧ ∀ z ∈ r.srcs, z ∈ ns)) ∧ ∃ v9 v11 v12 v13 : Option V, σ = [some (.ref p), some (.int (mgi : Int)), some (.int (mr : Int)), some (.int (mw : Int)), some (.bl st), some (.ref M), some (.ref N), some (.int (gm : Int)), some (.int (1 + (rk : Int))), v9, some (.ref D), v11, v12, v13])
      ⟨s6, hs6, hN6, hS6, ⟨[], [], hD6, .nil, rfl, fun r h => absurd h (by simp)⟩, _, _, _, _, rfl⟩ (fun j σ G _ z => SqL.of z.2.2.2.1) ?_ ?_
    · rintro j y σ G hy ⟨sG, hsG, hNG, hSG, ⟨as, rs, hDG, ra, rn, rok⟩, v9, v11, v12, v13, rfl⟩
      obtain ⟨hj, rfl⟩ := vS_get' hy
      have rl : rs.length = j := by
        have := congrArg List.length rn
        rw [List.length_map, List.length_take] at this
        omega
      -- how many inlets
      refine ⟨(by show 8 ≤ sizeLine; decide), fun t ht => ?_⟩
      have htp : t ≠ p := src_ne (o := .lst []) hsG ht
      have hs7 : Src (upd G t (.lst (vI [1, 2, 1, 2, 3, 1, 2, 1]))) p := src_put hsG htp
      have s7 : Same G (upd G t (.lst (vI [1, 2, 1, 2, 3, 1, 2, 1]))) := NF.Same.new (Same.refl _) ht
      have ht7 : upd G t (.lst (vI [1, 2, 1, 2, 3, 1, 2, 1])) t = some (.lst (vI [1, 2, 1, 2, 3, 1, 2, 1])) := upd_same
      have ek : upd G t (.lst [V.int 1, V.int 2, V.int 1, V.int 2, V.int 3, V.int 1, V.int 2, V.int 1]) = upd G t (.lst (vI [1, 2, 1, 2, 3, 1, 2, 1])) := rfl
      rw [ek]
      generalize upd G t (.lst (vI [1, 2, 1, 2, 3, 1, 2, 1])) = G7 at hs7 s7 ht7
      refine ⟨_, rfl, wo G7 p, p, 8, rfl, wo_same', wo_none, hs7, by decide, by decide, fun d8 G8 e0 e1 t8 hs8 => ?_⟩
      obtain ⟨v, hv, v0, v1⟩ := idx_k (l := [1, 2, 1, 2, 3, 1, 2, 1]) (n := 8) (lo := 1) (hi := 3) e0 e1 rfl inl_le
      obtain ⟨n, rfl⟩ : ∃ n : Nat, v = n := ⟨v.toNat, by omega⟩
      refine ⟨t, _, _, _, rfl, rfl, SqL.of (t8 _ _ ((wo_ne htp).trans ht7)), hv, ?_⟩
      have o8 : Out p G G8 := (Out.of_same hsG s7).trans (Out.of_pick t8 hs8)
      -- the sources
      refine ⟨_, rfl, (n : Int), rfl, by omega, by omega, fun B hB => ?_⟩
      have hBp : B ≠ p := src_ne (o := .lst []) hs8 hB
      have hNW : NF.wo G8 p N = some (.lst (vS ns)) := o8.2 _ _ ((wo_ne hNp).trans hNG)
      refine lc_range (lo := 0) (n := n) (fun i G' => Src G' p ∧ Same (NF.wo G8 p) G' ∧ ∃ ss : List Str, ss.length = i ∧ (∀ z ∈ ss, z ∈ ns) ∧ G' B = some (.lst (vS ss))) ⟨src_put hs8 hBp, NF.Same.put wo_same' ((wo_ne hBp).trans hB), [], rfl, (fun z h => absurd h (by simp)), upd_same⟩ ?_ ?_
      · rintro i G' hi ⟨hs', s', ss, sl, sin, hBG⟩
        have hN' := s' _ _ hNW
        refine ⟨rfl, _, rfl, _, rfl, _, rfl, N, _, rfl, .inl (SqL.of hN'), ?_⟩
        rw [vS_len]
        refine ⟨wo G' p, p, (ns.length : Int), rfl, wo_same', wo_none, hs', by omega, by omega, fun e Ge e0 e1 te hse => ?_⟩
        obtain ⟨k, rfl⟩ : ∃ n : Nat, e = n := ⟨e.toNat, by omega⟩
        have hk : k < ns.length := by omega
        have hBe := te _ _ ((wo_ne hBp).trans hBG)
        refine ⟨N, _, _, _, rfl, rfl, SqL.of (te _ _ ((wo_ne hNp).trans hN')), atI_nat (vS_get hk), ?_⟩
        refine ⟨_, hBe, by rw [vS_len, sl]; exact small (by omega), src_put hse hBp, NF.Same.put (wo_same s' wo_none te) ((wo_ne hBp).trans hB), ss ++ [ns[k]], by simp [sl], fun z hz => ?_, ?_⟩
        · rcases List.mem_append.mp hz with hz | hz
          · exact sin z hz
          · rw [List.mem_singleton.mp hz]
            exact List.getElem_mem hk
        · rw [upd_same, vS_snoc]
      rintro G' ⟨hs', s', ss, sl, sin, hBG⟩
      have o9 : Out p G G' := o8.trans ⟨hs', wo_into wo_none s'⟩
      have raG := (ra.wo hsG)
      have hDW : NF.wo G' p D = some (.lst (as.map V.ref)) := o9.2 _ _ ((wo_ne hDp).trans hDG)
      have hD' : G' D = some (.lst (as.map V.ref)) := wo_same' _ _ hDW
      have hBW : NF.wo G' p B = some (.lst (vS ss)) := (wo_ne hBp).trans hBG
      -- the row
      refine ⟨_, rfl, .inl ⟨rfl, _, SqL.of hD'⟩, _, rfl, _, rfl, _, rfl, _, rfl, _, rfl, NF.wo G' p, p, n, mw, st, rfl, wo_same', wo_none, hs', by omega, by omega, w1, w4, fun x b ws Gm tm hsm dr mt => ?_⟩
      refine ⟨_, rfl, B, _, rfl, .inl (SqL.of (tm _ _ hBW)), fun p2 G2' u2 t2' => ?_⟩
      refine ⟨(by show 3 ≤ sizeLine; decide), fun X hX => ?_⟩
      have u3 := NF.Same.new (o := .tup [V.str (ns.drop gm)[j], V.ref x, V.ref p2]) (Same.refl G2') hX
      have hX' := upd_same (H := G2') (a := X) (o := .tup [V.str (ns.drop gm)[j], V.ref x, V.ref p2])
      generalize upd G2' X (.tup [V.str (ns.drop gm)[j], V.ref x, V.ref p2]) = G3' at u3 hX'
      have um := Same.trans u2 u3
      have sGm := Same.trans tm um
      have hDX := sGm _ _ hDW
      refine ⟨D, _, _, rfl, rfl, hDX, by rw [List.length_map, ra.1, rl]; exact small (by omega), ?_⟩
      have raX : RowsA K G3' as rs := (raG.mono o9.2).mono sGm
      have rX : RowL K G3' X ⟨(ns.drop gm)[j], .mak n b ws, ss⟩ := ⟨.ref x, p2, SqT.of hX', ⟨x, rfl, mt.mono um⟩, NF.Same.tup u3 t2'⟩
      have s0X : Same H0 G3' := fun a o e => sGm _ _ (o9.2 _ _ ((wo_ne (ne_of_none e n0)).trans (sG _ _ e)))
      refine ⟨NF.Same.put s0X h0D, src_put (Src.mono hsm um) hDp, ?_, ?_, ⟨as ++ [X], rs ++ [⟨(ns.drop gm)[j], .mak n b ws, ss⟩], ?_, (raX.snoc rX).put hDX, ?_, ?_⟩, _, _, _, _, rfl⟩
      · rw [upd_ne hND]
        exact sGm _ _ (o9.2 _ _ ((wo_ne hNp).trans hNG))
      · rw [upd_ne (Ne.symm hDS)]
        exact sGm _ _ (o9.2 _ _ ((wo_ne hSp).trans hSG))
      · rw [upd_same, List.map_append]
        rfl
      · rw [List.map_append, rn, take_snoc (List.getElem?_eq_getElem hj)]
        rfl
      · intro r hr
        rcases List.mem_append.mp hr with hr | hr
        · exact rok r hr
        · rw [List.mem_singleton.mp hr]
          exact ⟨⟨by rw [sl]; omega, by rw [sl]; omega, (fun u e => by cases e), fun n' b' ws' e => by cases e; exact ⟨sl.symm, dr⟩⟩, ⟨n, b, ws, rfl⟩, sin⟩
    · rintro σ G ⟨sG, hsG, hNG, hSG, ⟨as, rs, hDG, ra, rn, rok⟩, v9, v11, v12, v13, rfl⟩
      rw [vS_len, List.take_length] at rn
      refine ⟨_, rfl, _, rfl, _, rfl, N, _, rfl, SqL.of hNG, fun S2 hS2 => ?_⟩
      rw [cut_to]
      have etk : (vS ns).take gm = vS (ns.take gm) := by unfold vS; rw [List.map_take]
      rw [etk]
      have u1 := NF.Same.new (o := .lst (vS (ns.take gm))) (Same.refl G) hS2
      refine ⟨S2, _, rfl, .inl (SqL.of upd_same), fun p1 G1 u2 t1 => ?_⟩
      have u12 := Same.trans u1 u2
      refine ⟨_, rfl, D, _, rfl, .inl (SqL.of (u12 _ _ hDG)), fun p2 G2 u3 t2 => ?_⟩
      refine ⟨(by show 2 ≤ sizeLine; decide), fun a ha => ?_⟩
      have u4 := NF.Same.new (o := .tup [V.ref p1, V.ref p2]) (Same.refl G2) ha
      have u34 := Same.trans u3 u4
      have uu := Same.trans u12 u34
      have e : ns.take gm ++ rs.map RowD.name = ns := by rw [rn, List.take_append_drop]
      have rl : rs.length = 1 + rk := by
        have := congrArg List.length rn
        rw [List.length_map] at this
        omega
      refine q a (ns.take gm) rs _ (Same.trans sG uu) (Src.mono hsG uu) ⟨p1, p2, as, SqT.of upd_same, NF.Same.tup u34 t1, NF.Same.tup u4 t2, ra.mono uu⟩ ?_ (fun r hr => (rok r hr).2.1) (by rw [List.length_take]; omega) (by omega)
      exact ⟨by rw [List.length_take]; omega, by omega, by omega, by rw [e]; exact nin, fun r hr => (rok r hr).1, by rw [e]; exact nnd, fun r hr z hz => by rw [e]; exact (rok r hr).2.2 z hz⟩
end
end K29
set_option Elab.async false
set_option linter.all false
set_option maxRecDepth 100000
set_option maxHeartbeats 4000000
namespace K29
open PySem PySem.Spec PyProof.Rows L2 He NF RZ NT
def spLOpened (K : PySem.W.Frag) : Sp := fun vs H Q _ => ∃ (H0 : Hp) (p a : Addr) (m : Nat) (gs : List Str) (rs : List RowD), vs = [.ref p, .ref a, .int (m : Int)] ∧ Same H0 H ∧ H0 p = none ∧ Src H p ∧ WebL K H0 a gs rs ∧ DrawnW gs rs ∧ m ≤ 1000 ∧
  ∀ a' rs' H', Same H0 H' → Src H' p → WebL K H' a' gs rs' → DrawnW gs rs' → Q (.ref a') H'
def menuD (l1 l2 l3 : Addr) : List (L2.Key × V) := [(.inl 1, .ref l1), (.inl 2, .ref l2), (.inl 3, .ref l3)]
theorem menuD_get {l1 l2 l3 : Addr} {H : Hp} {n : Nat} (n1 : 1 ≤ n) (n3 : n ≤ 3) (h1 : H l1 = some (.lst (vS (unkM 1)))) (h2 : H l2 = some (.lst (vS (unkM 2)))) (h3 : H l3 = some (.lst (vS (unkM 3)))) : ∃ l, valV (menuD l1 l2 l3) (.inl (n : Int)) = some (.ref l) ∧ H l = some (.lst (vS (unkM n))) ∧ (l = l1 ∨ l = l2 ∨ l = l3) := by
  rcases (show n = 1 ∨ n = 2 ∨ n = 3 by omega) with rfl | rfl | rfl
  · exact ⟨l1, by rfl, h1, .inl rfl⟩
  · exact ⟨l2, by rfl, h2, .inr (.inl rfl)⟩
  · exact ⟨l3, by rfl, h3, .inr (.inr rfl)⟩
theorem unkM_len (n : Nat) : (unkM n).length = 3 := by
  unfold unkM
  split <;> rfl
theorem map_set {α β : Type} (f : α → β) : ∀ (l : List α) (i : Nat) (x : α), (∀ y, l[i]? = some y → f x = f y) → (l.set i x).map f = l.map f
  | [], _, _, _ => rfl
  | y :: l, 0, x, h => by
    show f x :: l.map f = f y :: l.map f
    rw [h y rfl]
  | y :: l, i + 1, x, h => congrArg (f y :: ·) (map_set f l i x h)
theorem DrawnW.change {gs : List Str} {rs rs' : List RowD} (d : DrawnW gs rs) (h1 : rs'.map RowD.name = rs.map RowD.name) (h2 : rs'.map RowD.srcs = rs.map RowD.srcs) (h3 : ∀ r ∈ rs', DrawnR r) : DrawnW gs rs' := by
  have hl : rs'.length = rs.length := by
    have := congrArg List.length h1
    rwa [List.length_map, List.length_map] at this
  refine ⟨d.g3, by rw [hl]; exact d.r1, by rw [hl]; exact d.r6, by rw [h1]; exact d.menu, h3, by rw [h1]; exact d.nd, fun r hr z hz => ?_⟩
  rw [h1]
  have : r.srcs ∈ rs.map RowD.srcs := by
    rw [← h2]
    exact List.mem_map_of_mem hr
  obtain ⟨r0, hr0, e⟩ := List.mem_map.mp this
  exact d.inn r0 hr0 z (by rw [e]; exact hz)
theorem sc__law_opened : FnScope ["_law_source_here", "_law_web_here", "_law_most", "_law_menu", "_law_rows", "_law_turn", "_law_place", "_law_name", "_law_maker_here", "_law_sources"] ["_law_source_here", "_law_web_here", "_law_most"] (defScope s__law_opened) := ⟨rfl, rfl, rfl, by decide +kernel, rfl, by decide +kernel, by decide +kernel⟩
section
variable {P : Program} {w : World} {K : PySem.W.Frag} {mg : Str → Option Value} {base : Heap} {gs fs : List Str} {C : Addr}
theorem ok__law_opened {f : Addr} {fd : FuncData} (F : FunD K "_law_opened" "_law_opened" (defArgs s__law_opened) (defBody s__law_opened) (defScope s__law_opened) [] [] f fd) (T : Txt K mg gs FS) (c__law_pick : Cal P w K mg base 1 "_law_pick" spPick) : FnOk P w K mg base CX0 2 f fd ["_law_source_here", "_law_web_here", "_law_most"] (spLOpened K) := by
  refine F.ok sc__law_opened (fun vs H Q E h => ?_) (fun cdv A outer s H vs Q E hr h => ?_)
  · obtain ⟨H0, p, a, m, gs, rs, rfl, _⟩ := h
    rfl
  · obtain ⟨H0, p, a, m, gs, rs, rfl, s0, n0, hs, ⟨pg, pr, as, ha, hg, hpr, ra⟩, d, m1, q⟩ := h
    have hu1 : (A.deeper (envOfC "_law_opened" (defScope s__law_opened) s.heap.objs.size f cdv)).units + 1 < cLine := by
      have := hr.un
      omega
    refine ⟨_, PSs.nox (pss_cons (ps_set (i := 3) sc__law_opened.nd rfl (Or.inl rfl) (pe_disp (pps_cons pe_int (pe_lst (pa_cons pe_str (pa_cons pe_str (pa_cons pe_str pa_nil)))) (pps_cons pe_int (pe_lst (pa_cons pe_str (pa_cons pe_str (pa_cons pe_str pa_nil)))) (pps_cons pe_int (pe_lst (pa_cons pe_str (pa_cons pe_str (pa_cons pe_str pa_nil)))) pps_nil))) rfl rfl (fun z => nomatch z) (by decide))) (pss_cons (ps_set (i := 4) sc__law_opened.nd rfl (Or.inl rfl) (pe_callTy call_list_of rfl (T.fr _ (by decide +kernel)) (by decide +kernel) (pa_cons (pe_ix (ixt (K := K)) (pv 1) pe_int fun _ _ => rfl) pa_nil))) (pss_cons (ps_for PassesOwn.never rfl (pi_range1 rfl (T.fr _ (by decide +kernel)) (pa_cons (pe_c c__law_pick hr (by decide) rfl (pa_cons (pv 0) (pa_cons (pe_op op_add (pv 2) pe_int) pa_nil))) pa_nil)) (pg_name (i := 5) sc__law_opened.nd rfl (Or.inl rfl)) (pss_cons (ps_set (i := 6) sc__law_opened.nd rfl (Or.inl rfl) (pe_c c__law_pick hr (by decide) rfl (pa_cons (pv 0) (pa_cons (pe_callB call_len_seq rfl (T.fr _ (by decide +kernel)) boot_len (pa_cons (pv 4) pa_nil)) pa_nil)))) (pss_cons (ps_asg (pe_ix (ixl (K := K)) (pv 4) (pv 6) fun _ _ => rfl) (pgt (K := K) (n := 3) rfl rfl (pgs_cons (pg_name (i := 7) sc__law_opened.nd rfl (Or.inl rfl)) (pgs_cons (pg_name (i := 8) sc__law_opened.nd rfl (Or.inl rfl)) (pgs_cons (pg_name (i := 9) sc__law_opened.nd rfl (Or.inl rfl)) pgs_nil))))) (pss_one (ps_asg (pe_tup (pa_cons (pv 7) (pa_cons (pe_ix (ixl (K := K)) (pe_dget hu1 (pv 3) (pe_callB call_len_seq rfl (T.fr _ (by decide +kernel)) boot_len (pa_cons (pv 9) pa_nil)) (fun _ _ => rfl)) (pe_c c__law_pick hr (by decide) rfl (pa_cons (pv 0) (pa_cons pe_int pa_nil))) fun _ _ => rfl) (pa_cons (pv 9) pa_nil)))) (pg_sub (pv 4) (pv 6) set_list)))))) (pss_one (ps_ret (pe_tup (pa_cons (pe_ix (ixt (K := K)) (pv 1) pe_int fun _ _ => rfl) (pa_cons (pe_callTy cr_tup rfl (T.fr _ (by decide +kernel)) (by decide +kernel) (pa_cons (pv 4) pa_nil)) pa_nil)))))))), ?_⟩
    refine fun M hM => ?_
    have hMp : M ≠ p := src_ne (o := .lst []) hs hM
    have h0M := same_none s0 hM
    have hs1 := src_put (o := .dK []) hs hMp
    have s1 := NF.Same.put (o := .dK []) s0 h0M
    have hM1 := upd_same (H := H) (a := M) (o := .dK [])
    generalize upd H M (.dK []) = H1 at hs1 s1 hM1
    refine ⟨(by show 3 ≤ sizeLine; decide), fun l1 hl1 => ?_⟩
    have p1 : l1 ≠ p := src_ne (o := .lst []) hs1 hl1
    have m1' : M ≠ l1 := ne_of_none hM1 hl1
    have hs2 := src_put (o := .lst (vS (unkM 1))) hs1 p1
    have s2 := NF.Same.put (o := .lst (vS (unkM 1))) s1 (same_none s1 hl1)
    have hM2 := (upd_ne (o := .lst (vS (unkM 1))) m1').trans hM1
    have hA2 := upd_same (H := H1) (a := l1) (o := .lst (vS (unkM 1)))
    have n1 := same_none s1 hl1
    have ek : upd H1 l1 (.lst [V.str "f", V.str "by", V.str "f"]) = upd H1 l1 (.lst (vS (unkM 1))) := rfl
    rw [ek]
    generalize upd H1 l1 (.lst (vS (unkM 1))) = H2 at hs2 s2 hM2 hA2
    refine ⟨(by show 3 ≤ sizeLine; decide), fun l2 hl2 => ?_⟩
    have p2 : l2 ≠ p := src_ne (o := .lst []) hs2 hl2
    have m2' : M ≠ l2 := ne_of_none hM2 hl2
    have a2' : l1 ≠ l2 := ne_of_none hA2 hl2
    have hs3 := src_put (o := .lst (vS (unkM 2))) hs2 p2
    have s3 := NF.Same.put (o := .lst (vS (unkM 2))) s2 (same_none s2 hl2)
    have hM3 := (upd_ne (o := .lst (vS (unkM 2))) m2').trans hM2
    have hA3 := (upd_ne (o := .lst (vS (unkM 2))) a2').trans hA2
    have hB3 := upd_same (H := H2) (a := l2) (o := .lst (vS (unkM 2)))
    have n2 := same_none s2 hl2
    have ek : upd H2 l2 (.lst [V.str "k", V.str "ab", V.str "k"]) = upd H2 l2 (.lst (vS (unkM 2))) := rfl
    rw [ek]
    generalize upd H2 l2 (.lst (vS (unkM 2))) = H3 at hs3 s3 hM3 hA3 hB3
    refine ⟨(by show 3 ≤ sizeLine; decide), fun l3 hl3 => ?_⟩
    have p3 : l3 ≠ p := src_ne (o := .lst []) hs3 hl3
    have m3' : M ≠ l3 := ne_of_none hM3 hl3
    have a3' : l1 ≠ l3 := ne_of_none hA3 hl3
    have b3' : l2 ≠ l3 := ne_of_none hB3 hl3
    have hs4 := src_put (o := .lst (vS (unkM 3))) hs3 p3
    have s4 := NF.Same.put (o := .lst (vS (unkM 3))) s3 (same_none s3 hl3)
    have hM4 := (upd_ne (o := .lst (vS (unkM 3))) m3').trans hM3
    have hA4 := (upd_ne (o := .lst (vS (unkM 3))) a3').trans hA3
    have hB4 := (upd_ne (o := .lst (vS (unkM 3))) b3').trans hB3
    have hC4 := upd_same (H := H3) (a := l3) (o := .lst (vS (unkM 3)))
    have n3 := same_none s3 hl3
    have ek : upd H3 l3 (.lst [V.str "of", V.str "of", V.str "m"]) = upd H3 l3 (.lst (vS (unkM 3))) := rfl
    rw [ek]
    generalize upd H3 l3 (.lst (vS (unkM 3))) = H4 at hs4 s4 hM4 hA4 hB4 hC4
    refine ⟨hM4, menuD l1 l2 l3, rfl, (by show 3 ≤ 15; decide), ?_⟩
    have em : mergeK [] (menuD l1 l2 l3) = menuD l1 l2 l3 := by rfl
    rw [em]
    have hs5 := src_put (o := .dK (menuD l1 l2 l3)) hs4 hMp
    have s5 := NF.Same.put (o := .dK (menuD l1 l2 l3)) s4 h0M
    have hM5 := upd_same (H := H4) (a := M) (o := .dK (menuD l1 l2 l3))
    have hA5 := (upd_ne (o := .dK (menuD l1 l2 l3)) (Ne.symm m1')).trans hA4
    have hB5 := (upd_ne (o := .dK (menuD l1 l2 l3)) (Ne.symm m2')).trans hB4
    have hC5 := (upd_ne (o := .dK (menuD l1 l2 l3)) (Ne.symm m3')).trans hC4
    generalize upd H4 M (.dK (menuD l1 l2 l3)) = H5 at hs5 s5 hM5 hA5 hB5 hC5
    -- the rows as a list
    refine ⟨_, rfl, a, _, _, _, rfl, rfl, NF.Same.tup s5 ha, (rfl : atI [V.ref pg, V.ref pr] 1 = some (V.ref pr)), pr, _, rfl, .inr (NF.Same.tup s5 hpr), fun R hR => ?_⟩
    have hRp : R ≠ p := src_ne (o := .lst []) hs5 hR
    have h0R := same_none s5 hR
    have mR : M ≠ R := ne_of_none hM5 hR
    have aR : l1 ≠ R := ne_of_none hA5 hR
    have bR : l2 ≠ R := ne_of_none hB5 hR
    have cR : l3 ≠ R := ne_of_none hC5 hR
    have hs6 := src_put (o := .lst (as.map V.ref)) hs5 hRp
    have s6 := NF.Same.put (o := .lst (as.map V.ref)) s5 h0R
    have hM6 := (upd_ne (o := .lst (as.map V.ref)) mR).trans hM5
    have hA6 := (upd_ne (o := .lst (as.map V.ref)) aR).trans hA5
    have hB6 := (upd_ne (o := .lst (as.map V.ref)) bR).trans hB5
    have hC6 := (upd_ne (o := .lst (as.map V.ref)) cR).trans hC5
    have hR6 := upd_same (H := H5) (a := R) (o := .lst (as.map V.ref))
    generalize upd H5 R (.lst (as.map V.ref)) = H6 at hs6 s6 hM6 hA6 hB6 hC6 hR6
    refine ⟨_, rfl, _, rfl, _, _, rfl, rfl, wo H6 p, p, (m : Int) + 1, rfl, wo_same', wo_none, hs6, by omega, by omega, fun t H7 t0 t1 u7 hs7 => ?_⟩
    have s7 := wo_same s6 n0 u7
    have r1 := d.r1
    have r6 := d.r6
    refine ⟨t, rfl, by omega, by omega, ?_⟩
    refine for_range (lo := 0) (n := t.toNat) (fun j σ G => Same H0 G ∧ Src G p ∧ G M = some (.dK (menuD l1 l2 l3)) ∧ G l1 = some (.lst (vS (unkM 1))) ∧ G l2 = some (.lst (vS (unkM 2))) ∧ G l3 = some (.lst (vS (unkM 3))) ∧ (∃ (as' : List Addr) (rs' : List RowD), G R = some (.lst (as'.map V.ref)) ∧ RowsA K G as' rs' ∧ rs'.map RowD.name = rs.map RowD.name ∧ rs'.map RowD.srcs = rs.map RowD.srcs ∧ ∀ r ∈ rs', DrawnR r) ∧ ∃ v5 v6 v7 v8 v9 : Option V, σ = [some (.ref p), some (.ref a), some (.int (m : Int)), some (.ref M), some (.ref R), v5, v6, v7, v8, v9])
      ⟨s7, hs7, u7 _ _ ((wo_ne hMp).trans hM6), u7 _ _ ((wo_ne p1).trans hA6), u7 _ _ ((wo_ne p2).trans hB6), u7 _ _ ((wo_ne p3).trans hC6), ⟨as, rs, u7 _ _ ((wo_ne hRp).trans hR6), ra.mono s7, rfl, rfl, d.row⟩, _, _, _, _, _, rfl⟩ ?_ ?_
    · rintro j σ G hj ⟨sG, hsG, hMG, hAG, hBG, hCG, ⟨as', rs', hRG, ra', e1, e2, dr⟩, v5, v6, v7, v8, v9, rfl⟩
      have hl' : as'.length = rs'.length := ra'.1
      have hl2 : rs'.length = rs.length := by
        have := congrArg List.length e1
        rwa [List.length_map, List.length_map] at this
      refine ⟨_, rfl, _, rfl, R, _, rfl, .inl (SqL.of hRG), ?_⟩
      rw [List.length_map]
      refine ⟨wo G p, p, (as'.length : Int), rfl, wo_same', wo_none, hsG, by omega, by omega, fun i Ga i0 i1 ta hsa => ?_⟩
      obtain ⟨k, rfl⟩ : ∃ n : Nat, i = n := ⟨i.toNat, by omega⟩
      have hk : k < as'.length := by omega
      have hkr : k < rs'.length := by omega
      have keep : ∀ (x : Addr) (o : HO), x ≠ p → G x = some o → Ga x = some o := fun x o ne e => ta _ _ ((wo_ne ne).trans e)
      have sa := wo_same sG n0 ta
      have raa : RowsA K Ga as' rs' := (ra'.wo hsG).mono ta
      have hRa := keep R _ hRp hRG
      obtain ⟨v, ps, hx, hv, hps⟩ := raa.2 k as'[k] rs'[k] (List.getElem?_eq_getElem hk) (List.getElem?_eq_getElem hkr)
      have drk := dr rs'[k] (List.getElem_mem hkr)
      refine ⟨_, rfl, _, rfl, R, _, _, _, rfl, rfl, SqL.of hRa, atI_nat (by rw [List.getElem?_map, List.getElem?_eq_getElem hk]; rfl), as'[k], _, rfl, hx, rfl, _, _, rfl, ?_⟩
      refine ⟨_, _, rfl, ?_⟩
      refine ⟨_, _, rfl, ?_⟩
      refine ⟨rfl, ?_⟩
      have s1' := drk.s1
      have s3' := drk.s3
      obtain ⟨l, el, hl, lc⟩ := menuD_get (H := Ga) s1' s3' (keep l1 _ p1 hAG) (keep l2 _ p2 hBG) (keep l3 _ p3 hCG)
      have lp : l ≠ p := by rcases lc with rfl | rfl | rfl <;> assumption
      refine ⟨_, rfl, _, rfl, _, rfl, ps, _, rfl, .inr hps, M, .ref l, rfl, ?_, ?_⟩
      · rw [vS_len, ← el]
        exact DGet.k (k := Sum.inl (rs'[k].srcs.length : Int)) (keep M _ hMp hMG)
      refine ⟨_, rfl, wo Ga p, p, 3, rfl, wo_same', wo_none, hsa, by decide, by decide, fun e Gb b0 b1 tb hsb => ?_⟩
      obtain ⟨c, rfl⟩ : ∃ n : Nat, e = n := ⟨e.toNat, by omega⟩
      have hc : c < (unkM rs'[k].srcs.length).length := by rw [unkM_len]; omega
      have keepb : ∀ (x : Addr) (o : HO), x ≠ p → Ga x = some o → Gb x = some o := fun x o ne e => tb _ _ ((wo_ne ne).trans e)
      refine ⟨l, _, _, _, rfl, rfl, SqL.of (keepb l _ lp hl), atI_nat (vS_get hc), _, rfl, (by show 3 ≤ sizeLine; decide), fun X hX => ?_⟩
      have u3 := NF.Same.new (o := .tup [V.str rs'[k].name, V.str (unkM rs'[k].srcs.length)[c], V.ref ps]) (Same.refl Gb) hX
      have hX' := upd_same (H := Gb) (a := X) (o := .tup [V.str rs'[k].name, V.str (unkM rs'[k].srcs.length)[c], V.ref ps])
      generalize upd Gb X (.tup [V.str rs'[k].name, V.str (unkM rs'[k].srcs.length)[c], V.ref ps]) = Gc at u3 hX'
      have rab : RowsA K Gc as' rs' := ((raa.wo hsa).mono tb).mono u3
      have sc := Same.trans (wo_same sa n0 tb) u3
      have hRc := u3 _ _ (keepb R _ hRp hRa)
      obtain ⟨_, _, _, esa⟩ := id hsa
      have rX : RowL K Gc X ⟨rs'[k].name, .unk (unkM rs'[k].srcs.length)[c], rs'[k].srcs⟩ := ⟨_, ps, SqT.of hX', rfl, NF.Same.tup u3 (NF.Same.tup tb (SqT.wo hps esa trivial))⟩
      refine ⟨_, rfl, _, rfl, R, _, (k : Int), k, rfl, rfl, hRc, ?_, ?_⟩
      · unfold ixN
        rw [List.length_map, if_pos (by omega), if_pos (by omega)]
        rfl
      rw [← List.map_set]
      refine ⟨NF.Same.put sc h0R, src_put (Src.mono hsb u3) hRp, ?_, ?_, ?_, ?_, ⟨as'.set k X, rs'.set k ⟨rs'[k].name, .unk (unkM rs'[k].srcs.length)[c], rs'[k].srcs⟩, upd_same, (rab.set rX).put hRc, ?_, ?_, fun r hr => ?_⟩, _, _, _, _, _, rfl⟩
      · rw [upd_ne mR]
        exact u3 _ _ (keepb M _ hMp (keep M _ hMp hMG))
      · rw [upd_ne aR]
        exact u3 _ _ (keepb l1 _ p1 (keep l1 _ p1 hAG))
      · rw [upd_ne bR]
        exact u3 _ _ (keepb l2 _ p2 (keep l2 _ p2 hBG))
      · rw [upd_ne cR]
        exact u3 _ _ (keepb l3 _ p3 (keep l3 _ p3 hCG))
      · rw [map_set _ _ _ _ fun y hy => ?_, e1]
        rw [List.getElem?_eq_getElem hkr] at hy
        cases hy
        rfl
      · rw [map_set _ _ _ _ fun y hy => ?_, e2]
        rw [List.getElem?_eq_getElem hkr] at hy
        cases hy
        rfl
      · rcases List.mem_or_eq_of_mem_set hr with hr | hr
        · exact dr r hr
        · rw [hr]
          exact ⟨s1', s3', fun u e => by cases e; exact List.getElem_mem hc, fun n b ws e => by cases e⟩
    · rintro σ G ⟨sG, hsG, hMG, hAG, hBG, hCG, ⟨as', rs', hRG, ra', e1, e2, dr⟩, v5, v6, v7, v8, v9, rfl⟩
      refine ⟨_, rfl, a, _, _, _, rfl, rfl, NF.Same.tup sG ha, (rfl : atI [V.ref pg, V.ref pr] 0 = some (V.ref pg)), _, rfl, R, _, rfl, .inl (SqL.of hRG), fun p5 G1 u1 t1 => ?_⟩
      refine ⟨(by show 2 ≤ sizeLine; decide), fun X hX => ?_⟩
      have u2 := NF.Same.new (o := .tup [V.ref pg, V.ref p5]) (Same.refl G1) hX
      have uu := Same.trans u1 u2
      exact q X rs' _ (Same.trans sG uu) (Src.mono hsG uu) ⟨pg, p5, as', SqT.of upd_same, NF.Same.tup (Same.trans sG uu) hg, NF.Same.tup u2 t1, ra'.mono uu⟩ (d.change e1 e2 dr)
end
end K29
set_option Elab.async false
set_option linter.all false
set_option maxRecDepth 100000
set_option maxHeartbeats 4000000
namespace K29
open PySem PySem.Spec PyProof.Rows L2 He NF RZ NT
def spLBuilt (K : PySem.W.Frag) (CW C : Addr) : Sp := fun vs H Q _ => ∃ (a : Addr) (gs : List Str) (rs : List RowD), vs = [.ref a] ∧ WebL K H a gs rs ∧ GoodW gs rs ∧ ∀ x H', Same H H' → WebAt K CW C H' x gs rs → Q (.ref x) H'
theorem sc__law_built : FnScope ["_law_web_here", "_law_rows", "_law_name", "_law_maker_here", "_law_sources"] ["_law_web_here"] (defScope s__law_built) := ⟨rfl, rfl, rfl, by decide +kernel, rfl, by decide +kernel, by decide +kernel⟩
section
variable {P : Program} {w : World} {K : PySem.W.Frag} {mg : Str → Option Value} {base : Heap} {gs fs : List Str} {C CW : Addr}
theorem kit_t_s' (K : PySem.W.Frag) : PySem.W.kitOne K (.type "tuple") (.type "str") = some false := by kernel_rfl
theorem MakAt.putL {K : PySem.W.Frag} {C : Addr} {H : Hp} {x p : Addr} {n : Nat} {b : List Deed} {ws : List (List Deed)} {o : HO} {l : List V} (h : MakAt K C H x n b ws) (hp : H p = some (.lst l)) : MakAt K C (upd H p o) x n b ws := by
  obtain ⟨dx, pb, pw, hy, hb, as, hw, hl, hws⟩ := h
  refine ⟨dx, pb, pw, ?_, SqT.put hb hp trivial, as, SqT.put hw hp trivial, hl, fun j c w e1 e2 => SqT.put (hws j c w e1 e2) hp trivial⟩
  rw [upd_ne fun z => by rw [z, hp] at hy; cases hy]
  exact hy
theorem RowX.putL {K : PySem.W.Frag} {C : Addr} {H : Hp} {a p : Addr} {r : RowD} {o : HO} {l : List V} (h : RowX K C H H a r) (hp : H p = some (.lst l)) : RowX K C (upd H p o) (upd H p o) a r := by
  obtain ⟨v, ps, h1, h2, h3⟩ := h
  refine ⟨v, ps, SqT.put h1 hp trivial, ?_, SqT.put h3 hp trivial⟩
  cases em : r.mkr with
  | unk u =>
    rw [em] at h2
    exact h2
  | mak n b ws =>
    rw [em] at h2
    obtain ⟨y, e, h⟩ := h2
    exact ⟨y, e, h.putL hp⟩
theorem ok__law_built {f : Addr} {fd : FuncData} (F : FunD K "_law_built" "_law_built" (defArgs s__law_built) (defBody s__law_built) (defScope s__law_built) [] [] f fd) (T : Txt K mg gs FS) (c__law_made : Cal P w K mg base 9 "_law_made" (spLMade K C)) (m_Web2 : Mak P w K mg base 6 0 "Web" CW (spWInit K CW C) []) : FnOk P w K mg base CX0 10 f fd ["_law_web_here"] (spLBuilt K CW C) := by
  refine F.ok sc__law_built (fun vs H Q E h => ?_) (fun cdv A outer s H vs Q E hr h => ?_)
  · obtain ⟨a, gs, rs, rfl, _⟩ := h
    rfl
  · obtain ⟨a, gs, rs, rfl, ⟨pg, pr, as, ha, hg, hpr, ra⟩, g, q⟩ := h
    refine ⟨_, PSs.nox (pss_cons (ps_set (i := 1) sc__law_built.nd rfl (Or.inl rfl) (pe_lst pa_nil)) (pss_cons (ps_for PassesOwn.never rfl (pi_tup (pe_ix (ixt (K := K)) (pv 0) pe_int fun _ _ => rfl)) (pgt (K := K) (n := 3) rfl rfl (pgs_cons (pg_name (i := 2) sc__law_built.nd rfl (Or.inl rfl)) (pgs_cons (pg_name (i := 3) sc__law_built.nd rfl (Or.inl rfl)) (pgs_cons (pg_name (i := 4) sc__law_built.nd rfl (Or.inl rfl)) pgs_nil)))) (pss_one (ps_expr (pe_bm PySem.F.plainAttrs_list PySem.F.slot_list_append PySem.F.type_list_append mt_append (pv 1) (pa_cons (pe_tup (pa_cons (pv 2) (pa_cons (pe_ifExp (pt_val (pe_callB call_isi rfl (T.fr _ (by decide +kernel)) (by decide +kernel) (pa_cons (pv 3) (pa_cons (pe_bltn (v := .ty "str") rfl (T.fr _ (by decide +kernel)) (by decide +kernel) rfl) pa_nil)))) (pv 3) (pe_c c__law_made hr (by decide) rfl (pa_cons (pv 3) pa_nil))) (pa_cons (pv 4) pa_nil)))) pa_nil))))) (pss_one (ps_ret (pe_mk m_Web2 hr (by decide) rfl (pa_cons (pe_ix (ixt (K := K)) (pv 0) pe_int fun _ _ => rfl) (pa_cons (pv 1) pa_nil))))))), ?_⟩
    have hl := ra.1
    have r6 := g.r6
    refine ⟨(by show 0 ≤ sizeLine; decide), fun D hD => ?_⟩
    have s1 := NF.Same.new (o := .lst []) (Same.refl H) hD
    have hD1 := upd_same (H := H) (a := D) (o := .lst [])
    have h0D : H D = none := hD
    generalize upd H D (.lst []) = H1 at s1 hD1
    refine ⟨_, rfl, a, _, _, _, rfl, rfl, NF.Same.tup s1 ha, (rfl : atI [V.ref pg, V.ref pr] 1 = some (V.ref pr)), pr, rfl, ⟨_, NF.Same.tup s1 hpr⟩, ?_⟩
    refine for_tup (xs := as.map V.ref) (fun j σ G => Same H G ∧ (∃ bs : List Addr, G D = some (.lst (bs.map V.ref)) ∧ bs.length = j ∧ ∀ (k : Nat) (x : Addr) (r : RowD), bs[k]? = some x → rs[k]? = some r → RowX K C G G x r) ∧ ∃ v2 v3 v4 : Option V, σ = [some (.ref a), some (.ref D), v2, v3, v4])
      ⟨s1, ⟨[], hD1, rfl, fun k x r e => by simp at e⟩, _, _, _, rfl⟩ (fun j σ G _ z => NF.Same.tup z.1 hpr) ?_ ?_
    · rintro j y σ G hy ⟨sG, ⟨bs, hDG, bl, hb⟩, v2, v3, v4, rfl⟩
      have hj := (List.getElem?_eq_some_iff.mp hy).1
      rw [List.length_map] at hj
      obtain rfl : V.ref (as[j]) = y := by
        rw [List.getElem?_map, List.getElem?_eq_getElem hj] at hy
        exact Option.some.inj hy
      have hjr : j < rs.length := by omega
      have hm : rs[j] ∈ rs := List.getElem_mem hjr
      obtain ⟨v, ps, hx, hv, hps⟩ := (ra.2 j as[j] rs[j] (List.getElem?_eq_getElem hj) (List.getElem?_eq_getElem hjr)).mono sG
      refine ⟨as[j], _, rfl, hx, rfl, _, _, rfl, ?_⟩
      refine ⟨_, _, rfl, ?_⟩
      refine ⟨_, _, rfl, ?_⟩
      refine ⟨rfl, ?_⟩
      refine ⟨_, rfl, .inl ⟨rfl, _, SqL.of hDG⟩, _, rfl, ?_⟩

      cases em : rs[j].mkr with
      | unk z =>
        rw [em] at hv
        obtain rfl : v = .str z := hv
        refine ⟨_, rfl, _, _, _, _, true, rfl, .ty "str", .base (.str _), kit_s_s K, true, rfl, iteT ⟨_, rfl, ?_⟩⟩
        refine ⟨_, rfl, (by show 3 ≤ sizeLine; decide), fun X hX => ?_⟩
        have u3 := NF.Same.new (o := .tup [V.str rs[j].name, V.str z, V.ref ps]) (Same.refl G) hX
        have hX' := upd_same (H := G) (a := X) (o := .tup [V.str rs[j].name, V.str z, V.ref ps])
        generalize upd G X (.tup [V.str rs[j].name, V.str z, V.ref ps]) = G2 at u3 hX'
        have u13 : Same G G2 := u3
        have hD2 := u13 _ _ hDG
        have rX : RowX K C G2 G2 X rs[j] := ⟨V.str z, ps, SqT.of hX', by rw [em]; exact rfl, NF.Same.tup u13 hps⟩
        refine ⟨D, _, _, rfl, rfl, hD2, by rw [List.length_map, bl]; exact small (by omega), ?_⟩
        refine ⟨NF.Same.put (Same.trans sG u13) h0D, ⟨bs ++ [X], ?_, by simp [bl], fun k x r e1 e2 => ?_⟩, _, _, _, rfl⟩
        · rw [upd_same, List.map_append]
          rfl
        · rcases Nat.lt_trichotomy k j with h | h | h
          · rw [List.getElem?_append_left (by omega)] at e1
            exact (((hb k x r e1 e2).mono u13).baseMono u13).putL hD2
          · subst h
            rw [List.getElem?_append_right (by omega), bl, Nat.sub_self] at e1
            rw [List.getElem?_eq_getElem hjr] at e2
            cases e1
            cases e2
            exact rX.putL hD2
          · rw [List.getElem?_eq_none (by rw [List.length_append, bl]; show j + 1 ≤ k; omega)] at e1
            cases e1
      | mak n b ws =>
        rw [em] at hv
        obtain ⟨x, rfl, hmk⟩ := hv
        have gm := (g.tl _ hm n b ws em).2
        obtain ⟨_, _, hxt, _⟩ := id hmk
        refine ⟨_, rfl, _, _, _, _, false, rfl, .ty "str", tyx_tup hxt, kit_t_s' K, false, rfl, iteF ?_⟩
        refine ⟨_, rfl, x, n, b, ws, rfl, hmk, gm, fun y G1 u1 ma => ?_⟩
        refine ⟨_, rfl, (by show 3 ≤ sizeLine; decide), fun X hX => ?_⟩
        have u3 := NF.Same.new (o := .tup [V.str rs[j].name, V.ref y, V.ref ps]) (Same.refl G1) hX
        have hX' := upd_same (H := G1) (a := X) (o := .tup [V.str rs[j].name, V.ref y, V.ref ps])
        generalize upd G1 X (.tup [V.str rs[j].name, V.ref y, V.ref ps]) = G2 at u3 hX'
        have u13 : Same G G2 := Same.trans u1 u3
        have hD2 := u13 _ _ hDG
        have rX : RowX K C G2 G2 X rs[j] := ⟨V.ref y, ps, SqT.of hX', by rw [em]; exact ⟨y, rfl, ma.mono u3⟩, NF.Same.tup u13 hps⟩
        refine ⟨D, _, _, rfl, rfl, hD2, by rw [List.length_map, bl]; exact small (by omega), ?_⟩
        refine ⟨NF.Same.put (Same.trans sG u13) h0D, ⟨bs ++ [X], ?_, by simp [bl], fun k x r e1 e2 => ?_⟩, _, _, _, rfl⟩
        · rw [upd_same, List.map_append]
          rfl
        · rcases Nat.lt_trichotomy k j with h | h | h
          · rw [List.getElem?_append_left (by omega)] at e1
            exact (((hb k x r e1 e2).mono u13).baseMono u13).putL hD2
          · subst h
            rw [List.getElem?_append_right (by omega), bl, Nat.sub_self] at e1
            rw [List.getElem?_eq_getElem hjr] at e2
            cases e1
            cases e2
            exact rX.putL hD2
          · rw [List.getElem?_eq_none (by rw [List.length_append, bl]; show j + 1 ≤ k; omega)] at e1
            cases e1
    · rintro σ G ⟨sG, ⟨bs, hDG, bl, hb⟩, v2, v3, v4, rfl⟩
      rw [List.length_map, hl] at bl
      refine ⟨_, rfl, a, _, _, _, rfl, rfl, NF.Same.tup sG ha, (rfl : atI [V.ref pg, V.ref pr] 0 = some (V.ref pg)), _, rfl, ?_⟩
      intro x dx nx nd ne
      refine ⟨x, dx, pg, D, gs, rs, rfl, upd_same, .inr (NF.Same.tup (same_woM nx nd) (NF.Same.tup sG hg)), RowsR.mono (H := G) ⟨bs, .inl (SqL.of hDG), bl, fun j y r e1 e2 => ?_⟩ (same_woM nx nd), g, fun Z2 s2 wa => ⟨rfl, q x Z2 (Same.trans sG (same_made nx nd s2)) wa⟩⟩
      obtain ⟨v, ps, h1, h2, h3⟩ := hb j y r e1 e2
      exact ⟨v, ps, .inr h1, h2, .inr h3⟩
end
end K29
set_option Elab.async false
set_option linter.all false
set_option maxRecDepth 100000
/-! s.join(e) within a comprehension. -/
namespace NF
open PySem PySem.Spec PyProof.Rows L2 He RZ
theorem pe_joinK {X : Cx} {K : PySem.W.Frag} {o e : Expr} {to te : TE} {apos pos : Pos} (ho : PE X o to) (he : PE X e te) (hs : starEach [e] X.env = [(false, eval e X.env)] := by rfl) (hbase : attributeBase o "join" X.env (eval o X.env) = eval o X.env := by rfl) (hline : (apos.endLine == pos.line) = true := by rfl) (h : X.K = K := by rfl) :
    PE X (.Call (.Attribute o "join" apos) [e] [] pos) (tM1 (fun x xs H Q => ∃ a p, ∃ ys : List Str, x = .str a ∧ xs = [.ref p] ∧ (SqL K H p (ys.map V.str) ∨ SqT K H p (ys.map V.str)) ∧
      (ys.map (·.length)).sum + ys.length * a.length ≤ 16777216 ∧ Q (.str (Txt.join a ys)) H) to te) := h ▸ pe_join ho he hs hbase hline
end NF
set_option Elab.async false
set_option linter.all false
set_option maxRecDepth 100000
set_option maxHeartbeats 4000000
namespace K29
open PySem PySem.Spec PyProof.Rows L2 He NF RZ NT
theorem startL {r : RowD} (h : r.srcs ≠ []) : ((("row " : Str) ++ r.name) ++ (" of " : Str)) ++ Txt.join " " r.srcs = startR r := by
  unfold startR lineD
  rw [jEq, jEq, join_cons h, Str.empty_append, show (" of " : Str) = (" of" : Str) ++ (" " : Str) by decide +kernel]
  simp only [Str.append_assoc]
theorem vS_take {l : List Str} {j : Nat} (h : j < l.length) : vS (l.take j) ++ [V.str l[j]] = vS (l.take (j + 1)) := by
  rw [take_snoc (List.getElem?_eq_getElem h)]
  unfold vS
  rw [List.map_append]
  rfl
def spLLine (K : PySem.W.Frag) : Sp := fun vs H Q _ => ∃ a r, vs = [.ref a] ∧ RowL K H a r ∧ RowOk r ∧ (∀ n b ws, r.mkr = .mak n b ws → GoodM n b ws) ∧ ∀ H', Same H H' → Q (.str (rowT r)) H'
def spLLines (K : PySem.W.Frag) : Sp := fun vs H Q _ => ∃ a gs rs, vs = [.ref a] ∧ WebL K H a gs rs ∧ GoodW gs rs ∧ ∀ p H', Same H H' → H p = none → H' p = some (.lst (vS (webT gs rs))) → Q (.ref p) H'
theorem sc__law_line : FnScope ["_law_row", "_law_start", "_law_parts", "_law_name", "_law_maker_here", "_law_sources", "_law_way", "_law_deed"] ["_law_row"] (defScope s__law_line) := ⟨rfl, rfl, rfl, by decide +kernel, rfl, by decide +kernel, by decide +kernel⟩
theorem sc__law_web_lines : FnScope ["_law_web_here", "_law_name", "_law_row"] ["_law_web_here"] (defScope s__law_web_lines) := ⟨rfl, rfl, rfl, by decide +kernel, rfl, by decide +kernel, by decide +kernel⟩
section
variable {P : Program} {w : World} {K : PySem.W.Frag} {mg : Str → Option Value} {base : Heap} {gs fs : List Str} {C : Addr}
theorem kit_t_s (K : PySem.W.Frag) : PySem.W.kitOne K (.type "tuple") (.type "str") = some false := by kernel_rfl
theorem ok__law_line {f : Addr} {fd : FuncData} (F : FunD K "_law_line" "_law_line" (defArgs s__law_line) (defBody s__law_line) (defScope s__law_line) [] [] f fd) (T : Txt K mg gs FS) : FnOk P w K mg base CX0 1 f fd ["_law_row"] (spLLine K) := by
  refine F.ok sc__law_line (fun vs H Q E h => ?_) (fun cdv A outer s H vs Q E hr h => ?_)
  · obtain ⟨a, r, rfl, _⟩ := h
    rfl
  · obtain ⟨a, r, rfl, ⟨v, ps, ha, hv, hps⟩, ok, gm, q⟩ := h
    have nl := name_len ok.nm
    have sl := len_start ok
    have e1 : ("row " : Str).length = 4 := by decide +kernel
    have e2 : (" of " : Str).length = 4 := by decide +kernel
    have e3 : (" by " : Str).length = 4 := by decide +kernel
    have e4 : (": " : Str).length = 2 := by decide +kernel
    have eS : (" " : Str).length = 1 := by decide +kernel
    have big : ∀ k : Nat, k ≤ 1000000 → k ≤ sizeLine := fun k h => Nat.le_trans h (by decide)
    have so3 := ok.so.s3
    have so1 := ok.so.s1
    have sne : r.srcs ≠ [] := fun z => by rw [z] at so1; exact absurd so1 (by decide)
    have tt := tot_le (ts := r.srcs) (B := 8) fun t ht => name_len (ok.so.w t ht)
    have jl := lenJ " " r.srcs
    rw [eS] at jl
    have tt2 : (r.srcs.map (·.length)).sum + r.srcs.length ≤ 27 := by unfold tot at tt; omega
    have sL := startL sne
    refine ⟨_, PSs.nox (pss_cons (ps_asg (pv 0) (pgt (K := K) (n := 3) rfl rfl (pgs_cons (pg_name (i := 3) sc__law_line.nd rfl (Or.inl rfl)) (pgs_cons (pg_name (i := 4) sc__law_line.nd rfl (Or.inl rfl)) (pgs_cons (pg_name (i := 5) sc__law_line.nd rfl (Or.inl rfl)) pgs_nil))))) (pss_cons (ps_set (i := 1) sc__law_line.nd rfl (Or.inl rfl) (pe_op op_add_str (pe_op op_add_str (pe_op op_add_str pe_str (pv 3)) pe_str) (pe_join pe_str (pv 5)))) (pss_cons (ps_if (pt_val (pe_callB call_isi rfl (T.fr _ (by decide +kernel)) (by decide +kernel) (pa_cons (pv 4) (pa_cons (pe_bltn (v := .ty "str") rfl (T.fr _ (by decide +kernel)) (by decide +kernel) rfl) pa_nil)))) (pss_one (ps_ret (pe_op op_add_str (pe_op op_add_str (pv 1) pe_str) (pv 4)))) pss_nil) (pss_cons (ps_set (i := 2) sc__law_line.nd rfl (Or.inl rfl) (pe_lst (pa_cons (pe_join pe_str (pe_op op_cat (pe_lst (pa_cons pe_str pa_nil)) (pe_lc (own := [("_law_deed", 7)]) rfl sc__law_line.nd (pi_tup (pe_ix (ixt (K := K)) (pv 4) pe_int fun _ _ => rfl)) (blkOk_by (N := ["_law_row", "_law_start", "_law_parts", "_law_name", "_law_maker_here", "_law_sources", "_law_way", "_law_deed"]) (sc := defScope s__law_line) (by decide +kernel)) (fun _ _ _ _ _ => by exact (pg_name (i := 7) sc__law_line.nd rfl (Or.inl rfl))) (fun _ _ _ _ _ => by exact pts_nil) (fun _ _ _ _ _ => by exact (pe_callTy (call_str_int.or SkE.call_str_str) rfl (T.fr _ (by decide +kernel)) (by decide +kernel) (pa_cons (pv 7) pa_nil)))))) pa_nil))) (pss_cons (ps_set (i := 2) sc__law_line.nd rfl (Or.inl rfl) (pe_op op_cat (pv 2) (pe_lc (own := [("_law_way", 6)]) rfl sc__law_line.nd (pi_tup (pe_ix (ixt (K := K)) (pv 4) pe_int fun _ _ => rfl)) (blkOk_by (N := ["_law_row", "_law_start", "_law_parts", "_law_name", "_law_maker_here", "_law_sources", "_law_way", "_law_deed"]) (sc := defScope s__law_line) (by decide +kernel)) (fun _ _ _ _ _ => by exact (pg_name (i := 6) sc__law_line.nd rfl (Or.inl rfl))) (fun _ _ _ _ _ => by exact pts_nil) (fun _ _ _ _ _ => by exact (pe_joinK (K := K) pe_str (pe_op op_cat (pe_lst (pa_cons pe_str pa_nil)) (by exact (pe_lc (own := [("_law_deed", 7)]) rfl sc__law_line.nd (by exact (pi_tupK (K := K) (pv 6))) (blkOk_by (N := ["_law_row", "_law_start", "_law_parts", "_law_name", "_law_maker_here", "_law_sources", "_law_way", "_law_deed"]) (sc := _) (by kernel_rfl)) (fun _ _ _ _ _ => by exact (pg_name (i := 7) sc__law_line.nd rfl (Or.inl rfl))) (fun _ _ _ _ _ => by exact pts_nil) (fun _ _ _ _ _ => by exact (pe_callTy (call_str_int.or SkE.call_str_str) rfl (T.fr _ (by decide +kernel)) (by decide +kernel) (pa_cons (pv 7) pa_nil))))))))))) (pss_one (ps_ret (pe_op op_add_str (pe_op op_add_str (pv 1) pe_str) (pe_join pe_str (pv 2)))))))))), ?_⟩
    refine ⟨_, rfl, a, _, rfl, ha, rfl, _, _, rfl, ?_⟩
    refine ⟨_, _, rfl, ?_⟩
    refine ⟨_, _, rfl, ?_⟩
    refine ⟨rfl, ?_⟩
    refine ⟨_, rfl, _, _, rfl, rfl, big _ (by omega), _, _, rfl, rfl, big _ (by rw [Str.length_append]; omega), ⟨_, rfl⟩, _, rfl, " ", ps, r.srcs, rfl, rfl, .inr hps, by rw [eS]; omega, _, _, rfl, rfl, big _ (by rw [Str.length_append, Str.length_append]; omega), ?_⟩
    rw [sL]
    cases em : r.mkr with
    | unk u =>
      rw [em] at hv
      obtain rfl : v = .str u := hv
      have ul := unk_len (ok.un u em)
      refine ⟨_, rfl, _, _, _, _, true, rfl, .ty "str", .base (.str _), kit_s_s K, true, rfl, iteT ?_⟩
      refine ⟨_, rfl, _, _, rfl, rfl, big _ (by omega), _, rfl, _, _, rfl, rfl, big _ (by rw [Str.length_append]; omega), ?_⟩
      have := q H (Same.refl _)
      unfold rowT at this
      rw [em, Str.empty_append] at this
      exact this
    | mak n b ws =>
      rw [em] at hv
      obtain ⟨x, rfl, pb, pw, hx, hb, as, hw, hl, hws⟩ := hv
      have g := gm n b ws em
      have n3 := g.n3
      have m4 := g.m4
      have bl := g.bl
      refine ⟨_, rfl, _, _, _, _, false, rfl, .ty "str", tyx_tup hx, kit_t_s K, false, rfl, iteF ?_⟩
      have bt := deeds_tot n3 g.bd
      have eb : ("begin" : Str).length = 5 := by decide +kernel
      have ew : ("way" : Str).length = 3 := by decide +kernel
      -- the beginning
      refine ⟨⟨_, rfl⟩, (by show 1 ≤ sizeLine; decide), fun L0 hL0 => ?_⟩
      have s1 := NF.Same.new (o := .lst [V.str "begin"]) (Same.refl H) hL0
      have hL0' := upd_same (H := H) (a := L0) (o := .lst [V.str "begin"])
      generalize upd H L0 (.lst [V.str "begin"]) = H1 at s1 hL0'
      refine ⟨_, rfl, x, _, _, _, rfl, rfl, NF.Same.tup s1 hx, at1, pb, rfl, ⟨_, NF.Same.tup s1 hb⟩, fun D hD => ?_⟩
      refine lc_tup (xs := b.map dV) (fun j G => Same H1 G ∧ G D = some (.lst (vS ((b.map deedS).take j)))) ⟨NF.Same.new (Same.refl H1) hD, upd_same⟩ (fun j G _ z => NF.Same.tup (Same.trans s1 z.1) hb) ?_ ?_
      · rintro j v G hv ⟨sG, hG⟩
        have hj := (List.getElem?_eq_some_iff.mp hv).1
        rw [List.length_map] at hj
        have ev : dV b[j] = v := by
          rw [List.getElem?_map, List.getElem?_eq_getElem hj] at hv
          exact Option.some.inj hv
        have hjm : j < (b.map deedS).length := by rw [List.length_map]; exact hj
        have put : ∃ acc, G D = some (.lst acc) ∧ acc.length < sizeLine ∧ (Same H1 (upd G D (.lst (acc ++ [V.str (deedS b[j])]))) ∧ (upd G D (.lst (acc ++ [V.str (deedS b[j])]))) D = some (.lst (vS ((b.map deedS).take (j + 1))))) := by
          refine ⟨_, hG, by unfold vS; rw [List.length_map, List.length_take, List.length_map]; exact Nat.lt_of_le_of_lt (show min j b.length ≤ 600 by omega) (by decide), NF.Same.mut sG hD, ?_⟩
          rw [upd_same, ← vS_take hjm, List.getElem_map]
        rcases (deedS_ok (d := b[j]) n3 (fun i e => g.bd i (by rw [← e]; exact List.getElem_mem hj))).1 with e | ⟨i, e, hi, e2⟩
        · obtain rfl : v = .str (deedS b[j]) := ev.symm.trans e
          exact ⟨rfl, _, rfl, .inr ⟨_, rfl, put⟩⟩
        · obtain rfl : v = .int i := ev.symm.trans e
          rw [e2] at put
          exact ⟨rfl, _, rfl, .inl ⟨i, rfl, hi, put⟩⟩
      rintro H2 ⟨s2, hD2⟩
      rw [List.length_map, List.take_of_length_le (by rw [List.length_map]; exact Nat.le_refl _)] at hD2
      have hL02 := s2 _ _ hL0'
      refine ⟨L0, D, _, _, rfl, rfl, hL02, hD2, by unfold vS; rw [List.length_map, List.length_map]; exact Nat.le_trans (show 1 + b.length ≤ 601 by omega) (by decide), fun L hL => ?_⟩
      have s3 := NF.Same.new (o := .lst ([V.str "begin"] ++ vS (b.map deedS))) (Same.refl H2) hL
      refine ⟨" ", L, "begin" :: b.map deedS, rfl, rfl, .inl (SqL.of upd_same), by
        rw [eS, List.map_cons, List.sum_cons, List.length_cons, eb]
        unfold tot at bt
        omega, ?_⟩
      generalize upd H2 L (.lst ([V.str "begin"] ++ vS (b.map deedS))) = H3 at s3
      refine ⟨(by show 1 ≤ sizeLine; decide), fun B0 hB0 => ?_⟩
      have s4 := NF.Same.new (o := .lst [V.str (lineD "begin" (b.map deedS))]) (Same.refl H3) hB0
      have hB0' := upd_same (H := H3) (a := B0) (o := .lst [V.str (lineD "begin" (b.map deedS))])
      have ek : upd H3 B0 (.lst [V.str (Txt.join " " ("begin" :: b.map deedS))]) = upd H3 B0 (.lst [V.str (lineD "begin" (b.map deedS))]) := rfl
      rw [ek]
      generalize upd H3 B0 (.lst [V.str (lineD "begin" (b.map deedS))]) = H4 at s4 hB0'
      have s04 := Same.trans s1 (Same.trans s2 (Same.trans s3 s4))
      -- the ways
      refine ⟨_, rfl, _, rfl, x, _, _, _, rfl, rfl, NF.Same.tup s04 hx, at2, pw, rfl, ⟨_, NF.Same.tup s04 hw⟩, fun D hD => ?_⟩
      have wt : ∀ v ∈ ws, tot (v.map deedS) ≤ 3000 := fun v hv => by
        have h1 := deeds_tot n3 (g.wy v hv).2.2
        have h2 := (g.wy v hv).2.1
        omega
      refine lc_tup (xs := as.map V.ref) (fun j G => Same H4 G ∧ G D = some (.lst (vS ((ws.map fun v => lineD "way" (v.map deedS)).take j)))) ⟨NF.Same.new (Same.refl H4) hD, upd_same⟩ (fun j G _ z => NF.Same.tup (Same.trans s04 z.1) hw) ?_ ?_
      · rintro j v G hv ⟨sG, hG⟩
        have hj := (List.getElem?_eq_some_iff.mp hv).1
        rw [List.length_map] at hj
        obtain rfl : V.ref (as[j]) = v := by
          rw [List.getElem?_map, List.getElem?_eq_getElem hj] at hv
          exact Option.some.inj hv
        have hjw : j < ws.length := by omega
        have hr1 := NF.Same.tup (Same.trans s04 sG) (hws j as[j] ws[j] (List.getElem?_eq_getElem hj) (List.getElem?_eq_getElem hjw))
        have hm : ws[j] ∈ ws := List.getElem_mem hjw
        have gw := g.wy _ hm
        have wl : ws[j].length ≤ 600 := by have := gw.2.1; omega
        refine ⟨rfl, ⟨_, rfl⟩, (by show 1 ≤ sizeLine; decide), fun W0 hW0 => ?_⟩
        have u1 := NF.Same.new (o := .lst [V.str "way"]) (Same.refl G) hW0
        have hW0' := upd_same (H := G) (a := W0) (o := .lst [V.str "way"])
        generalize upd G W0 (.lst [V.str "way"]) = G1 at u1 hW0'
        refine ⟨_, rfl, as[j], rfl, ⟨_, NF.Same.tup u1 hr1⟩, fun E hE => ?_⟩
        refine lc_tup (xs := ws[j].map dV) (fun k G' => Same G1 G' ∧ G' E = some (.lst (vS ((ws[j].map deedS).take k)))) ⟨NF.Same.new (Same.refl G1) hE, upd_same⟩ (fun j G _ z => NF.Same.tup (Same.trans u1 z.1) hr1) ?_ ?_
        · rintro k v G' hv ⟨sG', hG'⟩
          have hk := (List.getElem?_eq_some_iff.mp hv).1
          rw [List.length_map] at hk
          have ev : dV ws[j][k] = v := by
            rw [List.getElem?_map, List.getElem?_eq_getElem hk] at hv
            exact Option.some.inj hv
          have hkm : k < (ws[j].map deedS).length := by rw [List.length_map]; exact hk
          have put : ∃ acc, G' E = some (.lst acc) ∧ acc.length < sizeLine ∧ (Same G1 (upd G' E (.lst (acc ++ [V.str (deedS ws[j][k])]))) ∧ (upd G' E (.lst (acc ++ [V.str (deedS ws[j][k])]))) E = some (.lst (vS ((ws[j].map deedS).take (k + 1))))) := by
            refine ⟨_, hG', by unfold vS; rw [List.length_map, List.length_take, List.length_map]; exact Nat.lt_of_le_of_lt (show min k ws[j].length ≤ 600 by omega) (by decide), NF.Same.mut sG' hE, ?_⟩
            rw [upd_same, ← vS_take hkm, List.getElem_map]
          rcases (deedS_ok (d := ws[j][k]) n3 (fun i e => gw.2.2 i (by rw [← e]; exact List.getElem_mem hk))).1 with e | ⟨i, e, hi, e2⟩
          · obtain rfl : v = .str (deedS ws[j][k]) := ev.symm.trans e
            exact ⟨rfl, _, rfl, .inr ⟨_, rfl, put⟩⟩
          · obtain rfl : v = .int i := ev.symm.trans e
            rw [e2] at put
            exact ⟨rfl, _, rfl, .inl ⟨i, rfl, hi, put⟩⟩
        rintro G2 ⟨u2, hE2⟩
        rw [List.length_map, List.take_of_length_le (by rw [List.length_map]; exact Nat.le_refl _)] at hE2
        refine ⟨W0, E, _, _, rfl, rfl, u2 _ _ hW0', hE2, by unfold vS; rw [List.length_map, List.length_map]; exact Nat.le_trans (show 1 + ws[j].length ≤ 601 by omega) (by decide), fun L2 hL2 => ?_⟩
        have u3 := NF.Same.new (o := .lst ([V.str "way"] ++ vS (ws[j].map deedS))) (Same.refl G2) hL2
        refine ⟨" ", L2, "way" :: ws[j].map deedS, rfl, rfl, .inl (SqL.of upd_same), by
          have := wt _ hm
          rw [eS, List.map_cons, List.sum_cons, List.length_cons, ew]
          unfold tot at this
          omega, ?_⟩
        generalize upd G2 L2 (.lst ([V.str "way"] ++ vS (ws[j].map deedS))) = G3 at u3
        have u13 := Same.trans u1 (Same.trans u2 u3)
        have hjm : j < (ws.map fun v => lineD "way" (v.map deedS)).length := by rw [List.length_map]; exact hjw
        refine ⟨_, u13 _ _ hG, by unfold vS; rw [List.length_map, List.length_take, List.length_map]; exact Nat.lt_of_le_of_lt (show min j ws.length ≤ 4 by omega) (by decide), NF.Same.mut (Same.trans sG u13) hD, ?_⟩
        rw [upd_same, ← vS_take hjm, List.getElem_map]
        rfl
      · rintro G ⟨sG, hG⟩
        rw [List.length_map, hl, List.take_of_length_le (by rw [List.length_map]; exact Nat.le_refl _)] at hG
        have hB0G := sG _ _ hB0'
        refine ⟨B0, D, _, _, rfl, rfl, hB0G, hG, by
          unfold vS
          rw [List.length_map, List.length_map]
          exact Nat.le_trans (show 1 + ws.length ≤ 5 by omega) (by decide), fun L hL => ?_⟩
        have s5 := NF.Same.new (o := .lst ([V.str (lineD "begin" (b.map deedS))] ++ vS (ws.map fun v => lineD "way" (v.map deedS)))) (Same.refl G) hL
        have hL' := upd_same (H := G) (a := L) (o := .lst ([V.str (lineD "begin" (b.map deedS))] ++ vS (ws.map fun v => lineD "way" (v.map deedS))))
        generalize upd G L (.lst ([V.str (lineD "begin" (b.map deedS))] ++ vS (ws.map fun v => lineD "way" (v.map deedS)))) = G4 at s5 hL'
        have lb := len_line "begin" (b.map deedS)
        rw [eb] at lb
        have lw : ((ws.map fun v => lineD "way" (v.map deedS)).map (·.length)).sum ≤ ws.length * 3100 := by
          have := tot_le (ts := ws.map fun v => lineD "way" (v.map deedS)) (B := 3099) fun t ht => by
            obtain ⟨v, hv, rfl⟩ := List.mem_map.mp ht
            have h1 := len_line "way" (v.map deedS)
            rw [ew] at h1
            have := wt v hv
            omega
          unfold tot at this
          rw [List.length_map] at this
          omega
        have w4 : ws.length * 3100 ≤ 4 * 3100 := Nat.mul_le_mul_right _ m4
        have es : ("; " : Str).length = 2 := by decide +kernel
        have jb : ((partsR b ws).map (·.length)).sum + (partsR b ws).length * ("; " : Str).length ≤ 16000 := by
          rw [es]
          unfold partsR
          rw [List.map_cons, List.sum_cons, List.length_cons, List.length_map]
          omega
        have jl := lenJ "; " (partsR b ws)
        refine ⟨_, rfl, _, _, rfl, rfl, big _ (by omega), ⟨_, rfl⟩, _, rfl, "; ", L, partsR b ws, rfl, rfl, .inl (SqL.of hL'), by omega, _, _, rfl, rfl, big _ (by rw [Str.length_append]; omega), ?_⟩
        have := q G4 (Same.trans s04 (Same.trans sG s5))
        unfold rowT at this
        rw [em, Str.empty_append] at this
        exact this
theorem ok__law_web_lines {f : Addr} {fd : FuncData} (F : FunD K "_law_web_lines" "_law_web_lines" (defArgs s__law_web_lines) (defBody s__law_web_lines) (defScope s__law_web_lines) [] [] f fd) (T : Txt K mg gs FS) (c__law_line : Cal P w K mg base 1 "_law_line" (spLLine K)) : FnOk P w K mg base CX0 2 f fd ["_law_web_here"] (spLLines K) := by
  refine F.ok sc__law_web_lines (fun vs H Q E h => ?_) (fun cdv A outer s H vs Q E hr h => ?_)
  · obtain ⟨a, gs, rs, rfl, _⟩ := h
    rfl
  · obtain ⟨a, gs, rs, rfl, ⟨pg, pr, as, ha, hg, hrs, ra⟩, g, q⟩ := h
    refine ⟨_, PSs.nox (pss_one (ps_ret (pe_op op_cat (pe_lc (own := [("_law_name", 1)]) rfl sc__law_web_lines.nd (pi_tup (pe_ix (ixt (K := K)) (pv 0) pe_int fun _ _ => rfl)) (blkOk_by (N := ["_law_web_here", "_law_name", "_law_row"]) (sc := defScope s__law_web_lines) (by decide +kernel)) (fun _ _ _ _ _ => by exact (pg_name (i := 1) sc__law_web_lines.nd rfl (Or.inl rfl))) (fun _ _ _ _ _ => by exact pts_nil) (fun _ _ _ _ _ => by exact (pe_op op_add_str pe_str (pv 1)))) (pe_lc (own := [("_law_row", 2)]) rfl sc__law_web_lines.nd (pi_tup (pe_ix (ixt (K := K)) (pv 0) pe_int fun _ _ => rfl)) (blkOk_by (N := ["_law_web_here", "_law_name", "_law_row"]) (sc := defScope s__law_web_lines) (by decide +kernel)) (fun _ _ _ _ _ => by exact (pg_name (i := 2) sc__law_web_lines.nd rfl (Or.inl rfl))) (fun _ _ _ _ _ => by exact pts_nil) (fun _ _ _ _ _ => by exact (pe_c c__law_line hr (by decide) rfl (pa_cons (pv 2) pa_nil))))))), ?_⟩
    have g3 := g.g3
    have r6 := g.r6
    have e1 : ("given " : Str).length = 6 := by decide +kernel
    have big : ∀ k : Nat, k ≤ 1000000 → k ≤ sizeLine := fun k h => Nat.le_trans h (by decide)
    refine ⟨_, rfl, a, _, _, _, rfl, rfl, ha, (rfl : atI [V.ref pg, V.ref pr] 0 = some (V.ref pg)), pg, rfl, ⟨_, hg⟩, fun D hD => ?_⟩
    refine lc_tup (xs := vS gs) (fun j G => Same H G ∧ G D = some (.lst (vS ((gs.map fun g => (Str.empty ++ ("given " : Str)) ++ g).take j)))) ⟨NF.Same.new (Same.refl H) hD, upd_same⟩ (fun j G _ z => NF.Same.tup z.1 hg) ?_ ?_
    · rintro j v G hv ⟨sG, hG⟩
      have hj := (List.getElem?_eq_some_iff.mp hv).1
      rw [show (vS gs).length = gs.length from List.length_map ..] at hj
      unfold vS at hv
      rw [List.getElem?_map, List.getElem?_eq_getElem hj] at hv
      obtain rfl : V.str gs[j] = v := Option.some.inj hv
      have nl := name_len (g.gn gs[j] (List.getElem_mem hj))
      refine ⟨rfl, _, rfl, _, _, rfl, rfl, big _ (by omega), ?_⟩
      have hjm : j < (gs.map fun g => (Str.empty ++ ("given " : Str)) ++ g).length := by rw [List.length_map]; exact hj
      refine ⟨_, hG, by unfold vS; rw [List.length_map, List.length_take, List.length_map]; exact Nat.lt_of_le_of_lt (show min j gs.length ≤ 3 by omega) (by decide), NF.Same.mut sG hD, ?_⟩
      rw [upd_same, ← vS_take hjm, List.getElem_map]
      simp only [Str.empty_append]
    rintro H1 ⟨s1, hD1⟩
    rw [show (vS gs).length = gs.length from List.length_map .., List.take_of_length_le (by rw [List.length_map]; exact Nat.le_refl _)] at hD1
    refine ⟨_, rfl, a, _, _, _, rfl, rfl, NF.Same.tup s1 ha, (rfl : atI [V.ref pg, V.ref pr] 1 = some (V.ref pr)), pr, rfl, ⟨_, NF.Same.tup s1 hrs⟩, fun D2 hD2 => ?_⟩
    refine lc_tup (xs := as.map V.ref) (fun j G => Same H1 G ∧ G D2 = some (.lst (vS ((rs.map rowT).take j)))) ⟨NF.Same.new (Same.refl H1) hD2, upd_same⟩ (fun j G _ z => NF.Same.tup (Same.trans s1 z.1) hrs) ?_ ?_
    · rintro j v G hv ⟨sG, hG⟩
      have hj := (List.getElem?_eq_some_iff.mp hv).1
      rw [List.length_map] at hj
      obtain rfl : V.ref (as[j]) = v := by
        rw [List.getElem?_map, List.getElem?_eq_getElem hj] at hv
        exact Option.some.inj hv
      have hl := ra.1
      have hjr : j < rs.length := by omega
      have hm : rs[j] ∈ rs := List.getElem_mem hjr
      have sHG := Same.trans s1 sG
      have rx := (ra.2 j as[j] rs[j] (List.getElem?_eq_getElem hj) (List.getElem?_eq_getElem hjr)).mono sHG
      refine ⟨rfl, _, rfl, as[j], rs[j], rfl, rx, g.row hm, (fun n b ws e => (g.tl _ hm n b ws e).2), fun G2 s2 => ?_⟩
      have hjm : j < (rs.map rowT).length := by rw [List.length_map]; exact hjr
      refine ⟨_, s2 _ _ hG, by unfold vS; rw [List.length_map, List.length_take, List.length_map]; exact Nat.lt_of_le_of_lt (show min j rs.length ≤ 6 by omega) (by decide), NF.Same.mut (Same.trans sG s2) hD2, ?_⟩
      rw [upd_same, ← vS_take hjm, List.getElem_map]
    · rintro G ⟨sG, hG⟩
      rw [List.length_map, ra.1, List.take_of_length_le (by rw [List.length_map]; exact Nat.le_refl _)] at hG
      have hD1G := sG _ _ hD1
      refine ⟨D, D2, _, _, rfl, rfl, hD1G, hG, by
        unfold vS
        rw [List.length_map, List.length_map, List.length_map, List.length_map]
        exact Nat.le_trans (show gs.length + rs.length ≤ 9 by omega) (by decide), fun L hL => ?_⟩
      have s3 := NF.Same.new (o := .lst (vS (gs.map fun g => (Str.empty ++ ("given " : Str)) ++ g) ++ vS (rs.map rowT))) (Same.refl G) hL
      have sE := Same.trans s1 sG
      refine q L _ (Same.trans sE s3) (L2.Same.free sE hL) ?_
      rw [upd_same]
      unfold webT vS
      rw [List.map_append]
end
end K29
set_option Elab.async false
set_option linter.all false
set_option maxRecDepth 100000
set_option maxHeartbeats 4000000
namespace K29
open PySem PySem.Spec PyProof.Rows L2 He NF RZ NT
def spLSame (K : PySem.W.Frag) (CW C : Addr) : Sp := fun vs H Q _ => ∃ (x a : Addr) (gs : List Str) (rs : List RowD), vs = [.ref x, .ref a] ∧ WebAt K CW C H x gs rs ∧ WebL K H a gs rs ∧ GoodW gs rs ∧ ∀ H', Same H H' → Q (.bl true) H'
theorem sc__law_same_web : FnScope ["_law_told", "_law_web_here", "_law_k", "_law_row", "_law_due"] ["_law_told", "_law_web_here"] (defScope s__law_same_web) := ⟨rfl, rfl, rfl, by decide +kernel, rfl, by decide +kernel, by decide +kernel⟩
section
variable {P : Program} {w : World} {K : PySem.W.Frag} {mg : Str → Option Value} {base : Heap} {gs fs : List Str} {C CW : Addr}
theorem kit_t_t (K : PySem.W.Frag) : PySem.W.kitOne K (.type "tuple") (.type "tuple") = some true := if_pos (by decide +kernel)
theorem kit_t_s2 (K : PySem.W.Frag) : PySem.W.kitOne K (.type "tuple") (.type "str") = some false := by kernel_rfl
theorem shaped_sP {l : List Str} (h : ∀ z ∈ l, okName z) : SeqAt.shaped (sP l) = true := shaped_of (n := 1) (lay_sP (n := 8) h) (depth_sP l) (by decide)
theorem shaped_mkP {m : MkD} (h : ∀ u, m = .unk u → wordB 2 u = true) : SeqAt.shaped (mkP m) = true := shaped_of (n := 3) (lay_mkP h) (depth_mkP m) (by decide)
theorem neD_same {H : Hp} {d : PyData} {A B : Prop} (e : PyData.eqv d d = true) (h : B) : if (!PyData.eqv d d) = true then A else B := iteF' (by rw [e]; rfl) h
theorem ok__law_same_web {f : Addr} {fd : FuncData} (F : FunD K "_law_same_web" "_law_same_web" (defArgs s__law_same_web) (defBody s__law_same_web) (defScope s__law_same_web) [] [] f fd) (T : Txt K mg gs FS) (hW : mg "Web" = some (.ref CW)) (hM : mg "Maker" = some (.ref C)) (wc : WebC K CW) (mc : MakC K C) : FnOk P w K mg base CX0 1 f fd ["_law_told", "_law_web_here"] (spLSame K CW C) := by
  refine F.ok sc__law_same_web (fun vs H Q E h => ?_) (fun cdv A outer s H vs Q E hr h => ?_)
  · obtain ⟨x, a, gs, rs, rfl, _⟩ := h
    rfl
  · obtain ⟨x, a, gs, rs, rfl, ⟨dx, pg, pr, pn, hx, hg, ⟨bs, hrs, bl, hb⟩, hn⟩, ⟨qg, qr, as, ha, hqg, hqr, ra⟩, g, q⟩ := h
    have hu : (A.deeper (envOfC "_law_same_web" (defScope s__law_same_web) s.heap.objs.size f cdv)).units + 64 < cLine := by
      have := hr.un
      omega
    have hl := ra.1
    have r6 := g.r6
    refine ⟨_, PSs.nox (pss_cons (ps_if (PW.pt (pw_or (pt_not (pt_val (pe_callB call_isi rfl (T.fr _ (by decide +kernel)) (by decide +kernel) (pa_cons (pv 0) (pa_cons (pe_gl hW) pa_nil))))) (pw_or (pt_cmpR (op_neD hu) (pe_fld (pv 0) rfl) (pe_ix (ixt (K := K)) (pv 1) pe_int fun _ _ => rfl) (nomark _)) (pw_or1 (pt_not (pt_val (pe_callB call_isi rfl (T.fr _ (by decide +kernel)) (by decide +kernel) (pa_cons (pe_fld (pv 0) rfl) (pa_cons (pe_bltn (v := .ty "tuple") rfl (T.fr _ (by decide +kernel)) (by decide +kernel) rfl) pa_nil))))))))) (pss_one (ps_ret pe_bl)) pss_nil) (pss_cons (ps_if (pt_cmpR op_ne (pe_callB call_len_seq rfl (T.fr _ (by decide +kernel)) boot_len (pa_cons (pe_fld (pv 0) rfl) pa_nil)) (pe_callB call_len_seq rfl (T.fr _ (by decide +kernel)) boot_len (pa_cons (pe_ix (ixt (K := K)) (pv 1) pe_int fun _ _ => rfl) pa_nil)) (nomark _)) (pss_one (ps_ret pe_bl)) pss_nil) (pss_cons (ps_for PassesOwn.never rfl (pi_range1 rfl (T.fr _ (by decide +kernel)) (pa_cons (pe_callB call_len_seq rfl (T.fr _ (by decide +kernel)) boot_len (pa_cons (pe_ix (ixt (K := K)) (pv 1) pe_int fun _ _ => rfl) pa_nil)) pa_nil)) (pg_name (i := 2) sc__law_same_web.nd rfl (Or.inl rfl)) (pss_cons (ps_par (i := 3) (j := 4) (by rfl) sc__law_same_web.nd rfl rfl (by decide) rfl rfl (pa_cons (pe_ix (ixt (K := K)) (pe_fld (pv 0) rfl) (pv 2) fun _ _ => rfl) (pa_cons (pe_ix (ixt (K := K)) (pe_ix (ixt (K := K)) (pv 1) pe_int fun _ _ => rfl) (pv 2) fun _ _ => rfl) pa_nil)) (by rfl)) (pss_cons (ps_if (PW.pt (pw_or (pt_not (pt_val (pe_callB call_isi rfl (T.fr _ (by decide +kernel)) (by decide +kernel) (pa_cons (pv 3) (pa_cons (pe_bltn (v := .ty "tuple") rfl (T.fr _ (by decide +kernel)) (by decide +kernel) rfl) pa_nil))))) (pw_or (pt_cmpR op_ne (pe_callB call_len_seq rfl (T.fr _ (by decide +kernel)) boot_len (pa_cons (pv 3) pa_nil)) pe_int (nomark _)) (pw_or (pt_cmpR op_ne (pe_ix (ixt (K := K)) (pv 3) pe_int fun _ _ => rfl) (pe_ix (ixt (K := K)) (pv 4) pe_int fun _ _ => rfl) (nomark _)) (pw_or1 (pt_cmpR (op_neD hu) (pe_ix (ixt (K := K)) (pv 3) pe_int fun _ _ => rfl) (pe_ix (ixt (K := K)) (pv 4) pe_int fun _ _ => rfl) (nomark _))))))) (pss_one (ps_ret pe_bl)) pss_nil) (pss_one (ps_if (pt_val (pe_callB call_isi rfl (T.fr _ (by decide +kernel)) (by decide +kernel) (pa_cons (pe_ix (ixt (K := K)) (pv 4) pe_int fun _ _ => rfl) (pa_cons (pe_bltn (v := .ty "str") rfl (T.fr _ (by decide +kernel)) (by decide +kernel) rfl) pa_nil)))) (pss_one (ps_if (pt_cmpR op_ne (pe_ix (ixt (K := K)) (pv 3) pe_int fun _ _ => rfl) (pe_ix (ixt (K := K)) (pv 4) pe_int fun _ _ => rfl) (nomark _)) (pss_one (ps_ret pe_bl)) pss_nil)) (pss_one (ps_if (PW.pt (pw_or (pt_not (pt_val (pe_callB call_isi rfl (T.fr _ (by decide +kernel)) (by decide +kernel) (pa_cons (pe_ix (ixt (K := K)) (pv 3) pe_int fun _ _ => rfl) (pa_cons (pe_gl hM) pa_nil))))) (pw_or1 (pt_cmpR (op_neD hu) (pe_tup (pa_cons (pe_fld (pe_ix (ixt (K := K)) (pv 3) pe_int fun _ _ => rfl) rfl) (pa_cons (pe_fld (pe_ix (ixt (K := K)) (pv 3) pe_int fun _ _ => rfl) rfl) (pa_cons (pe_fld (pe_ix (ixt (K := K)) (pv 3) pe_int fun _ _ => rfl) rfl) pa_nil)))) (pe_ix (ixt (K := K)) (pv 4) pe_int fun _ _ => rfl) (nomark _))))) (pss_one (ps_ret pe_bl)) pss_nil))))))) (pss_one (ps_ret pe_bl))))), ?_⟩
    refine ⟨_, rfl, _, _, _, _, true, rfl, .own CW, wc.ty hx, wc.self, true, rfl, iteF ?_⟩
    refine ⟨_, rfl, x, CW, dx, _, _, rfl, hx, wc.cl, wc.ng, rfl, _, rfl, a, _, _, _, rfl, rfl, ha, (rfl : atI [V.ref qg, V.ref qr] 0 = some (V.ref qg)), _, _, dp_sP hg, dp_sP hqg, shaped_sP g.gn, shaped_sP g.gn, _, rfl, neD_same (H := H) (by rw [eqv_sP, decide_eq_true rfl]) ?_⟩
    refine ⟨_, rfl, x, CW, dx, _, _, rfl, hx, wc.cl, wc.nr, rfl, _, _, _, _, true, rfl, .ty "tuple", tyx_tup hrs, kit_t_t K, true, rfl, iteF ?_⟩
    refine ⟨_, rfl, x, CW, dx, _, _, rfl, hx, wc.cl, wc.nr, rfl, pr, _, rfl, .inr hrs, _, rfl, a, _, _, _, rfl, rfl, ha, (rfl : atI [V.ref qg, V.ref qr] 1 = some (V.ref qr)), qr, _, rfl, .inr hqr, rfl, _, rfl, ?_⟩
    rw [List.length_map, List.length_map, bl, hl, decide_eq_true rfl]
    refine iteF ?_
    refine ⟨_, rfl, a, _, _, _, rfl, rfl, ha, (rfl : atI [V.ref qg, V.ref qr] 1 = some (V.ref qr)), qr, _, rfl, .inr hqr, ?_⟩
    rw [List.length_map, hl]
    refine ⟨(rs.length : Int), rfl, by omega, by omega, ?_⟩
    rw [Int.toNat_natCast]
    refine for_range (lo := 0) (n := rs.length) (fun j σ G => Same H G ∧ ∃ v2 v3 v4 : Option V, σ = [some (.ref x), some (.ref a), v2, v3, v4]) ⟨Same.refl _, _, _, _, rfl⟩ ?_ ?_
    · rintro j σ G hj ⟨sG, v2, v3, v4, rfl⟩
      have hjb : j < bs.length := by omega
      have hja : j < as.length := by omega
      have hm : rs[j] ∈ rs := List.getElem_mem hj
      obtain ⟨v, ps, h1, h2, h3⟩ := ((hb j bs[j] rs[j] (List.getElem?_eq_getElem hjb) (List.getElem?_eq_getElem hj)).mono sG).baseMono sG
      obtain ⟨u, ps2, g1, g2, g3⟩ := (ra.2 j as[j] rs[j] (List.getElem?_eq_getElem hja) (List.getElem?_eq_getElem hj)).mono sG
      have ok := g.row hm
      have e1 : atI (bs.map V.ref) (0 + (j : Int)) = some (.ref bs[j]) := by
        rw [Int.zero_add]
        exact atI_nat (by rw [List.getElem?_map, List.getElem?_eq_getElem hjb]; rfl)
      have e2 : atI (as.map V.ref) (0 + (j : Int)) = some (.ref as[j]) := by
        rw [Int.zero_add]
        exact atI_nat (by rw [List.getElem?_map, List.getElem?_eq_getElem hja]; rfl)
      refine ⟨_, rfl, x, CW, dx, _, _, rfl, sG _ _ hx, wc.cl, wc.nr, rfl, _, rfl, pr, _, _, _, rfl, rfl, NF.Same.tup sG hrs, e1, ?_⟩
      refine ⟨_, rfl, a, _, _, _, rfl, rfl, NF.Same.tup sG ha, (rfl : atI [V.ref qg, V.ref qr] 1 = some (V.ref qr)), _, rfl, qr, _, _, _, rfl, rfl, NF.Same.tup sG hqr, e2, ?_⟩
      refine ⟨_, _, rfl, ?_⟩
      refine ⟨_, rfl, _, _, _, _, true, rfl, .ty "tuple", tyx_tup h1, kit_t_t K, true, rfl, iteF ?_⟩
      refine ⟨_, rfl, bs[j], _, rfl, .inr h1, rfl, _, rfl, iteF' (by rfl) ?_⟩
      refine ⟨_, rfl, bs[j], _, _, _, rfl, rfl, h1, at0, _, rfl, as[j], _, _, _, rfl, rfl, g1, at0, rfl, _, rfl, iteF' (by rw [decide_eq_true rfl]; rfl) ?_⟩
      refine ⟨_, rfl, bs[j], _, _, _, rfl, rfl, h1, at2, _, rfl, as[j], _, _, _, rfl, rfl, g1, at2, _, _, dp_sP h3, dp_sP g3, shaped_sP ok.so.w, shaped_sP ok.so.w, _, rfl, neD_same (H := H) (by rw [eqv_sP, decide_eq_true rfl]) ?_⟩
      refine ⟨_, rfl, as[j], _, _, _, rfl, rfl, g1, at1, ?_⟩
      cases em : rs[j].mkr with
      | unk z =>
        rw [em] at h2 g2
        obtain rfl : v = .str z := h2
        obtain rfl : u = .str z := g2
        refine ⟨_, _, _, _, true, rfl, .ty "str", .base (.str _), kit_s_s K, true, rfl, iteT ?_⟩
        refine ⟨_, rfl, bs[j], _, _, _, rfl, rfl, h1, at1, _, rfl, as[j], _, _, _, rfl, rfl, g1, at1, rfl, _, rfl, iteF' (by rw [decide_eq_true rfl]; rfl) ?_⟩
        exact ⟨sG, _, _, _, rfl⟩
      | mak n b ws =>
        rw [em] at h2 g2
        obtain ⟨y, rfl, dy, pb, pw, hy, hyb, hyw⟩ := h2
        obtain ⟨z, rfl, hz⟩ := g2
        obtain ⟨_, _, hzt, _⟩ := id hz
        refine ⟨_, _, _, _, false, rfl, .ty "str", tyx_tup hzt, kit_t_s2 K, false, rfl, iteF ?_⟩
        refine ⟨_, rfl, bs[j], _, _, _, rfl, rfl, h1, at1, _, _, _, _, true, rfl, .own C, mc.ty hy, mc.self, true, rfl, iteF ?_⟩
        refine ⟨_, rfl, bs[j], _, _, _, rfl, rfl, h1, at1, y, C, dy, _, _, rfl, hy, mc.cl, mc.ni, rfl, ?_⟩
        refine ⟨_, rfl, bs[j], _, _, _, rfl, rfl, h1, at1, y, C, dy, _, _, rfl, hy, mc.cl, mc.nb, rfl, ?_⟩
        refine ⟨_, rfl, bs[j], _, _, _, rfl, rfl, h1, at1, y, C, dy, _, _, rfl, hy, mc.cl, mc.nw, rfl, ?_⟩
        refine ⟨(by show 3 ≤ sizeLine; decide), fun X hX => ?_⟩
        have u3 := NF.Same.new (o := .tup [V.int (n : Int), V.ref pb, V.ref pw]) (Same.refl G) hX
        have d1 : Dp K (upd G X (.tup [V.int (n : Int), V.ref pb, V.ref pw])) (.ref X) (mkP (.mak n b ws)) := dp_mkr ⟨pb, pw, SqT.of upd_same, NF.Same.tup u3 hyb, hyw.mono u3⟩
        have sh : SeqAt.shaped (mkP (.mak n b ws)) = true := shaped_mkP fun u e => by cases e
        refine ⟨_, rfl, as[j], _, _, _, rfl, rfl, NF.Same.tup u3 g1, at1, _, _, d1, dp_mkr (hz.mono u3), sh, sh, _, rfl, neD_same (H := H) (by rw [eqv_mkP, decide_eq_true rfl]) ?_⟩
        exact ⟨Same.trans sG u3, _, _, _, rfl⟩
    · rintro σ G ⟨sG, v2, v3, v4, rfl⟩
      exact q G sG
end
end K29
set_option Elab.async false
set_option linter.all false
set_option maxRecDepth 100000
set_option maxHeartbeats 4000000
/-! Exact data: items, all but the last one, sums of tuples. -/
namespace NF
open PySem PySem.Spec PyProof.Rows L2 He RZ NT
section
variable {K : PySem.W.Frag} {p : Addr} {B H H' H'' : Hp} {σ : L2.St} {te ta tb : TE} {d : PyData} {l l1 l2 : List PyData}
/-- t[j], j written -/
theorem evE_ix {j : Nat} (a : Ev K p B σ (· = .tuple l) ta) (hj : l[j]? = some d) : Ev K p B σ (· = d) (tOp (rIxT K) ta (tC (.int (j : Int)))) := fun H Q hs ss q =>
  a H _ hs ss fun v1 d1 H1 o1 p1 h1 => by
    subst p1
    obtain ⟨x, xs, rfl, hx, dx⟩ := dp_tup h1
    have hl := (List.getElem?_eq_some_iff.mp hj).1
    have hk : j < xs.length := by rw [dpall_len dx]; exact hl
    have e := List.getElem?_eq_getElem hk
    exact ⟨x, xs, _, _, rfl, rfl, NF.Same.tup wo_same' hx, atI_nat e, q _ _ _ o1 rfl (dpall_get dx e hj)⟩
/-- t[:-1] -/
theorem evE_init {tl th : TO} (a : Ev K p B σ (· = .tuple (l ++ [d])) ta) (hl : ∀ H (Q : Option Int → Hp → Prop), Q none H → tl σ H Q) (hh : ∀ H (Q : Option Int → Hp → Prop), Q (some (-1)) H → th σ H Q) : Ev K p B σ (· = .tuple l) (tSl (rSlA K) ta tl th) := fun H Q hs ss q =>
  a H _ hs ss fun v1 d1 H1 o1 p1 h1 => hl _ _ (hh _ _ (by
    subst p1
    obtain ⟨x, xs, rfl, hx, dx⟩ := dp_tup h1
    have xl := dpall_len dx
    rw [List.length_append] at xl
    have xl : xs.length = l.length + 1 := xl
    refine ⟨x, xs, rfl, NF.Same.tup wo_same' hx, fun z => ?_, fun _ z hz => ?_⟩
    · have e2 := z.2
      rw [show ((-1 : Int)) = -((1 : Nat) : Int) from rfl, sIx_negN (by decide)] at e2
      omega
    · have o3 := Out.of_same o1.1 (NF.Same.new (o := .tup (cutV xs none (some (-1)))) (Same.refl H1) hz)
      have ec : cutV xs none (some (-1)) = xs.take (xs.length - 1) := cut_toN (n := 1) (by decide)
      have dc : DpAll K (wo H1 p) (cutV xs none (some (-1))) l := by
        rw [ec]
        have := dpall_take (n := xs.length - 1) dx
        rw [xl, Nat.add_sub_cancel, List.take_left] at this
        rw [xl, Nat.add_sub_cancel]
        exact this
      exact q _ _ _ (o1.trans o3) rfl (.tup (SqT.of (by rw [wo_ne (src_ne o1.1 hz)]; exact upd_same)) (dpall_mono o3.2 _ dc))))
theorem evE_cat (a : Ev K p B σ (· = .tuple l1) ta) (b : Ev K p B σ (· = .tuple l2) tb) (hl : l1.length + l2.length ≤ 10000) : Ev K p B σ (· = .tuple (l1 ++ l2)) (tOp (rCatA K) ta tb) :=
  ev_cat a b fun d1 d2 e1 e2 => ⟨l1, l2, e1, e2, hl, rfl⟩
end
end NF
set_option Elab.async false
set_option linter.all false
set_option maxRecDepth 100000
set_option maxHeartbeats 4000000
namespace K29
open PySem PySem.Spec PyProof.Rows L2 He NF RZ NT
/-! back from data -/
theorem dp_str_inv {K : PySem.W.Frag} {H : Hp} {v : V} {z : Str} (h : Dp K H v (.str z)) : v = .str z := by
  cases h
  rfl
theorem dps_inv {K : PySem.W.Frag} {H : Hp} : ∀ {l : List Str} {xs : List V}, DpAll K H xs (l.map .str) → xs = vS l
  | [], _, .nil => rfl
  | z :: l, _, .cons h a => by
    rw [dp_str_inv h, dps_inv a]
    rfl
theorem dpd_inv {K : PySem.W.Frag} {H : Hp} : ∀ {l : List Deed} {xs : List V}, DpAll K H xs (l.map dataD) → xs = l.map dV
  | [], _, .nil => rfl
  | none :: l, _, .cons h a => by
    rw [dp_str_inv h, dpd_inv a]
    rfl
  | some i :: l, _, .cons h a => by
    rw [NF.dp_int h, dpd_inv a]
    rfl
theorem dpw_inv {K : PySem.W.Frag} {H : Hp} : ∀ {ws : List (List Deed)} {xs : List V}, DpAll K H xs (ws.map dataW) → ∃ as : List Addr, xs = as.map V.ref ∧ as.length = ws.length ∧ ∀ (j : Nat) (a : Addr) (w : List Deed), as[j]? = some a → ws[j]? = some w → SqT K H a (w.map dV)
  | [], _, .nil => ⟨[], rfl, rfl, fun j a w e => by simp at e⟩
  | w :: ws, _, .cons h a => by
    obtain ⟨x, ys, rfl, hx, dx⟩ := NF.dp_tup h
    obtain ⟨as, rfl, hl, hq⟩ := dpw_inv a
    obtain rfl := dpd_inv dx
    refine ⟨x :: as, rfl, by rw [List.length_cons, List.length_cons, hl], fun j a' w' e1 e2 => ?_⟩
    cases j with
    | zero =>
      cases e1
      cases e2
      exact hx
    | succ j => exact hq j a' w' (by simpa using e1) (by simpa using e2)
theorem dpm_inv {K : PySem.W.Frag} {H : Hp} {v : V} : ∀ {m : MkD}, Dp K H v (mkP m) → MkL K H v m
  | .unk u, h => dp_str_inv h
  | .mak n b ws, h => by
    obtain ⟨q, xs, rfl, hq, dx⟩ := NF.dp_tup h
    cases dx with
    | cons h1 dx =>
      cases dx with
      | cons h2 dx =>
        cases dx with
        | cons h3 dx =>
          cases dx
          obtain rfl := NF.dp_int h1
          obtain ⟨pb, ys, rfl, hb, db⟩ := NF.dp_tup h2
          obtain rfl := dpd_inv db
          obtain ⟨pw, zs, rfl, hw, dw⟩ := NF.dp_tup h3
          obtain ⟨as, rfl, hl, hws⟩ := dpw_inv dw
          exact ⟨q, rfl, pb, pw, hq, hb, as, hw, hl, hws⟩
theorem dpr_inv {K : PySem.W.Frag} {H : Hp} {v : V} {r : RowD} (h : Dp K H v (rowP1 r)) : ∃ a, v = .ref a ∧ RowL K H a r := by
  obtain ⟨a, xs, rfl, ha, dx⟩ := NF.dp_tup h
  cases dx with
  | cons h1 dx =>
    cases dx with
    | cons h2 dx =>
      cases dx with
      | cons h3 dx =>
        cases dx
        obtain rfl := dp_str_inv h1
        obtain ⟨ps, ys, rfl, hs, ds⟩ := NF.dp_tup h3
        obtain rfl := dps_inv ds
        exact ⟨a, rfl, _, ps, ha, dpm_inv h2, hs⟩
theorem dprs_inv {K : PySem.W.Frag} {H : Hp} : ∀ {rs : List RowD} {xs : List V}, DpAll K H xs (rs.map rowP1) → ∃ as : List Addr, xs = as.map V.ref ∧ RowsA K H as rs
  | [], _, .nil => ⟨[], rfl, .nil⟩
  | r :: rs, _, .cons h a => by
    obtain ⟨x, rfl, hx⟩ := dpr_inv h
    obtain ⟨as, rfl, ra⟩ := dprs_inv a
    refine ⟨x :: as, rfl, by rw [List.length_cons, List.length_cons, ra.1], fun j a' r' e1 e2 => ?_⟩
    cases j with
    | zero =>
      cases e1
      cases e2
      exact hx
    | succ j => exact ra.2 j a' r' (by simpa using e1) (by simpa using e2)
theorem dp_web_inv {K : PySem.W.Frag} {H : Hp} {v : V} {gs : List Str} {rs : List RowD} (h : Dp K H v (webP gs rs)) : ∃ a, v = .ref a ∧ WebL K H a gs rs := by
  obtain ⟨a, xs, rfl, ha, dx⟩ := NF.dp_tup h
  cases dx with
  | cons h1 dx =>
    cases dx with
    | cons h2 dx =>
      cases dx
      obtain ⟨pg, ys, rfl, hg, dg⟩ := NF.dp_tup h1
      obtain rfl := dps_inv dg
      obtain ⟨pr, zs, rfl, hr, dr⟩ := NF.dp_tup h2
      obtain ⟨as, rfl, ra⟩ := dprs_inv dr
      exact ⟨a, rfl, pg, pr, as, ha, hg, hr, ra⟩
/-- a right web with another last row -/
theorem GoodW.swap {gs : List Str} {ini : List RowD} {r r' : RowD} (g : GoodW gs (ini ++ [r])) (hn : r'.name = r.name) (hl : r'.srcs.length = r.srcs.length) (hi : ∀ z ∈ r'.srcs, z ∈ gs ++ (ini ++ [r]).map RowD.name) (hu : ∀ u, r'.mkr = .unk u → r.mkr = .unk u) (ht : ∀ n b ws, r'.mkr = .mak n b ws → n = r.srcs.length ∧ GoodM n b ws) : GoodW gs (ini ++ [r']) := by
  have en : (ini ++ [r']).map RowD.name = (ini ++ [r]).map RowD.name := by
    rw [List.map_append, List.map_append]
    show _ ++ [r'.name] = _ ++ [r.name]
    rw [hn]
  have mr : r ∈ ini ++ [r] := List.mem_append_right _ (List.mem_singleton.mpr rfl)
  have mi : ∀ x ∈ ini, x ∈ ini ++ [r] := fun x h => List.mem_append_left _ h
  have cs : ∀ x ∈ ini ++ [r'], x ∈ ini ∨ x = r' := fun x h => (List.mem_append.mp h).imp id List.mem_singleton.mp
  have len : (ini ++ [r']).length = (ini ++ [r]).length := by rw [List.length_append, List.length_append]; rfl
  have okn : ∀ z ∈ gs ++ (ini ++ [r]).map RowD.name, okName z := fun z hz => (List.mem_append.mp hz).elim (g.gn z) fun h => by
    obtain ⟨x, hx, rfl⟩ := List.mem_map.mp h
    exact g.rn x hx
  have so := g.so r mr
  refine ⟨g.g3, g.gn, by rw [len]; exact g.r1, by rw [len]; exact g.r6, fun x h => ?_, fun x h => ?_, fun x h u e => ?_, fun x h n b ws e => ?_, fun x h y h' u e e' => ?_, by rw [en]; exact g.nd, fun x h z hz => ?_⟩
  · rcases cs x h with h | rfl
    · exact g.rn x (mi x h)
    · rw [hn]
      exact g.rn r mr
  · rcases cs x h with h | rfl
    · exact g.so x (mi x h)
    · exact ⟨by rw [hl]; exact so.s1, by rw [hl]; exact so.s3, fun z hz => okn z (hi z hz)⟩
  · rcases cs x h with h | rfl
    · exact g.un x (mi x h) u e
    · exact g.un r mr u (hu u e)
  · rcases cs x h with h | rfl
    · exact g.tl x (mi x h) n b ws e
    · rw [hl]
      exact ht n b ws e
  · rcases cs x h with hx | hx <;> rcases cs y h' with hy | hy
    · exact g.like x (mi x hx) y (mi y hy) u e e'
    · rw [hy] at e' ⊢
      rw [hl]
      exact g.like x (mi x hx) r mr u e (hu u e')
    · rw [hx] at e ⊢
      rw [hl]
      exact g.like r mr y (mi y hy) u (hu u e) e'
    · rw [hx, hy]
  · rw [en]
    rcases cs x h with h | rfl
    · exact g.inn x (mi x h) z hz
    · exact hi z hz
theorem likeM_self (m : MkD) : likeM m m := by cases m <;> trivial
theorem like_self (rs : List RowD) : Like rs rs := fun i r r2 e1 e2 => by
  rw [e1] at e2
  cases e2
  exact likeM_self _
theorem like_last {ini : List RowD} {r r' : RowD} (h : likeM r'.mkr r.mkr) : Like (ini ++ [r']) (ini ++ [r]) := fun i x y e1 e2 => by
  by_cases c : i < ini.length
  · rw [List.getElem?_append_left c] at e1 e2
    rw [e1] at e2
    cases e2
    exact likeM_self _
  · rw [List.getElem?_append_right (by omega)] at e1 e2
    by_cases z : i - ini.length = 0
    · rw [z] at e1 e2
      cases e1
      cases e2
      exact h
    · obtain ⟨k, hk⟩ : ∃ k, i - ini.length = k + 1 := ⟨i - ini.length - 1, by omega⟩
      rw [hk] at e1
      simp at e1
def spLOther (K : PySem.W.Frag) : Sp := fun vs H Q _ => ∃ (H0 : Hp) (p a : Addr) (gs : List Str) (rs : List RowD), vs = [.ref p, .ref a] ∧ Same H0 H ∧ H0 p = none ∧ Src H p ∧ WebL K H0 a gs rs ∧ DrawnW gs rs ∧
  ∀ a' gs' rs' H', Same H0 H' → Src H' p → WebL K H' a' gs' rs' → GoodW gs' rs' → Like rs' rs → Q (.ref a') H'
theorem sc__law_other : FnScope ["_law_source_here", "_law_web_here", "_law_way", "_law_row"] ["_law_source_here", "_law_web_here"] (defScope s__law_other) := ⟨rfl, rfl, rfl, by decide +kernel, rfl, by decide +kernel, by decide +kernel⟩
section
variable {P : Program} {w : World} {K : PySem.W.Frag} {mg : Str → Option Value} {base : Heap} {gs fs : List Str} {C : Addr}
theorem kit_t_t2 (K : PySem.W.Frag) : PySem.W.kitOne K (.type "tuple") (.type "tuple") = some true := if_pos (by decide +kernel)
theorem kit_s_t2 (K : PySem.W.Frag) : PySem.W.kitOne K (.type "str") (.type "tuple") = some false := by kernel_rfl
theorem ok__law_other {f : Addr} {fd : FuncData} (F : FunD K "_law_other" "_law_other" (defArgs s__law_other) (defBody s__law_other) (defScope s__law_other) [] [] f fd) (T : Txt K mg gs FS) (c__law_pick : Cal P w K mg base 1 "_law_pick" spPick) : FnOk P w K mg base CX0 2 f fd ["_law_source_here", "_law_web_here"] (spLOther K) := by
  refine F.ok sc__law_other (fun vs H Q E h => ?_) (fun cdv A outer s H vs Q E hr h => ?_)
  · obtain ⟨H0, p, a, gs, rs, rfl, _⟩ := h
    rfl
  · obtain ⟨H0, p, a, gs, rs, rfl, s0, n0, hs, wl, d, q⟩ := h
    refine ⟨_, PSs.nox (pss_cons (ps_set (i := 2) sc__law_other.nd rfl (Or.inl rfl) (pe_c c__law_pick hr (by decide) rfl (pa_cons (pv 0) (pa_cons pe_int pa_nil)))) (pss_cons (ps_set (i := 3) sc__law_other.nd rfl (Or.inl rfl) (pe_ix (ixt (K := K)) (pe_ix (ixt (K := K)) (pv 1) pe_int fun _ _ => rfl) (pe_un un_neg pe_int) fun _ _ => rfl)) (pss_cons (ps_if (PW.pt (pw_and (pt_cmpR op_eq (pv 2) pe_int (nomark _)) (pw_and1 (pt_val (pe_callB call_isi rfl (T.fr _ (by decide +kernel)) (by decide +kernel) (pa_cons (pe_ix (ixt (K := K)) (pv 3) pe_int fun _ _ => rfl) (pa_cons (pe_bltn (v := .ty "tuple") rfl (T.fr _ (by decide +kernel)) (by decide +kernel) rfl) pa_nil))))))) (pss_one (ps_ret (pe_tup (pa_cons (pe_ix (ixt (K := K)) (pv 1) pe_int fun _ _ => rfl) (pa_cons (pe_op op_catA (pe_slice sl_tupA (pe_ix (ixt (K := K)) (pv 1) pe_int fun _ _ => rfl) po_none (po_some (pe_un un_neg pe_int))) (pe_tup (pa_cons (pe_tup (pa_cons (pe_ix (ixt (K := K)) (pv 3) pe_int fun _ _ => rfl) (pa_cons (pe_tup (pa_cons (pe_ix (ixt (K := K)) (pe_ix (ixt (K := K)) (pv 3) pe_int fun _ _ => rfl) pe_int fun _ _ => rfl) (pa_cons (pe_op op_catA (pe_ix (ixt (K := K)) (pe_ix (ixt (K := K)) (pv 3) pe_int fun _ _ => rfl) pe_int fun _ _ => rfl) (pe_tup (pa_cons pe_int pa_nil))) (pa_cons (pe_ix (ixt (K := K)) (pe_ix (ixt (K := K)) (pv 3) pe_int fun _ _ => rfl) pe_int fun _ _ => rfl) pa_nil)))) (pa_cons (pe_ix (ixt (K := K)) (pv 3) pe_int fun _ _ => rfl) pa_nil)))) pa_nil))) pa_nil))))) pss_nil) (pss_cons (ps_if (PW.pt (pw_and (pt_cmpR op_eq (pv 2) pe_int (nomark _)) (pw_and1 (pt_cmpR op_lt (pe_callB call_len_seq rfl (T.fr _ (by decide +kernel)) boot_len (pa_cons (pe_ix (ixt (K := K)) (pv 1) pe_int fun _ _ => rfl) pa_nil)) pe_int (nomark _))))) (pss_one (ps_ret (pe_tup (pa_cons (pe_op op_catA (pe_ix (ixt (K := K)) (pv 1) pe_int fun _ _ => rfl) (pe_tup (pa_cons pe_str pa_nil))) (pa_cons (pe_ix (ixt (K := K)) (pv 1) pe_int fun _ _ => rfl) pa_nil))))) pss_nil) (pss_one (ps_ret (pe_tup (pa_cons (pe_ix (ixt (K := K)) (pv 1) pe_int fun _ _ => rfl) (pa_cons (pe_op op_catA (pe_slice sl_tupA (pe_ix (ixt (K := K)) (pv 1) pe_int fun _ _ => rfl) po_none (po_some (pe_un un_neg pe_int))) (pe_tup (pa_cons (pe_tup (pa_cons (pe_ix (ixt (K := K)) (pv 3) pe_int fun _ _ => rfl) (pa_cons (pe_ix (ixt (K := K)) (pv 3) pe_int fun _ _ => rfl) (pa_cons (pe_op op_catA (pe_slice sl_tupA (pe_ix (ixt (K := K)) (pv 3) pe_int fun _ _ => rfl) po_none (po_some (pe_un un_neg pe_int))) (pe_tup (pa_cons (pe_ix (ixt (K := K)) (pv 3) pe_int fun _ _ => rfl) pa_nil))) pa_nil)))) pa_nil))) pa_nil))))))))), ?_⟩
    have r1 := d.r1
    have r6 := d.r6
    have g3 := d.g3
    obtain ⟨ini, r, rfl⟩ : ∃ ini r, rs = ini ++ [r] := ⟨rs.dropLast, rs.getLast (fun z => by rw [z] at r1; exact absurd r1 (by decide)), (List.dropLast_concat_getLast _).symm⟩
    have g := d.good
    have mr : r ∈ ini ++ [r] := List.mem_append_right _ (List.mem_singleton.mpr rfl)
    have il : ini.length ≤ 5 := by rw [List.length_append] at r6; have : ini.length + 1 ≤ 6 := r6; omega
    have dr := d.row r mr
    refine ⟨_, rfl, wo H p, p, 3, rfl, wo_same', wo_none, hs, by decide, by decide, fun e G e0 e1 t1 hs1 => ?_⟩
    have s1 := wo_same s0 n0 t1
    have wlG := wl.mono s1
    obtain ⟨pg, pr, as, ha, hg, hpr, ra⟩ := id wlG
    obtain ⟨as0, y, rfl⟩ : ∃ as0 y, as = as0 ++ [y] := ⟨as.dropLast, as.getLast (fun z => by have := ra.1; rw [z, List.length_append] at this; exact absurd this (by simp)), (List.dropLast_concat_getLast _).symm⟩
    have hl : as0.length = ini.length := by
      have := ra.1
      rw [List.length_append, List.length_append] at this
      simpa using this
    have hy : RowL K G y r := ra.2 ini.length y r (by rw [List.getElem?_append_right (by omega), hl, Nat.sub_self]; rfl) (by rw [List.getElem?_append_right (Nat.le_refl _), Nat.sub_self]; rfl)
    have elast : atI ((as0 ++ [y]).map V.ref) (-1) = some (.ref y) := by
      rw [List.map_append]
      exact atI_last _ _
    refine ⟨_, rfl, a, _, _, _, rfl, rfl, ha, (rfl : atI [V.ref pg, V.ref pr] 1 = some (V.ref pr)), _, rfl, pr, _, _, _, rfl, rfl, hpr, elast, ?_⟩
    -- what data stands
    have ss : Same H0 (wo G p) := fun b o e => (wo_ne (ne_of_none e n0)).trans (s1 b o e)
    have dw : Dp K (wo G p) (.ref a) (webP gs (ini ++ [r])) := dp_web (wl.mono ss)
    have dy : Dp K (wo G p) (.ref y) (rowP1 r) := dp_row1 (hy.wo hs1)
    have fin : ∀ (v : V) (gs' : List Str) (rs' : List RowD) (G1 : Hp), Out p G G1 → Dp K (wo G1 p) v (webP gs' rs') → GoodW gs' rs' → Like rs' (ini ++ [r]) → Q v G1 := fun v gs' rs' G1 o dv g' l' => by
      obtain ⟨a', rfl, wl'⟩ := dp_web_inv dv
      exact q a' gs' rs' G1 (fun b u e => wo_same' _ _ (o.2 _ _ (ss _ _ e))) o.1 (wl'.mono wo_same') g' l'
    have evW : ∀ (σ : L2.St), σ[1]? = some (some (.ref a)) → Ev K p (wo G p) σ (· = webP gs (ini ++ [r])) (tVar 1) := fun σ e => ev_var e dw
    have evY : ∀ (σ : L2.St), σ[3]? = some (some (.ref y)) → Ev K p (wo G p) σ (· = rowP1 r) (tVar 3) := fun σ e => ev_var e dy
    have erows : (ini ++ [r]).map rowP1 = ini.map rowP1 ++ [rowP1 r] := by rw [List.map_append]; rfl
    have evR : ∀ (σ : L2.St), σ[1]? = some (some (.ref a)) → Ev K p (wo G p) σ (· = .tuple (ini.map rowP1 ++ [rowP1 r])) (tOp (rIxT K) (tVar 1) (tC (.int ((1 : Nat) : Int)))) := fun σ e => by
      rw [← erows]
      exact evE_ix (evW σ e) rfl
    have evI : ∀ (σ : L2.St) (tl th : TO), σ[1]? = some (some (.ref a)) → (∀ H (Q : Option Int → Hp → Prop), Q none H → tl σ H Q) → (∀ H (Q : Option Int → Hp → Prop), Q (some (-1)) H → th σ H Q) → Ev K p (wo G p) σ (· = .tuple (ini.map rowP1)) (tSl (rSlA K) (tOp (rIxT K) (tVar 1) (tC (.int ((1 : Nat) : Int)))) tl th) := fun σ tl th e h1 h2 => evE_init (evR σ e) h1 h2
    have ret_in : ∀ {te : TE} {D : Ends} {σ : L2.St} {H : Hp}, te σ H D.rt → tRet te D σ H := fun h => h
    obtain ⟨nm, mk, ss⟩ := r
    have s1' : 1 ≤ ss.length := dr.s1
    have s3' : ss.length ≤ 3 := dr.s3
    obtain ⟨si, sl, rfl⟩ : ∃ si sl, ss = si ++ [sl] := ⟨ss.dropLast, ss.getLast (fun z => by rw [z] at s1'; exact absurd s1' (by decide)), (List.dropLast_concat_getLast _).symm⟩
    have sil : si.length ≤ 2 := by rw [List.length_append] at s3'; have : si.length + 1 ≤ 3 := s3'; omega
    -- other sources
    have third : ∀ (D : Ends) (v2 : Option V), (∀ v gs' rs' G1, Out p G G1 → Dp K (wo G1 p) v (webP gs' rs') → GoodW gs' rs' → Like rs' (ini ++ [⟨nm, mk, si ++ [sl]⟩]) → D.rt v G1) → tRet (tTup (tCons (tOp (rIxT K) (tVar 1) (tC (.int 0))) (tCons (tOp (rCatA K) (tSl (rSlA K) (tOp (rIxT K) (tVar 1) (tC (.int 1))) tNoPart (tPart (tUn (rU fun i => .int (-i)) (tC (.int 1))))) (tTup (tCons (tTup (tCons (tOp (rIxT K) (tVar 3) (tC (.int 0))) (tCons (tOp (rIxT K) (tVar 3) (tC (.int 1))) (tCons (tOp (rCatA K) (tSl (rSlA K) (tOp (rIxT K) (tVar 3) (tC (.int 2))) tNoPart (tPart (tUn (rU fun i => .int (-i)) (tC (.int 1))))) (tTup (tCons (tOp (rIxT K) (tVar 3) (tC (.int 0))) tNil))) tNil)))) tNil))) tNil))) D [some (.ref p), some (.ref a), v2, some (.ref y)] G := by
      intro D v2 k
      have es : (si ++ [sl]).map PyData.str = si.map PyData.str ++ [.str sl] := by rw [List.map_append]; rfl
      have evS : Ev K p (wo G p) [some (.ref p), some (.ref a), v2, some (.ref y)] (· = .tuple (si.map PyData.str ++ [.str sl])) (tOp (rIxT K) (tVar 3) (tC (.int ((2 : Nat) : Int)))) := by
        rw [← es]
        exact evE_ix (evY _ rfl) rfl
      refine ret_in ?_
      refine evE_tup (K := K) (p := p) (B := wo G p) (evE_cons (evE_ix (j := 0) (evW _ rfl) rfl) (evE_cons (evE_cat (evI _ _ _ rfl (fun H Q q => q) (fun H Q q => ⟨_, rfl, _, rfl, q⟩)) (evE_tup (evE_cons (evE_tup (evE_cons (evE_ix (j := 0) (evY _ rfl) rfl) (evE_cons (evE_ix (j := 1) (evY _ rfl) rfl) (evE_cons (evE_cat (evE_init evS (fun H Q q => q) (fun H Q q => ⟨_, rfl, _, rfl, q⟩)) (evE_tup (evE_cons (evE_ix (j := 0) (evY _ rfl) rfl) evA_nil) (Nat.le_of_ble_eq_true rfl)) ?h1) evA_nil))) (Nat.le_of_ble_eq_true rfl)) evA_nil) (Nat.le_of_ble_eq_true rfl)) ?h2) evA_nil)) (Nat.le_of_ble_eq_true rfl) G _ hs1 (Same.refl _) ?h3
      case h1 => rw [List.length_map]; show si.length + 1 ≤ 10000; omega
      case h2 => rw [List.length_map]; show ini.length + 1 ≤ 10000; omega
      case h3 =>
        intro v d1 G1 o e dv
        have ed : d1 = webP gs (ini ++ [⟨nm, mk, si ++ [nm]⟩]) := by
          rw [e]
          unfold webP
          rw [List.map_append]
          show _ = PyData.tuple [sP gs, .tuple (ini.map rowP1 ++ [.tuple [.str nm, mkP mk, .tuple ((si ++ [nm]).map .str)]])]
          rw [List.map_append]
          rfl
        rw [ed] at dv
        refine k v gs _ G1 o dv (g.swap (r' := ⟨nm, mk, si ++ [nm]⟩) rfl (by show (si ++ [nm]).length = (si ++ [sl]).length; rw [List.length_append, List.length_append]; rfl) (fun z hz => ?_) (fun u e => e) (fun n b ws e => g.tl _ mr n b ws e)) (like_last (likeM_self _))
        rcases List.mem_append.mp hz with hz | hz
        · exact g.inn _ mr z (List.mem_append_left _ hz)
        · rw [List.mem_singleton.mp hz]
          exact List.mem_append_right _ (List.mem_map_of_mem (f := RowD.name) mr)
    -- a given more
    have second : ∀ (D : Ends) (v2 : Option V), gs.length < 3 → (∀ v gs' rs' G1, Out p G G1 → Dp K (wo G1 p) v (webP gs' rs') → GoodW gs' rs' → Like rs' (ini ++ [⟨nm, mk, si ++ [sl]⟩]) → D.rt v G1) → tRet (tTup (tCons (tOp (rCatA K) (tOp (rIxT K) (tVar 1) (tC (.int 0))) (tTup (tCons (tC (.str "zzz")) tNil))) (tCons (tOp (rIxT K) (tVar 1) (tC (.int 1))) tNil))) D [some (.ref p), some (.ref a), v2, some (.ref y)] G := by
      intro D v2 gl k
      refine ret_in ?_
      refine evE_tup (K := K) (p := p) (B := wo G p) (evE_cons (evE_cat (l1 := gs.map PyData.str) (evE_ix (j := 0) (evW _ rfl) rfl) (evE_tup (evE_cons ev_str evA_nil) (Nat.le_of_ble_eq_true rfl)) ?h1) (evE_cons (evE_ix (j := 1) (evW _ rfl) rfl) evA_nil)) (Nat.le_of_ble_eq_true rfl) G _ hs1 (Same.refl _) ?h3
      case h1 => rw [List.length_map]; show gs.length + 1 ≤ 10000; omega
      case h3 =>
        intro v d1 G1 o e dv
        have ed : d1 = webP (gs ++ [("zzz" : Str)]) (ini ++ [⟨nm, mk, si ++ [sl]⟩]) := by
          have e0 : (gs ++ [("zzz" : Str)]).map PyData.str = gs.map PyData.str ++ [.str "zzz"] := by rw [List.map_append]; rfl
          rw [e]
          unfold webP sP
          rw [e0]
        rw [ed] at dv
        refine k v _ _ G1 o dv ?_ (like_self _)
        have zz : ("zzz" : Str) ∉ MENU := by decide +kernel
        refine ⟨by rw [List.length_append]; show gs.length + 1 ≤ 3; omega, fun z hz => ?_, g.r1, g.r6, g.rn, g.so, g.un, g.tl, g.like, ?_, fun x hx z hz => ?_⟩
        · rcases List.mem_append.mp hz with hz | hz
          · exact g.gn z hz
          · rw [List.mem_singleton.mp hz]
            unfold okName
            decide +kernel
        · have nd := d.nd
          have mu := d.menu
          generalize (ini ++ [(⟨nm, mk, si ++ [sl]⟩ : RowD)]).map RowD.name = ns at nd mu
          refine (List.Perm.nodup_iff (l₁ := ("zzz" : Str) :: (gs ++ ns)) ?_).mp (List.nodup_cons.mpr ⟨fun h => zz (mu _ h), nd⟩)
          rw [List.append_assoc]
          exact (List.perm_middle (a := ("zzz" : Str)) (l₁ := gs) (l₂ := ns)).symm
        · rcases List.mem_append.mp (g.inn x hx z hz) with h | h
          · exact List.mem_append_left _ (List.mem_append_left _ h)
          · exact List.mem_append_right _ h
    have rest : ∀ {X Y : Prop} {b : Bool}, X → Y → if b = true then X else Y := fun x y => by split <;> assumption
    refine ⟨_, rfl, rfl, _, rfl, ?_⟩
    obtain ⟨v, ps, h1, h2, h3⟩ := id hy
    by_cases c0 : V.int e = V.int 0
    · rw [decide_eq_true c0]
      refine iteT ?_
      injection c0 with c0
      subst c0
      cases mk with
      | unk z =>
        obtain rfl : v = .str z := h2
        refine ⟨_, rfl, y, _, _, _, rfl, rfl, h1, at1, _, _, _, _, false, rfl, .ty "tuple", .base (.str _), kit_s_t2 K, false, rfl, iteF ?_⟩
        refine ⟨_, rfl, rfl, _, rfl, iteF' (by rfl) ?_⟩
        exact third _ _ fin
      | mak n b ws =>
        obtain ⟨x, rfl, hx⟩ := h2
        obtain ⟨_, _, hxt, _⟩ := id hx
        refine ⟨_, rfl, y, _, _, _, rfl, rfl, h1, at1, _, _, _, _, true, rfl, .ty "tuple", tyx_tup hxt, kit_t_t2 K, true, rfl, iteT ?_⟩
        refine ret_in ?_
        have tl := (g.tl _ mr n b ws rfl)
        have bl : b.length ≤ 4 := (dr.tl n b ws rfl).2.bl
        refine evE_tup (K := K) (p := p) (B := wo G p) (evE_cons (evE_ix (j := 0) (evW _ rfl) rfl) (evE_cons (evE_cat (evI _ _ _ rfl (fun H Q q => q) (fun H Q q => ⟨_, rfl, _, rfl, q⟩)) (evE_tup (evE_cons (evE_tup (evE_cons (evE_ix (j := 0) (evY _ rfl) rfl) (evE_cons (evE_tup (evE_cons (evE_ix (j := 0) (l := [.int (n : Int), dataW b, dataWs ws]) (evE_ix (j := 1) (evY _ rfl) rfl) rfl) (evE_cons (evE_cat (l1 := b.map dataD) (evE_ix (j := 1) (l := [.int (n : Int), dataW b, dataWs ws]) (evE_ix (j := 1) (evY _ rfl) rfl) rfl) (evE_tup (evE_cons ev_int evA_nil) (Nat.le_of_ble_eq_true rfl)) ?h1) (evE_cons (evE_ix (j := 2) (l := [.int (n : Int), dataW b, dataWs ws]) (evE_ix (j := 1) (evY _ rfl) rfl) rfl) evA_nil))) (Nat.le_of_ble_eq_true rfl)) (evE_cons (evE_ix (j := 2) (evY _ rfl) rfl) evA_nil))) (Nat.le_of_ble_eq_true rfl)) evA_nil) (Nat.le_of_ble_eq_true rfl)) ?h2) evA_nil)) (Nat.le_of_ble_eq_true rfl) G _ hs1 (Same.refl _) ?h3
        case h1 => rw [List.length_map]; show b.length + 1 ≤ 10000; omega
        case h2 => rw [List.length_map]; show ini.length + 1 ≤ 10000; omega
        case h3 =>
          intro v d1 G1 o e dv
          have ed : d1 = webP gs (ini ++ [⟨nm, .mak n (b ++ [some 0]) ws, si ++ [sl]⟩]) := by
            rw [e]
            unfold webP
            rw [List.map_append]
            show _ = PyData.tuple [sP gs, .tuple (ini.map rowP1 ++ [.tuple [.str nm, .tuple [.int (n : Int), .tuple ((b ++ [some 0]).map dataD), dataWs ws], sP (si ++ [sl])]])]
            rw [List.map_append]
            rfl
          rw [ed] at dv
          have gm := tl.2
          refine fin v gs _ G1 o dv (g.swap (r' := ⟨nm, .mak n (b ++ [some 0]) ws, si ++ [sl]⟩) rfl rfl (fun z hz => g.inn _ mr z hz) (fun u e => by cases e) (fun n' b' ws' e => ?_)) (like_last trivial)
          cases e
          refine ⟨tl.1, gm.n1, gm.n3, fun i hi => ?_, gm.wy, gm.m1, gm.m4, by rw [List.length_append]; show b.length + 1 ≤ 600; omega⟩
          rcases List.mem_append.mp hi with hi | hi
          · exact gm.bd i hi
          · have := List.mem_singleton.mp hi
            cases this
            exact gm.n1
    · rw [decide_eq_false c0]
      refine iteF ?_
      refine ⟨_, rfl, rfl, _, rfl, ?_⟩
      by_cases c1 : V.int e = V.int 1
      · rw [decide_eq_true c1]
        refine iteT ?_
        refine ⟨_, rfl, a, _, _, _, rfl, rfl, ha, (rfl : atI [V.ref pg, V.ref pr] 0 = some (V.ref pg)), pg, _, rfl, .inr hg, _, _, rfl, rfl, _, rfl, ?_⟩
        rw [vS_len]
        by_cases c2 : (gs.length : Int) < 3
        · rw [decide_eq_true c2]
          exact iteT (second _ _ (by omega) fin)
        · rw [decide_eq_false c2]
          exact iteF (third _ _ fin)
      · rw [decide_eq_false c1]
        exact iteF (third _ _ fin)
end
end K29
set_option Elab.async false
set_option linter.all false
set_option maxRecDepth 100000
set_option maxHeartbeats 4000000
namespace K29
open PySem PySem.Spec PyProof.Rows L2 He NF RZ NT
/-! the signs of a web's lines -/
def okS (z : Str) : Prop := PyData.canLay0 (.str z) = true
theorem okS_iff {z : Str} : okS z ↔ ∀ c ∈ z.cps.toList, c < 0x110000 := by
  unfold okS
  show (z.cps.all (· < 0x110000)) = true ↔ _
  rw [← Array.all_toList, List.all_eq_true]
  exact ⟨fun h c hc => of_decide_eq_true (h c hc), fun h c hc => decide_eq_true (h c hc)⟩
theorem okS_app {a b : Str} (h1 : okS a) (h2 : okS b) : okS (a ++ b) := by
  rw [okS_iff] at *
  intro c hc
  have e : (a ++ b).cps = a.cps ++ b.cps := rfl
  rw [e, Array.toList_append] at hc
  exact (List.mem_append.mp hc).elim (h1 c) (h2 c)
theorem okS_join {s : Str} (hs : okS s) : ∀ {l : List Str}, (∀ z ∈ l, okS z) → okS (Str.join s l)
  | [], _ => by rw [okS_iff]; intro c hc; exact absurd hc (by simp [Str.join, Str.empty])
  | [x], h => h x (List.mem_singleton.mpr rfl)
  | x :: y :: l, h => okS_app (okS_app (h x List.mem_cons_self) hs) (okS_join hs fun z hz => h z (List.mem_cons_of_mem _ hz))
theorem okS_deed {n : Nat} {d : Deed} (hn : n ≤ 3) (h : ∀ i, d = some i → i < n) : okS (deedS d) := by
  cases d with
  | none => unfold okS; decide +kernel
  | some i =>
    have := h i rfl
    match i, this with
    | 0, _ => unfold okS; decide +kernel
    | 1, _ => unfold okS; decide +kernel
    | 2, _ => unfold okS; decide +kernel
    | k + 3, h => omega
theorem okS_line {z : Str} {ts : List Str} (h1 : okS z) (h2 : ∀ t ∈ ts, okS t) : okS (lineD z ts) := by
  unfold lineD
  rw [jEq]
  refine okS_join (by unfold okS; decide +kernel) fun t ht => ?_
  rcases List.mem_cons.mp ht with rfl | ht
  · exact h1
  · exact h2 t ht
theorem okS_name {z : Str} (h : okName z) : okS z := str_lay h
theorem okS_row {r : RowD} (ok : RowOk r) (gm : ∀ n b ws, r.mkr = .mak n b ws → GoodM n b ws) : okS (rowT r) := by
  have st : okS (startR r) := okS_line (okS_app (okS_app (okS_app (by unfold okS; decide +kernel) (by unfold okS; decide +kernel)) (okS_name ok.nm)) (by unfold okS; decide +kernel)) fun t ht => okS_name (ok.so.w t ht)
  have e0 : okS Str.empty := by unfold okS; decide +kernel
  have e1 : okS (" by " : Str) := by unfold okS; decide +kernel
  have e2 : okS (": " : Str) := by unfold okS; decide +kernel
  have e3 : okS ("; " : Str) := by unfold okS; decide +kernel
  have e4 : okS ("begin" : Str) := by unfold okS; decide +kernel
  have e5 : okS ("way" : Str) := by unfold okS; decide +kernel
  unfold rowT
  cases em : r.mkr with
  | unk u => exact okS_app (okS_app (okS_app e0 st) e1) (str_lay (ok.un u em))
  | mak n b ws =>
    have g := gm n b ws em
    refine okS_app (okS_app (okS_app e0 st) e2) ?_
    rw [jEq]
    refine okS_join e3 fun t ht => ?_
    unfold partsR at ht
    rcases List.mem_cons.mp ht with rfl | ht
    · refine okS_line e4 fun t ht => ?_
      obtain ⟨d, hd, rfl⟩ := List.mem_map.mp ht
      exact okS_deed g.n3 fun i e => g.bd i (by rw [← e]; exact hd)
    · obtain ⟨v, hv, rfl⟩ := List.mem_map.mp ht
      refine okS_line e5 fun t ht => ?_
      obtain ⟨d, hd, rfl⟩ := List.mem_map.mp ht
      exact okS_deed g.n3 fun i e => (g.wy v hv).2.2 i (by rw [← e]; exact hd)
theorem okS_web {gs : List Str} {rs : List RowD} (g : GoodW gs rs) : ∀ z ∈ webT gs rs, okS z := by
  intro z hz
  unfold webT at hz
  rcases List.mem_append.mp hz with hz | hz
  · obtain ⟨x, hx, rfl⟩ := List.mem_map.mp hz
    exact okS_app (okS_app (by unfold okS; decide +kernel) (by unfold okS; decide +kernel)) (okS_name (g.gn x hx))
  · obtain ⟨r, hr, rfl⟩ := List.mem_map.mp hz
    exact okS_row (g.row hr) fun n b ws e => (g.tl r hr n b ws e).2
theorem shaped_linesT {l : List Str} (h : ∀ z ∈ l, okS z) : SeqAt.shaped (.tuple (l.map .str)) = true := shaped_of (n := 1) (lay_map l h) (depth_sP l) (by decide)
theorem shaped_linesL {l : List Str} (h : ∀ z ∈ l, okS z) : SeqAt.shaped (.list (l.map .str)) = true := shaped_of (n := 1) (lay_map (f := PyData.str) l h) (depth_sP l) (by decide)
theorem eqv_linesL (a b : List Str) : PyData.eqv (.list (a.map .str)) (.list (b.map .str)) = decide (a = b) := eqv_map eqv_str a b
theorem dp_linesL {K : PySem.W.Frag} {H : Hp} {a : Addr} {l : List Str} (h : SqL K H a (vS l)) : Dp K H (.ref a) (.list (l.map .str)) := .lst h (dp_strs l)
end K29
set_option Elab.async false
set_option linter.all false
set_option maxRecDepth 100000
set_option maxHeartbeats 4000000
namespace K29
open PySem PySem.Spec PyProof.Rows L2 He NF RZ NT
def spTruth : Sp := fun vs H Q _ => ∃ x y : Bool, vs = [.bl x, .bl y] ∧ Q (.bl (decide (V.bl x = V.bl y))) H
theorem sc__law_truth : FnScope ["_law_told", "_law_due"] ["_law_told", "_law_due"] (defScope s__law_truth) := ⟨rfl, rfl, rfl, by decide +kernel, rfl, by decide +kernel, by decide +kernel⟩
section
variable {P : Program} {w : World} {K : PySem.W.Frag} {mg : Str → Option Value} {base : Heap} {gs fs : List Str}
theorem ok__law_truth {f : Addr} {fd : FuncData} (F : FunD K "_law_truth" "_law_truth" (defArgs s__law_truth) (defBody s__law_truth) (defScope s__law_truth) [] [] f fd) (T : Txt K mg gs FS) : FnOk P w K mg base CX0 1 f fd ["_law_told", "_law_due"] spTruth := by
  refine F.ok sc__law_truth (fun vs H Q E h => ?_) (fun cdv A outer s H vs Q E hr h => ?_)
  · obtain ⟨x, y, rfl, _⟩ := h
    rfl
  · obtain ⟨x, y, rfl, q⟩ := h
    refine ⟨_, PSs.nox (pss_one (ps_ret (pe_and (pe_callB call_isi rfl (T.fr _ (by decide +kernel)) (by decide +kernel) (pa_cons (pv 0) (pa_cons (pe_bltn (v := .ty "bool") rfl (T.fr _ (by decide +kernel)) (by decide +kernel) rfl) pa_nil))) (pe_one (pe_cmpR op_eq (pv 0) (pv 1) (nomark _)))))), ?_⟩
    exact ⟨_, rfl, _, _, _, _, true, rfl, .ty "bool", .base (.bl x), kit_b_b K, true, rfl, iteT ⟨_, rfl, _, rfl, rfl, q⟩⟩
end
end K29
set_option Elab.async false
set_option linter.all false
set_option maxRecDepth 100000
set_option maxHeartbeats 4000000
namespace K29
open PySem PySem.Spec PyProof.Rows L2 He NF RZ NT
def spLaw (K : PySem.W.Frag) : Sp := fun vs H Q _ => ∃ (l : Addr) (ns : List Int), vs = [.ref l] ∧ SqL K H l (ns.map V.int) ∧ ns.length ≤ 63 ∧ (∀ k ∈ ns, Builtin.Int.intBits k ≤ 1048576) ∧ ∀ H', Q (.bl true) H'
def FG : List Str := ["g"]
def FR : List RowD := [⟨"x", .mak 2 [none] [[some 0, none], [some 0, some 1, none, none]], ["g", "x"]⟩, ⟨"y", .unk "f", ["x"]⟩]
theorem first_text : webT FG FR = (["given g", "row x of g x: begin give; way 0 give; way 0 1 give give", "row y of x by f"] : List Str) := by decide +kernel
theorem first_good : GoodW FG FR := by
  refine ⟨by decide, (by unfold okName; decide +kernel), by decide, by decide, (by unfold okName; decide +kernel), fun r h => ?_, fun r h u e => ?_, fun r h n b ws e => ?_, fun r h r' h' u e e' => ?_, by decide +kernel, by decide +kernel⟩
  · refine ⟨?_, ?_, ?_⟩ <;> (revert r; first | decide +kernel | (unfold okName; decide +kernel))
  · rcases List.mem_cons.mp h with rfl | h
    · cases e
    · obtain rfl := List.mem_singleton.mp h
      cases e
      decide +kernel
  · rcases List.mem_cons.mp h with rfl | h
    · cases e
      refine ⟨rfl, by decide, by decide, ?_, ?_, by decide, by decide, by decide⟩
      · intro i hi
        simp at hi
      · intro v hv
        rcases List.mem_cons.mp hv with rfl | hv
        · refine ⟨by decide, .inl (by decide), fun i hi => ?_⟩
          simp at hi
          omega
        · obtain rfl := List.mem_singleton.mp hv
          refine ⟨by decide, .inl (by decide), fun i hi => ?_⟩
          simp at hi
          omega
    · obtain rfl := List.mem_singleton.mp h
      cases e
  · rcases List.mem_cons.mp h with rfl | h
    · cases e
    · rcases List.mem_cons.mp h' with rfl | h'
      · cases e'
      · obtain rfl := List.mem_singleton.mp h
        obtain rfl := List.mem_singleton.mp h'
        rfl
theorem dec_self {α : Type} [DecidableEq α] (a : α) : decide (a = a) = true := decide_eq_true rfl
theorem sc_law : FnScope ["_law_script", "_law_source_here", "_law_web_here", "_law_lines", "_law_built_here", "_law_told", "_law_row", "_law_other_here", "_law_near", "_law_first", "_law_read"] ["_law_script"] (defScope s_law) := ⟨rfl, rfl, rfl, by decide +kernel, rfl, by decide +kernel, by decide +kernel⟩
section
variable {P : Program} {w : World} {K : PySem.W.Frag} {mg : Str → Option Value} {base : Heap} {gs fs : List Str} {C CW : Addr}
theorem ok_law {f : Addr} {fd : FuncData} (F : FunD K "law" "law" (defArgs s_law) (defBody s_law) (defScope s_law) [] [] f fd) (T : Txt K mg gs FS) (wc : WebC K CW) (nfT : PySem.W.notFirst K CW (.type "tuple") = true) (nfL : PySem.W.notFirst K CW (.type "list") = true) (c__law_source : Cal P w K mg base 1 "_law_source" (spSource K)) (c__law_web : Cal P w K mg base 4 "_law_web" (spLWeb K)) (c__law_opened : Cal P w K mg base 2 "_law_opened" (spLOpened K)) (c__law_web_lines : Cal P w K mg base 2 "_law_web_lines" (spLLines K)) (c__law_built : Cal P w K mg base 10 "_law_built" (spLBuilt K CW C)) (c_write_web : Cal P w K mg base 3 "write_web" (spWrite K CW C)) (c_read_web : Cal P w K mg base 11 "read_web" (spRead K CW C)) (c__law_same_web : Cal P w K mg base 1 "_law_same_web" (spLSame K CW C)) (c__law_other : Cal P w K mg base 2 "_law_other" (spLOther K)) (c__law_truth : Cal P w K mg base 1 "_law_truth" spTruth) (o_weq : EqC P w K mg base 4 CW (spWEq K CW C)) : FnOk P w K mg base CX0 12 f fd ["_law_script"] (spLaw K) := by
  refine F.ok sc_law (fun vs H Q E h => ?_) (fun cdv A outer s H vs Q E hr h => ?_)
  · obtain ⟨l, ns, rfl, _⟩ := h
    rfl
  · obtain ⟨sl, ns, rfl, hsl, hlen, hbits, k⟩ := h
    have hu : (A.deeper (envOfC "law" (defScope s_law) s.heap.objs.size f cdv)).units + 64 < cLine := by
      have := hr.un
      omega
    have nfC : PySem.W.notFirst K CW (.ref CW) = true := by simp [PySem.W.notFirst]
    refine ⟨_, PSs.nox (pss_cons (ps_set (i := 1) sc_law.nd rfl (Or.inl rfl) (pe_c c__law_source hr (by decide) rfl (pa_cons (pv 0) (pa_cons pe_int pa_nil)))) (pss_cons (ps_set (i := 2) sc_law.nd rfl (Or.inl rfl) (pe_c c__law_opened hr (by decide) rfl (pa_cons (pe_c c__law_source hr (by decide) rfl (pa_cons (pv 0) (pa_cons pe_int pa_nil))) (pa_cons (pe_c c__law_web hr (by decide) rfl (pa_cons (pv 1) (pa_cons pe_int (pa_cons pe_int (pa_cons pe_int (pa_cons pe_bl pa_nil)))))) (pa_cons pe_int pa_nil))))) (pss_cons (ps_set (i := 3) sc_law.nd rfl (Or.inl rfl) (pe_c c__law_web_lines hr (by decide) rfl (pa_cons (pv 2) pa_nil))) (pss_cons (ps_set (i := 4) sc_law.nd rfl (Or.inl rfl) (pe_c c__law_built hr (by decide) rfl (pa_cons (pv 2) pa_nil))) (pss_cons (ps_set (i := 5) sc_law.nd rfl (Or.inl rfl) (pe_c c_write_web hr (by decide) rfl (pa_cons (pv 4) pa_nil))) (pss_cons (ps_if (PW.pt (pw_or (pt_not (pt_val (pe_callB call_isi rfl (T.fr _ (by decide +kernel)) (by decide +kernel) (pa_cons (pv 5) (pa_cons (pe_bltn (v := .ty "tuple") rfl (T.fr _ (by decide +kernel)) (by decide +kernel) rfl) pa_nil))))) (pw_or1 (pt_cmpR (op_neD hu) (pe_callTy call_list_of rfl (T.fr _ (by decide +kernel)) (by decide +kernel) (pa_cons (pv 5) pa_nil)) (pv 3) (nomark _))))) (pss_one (ps_ret pe_bl)) pss_nil) (pss_cons (ps_for PassesOwn.never rfl (pi_list (pe_lst (pa_cons (pv 5) (pa_cons (pv 3) pa_nil)))) (pg_name (i := 6) sc_law.nd rfl (Or.inl rfl)) (pss_cons (ps_set (i := 10) sc_law.nd rfl (Or.inl rfl) (pe_c c_read_web hr (by decide) rfl (pa_cons (pv 6) pa_nil))) (pss_one (ps_if (PW.pt (pw_or (pt_not (pt_val (pe_c c__law_same_web hr (by decide) rfl (pa_cons (pv 10) (pa_cons (pv 2) pa_nil))))) (pw_or (pt_not (pt_cmpR (op_eqO o_weq hr (by decide)) (pv 10) (pv 4) (nomark _))) (pw_or (pt_cmpR (op_neO o_weq hr (by decide)) (pv 10) (pv 4) (nomark _)) (pw_or1 (pt_cmpR (op_neD hu) (pe_c c_write_web hr (by decide) rfl (pa_cons (pv 10) pa_nil)) (pv 5) (nomark _))))))) (pss_one (ps_ret pe_bl)) pss_nil)))) (pss_cons (ps_set (i := 7) sc_law.nd rfl (Or.inl rfl) (pe_c c__law_other hr (by decide) rfl (pa_cons (pv 1) (pa_cons (pv 2) pa_nil)))) (pss_cons (ps_set (i := 8) sc_law.nd rfl (Or.inl rfl) (pe_c c__law_built hr (by decide) rfl (pa_cons (pv 7) pa_nil))) (pss_cons (ps_if (PW.pt (pw_or (pt_not (pt_val (pe_c c__law_truth hr (by decide) rfl (pa_cons (pe_cmpR (op_eqO o_weq hr (by decide)) (pv 8) (pv 4) (nomark _)) (pa_cons (pe_cmpR (op_eqD hu) (pv 7) (pv 2) (nomark _)) pa_nil))))) (pw_or1 (pt_not (pt_val (pe_c c__law_same_web hr (by decide) rfl (pa_cons (pe_c c_read_web hr (by decide) rfl (pa_cons (pe_c c_write_web hr (by decide) rfl (pa_cons (pv 8) pa_nil)) pa_nil)) (pa_cons (pv 7) pa_nil)))))))) (pss_one (ps_ret pe_bl)) pss_nil) (pss_cons (ps_if (PW.pt (pw_or (pt_cmpR (op_eqO o_weq hr (by decide)) (pv 4) (pv 3) (nomark _)) (pw_or (pt_cmpR (op_eqO o_weq hr (by decide)) (pv 4) (pv 2) (nomark _)) (pw_or1 (pt_not (pt_val (pe_c c__law_same_web hr (by decide) rfl (pa_cons (pv 4) (pa_cons (pv 2) pa_nil))))))))) (pss_one (ps_ret pe_bl)) pss_nil) (pss_cons (ps_set (i := 9) sc_law.nd rfl (Or.inl rfl) (pe_lst (pa_cons pe_str (pa_cons pe_str (pa_cons pe_str pa_nil))))) (pss_one (ps_ret (pe_and (pe_cmpR (op_eqD hu) (pe_callTy call_list_of rfl (T.fr _ (by decide +kernel)) (by decide +kernel) (pa_cons (pe_c c_write_web hr (by decide) rfl (pa_cons (pe_c c_read_web hr (by decide) rfl (pa_cons (pv 9) pa_nil)) pa_nil)) pa_nil)) (pv 9) (nomark _)) (pe_one (pe_cmpR (op_eqD hu) (pv 3) (pe_c c__law_web_lines hr (by decide) rfl (pa_cons (pv 2) pa_nil)) (nomark _)))))))))))))))))), ?_⟩
    refine ⟨_, rfl, sl, ns, 0, rfl, hsl, hlen, hbits, by decide, fun p G1 s1 f1 S1 => ?_⟩
    refine ⟨_, rfl, sl, ns, 1, rfl, L2.Same.seq s1 hsl, hlen, hbits, by decide, fun p2 G2 s2 f2 S2 => ?_⟩
    have pp : p ≠ p2 := fun z => by
      obtain ⟨_, _, _, e⟩ := S1
      rw [z, f2] at e
      cases e
    refine ⟨_, rfl, wo G2 p, p, 3, 6, 4, true, rfl, wo_same', wo_none, S1.mono s2, by decide, by decide, by decide, by decide, by decide, fun a0 gv rs0 G3 s3 S3 wl0 d0 mk0 gl rl => ?_⟩
    have S23 : Src G3 p2 := by
      obtain ⟨x, y, z, e⟩ := S2
      exact ⟨x, y, z, s3 _ _ ((wo_ne (Ne.symm pp)).trans e)⟩
    refine ⟨wo G3 p2, p2, a0, 3, gv, rs0, rfl, wo_same', wo_none, S23, wl0.wo S23, d0, by decide, fun a rs G4 s4 S24 wl d => ?_⟩
    have S4 : Src G4 p := by
      obtain ⟨x, y, z, e⟩ := S3
      exact ⟨x, y, z, s4 _ _ ((wo_ne pp).trans e)⟩
    clear s1 f1 S1 s2 f2 S2 s3 S3 s4 S23 wl0 d0 mk0
    have g := d.good
    have okw := okS_web g
    -- the lines, the web built, what is written
    refine ⟨_, rfl, a, gv, rs, rfl, wl, g, fun L G5 s5 f5 hL => ?_⟩
    refine ⟨_, rfl, a, gv, rs, rfl, wl.mono s5, g, fun X G6 s6 wa => ?_⟩
    refine ⟨_, rfl, X, gv, rs, rfl, wa, g, fun W G7 s7 hW => ?_⟩
    have hL7 := s7 _ _ (s6 _ _ hL)
    refine ⟨_, rfl, _, _, _, _, true, rfl, .ty "tuple", tyx_tup hW, kit_t_t K, true, rfl, iteF ?_⟩
    refine ⟨_, rfl, W, _, rfl, .inr hW, fun l8 hl8 => ?_⟩
    have s8 := NF.Same.new (o := .lst (vS (webT gv rs))) (Same.refl G7) hl8
    have dl8 : Dp K (upd G7 l8 (.lst (vS (webT gv rs)))) (.ref l8) (.list ((webT gv rs).map .str)) := dp_linesL (SqL.of upd_same)
    generalize upd G7 l8 (.lst (vS (webT gv rs))) = G8 at s8 dl8
    have hL8 := s8 _ _ hL7
    refine ⟨_, rfl, _, _, dl8, dp_linesL (SqL.of hL8), shaped_linesL okw, shaped_linesL okw, _, rfl, neD_same (H := H) (by rw [eqv_linesL, dec_self]) ?_⟩
    have s48 := Same.trans s5 (Same.trans s6 (Same.trans s7 s8))
    have wl8 := wl.mono s48
    have wa8 := wa.mono (Same.trans s7 s8)
    have hW8 := NF.Same.tup s8 hW
    have S8 := S4.mono s48
    clear s5 s6 s7 s8 s48 wl wa hW S4 hL7 dl8 hL f5
    -- both told ways are read back
    refine ⟨_, rfl, _, rfl, (by show 2 ≤ sizeLine; decide), fun Z hZ => ⟨Z, rfl, ⟨_, SqL.of upd_same⟩, ?_⟩⟩
    have s9 := NF.Same.new (o := .lst [V.ref W, V.ref L]) (Same.refl G8) hZ
    have hZ9 := upd_same (H := G8) (a := Z) (o := .lst [V.ref W, V.ref L])
    generalize upd G8 Z (.lst [V.ref W, V.ref L]) = G9 at s9 hZ9
    have hL9 := s9 _ _ hL8
    have wl9 := wl8.mono s9
    have wa9 := wa8.mono s9
    have hW9 := NF.Same.tup s9 hW8
    have S9 := S8.mono s9
    clear s9 wl8 wa8 hW8 S8 hL8
    refine for_list (K := K) (a := Z) (xs := [.ref W, .ref L]) (fun j σ G => Same G9 G ∧ ∃ v6 v10 : Option V, σ = [some (.ref sl), some (.ref p), some (.ref a), some (.ref L), some (.ref X), some (.ref W), v6, none, none, none, v10])
      ⟨Same.refl _, _, _, rfl⟩ (fun j σ G _ z => SqL.of (z.1 _ _ hZ9)) ?_ ?_
    · rintro j y σ G hy ⟨sG, v6, v10, rfl⟩
      have hrow : ∃ b, y = .ref b ∧ NF.Row K G b (vS (webT gv rs)) := by
        match j, hy with
        | 0, hy =>
          cases hy
          exact ⟨W, rfl, .inr (NF.Same.tup sG hW9)⟩
        | 1, hy =>
          cases hy
          exact ⟨L, rfl, .inl (SqL.of (sG _ _ hL9))⟩
        | j + 2, hy => simp at hy
      obtain ⟨b, rfl, hb⟩ := hrow
      refine ⟨_, rfl, b, gv, rs, rfl, hb, g, fun x Ga sa wr => ?_⟩
      have sGa := Same.trans sG sa
      refine ⟨_, rfl, _, rfl, x, a, gv, rs, rfl, wr, wl9.mono sGa, g, fun Gb sb => ⟨true, rfl, iteF ?_⟩⟩
      have sGb := Same.trans sGa sb
      have wr := wr.mono sb
      have wab := wa9.mono sGb
      obtain ⟨dx, _, _, _, hx, _⟩ := id wr
      obtain ⟨dX, _, _, _, hX, _⟩ := id wab
      refine ⟨_, rfl, _, rfl, x, dx, _, _, rfl, hx, wc.ty hX, nfC, x, gv, rs, .ref X, rfl, wr, .inl ⟨X, gv, rs, rfl, wab, fun _ => like_self _, fun Gc sc => ⟨_, rfl, ?_⟩⟩⟩
      rw [dec_self]
      refine iteF ?_
      refine ⟨_, rfl, _, rfl, x, dx, _, X, dX, _, rfl, sc _ _ hx, rfl, sc _ _ hX, x, gv, rs, .ref X, rfl, wr.mono sc, .inl ⟨X, gv, rs, rfl, wab.mono sc, fun _ => like_self _, fun Gd sd => ⟨_, rfl, _, rfl, ?_⟩⟩⟩
      rw [dec_self]
      refine iteF ?_
      have scd := Same.trans sc sd
      refine ⟨_, rfl, x, gv, rs, rfl, wr.mono scd, g, fun q Ge se hq => ?_⟩
      have sGe := Same.trans sGb (Same.trans scd se)
      refine ⟨_, rfl, _, _, dp_sP hq, dp_sP (NF.Same.tup sGe hW9), shaped_linesT okw, shaped_linesT okw, _, rfl, neD_same (H := H) (by rw [eqv_sP, dec_self]) ?_⟩
      exact ⟨sGe, _, _, rfl⟩
    rintro σ G ⟨sG, v6, v10, rfl⟩
    have wlG := wl9.mono sG
    have waG := wa9.mono sG
    have hLG := sG _ _ hL9
    have SG := S9.mono sG
    clear sG wl9 wa9 hW9 S9 hL9 hZ9 hZ
    -- another web
    refine ⟨_, rfl, _, rfl, wo G p, p, a, gv, rs, rfl, wo_same', wo_none, SG, wlG.wo SG, d, fun a2 gv2 rs2 Ga sa Sa wl2 g2 lk => ?_⟩
    have okw2 := okS_web g2
    have wlA : WebL K Ga a gv rs := (wlG.wo SG).mono sa
    have waA : WebAt K CW C Ga X gv rs := by
      obtain ⟨dx, pg, pr, pn, h1, h2, ⟨as, h3, h4, h5⟩, h6⟩ := waG
      obtain ⟨_, _, _, ep⟩ := id SG
      have nx : X ≠ p := fun z => by
        rw [z, ep] at h1
        cases h1
      refine ⟨dx, pg, pr, pn, sa _ _ ((wo_ne nx).trans h1), NF.Same.tup sa (SqT.wo h2 ep trivial), ⟨as, NF.Same.tup sa (SqT.wo h3 ep trivial), h4, fun j x r e1 e2 => ?_⟩, NF.Same.tup sa (SqT.wo h6 ep trivial)⟩
      obtain ⟨v, ps, t1, t2, t3⟩ := h5 j x r e1 e2
      refine ⟨v, ps, NF.Same.tup sa (SqT.wo t1 ep trivial), ?_, NF.Same.tup sa (SqT.wo t3 ep trivial)⟩
      cases em : r.mkr with
      | unk u =>
        rw [em] at t2
        exact t2
      | mak n b ws =>
        rw [em] at t2
        obtain ⟨y, e, dy, pb, pw, hy, hb, as', hw, hl, hws⟩ := t2
        have ny : y ≠ p := fun z => by
          rw [z, ep] at hy
          cases hy
        exact ⟨y, e, dy, pb, pw, sa _ _ ((wo_ne ny).trans hy), NF.Same.tup sa (SqT.wo hb ep trivial), as', NF.Same.tup sa (SqT.wo hw ep trivial), hl, fun k c v e1 e2 => NF.Same.tup sa (SqT.wo (hws k c v e1 e2) ep trivial)⟩
    have hLA : Ga L = some (.lst (vS (webT gv rs))) := by
      obtain ⟨e1, e2, e3, ep⟩ := id SG
      refine sa _ _ ((wo_ne fun z => ?_).trans hLG)
      rw [z, ep] at hLG
      injection hLG with hLG
      injection hLG with hLG
      cases el : webT gv rs with
      | nil => rw [el] at hLG; cases hLG
      | cons t tl => rw [el] at hLG; cases hLG
    clear wlG waG hLG SG sa Sa
    refine ⟨_, rfl, a2, gv2, rs2, rfl, wl2, g2, fun Y Gb sb wy => ?_⟩
    have waB := waA.mono sb
    obtain ⟨dY, _, _, _, hY, _⟩ := id wy
    obtain ⟨dX, _, _, _, hX, _⟩ := id waB
    refine ⟨_, rfl, _, rfl, Y, dY, _, _, rfl, hY, wc.ty hX, nfC, Y, gv2, rs2, .ref X, rfl, wy, .inl ⟨X, gv, rs, rfl, waB, fun _ => lk, fun Gc sc => ?_⟩⟩
    have sbc := Same.trans sb sc
    refine ⟨_, rfl, _, rfl, _, _, dp_web (wl2.mono sbc), dp_web (wlA.mono sbc), shaped_web g2, shaped_web g, ?_⟩
    rw [eqv_webP]
    refine ⟨_, _, rfl, ⟨_, rfl, ?_⟩⟩
    rw [decide_eq_true (show V.bl (decide ((gv2, rs2) = (gv, rs))) = V.bl (decide ((gv2, rs2) = (gv, rs))) from rfl)]
    refine iteF ?_
    refine ⟨_, rfl, Y, gv2, rs2, rfl, wy.mono sc, g2, fun W2 Gd sd hW2 => ?_⟩
    refine ⟨W2, gv2, rs2, rfl, .inr hW2, g2, fun R2 Ge se wr2 => ?_⟩
    have sbe := Same.trans sbc (Same.trans sd se)
    refine ⟨_, rfl, R2, a2, gv2, rs2, rfl, wr2, wl2.mono sbe, g2, fun Gf sf => ⟨true, rfl, iteF ?_⟩⟩
    have sbf := Same.trans sbe sf
    have waF := waA.mono sbf
    have wlF := wlA.mono sbf
    have hLF := sbf _ _ hLA
    obtain ⟨dX, _, _, _, hX, _⟩ := id waF
    obtain ⟨_, _, _, hat, _⟩ := id wlF
    -- other kinds
    refine ⟨_, rfl, _, rfl, X, dX, _, _, rfl, hX, tyx_lst (SqL.of hLF), nfL, X, gv, rs, .ref L, rfl, waF, .inr ⟨_, tyx_lst (SqL.of hLF), wc.lst, _, rfl, iteF ?_⟩⟩
    refine ⟨_, rfl, _, rfl, X, dX, _, _, rfl, hX, tyx_tup hat, nfT, X, gv, rs, .ref a, rfl, waF, .inr ⟨_, tyx_tup hat, wc.tup, _, rfl, iteF ?_⟩⟩
    refine ⟨_, rfl, _, rfl, X, a, gv, rs, rfl, waF, wlF, g, fun Gg sg => ⟨true, rfl, iteF ?_⟩⟩
    have wlH := wlF.mono sg
    have hLH := sg _ _ hLF
    -- the first example
    refine ⟨(by show 3 ≤ sizeLine; decide), fun N hN => ?_⟩
    have ek : (HO.lst [V.str "given g", V.str "row x of g x: begin give; way 0 give; way 0 1 give give", V.str "row y of x by f"]) = .lst (vS (webT FG FR)) := by
      rw [first_text]
      rfl
    rw [ek]
    have sn := NF.Same.new (o := .lst (vS (webT FG FR))) (Same.refl Gg) hN
    have hN' := upd_same (H := Gg) (a := N) (o := .lst (vS (webT FG FR)))
    generalize upd Gg N (.lst (vS (webT FG FR))) = Gh at sn hN'
    refine ⟨_, rfl, N, FG, FR, rfl, .inl (SqL.of hN'), first_good, fun x Gi si wx => ?_⟩
    refine ⟨x, FG, FR, rfl, wx, first_good, fun W3 Gj sj hW3 => ?_⟩
    refine ⟨W3, _, rfl, .inr hW3, fun l4 hl4 => ?_⟩
    have s4 := NF.Same.new (o := .lst (vS (webT FG FR))) (Same.refl Gj) hl4
    have dl4 : Dp K (upd Gj l4 (.lst (vS (webT FG FR)))) (.ref l4) (.list ((webT FG FR).map .str)) := dp_linesL (SqL.of upd_same)
    generalize upd Gj l4 (.lst (vS (webT FG FR))) = Gk at s4 dl4
    have okf := okS_web first_good
    have sik := Same.trans si (Same.trans sj s4)
    refine ⟨_, rfl, _, _, dl4, dp_linesL (SqL.of (sik _ _ hN')), shaped_linesL okf, shaped_linesL okf, ?_⟩
    rw [eqv_linesL, dec_self]
    refine ⟨_, rfl, iteT ?_⟩
    have snk := Same.trans sn sik
    refine ⟨_, rfl, _, rfl, a, gv, rs, rfl, wlH.mono snk, g, fun L2' Gl sl2 fl2 hl2 => ?_⟩
    refine ⟨_, _, dp_linesL (SqL.of (sl2 _ _ (snk _ _ hLH))), dp_linesL (SqL.of hl2), shaped_linesL okw, shaped_linesL okw, ?_⟩
    rw [eqv_linesL, dec_self]
    exact k _
end
end K29
set_option Elab.async false
set_option linter.all false
set_option maxRecDepth 100000
set_option maxHeartbeats 4000000
namespace K29
open PySem PySem.Spec PyProof.Rows L2 He NF RZ NT
theorem all_ok {P : Program} {w : World} {K : PySem.W.Frag} {h : Heap} {mg : Str → Option Value} {f : Addr} (X : K.In h) (G : h.Ns mainGlobals mg) (hfa : mg ("law" : Str) = some (.ref f)) (c : SaysP exB fn K) :
    ∃ fd : FuncData, (∀ (s : Shared) (v : Value), BindsTo s fd ⟨[v], []⟩ [("_law_script", v)]) ∧ ∀ base : Heap, K.In base → base.Ns mainGlobals mg → FnOk P w K mg base CX0 12 f fd ["_law_script"] (spLaw K) := by
  have ht : ∀ f ∈ exL, f K = true := fun f hf => List.all_eq_true.mp c.truth f hf
  have b_nam : (namB gs FS) K = true := ht _ (List.mem_of_getElem? (i := 0) rfl)
  have b_int_MOST_INLETS : (intB "MOST_INLETS" 3) K = true := ht _ (List.mem_of_getElem? (i := 1) rfl)
  have b_int_MOST_WAYS : (intB "MOST_WAYS" 4) K = true := ht _ (List.mem_of_getElem? (i := 2) rfl)
  have b_int_MOST_DEEDS : (intB "MOST_DEEDS" 600) K = true := ht _ (List.mem_of_getElem? (i := 3) rfl)
  have b_int_MOST_DEEDS_OF_SEVERAL : (intB "MOST_DEEDS_OF_SEVERAL" 24) K = true := ht _ (List.mem_of_getElem? (i := 4) rfl)
  have b_int_MOST_GIVENS : (intB "MOST_GIVENS" 3) K = true := ht _ (List.mem_of_getElem? (i := 5) rfl)
  have b_int_MOST_ROWS : (intB "MOST_ROWS" 6) K = true := ht _ (List.mem_of_getElem? (i := 6) rfl)
  have b_int_LONGEST_NAME : (intB "LONGEST_NAME" 8) K = true := ht _ (List.mem_of_getElem? (i := 7) rfl)
  have b_int_LONGEST_UNKNOWN : (intB "LONGEST_UNKNOWN" 2) K = true := ht _ (List.mem_of_getElem? (i := 8) rfl)
  have b_str_LETTERS : (strB "LETTERS" "abcdefghijklmnopqrstuvwxyz") K = true := ht _ (List.mem_of_getElem? (i := 9) rfl)
  have b_str_FIGURES : (strB "FIGURES" "0123456789") K = true := ht _ (List.mem_of_getElem? (i := 10) rfl)
  have b_clsM : (clsB "Maker") K = true := ht _ (List.mem_of_getElem? (i := 11) rfl)
  have b_fldM : (fldsB "Maker" ["inlets", "begin", "ways"]) K = true := ht _ (List.mem_of_getElem? (i := 12) rfl)
  have b_tyM : (tyB "Maker") K = true := ht _ (List.mem_of_getElem? (i := 13) rfl)
  have b_mk_Maker : (mkB "Maker") K = true := ht _ (List.mem_of_getElem? (i := 14) rfl)
  have b_eqMaker : (eqB "Maker") K = true := ht _ (List.mem_of_getElem? (i := 15) rfl)
  have b_clsW : (clsB "Web") K = true := ht _ (List.mem_of_getElem? (i := 16) rfl)
  have b_fldW : (fldsB "Web" ["givens", "rows", "names"]) K = true := ht _ (List.mem_of_getElem? (i := 17) rfl)
  have b_tyW : (tyB "Web") K = true := ht _ (List.mem_of_getElem? (i := 18) rfl)
  have b_mk_Web : (mkB "Web") K = true := ht _ (List.mem_of_getElem? (i := 19) rfl)
  have b_eqWeb : (eqB "Web") K = true := ht _ (List.mem_of_getElem? (i := 20) rfl)
  have b_ktm : (kTyM) K = true := ht _ (List.mem_of_getElem? (i := 21) rfl)
  have b_ktw : (kTyW) K = true := ht _ (List.mem_of_getElem? (i := 22) rfl)
  have T : Txt K mg gs FS := nam_ok b_nam X G
  obtain ⟨tok_MOST_INLETS, h_MOST_INLETS⟩ := int_ok b_int_MOST_INLETS X G
  obtain ⟨tok_MOST_WAYS, h_MOST_WAYS⟩ := int_ok b_int_MOST_WAYS X G
  obtain ⟨tok_MOST_DEEDS, h_MOST_DEEDS⟩ := int_ok b_int_MOST_DEEDS X G
  obtain ⟨tok_MOST_DEEDS_OF_SEVERAL, h_MOST_DEEDS_OF_SEVERAL⟩ := int_ok b_int_MOST_DEEDS_OF_SEVERAL X G
  obtain ⟨tok_MOST_GIVENS, h_MOST_GIVENS⟩ := int_ok b_int_MOST_GIVENS X G
  obtain ⟨tok_MOST_ROWS, h_MOST_ROWS⟩ := int_ok b_int_MOST_ROWS X G
  obtain ⟨tok_LONGEST_NAME, h_LONGEST_NAME⟩ := int_ok b_int_LONGEST_NAME X G
  obtain ⟨tok_LONGEST_UNKNOWN, h_LONGEST_UNKNOWN⟩ := int_ok b_int_LONGEST_UNKNOWN X G
  obtain ⟨tok_LETTERS, h_LETTERS⟩ := str_ok b_str_LETTERS X G
  obtain ⟨tok_FIGURES, h_FIGURES⟩ := str_ok b_str_FIGURES X G
  have kMS := of_decide_eq_true (ba b_ktm).1
  have kSM := of_decide_eq_true (ba b_ktm).2
  have kLW := of_decide_eq_true (ba b_ktw).1
  have kNT := (ba (ba b_ktw).2).1
  have kNL := (ba (ba b_ktw).2).2
  have tyM := ty_ok b_tyM
  have mc : MakC K (ga K "Maker") := ⟨cls_ok b_clsM, flds_ok b_fldM (by decide +kernel), flds_ok b_fldM (by decide +kernel), flds_ok b_fldM (by decide +kernel), tyM.ac, tyM.ag, tyM.at_, tyM.am, tyM.self, tyM.tup, tyM.int⟩
  have tyW := ty_ok b_tyW
  have wc : WebC K (ga K "Web") := ⟨cls_ok b_clsW, flds_ok b_fldW (by decide +kernel), flds_ok b_fldW (by decide +kernel), flds_ok b_fldW (by decide +kernel), tyW.ac, tyW.ag, tyW.at_, tyW.am, tyW.self, tyW.tup, kLW⟩
  obtain ⟨f0, F0⟩ := c.def_ 0 (d := dG "is_integer" s_is_integer) rfl
  obtain ⟨f1, F1⟩ := c.def_ 1 (d := dG "is_count" s_is_count) rfl
  obtain ⟨f2, F2⟩ := c.def_ 2 (d := dG "is_row" s_is_row) rfl
  obtain ⟨f3, F3⟩ := c.def_ 3 (d := dG "is_deed" s_is_deed) rfl
  obtain ⟨f4, F4⟩ := c.def_ 4 (d := dG "are_deeds" s_are_deeds) rfl
  obtain ⟨f5, F5⟩ := c.def_ 5 (d := dG "are_ways" s_are_ways) rfl
  obtain ⟨f6, F6⟩ := c.def_ 6 (d := dG "check_maker" s_check_maker) rfl
  obtain ⟨f7, F7⟩ := c.def_ 7 (d := dM "Maker" "__init__" "Maker.__init__" s_Maker_init []) rfl
  obtain ⟨f8, F8⟩ := c.def_ 8 (d := dM "Maker" "__eq__" "Maker.__eq__" s_Maker_eq []) rfl
  obtain ⟨f9, F9⟩ := c.def_ 9 (d := dG "_law_pick" s__law_pick) rfl
  obtain ⟨f10, F10⟩ := c.def_ 10 (d := dG "_law_source" s__law_source) rfl
  obtain ⟨f11, F11⟩ := c.def_ 11 (d := dG "_law_deeds" s__law_deeds) rfl
  obtain ⟨f12, F12⟩ := c.def_ 12 (d := dG "_law_maker" s__law_maker) rfl
  obtain ⟨f13, F13⟩ := c.def_ 13 (d := dG "_law_made" s__law_made) rfl
  obtain ⟨f14, F14⟩ := c.def_ 14 (d := dG "is_word" s_is_word) rfl
  obtain ⟨f15, F15⟩ := c.def_ 15 (d := dG "is_row_name" s_is_row_name) rfl
  obtain ⟨f16, F16⟩ := c.def_ 16 (d := dG "is_unknown" s_is_unknown) rfl
  obtain ⟨f17, F17⟩ := c.def_ 17 (d := dG "check_givens" s_check_givens) rfl
  obtain ⟨f18, F18⟩ := c.def_ 18 (d := dG "are_sources" s_are_sources) rfl
  obtain ⟨f19, F19⟩ := c.def_ 19 (d := dG "is_made_row" s_is_made_row) rfl
  obtain ⟨f20, F20⟩ := c.def_ 20 (d := dG "check_rows" s_check_rows) rfl
  obtain ⟨f21, F21⟩ := c.def_ 21 (d := dG "check_names" s_check_names) rfl
  obtain ⟨f22, F22⟩ := c.def_ 22 (d := dM "Web" "__init__" "Web.__init__" s_Web_init []) rfl
  obtain ⟨f23, F23⟩ := c.def_ 23 (d := dM "Web" "__eq__" "Web.__eq__" s_Web_eq []) rfl
  obtain ⟨f24, F24⟩ := c.def_ 24 (d := dG "text_of_deeds" s_text_of_deeds) rfl
  obtain ⟨f25, F25⟩ := c.def_ 25 (d := dG "text_of_row" s_text_of_row) rfl
  obtain ⟨f26, F26⟩ := c.def_ 26 (d := dG "write_web" s_write_web) rfl
  obtain ⟨f27, F27⟩ := c.def_ 27 (d := dG "deed_of" s_deed_of) rfl
  obtain ⟨f28, F28⟩ := c.def_ 28 (d := dG "deeds_behind" s_deeds_behind) rfl
  obtain ⟨f29, F29⟩ := c.def_ 29 (d := dG "maker_in" s_maker_in) rfl
  obtain ⟨f30, F30⟩ := c.def_ 30 (d := dG "given_of" s_given_of) rfl
  obtain ⟨f31, F31⟩ := c.def_ 31 (d := dG "row_of" s_row_of) rfl
  obtain ⟨f32, F32⟩ := c.def_ 32 (d := dG "are_lines" s_are_lines) rfl
  obtain ⟨f33, F33⟩ := c.def_ 33 (d := dG "read_web" s_read_web) rfl
  obtain ⟨f34, F34⟩ := c.def_ 34 (d := dG "_law_truth" s__law_truth) rfl
  obtain ⟨f35, F35⟩ := c.def_ 35 (d := dG "_law_web" s__law_web) rfl
  obtain ⟨f36, F36⟩ := c.def_ 36 (d := dG "_law_opened" s__law_opened) rfl
  obtain ⟨f37, F37⟩ := c.def_ 37 (d := dG "_law_built" s__law_built) rfl
  obtain ⟨f38, F38⟩ := c.def_ 38 (d := dG "_law_line" s__law_line) rfl
  obtain ⟨f39, F39⟩ := c.def_ 39 (d := dG "_law_web_lines" s__law_web_lines) rfl
  obtain ⟨f40, F40⟩ := c.def_ 40 (d := dG "_law_same_web" s__law_same_web) rfl
  obtain ⟨f41, F41⟩ := c.def_ 41 (d := dG "_law_other" s__law_other) rfl
  obtain ⟨f42, F42⟩ := c.def_ 42 (d := dG "law" s_law) rfl
  have e := hfa.symm.trans (T.gl "law" (by decide +kernel))
  cases e
  have bl := FunD.bindsA (ps := ["_law_script"]) F42 fun _ _ _ _ _ _ us hl => match us, hl with | [_], _ => rfl
  refine ⟨f42, fun s v => bl s [v] rfl, fun base _ _ => ?_⟩
  have c_is_integer : Cal P w K mg base 1 "is_integer" spIsInt := Cal.mk' F0 (ok_is_integer F0 T) (T.gl _ (by decide +kernel)) (F0.bindsN fun _ _ _ _ _ _ us hl => match us, hl with | [_], _ => rfl)
  have c_is_count : Cal P w K mg base 2 "is_count" spIsCount := Cal.mk' F1 (ok_is_count F1 T c_is_integer) (T.gl _ (by decide +kernel)) (F1.bindsN fun _ _ _ _ _ _ us hl => match us, hl with | [_], _ => rfl)
  have c_is_row : Cal P w K mg base 1 "is_row" (spIsRow K) := Cal.mk' F2 (ok_is_row F2 T) (T.gl _ (by decide +kernel)) (F2.bindsN fun _ _ _ _ _ _ us hl => match us, hl with | [_], _ => rfl)
  have c_is_deed : Cal P w K mg base 3 "is_deed" spDeed := Cal.mk' F3 (ok_is_deed F3 T c_is_count) (T.gl _ (by decide +kernel)) (F3.bindsN fun _ _ _ _ _ _ us hl => match us, hl with | [_, _], _ => rfl)
  have c_are_deeds : Cal P w K mg base 4 "are_deeds" (spDeeds K) := Cal.mk' F4 (ok_are_deeds F4 T c_is_row c_is_deed) (T.gl _ (by decide +kernel)) (F4.bindsN fun _ _ _ _ _ _ us hl => match us, hl with | [_, _], _ => rfl)
  have c_are_ways : Cal P w K mg base 5 "are_ways" (spWays K) := Cal.mk' F5 (ok_are_ways F5 T h_MOST_WAYS c_is_row c_are_deeds) (T.gl _ (by decide +kernel)) (F5.bindsN fun _ _ _ _ _ _ us hl => match us, hl with | [_, _], _ => rfl)
  have c_check_maker : Cal P w K mg base 6 "check_maker" (spCheckM K) := Cal.mk' F6 (ok_check_maker F6 T h_MOST_INLETS h_MOST_DEEDS h_MOST_DEEDS_OF_SEVERAL c_is_integer c_are_deeds c_are_ways) (T.gl _ (by decide +kernel)) (F6.bindsN fun _ _ _ _ _ _ us hl => match us, hl with | [_, _, _], _ => rfl)
  have oi_Maker : FnOk P w K mg base CX0 7 _ f7 ["self", "inlets", "begin", "ways"] (spMkInit K (ga K "Maker")) := (ok_Maker_init F7 T mc c_check_maker)
  have m_Maker : Mak P w K mg base 7 0 "Maker" (ga K "Maker") (spMkInit K (ga K "Maker")) [] := ⟨_, _, _, _, mk_ok b_mk_Maker, oi_Maker, T.gl "Maker" (by decide +kernel), (F7.bindsN fun _ _ _ _ _ _ us hl => match us, hl with | [_, _, _, _], _ => rfl), .nil⟩
  have o_meq : EqC P w K mg base 1 (ga K "Maker") (spMEq K (ga K "Maker")) := ⟨_, f8, _, (ok_Maker_eq F8 T (T.gl "Maker" (by decide +kernel)) mc), (eq_ok b_eqMaker).e1, (eq_ok b_eqMaker).e2, (eq_ok b_eqMaker).e3, (F8.bindsN fun _ _ _ _ _ _ us hl => match us, hl with | [_, _], _ => rfl)⟩
  have c__law_pick : Cal P w K mg base 1 "_law_pick" spPick := Cal.mk' F9 (ok_pick F9 T (by decide +kernel)) (T.gl _ (by decide +kernel)) (F9.bindsN fun _ _ _ _ _ _ us hl => match us, hl with | [_, _], _ => rfl)
  have c__law_source : Cal P w K mg base 1 "_law_source" (spSource K) := Cal.mk' F10 (ok_source F10 T (by decide +kernel) (by decide +kernel) (by decide +kernel)) (T.gl _ (by decide +kernel)) (F10.bindsN fun _ _ _ _ _ _ us hl => match us, hl with | [_, _], _ => rfl)
  have c__law_deeds : Cal P w K mg base 2 "_law_deeds" spLDeeds := Cal.mk' F11 (ok__law_deeds F11 T c__law_pick) (T.gl _ (by decide +kernel)) (F11.bindsN fun _ _ _ _ _ _ us hl => match us, hl with | [_, _, _, _], _ => rfl)
  have c__law_maker : Cal P w K mg base 3 "_law_maker" (spLMaker K) := Cal.mk' F12 (ok__law_maker F12 T c__law_pick c__law_deeds) (T.gl _ (by decide +kernel)) (F12.bindsN fun _ _ _ _ _ _ us hl => match us, hl with | [_, _, _, _], _ => rfl)
  have c__law_made : Cal P w K mg base 9 "_law_made" (spLMade K (ga K "Maker")) := Cal.mk' F13 (ok__law_made F13 T m_Maker) (T.gl _ (by decide +kernel)) (F13.bindsN fun _ _ _ _ _ _ us hl => match us, hl with | [_], _ => rfl)
  have c_is_word : Cal P w K mg base 1 "is_word" spWord := Cal.mk' F14 (ok_is_word F14 T h_LETTERS) (T.gl _ (by decide +kernel)) (F14.bindsN fun _ _ _ _ _ _ us hl => match us, hl with | [_, _], _ => rfl)
  have c_is_row_name : Cal P w K mg base 2 "is_row_name" spName := Cal.mk' F15 (ok_is_row_name F15 T h_LONGEST_NAME c_is_word) (T.gl _ (by decide +kernel)) (F15.bindsN fun _ _ _ _ _ _ us hl => match us, hl with | [_], _ => rfl)
  have c_is_unknown : Cal P w K mg base 2 "is_unknown" spUnk := Cal.mk' F16 (ok_is_unknown F16 T h_LONGEST_UNKNOWN c_is_word) (T.gl _ (by decide +kernel)) (F16.bindsN fun _ _ _ _ _ _ us hl => match us, hl with | [_], _ => rfl)
  have c_check_givens : Cal P w K mg base 3 "check_givens" (spChkG K) := Cal.mk' F17 (ok_check_givens F17 T h_MOST_GIVENS c_is_row c_is_row_name) (T.gl _ (by decide +kernel)) (F17.bindsN fun _ _ _ _ _ _ us hl => match us, hl with | [_], _ => rfl)
  have c_are_sources : Cal P w K mg base 3 "are_sources" (spSrcs K) := Cal.mk' F18 (ok_are_sources F18 T h_MOST_INLETS c_is_row c_is_row_name) (T.gl _ (by decide +kernel)) (F18.bindsN fun _ _ _ _ _ _ us hl => match us, hl with | [_, _], _ => rfl)
  have c_is_made_row : Cal P w K mg base 4 "is_made_row" (spMadeR K (ga K "Maker")) := Cal.mk' F19 (ok_is_made_row F19 T (T.gl "Maker" (by decide +kernel)) mc kSM c_is_row c_is_row_name c_is_unknown c_are_sources) (T.gl _ (by decide +kernel)) (F19.bindsN fun _ _ _ _ _ _ us hl => match us, hl with | [_, _], _ => rfl)
  have c_check_rows : Cal P w K mg base 5 "check_rows" (spChkR K (ga K "Maker")) := Cal.mk' F20 (ok_check_rows F20 T mc kMS h_MOST_ROWS c_is_row c_is_made_row) (T.gl _ (by decide +kernel)) (F20.bindsN fun _ _ _ _ _ _ us hl => match us, hl with | [_], _ => rfl)
  have c_check_names : Cal P w K mg base 1 "check_names" (spChkN K (ga K "Maker")) := Cal.mk' F21 (ok_check_names F21 T) (T.gl _ (by decide +kernel)) (F21.bindsN fun _ _ _ _ _ _ us hl => match us, hl with | [_, _], _ => rfl)
  have oi_Web : FnOk P w K mg base CX0 6 _ f22 ["self", "givens", "rows"] (spWInit K (ga K "Web") (ga K "Maker")) := (ok_Web_init F22 T wc c_check_givens c_check_rows c_check_names)
  have m_Web2 : Mak P w K mg base 6 0 "Web" (ga K "Web") (spWInit K (ga K "Web") (ga K "Maker")) [] := ⟨_, _, _, _, mk_ok b_mk_Web, oi_Web, T.gl "Web" (by decide +kernel), (F22.bindsN fun _ _ _ _ _ _ us hl => match us, hl with | [_, _, _], _ => rfl), .nil⟩
  have o_weq : EqC P w K mg base 4 (ga K "Web") (spWEq K (ga K "Web") (ga K "Maker")) := ⟨_, f23, _, (ok_Web_eq F23 T (T.gl "Web" (by decide +kernel)) wc mc o_meq), (eq_ok b_eqWeb).e1, (eq_ok b_eqWeb).e2, (eq_ok b_eqWeb).e3, (F23.bindsN fun _ _ _ _ _ _ us hl => match us, hl with | [_, _], _ => rfl)⟩
  have c_text_of_deeds : Cal P w K mg base 1 "text_of_deeds" (spToD K) := Cal.mk' F24 (ok_text_of_deeds F24 T) (T.gl _ (by decide +kernel)) (F24.bindsN fun _ _ _ _ _ _ us hl => match us, hl with | [_, _], _ => rfl)
  have c_text_of_row : Cal P w K mg base 2 "text_of_row" (spToR K (ga K "Maker")) := Cal.mk' F25 (ok_text_of_row F25 T mc kMS c_text_of_deeds) (T.gl _ (by decide +kernel)) (F25.bindsN fun _ _ _ _ _ _ us hl => match us, hl with | [_], _ => rfl)
  have c_write_web : Cal P w K mg base 3 "write_web" (spWrite K (ga K "Web") (ga K "Maker")) := Cal.mk' F26 (ok_write_web F26 T wc c_text_of_row) (T.gl _ (by decide +kernel)) (F26.bindsN fun _ _ _ _ _ _ us hl => match us, hl with | [_], _ => rfl)
  have c_deed_of : Cal P w K mg base 1 "deed_of" spDeedOf := Cal.mk' F27 (ok_deed_of F27 T h_FIGURES) (T.gl _ (by decide +kernel)) (F27.bindsN fun _ _ _ _ _ _ us hl => match us, hl with | [_], _ => rfl)
  have c_deeds_behind : Cal P w K mg base 2 "deeds_behind" (spBehind K) := Cal.mk' F28 (ok_deeds_behind F28 T c_deed_of) (T.gl _ (by decide +kernel)) (F28.bindsN fun _ _ _ _ _ _ us hl => match us, hl with | [_, _], _ => rfl)
  have c_maker_in : Cal P w K mg base 9 "maker_in" (spMakerIn K (ga K "Maker")) := Cal.mk' F29 (ok_maker_in F29 T c_deeds_behind m_Maker) (T.gl _ (by decide +kernel)) (F29.bindsN fun _ _ _ _ _ _ us hl => match us, hl with | [_, _], _ => rfl)
  have c_given_of : Cal P w K mg base 3 "given_of" (spGiven K) := Cal.mk' F30 (ok_given_of F30 T c_is_row_name) (T.gl _ (by decide +kernel)) (F30.bindsN fun _ _ _ _ _ _ us hl => match us, hl with | [_], _ => rfl)
  have c_row_of : Cal P w K mg base 10 "row_of" (spRowOf K (ga K "Maker")) := Cal.mk' F31 (ok_row_of F31 T c_is_row_name c_is_unknown c_are_sources c_maker_in) (T.gl _ (by decide +kernel)) (F31.bindsN fun _ _ _ _ _ _ us hl => match us, hl with | [_], _ => rfl)
  have c_are_lines : Cal P w K mg base 2 "are_lines" (spLines K) := Cal.mk' F32 (ok_are_lines F32 T h_MOST_GIVENS h_MOST_ROWS c_is_row) (T.gl _ (by decide +kernel)) (F32.bindsN fun _ _ _ _ _ _ us hl => match us, hl with | [_], _ => rfl)
  have c_read_web : Cal P w K mg base 11 "read_web" (spRead K (ga K "Web") (ga K "Maker")) := Cal.mk' F33 (ok_read_web F33 T c_are_lines c_given_of c_row_of m_Web2) (T.gl _ (by decide +kernel)) (F33.bindsN fun _ _ _ _ _ _ us hl => match us, hl with | [_], _ => rfl)
  have c__law_truth : Cal P w K mg base 1 "_law_truth" spTruth := Cal.mk' F34 (ok__law_truth F34 T) (T.gl _ (by decide +kernel)) (F34.bindsN fun _ _ _ _ _ _ us hl => match us, hl with | [_, _], _ => rfl)
  have c__law_web : Cal P w K mg base 4 "_law_web" (spLWeb K) := Cal.mk' F35 (ok__law_web F35 T c__law_pick c__law_maker) (T.gl _ (by decide +kernel)) (F35.bindsN fun _ _ _ _ _ _ us hl => match us, hl with | [_, _, _, _, _], _ => rfl)
  have c__law_opened : Cal P w K mg base 2 "_law_opened" (spLOpened K) := Cal.mk' F36 (ok__law_opened F36 T c__law_pick) (T.gl _ (by decide +kernel)) (F36.bindsN fun _ _ _ _ _ _ us hl => match us, hl with | [_, _, _], _ => rfl)
  have c__law_built : Cal P w K mg base 10 "_law_built" (spLBuilt K (ga K "Web") (ga K "Maker")) := Cal.mk' F37 (ok__law_built F37 T c__law_made m_Web2) (T.gl _ (by decide +kernel)) (F37.bindsN fun _ _ _ _ _ _ us hl => match us, hl with | [_], _ => rfl)
  have c__law_line : Cal P w K mg base 1 "_law_line" (spLLine K) := Cal.mk' F38 (ok__law_line F38 T) (T.gl _ (by decide +kernel)) (F38.bindsN fun _ _ _ _ _ _ us hl => match us, hl with | [_], _ => rfl)
  have c__law_web_lines : Cal P w K mg base 2 "_law_web_lines" (spLLines K) := Cal.mk' F39 (ok__law_web_lines F39 T c__law_line) (T.gl _ (by decide +kernel)) (F39.bindsN fun _ _ _ _ _ _ us hl => match us, hl with | [_], _ => rfl)
  have c__law_same_web : Cal P w K mg base 1 "_law_same_web" (spLSame K (ga K "Web") (ga K "Maker")) := Cal.mk' F40 (ok__law_same_web F40 T (T.gl "Web" (by decide +kernel)) (T.gl "Maker" (by decide +kernel)) wc mc) (T.gl _ (by decide +kernel)) (F40.bindsN fun _ _ _ _ _ _ us hl => match us, hl with | [_, _], _ => rfl)
  have c__law_other : Cal P w K mg base 2 "_law_other" (spLOther K) := Cal.mk' F41 (ok__law_other F41 T c__law_pick) (T.gl _ (by decide +kernel)) (F41.bindsN fun _ _ _ _ _ _ us hl => match us, hl with | [_, _], _ => rfl)
  exact ok_law F42 T wc kNT kNL c__law_source c__law_web c__law_opened c__law_web_lines c__law_built c_write_web c_read_web c__law_same_web c__law_other c__law_truth o_weq
end K29
set_option Elab.async false
set_option linter.all false
set_option maxRecDepth 100000
set_option maxHeartbeats 4000000
open PySem PySem.W PySem.Calls PyProof.Rows
theorem PySem.Challenge.cw_needforth_k29_whole_webs_read_holds : PySem.Challenge.rw_needforth_k29_whole_webs_read.Holds := by
  w_on; o_law
  refine HandSHeadRun.head_any (r := OpenLaw.row PySem.Challenge.rw_needforth_k29_whole_webs_read) (q := view (OpenLaw.row PySem.Challenge.rw_needforth_k29_whole_webs_read).prog [66]) (H := K29.hk) (ob := K29.ob) (M := 12000) (loose := K29.loose) (d := HandSHeadRun.topDef (OpenLaw.row PySem.Challenge.rw_needforth_k29_whole_webs_read).prog 66) (kwd := []) K29.ob_eq
    (by kernel_rfl) (fun s => by kernel_rfl) K29.run (by kernel_rfl) (by kernel_rfl) (by kernel_rfl) (by rfl) (by first | assumption | decide +kernel) (by decide +kernel) ⟨rfl, rfl, rfl, rfl, rfl, by decide +kernel⟩ ?hw ?hc
  case hw => w_witness2
  case hc =>
    refine NF.walk_ofEB (l := PySem.Challenge.rw_needforth_k29_whole_webs_read) (n := 63) (k := 12) (x := "_law_script") (CX := L2.CX0) rfl (by decide) (by kernel_rfl) ⟨rfl, by decide, by decide⟩ ?F (fun _ _ _ _ z => z)
    intro w mg fa h Y G hmg0
    obtain ⟨K, KX, c⟩ := Y
    have hmg : mg ("law" : PySem.Str) = some (.ref fa) := by
      have e : (HandSHeadRun.topDef (OpenLaw.row PySem.Challenge.rw_needforth_k29_whole_webs_read).prog 66).name = ("law" : PySem.Str) := by kernel_rfl
      rw [← e]
      exact hmg0
    obtain ⟨fd, hb, hF⟩ := K29.all_ok (P := (PySem.Challenge.rw_needforth_k29_whole_webs_read).prog) (w := w) KX G hmg c
    exact ⟨K, fd, K29.spLaw K, KX, hb, fun H a ns hl hbits _ hS => ⟨a, ns, rfl, hS, hl, hbits, fun _ => rfl⟩, hF⟩
