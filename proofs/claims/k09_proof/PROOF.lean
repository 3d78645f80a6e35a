import PyProof.Rows.All
import Wide.All
import OpenK.AllK
import Wide.FinOn
import PyProof.EqAt
import PyProof.EqKinds
import PyProof.TupleCall
import KE.KStateDown
import KE.KIsAll
import KE.KTryMore
import KE.KFromBytes
import HandS.ForMost
import HandS.ForExc
import HandS.IsInst
import HandS.Flow
import HandS.WideBits
import HandS.ExcInit
import HandS.ExcIs
import HandS.Head0
import HandS.Head1
import HandS.Head2
import HandS.HeadEnd
import HandS.HeadHook1
import HandS.HeadHook2
import HandS.ExcField
import HandS.ExcValue
import KE.KExcIs
import HandS.EndBits
import HandS.TupAny
import HandS.Zip
import HandS.TupMul
import HandS.Gcd
import HandS.Property
import HandS.Conv
import KE.KAssignIn
import HandS.Star
import HandS.WordsList
import PyProof.InstNe
import HandS.Head3
import OpenK.KMeth
import PySem.Challenge.RW_needforth_k09_whole_gap
import HandS.Style
import HandS.Walk
import HandS.Call
import KE.DataMinMax
import HandS.SortKw
import HandS.GenList
import HandS.Keys
import KE.KDictZip
import KE.GoesEnumKw
import HandS.Flt
set_option Elab.async false
set_option linter.all false
set_option maxRecDepth 100000
set_option maxHeartbeats 4000000
/-! Facts of the top as one truth of the written part, and the head that hands them on. -/
namespace NF
open PySem PySem.Spec PyProof.Rows L2 He
def obsM (ex : PySem.W.Frag → Bool) (fn : List DefD) (K : PySem.W.Frag) : AlD := (ex K && fn.all fun d => d.ok K, fn.map fun d => fnW K d.at_)
def SaysM (ex : PySem.W.Frag → Bool) (fn : List DefD) (K : PySem.W.Frag) : Prop := obsM ex fn K = valD fn
def obsMG (n : Nat) (ex : PySem.W.Frag → Bool) (fn : List DefD) (g : Addr → Option Obj) : AlD := obsM ex fn (frG g (asD g n))
def hookM (n : Nat) (ex : PySem.W.Frag → Bool) (fn : List DefD) : PySem.W.Hook where
  α := AlD
  obs := fun s => obsMG n ex fn s.heap.get?
  val := fun _ => valD fn
  says := fun _ h => ∃ K : PySem.W.Frag, K.In h ∧ SaysM ex fn K
  of := fun _ _ e => ⟨_, frG_in, e⟩
  keeps := fun _ _ _ ⟨K, hK, c⟩ k => ⟨K, PySem.W.Frag.In.keeps hK k, c⟩
theorem obsMG_eq {n : Nat} {ex : PySem.W.Frag → Bool} {fn : List DefD} {g : Addr → Option Obj} {s : Shared} (h : ∀ a, g a = s.heap.get? a) : obsMG n ex fn g = (hookM n ex fn).obs s := by
  have e : g = s.heap.get? := funext h
  rw [e] <;> rfl
section
variable {ex : PySem.W.Frag → Bool} {fn : List DefD} {K : PySem.W.Frag}
theorem SaysM.truth (c : SaysM ex fn K) : ex K = true :=
  (ba (show (ex K && fn.all fun d => d.ok K) = true from congrArg (fun z : AlD => z.1) c)).1
theorem SaysM.def_ (c : SaysM ex fn K) (i : Nat) {d : DefD} (h : fn[i]? = some d := by rfl) : ∃ fd, FunD K d.name d.qual d.params d.body d.scope (d.dvs K) (d.kws K) (fAd K d.at_) fd := by
  have c2 := (ba (show (ex K && fn.all fun d => d.ok K) = true from congrArg (fun z : AlD => z.1) c)).2
  have e : fn.map (fun d => fnW K d.at_) = fn.map DefD.val := congrArg (fun z : AlD => z.2) c
  have e2 : (fn.map fun d => fnW K d.at_)[i]? = (fn.map DefD.val)[i]? := by rw [e]
  rw [List.getElem?_map, List.getElem?_map, h] at e2
  exact DefD.funD (Option.some.inj e2) (List.all_eq_true.mp c2 d (List.mem_of_getElem? h))
end
/-! ### an exception class of the program's own, over ValueError, by truths of the written part -/
/-- the class's own object -/
def exObjB (K : PySem.W.Frag) (C : Addr) : Bool := match K.lookup C with
  | some ⟨.type t, _, .cls cd, sl⟩ => t == "type" && (match cd.mro with
    | .ref C' :: bm => C' == C && PySem.HandSPX.refsVE bm
    | _ => false) && (cd.hasDict && !cd.hasDel) && (match sl.toList with
    | [_, _, _, _, some (.builtin n), _] => n == "ValueError.__new__"
    | _ => false)
  | _ => false
theorem exObjB_ok {K : PySem.W.Frag} {C : Addr} (h : exObjB K C = true) :
    ∃ nm q N bs bm sn sub ab col dd k0 k1 k2 k3 k5, K.lookup C = some (excClassObj nm q C N bs bm true sn sub ab col dd k0 k1 k2 k3 k5 "ValueError.__new__") ∧ PySem.HandSPX.refsVE bm = true := by
  unfold exObjB at h
  split at h
  · rename_i t dd cd sl hl
    obtain ⟨h, h4⟩ := ba h
    obtain ⟨h, h3⟩ := ba h
    obtain ⟨h1, h2⟩ := ba h
    split at h2
    · rename_i C' bm hm
      obtain ⟨h5, h6⟩ := ba h2
      split at h4
      · rename_i k0 k1 k2 k3 n k5 hs
        obtain ⟨h7, h8⟩ := ba h3
        have e1 : t = "type" := eq_of_beq h1
        have e5 : C' = C := eq_of_beq h5
        have e9 : n = "ValueError.__new__" := eq_of_beq h4
        subst e1 e5 e9
        obtain ⟨nm, bs, mro, N, q, hd, sn, sub, ab, col, hdel⟩ := cd
        dsimp only at hm h7 h8
        subst hm h7
        have hdel' : hdel = false := by
          cases hdel with
          | false => rfl
          | true => cases h8
        subst hdel'
        have hsl : sl = #[k0, k1, k2, k3, some (.builtin "ValueError.__new__"), k5] := by
          have := congrArg List.toArray hs
          simpa using this
        subst hsl
        exact ⟨nm, q, N, bs, bm, sn, sub, ab, col, dd, k0, k1, k2, k3, k5, hl, h6⟩
      · cases h4
    · cases h2
  · cases h
/-- all that making one, storing to it and raising it ask of the class -/
def oexB (K : PySem.W.Frag) (C : Addr) : Bool :=
  exObjB K C && eqO (PySem.W.findIn K (.ref C) "__setattr__") (some (some (.builtin "object.__setattr__"))) && decide (PySem.W.subIn K (.ref C) (.type "BaseException") = some true) &&
    decide (PySem.W.typeIn K (.ref C) = some (.type "type")) && PySem.W.keepIn K (.ref C)
theorem oexB_ok {K : PySem.W.Frag} {C : Addr} (h : oexB K C = true) : OexC K C := by
  obtain ⟨h, h5⟩ := ba h
  obtain ⟨h, h4⟩ := ba h
  obtain ⟨h, h3⟩ := ba h
  obtain ⟨h1, h2⟩ := ba h
  exact ⟨exObjB_ok h1, eqO_ok h2, of_decide_eq_true h3, of_decide_eq_true h4, h5⟩
/-- all that isinstance asks of an instance's class -/
def excB (K : PySem.W.Frag) (D : Addr) : Bool :=
  eqO (PySem.W.findIn K (.ref D) "__getattribute__") (some (some (.builtin "BaseException.__getattribute__"))) && eqO (PySem.W.findIn K (.ref D) "__getattr__") (some none) &&
    decide (PySem.W.subIn K (.ref D) (.type "BaseException") = some true) && PySem.W.hasDictIn K D && eqO (PySem.W.findIn K (.ref D) "__class__") (some (some (.builtin "object.__class__"))) &&
    eqO (PySem.W.specialIn K (.builtin "object.__class__") "__get__") (some (some (.builtin "getset_descriptor.__get__"))) && decide (PySem.W.takesIn K (.builtin "object.__class__") = some true) && decide (PySem.W.mroIn K D (.type "object") = some true)
theorem excB_ok {K : PySem.W.Frag} {D : Addr} (h : excB K D = true) : ExcC K D := by
  obtain ⟨h, h8⟩ := ba h
  obtain ⟨h, h7⟩ := ba h
  obtain ⟨h, h6⟩ := ba h
  obtain ⟨h, h5⟩ := ba h
  obtain ⟨h, h4⟩ := ba h
  obtain ⟨h, h3⟩ := ba h
  obtain ⟨h1, h2⟩ := ba h
  exact ⟨eqO_ok h1, eqO_ok h2, of_decide_eq_true h3, h4, eqO_ok h5, eqO_ok h6, of_decide_eq_true h7, of_decide_eq_true h8⟩
end NF
set_option Elab.async false
set_option linter.all false
set_option maxRecDepth 100000
set_option maxHeartbeats 4000000
/-! Own exceptions as values: made, asked for their class, read. -/
namespace NF
open PySem PySem.Spec PyProof.Rows L2 He
/-! ### C(e, ..) as a value: the class's own __init__ keeps sp -/
def tMkV (C : Addr) (sp : Sp) (ta : TA) : TE := fun σ H Q => ta σ H fun vs H1 => vs.length ≤ 1000 ∧ ∀ a, H1 a = none → sp (.ref a :: vs) (upd H1 a (exo a C none))
  (fun v H2 => v = .non ∧ Q (.ref a) H2) (fun _ _ _ => False)
section
variable {X : Cx} {e : Expr} {es : List Expr} {ta : TA} {p pos : Pos}
theorem pe_oex {CX : CXT} {x : Str} {C fI : Addr} {k : Nat} {fd : FuncData} {ps : List Str} {sp : Sp} (T : OexC X.K C) (iC : PySem.W.findIn X.K (.ref C) "__init__" = some (some (.ref fI))) (tI : PySem.W.typeIn X.K (.ref fI) = some (.type "function"))
    (F1 : FnOk X.prog X.w X.K X.mg X.base CX k fI fd ps sp) (hr : Room (k + 1) X.A) (hb : Binds X.K fd ps []) (hx : Passes CX X (fun _ _ _ => False)) (hg : Gl X x) (hm : X.mg x = some (.ref C)) (ha : PA X (e :: es) ta)
    (hdb : (x == ("__debug__" : Str)) = false := by decide) (he : starEach (e :: es) X.env = (false, eval e X.env) :: starEach es X.env := by rfl) (hpl : (backTo pos (starEach es X.env)).any (·.1) = false := by rfl) :
    PE X (.Call (.Name x p) (e :: es) [] pos) (tMkV C sp ta) := by
  refine ⟨fun pins s σ H Q I h => ?_⟩
  obtain ⟨nm, q, N, bs, bm, sn, sub, ab, col, dd, k0, k1, k2, k3, k5, hC, hbm⟩ := T.cls
  refine wpAny_Call_Name_kw (ld_glob I hg hm ?_ hdb)
  refine PySem.W.callWith_K (h₀ := X.base) I.ok.mod.kin T.kC (thn (ha.run pos pins s σ H _ I h) fun us s1 ⟨vs, H1, I1, r1, hz, q1⟩ => ⟨I1.kIn, ?_⟩) he hpl
  show wpAny _ _ (call (.ref C) us) _ _ _
  obtain ⟨hp, g, dr, tk, os⟩ := s1
  have hsz : hp.objs.size ≤ hp.objs.size + 1 := Nat.le_succ _
  have hn : H1 (hp.objs.size + 1) = none := I1.hok.fresh hsz
  have hq := q1 (hp.objs.size + 1) hn
  have kk : ∀ b o, hp.get? b = some o → ((hp.push (PySem.W.kdv_tup us)).push (PySem.HandSPX.excO C hp.objs.size)).get? b = some o := fun b o e => Heap.get?_push_of_some _ (Heap.get?_push_of_some _ e)
  have hget : ((hp.push (PySem.W.kdv_tup us)).push (PySem.HandSPX.excO C hp.objs.size)).get? (hp.objs.size + 1) = some (PySem.HandSPX.excO C hp.objs.size) := by heap_get
  have I2 : Inv X pins σ (upd H1 (hp.objs.size + 1) (exo (hp.objs.size + 1) C none)) ⟨(hp.push (PySem.W.kdv_tup us)).push (PySem.HandSPX.excO C hp.objs.size), g, dr, tk, os⟩ :=
    I1.laid (t' := tk) (a := hp.objs.size + 1) (o := exo (hp.objs.size + 1) C none) (h' := (hp.push (PySem.W.kdv_tup us)).push (PySem.HandSPX.excO C hp.objs.size)) kk hsz (exo_ok hget)
  have r2 : Vals (V.ref (hp.objs.size + 1) :: vs) (Value.ref (hp.objs.size + 1) :: us) := .cons rfl r1
  have hl : (Value.ref (hp.objs.size + 1) :: us ++ []).length = ps.length := by
    have e := r2.length
    rw [F1.len _ _ _ _ hq] at e
    rw [List.append_nil]
    exact e.symm
  have hus : us.length ≤ sizeLine := by
    rw [← Paired.length r1, sizeLine_eq]
    omega
  have hb' : BindsTo (⟨(hp.push (PySem.W.kdv_tup us)).push (PySem.HandSPX.excO C hp.objs.size), g, dr, tk, os⟩ : Shared) fd ⟨Value.ref (hp.objs.size + 1) :: us, []⟩ (ps.zip (Value.ref (hp.objs.size + 1) :: us)) := by
    have := hb ⟨(hp.push (PySem.W.kdv_tup us)).push (PySem.HandSPX.excO C hp.objs.size), g, dr, tk, os⟩ (Value.ref (hp.objs.size + 1) :: us) I2.kIn hl
    rw [List.append_nil] at this
    exact this
  refine wpAny_call (PySem.HandSPX.call_own F.excBase_ValueError (fun Y => PySem.HandSPX.refsVE_contains Y bm hbm) (I1.kIn _ _ hC) (PySem.W.looks_findIn I1.kIn iC) (fun self => PySem.W.bind_fn I1.kIn self tI) hus
    (codeAny_mono (F1.run _ X.stack _ _ ⟨Value.ref (hp.objs.size + 1) :: us, []⟩ (Value.ref (hp.objs.size + 1) :: us) _ _ (fun _ _ _ => False) (hr.make C us []) (I2.env0.make C us []) hb' r2 hq) fun r s' hq' => ?_))
  cases r with
  | error er => exact hx pins σ _ _ er s' I2 hq'
  | ok fl =>
    cases fl with
    | ret u =>
      obtain ⟨v, H2, os2, bare2, un2, hok2, rv, ev, q2⟩ := hq'
      subst ev
      obtain ⟨h2, g2, d2, t2, os'⟩ := s'
      exact ⟨rv, V.ref (hp.objs.size + 1), H2, I2.call' (ch := []) os2 un2 hok2 bare2 (fun b z => absurd z (by simp)), rfl, q2⟩
    | next => exact False.elim hq'
    | brk => exact False.elim hq'
    | cont => exact False.elim hq'
/-- C(), an own exception class without own __init__, as a value -/
def tMk0 (C : Addr) : TE := fun _ H Q => ∀ a, H a = none → Q (.ref a) (upd H a (exo a C none))
theorem pe_exc0 {C : Addr} {x : Str} (q : PySem.W.excIn X.K C He.veBase "ValueError.__new__" = true) (gC : X.mg x = some (.ref C)) (kC : PySem.W.keepIn X.K (.ref C) = true) (hg : Gl X x)
    (hdb : (x == ("__debug__" : Str)) = false := by decide) :
    PE X (.Call (.Name x p) [] [] pos) (tMk0 C) := by
  refine ⟨fun pins s σ H Q I h => ?_⟩
  refine wpAny_Call_Name_kw (ld_glob I hg gC ?_ hdb)
  refine PySem.W.callWith_K0 I.kIn kC ?_
  show wpAny _ _ (call (.ref C) []) _ _ _
  obtain ⟨bm, N, nm, qn, bs, hdct, sn, sub, ab, col, dd, k0, k1, k2, k3, k5, mN, hC, hN, hni, T⟩ := exc_obj I.kIn q
  obtain ⟨hp, g, dr, tk, os⟩ := s
  refine wpAny_call_exc_subT F.excBase_ValueError T hC hN hni (fun h' a hm => ?_) (Nat.zero_le _)
  have hn : H a = none := I.hok.gone hm.new
  obtain ⟨t, ht, _, _⟩ := hm.there
  exact ⟨.ref a, upd H a (exo a C none), I.laidN hm.keeps hm.new hn (exo_ok ht), rfl, h a hn⟩
/-! ### isinstance of such a value -/
def rIsV (K : PySem.W.Frag) : List V → Hp → VK → Prop := fun xs H Q => ∃ (a C : Addr) (od : Option Addr) (c : V) (u : Value) (b : Bool), xs = [.ref a, c] ∧ ClsV c u ∧ ExcC K C ∧ H a = some (exo a C od) ∧
  (∀ d, od = some d → ∃ fs, H d = some (exd d fs)) ∧ PySem.W.kitOne K (.ref C) u = some b ∧ Q (.bl b) H
theorem inst_exo {pins : List (Addr × Obj)} {σ : L2.St} {H : Hp} {s : Shared} {a C : Addr} {od : Option Addr} (I : Inv X pins σ H s) (e : H a = some (exo a C od)) (hd : ∀ d, od = some d → ∃ fs, H d = some (exd d fs)) :
    ∃ ox o, PySem.W.InstAt s.heap a ox C o := by
  obtain ⟨t1, h1⟩ := exo_at I.hok e
  cases od with
  | none => exact ⟨_, none, h1, rfl, rfl, trivial⟩
  | some d =>
    obtain ⟨fs, h2⟩ := hd d rfl
    obtain ⟨mA, hns, _⟩ := exd_at I.hok h2
    obtain ⟨o, ho, _⟩ := lookIn_ns hns
    exact ⟨_, some o, h1, rfl, rfl, ho⟩
theorem call_isV : CallR X (.builtin "isinstance") (rIsV X.K) := by
  intro pins s σ H xs us Q I r h
  obtain ⟨a, C, od, c, u, b, rfl, k, T, e, hd, hk, q⟩ := h
  obtain ⟨u1, u2, rfl, r1, r2⟩ := vals2 r
  have e2 := k.eq r2
  subst e2
  cases (show u1 = Value.ref a from r1)
  obtain ⟨ox, o, J⟩ := inst_exo I e hd
  have hcl : (PySem.W.clsIn X.K C).isSome = true := by
    obtain ⟨cd, hc, _⟩ := PySem.W.any_some T.hd
    rw [hc] <;> rfl
  exact PySem.W.kia_one (PySem.W.kitx_exc (ox := ox) (od := o) hcl T.hg T.hk T.hs T.ha T.hn T.ht T.hm) I.kIn J hk (fun z => nomatch z) fun tk => ⟨.bl b, H, I.tok tk, rfl, q⟩
/-! ### its field -/
def tXv (K : PySem.W.Frag) (f : Str) (te : TE) : TE := fun σ H Q => te σ H fun x H1 => ∃ (a C d : Addr) (fs : List (Str × V)) (v : V), x = .ref a ∧ XfC K C ∧ PySem.W.findIn K (.ref C) f = some none ∧ H1 a = some (exo a C (some d)) ∧ H1 d = some (exd d fs) ∧ fs.lookup f = some v ∧ Q v H1
theorem pe_xv {n : Str} {te : TE} (he : PE X e te) (hb : attributeBase e n X.env (eval e X.env) = eval e X.env := by rfl) : PE X (.Attribute e n pos) (tXv X.K n te) := by
  refine ⟨fun pins s σ H Q I h => ?_⟩
  refine attr_of hb (thn (he.run pins s σ H _ I h) fun u s1 hh => ?_)
  obtain ⟨x, H1, I1, rx, a, C, d, fs, v, ex, T, hno, ea, ed, l, q⟩ := hh
  subst ex
  obtain rfl : u = Value.ref a := rx
  obtain ⟨t1, h1⟩ := exo_at I1.hok ea
  obtain ⟨mA, hns, hr⟩ := exd_at I1.hok ed
  obtain ⟨od, ho, hl⟩ := lookIn_ns hns
  obtain ⟨u, hu, ru⟩ := RelO.some_of (v := v) (o := mA n) (by rw [← l]; exact hr n)
  have J : PySem.W.InstAt s1.heap a _ C (some od) := ⟨h1, rfl, rfl, ho⟩
  exact HandSPX.exc_get I1.kIn J T.ga T.gg T.exC (PySem.W.findObj_own T.hdC hno rfl (by rw [hl, hu])) (handed_of ru) ⟨v, H1, I1.tok _, ru, q⟩
end
end NF
set_option Elab.async false
set_option linter.all false
set_option maxRecDepth 100000
set_option maxHeartbeats 4000000
/-! What each law's own helpers keep: the source of draws. -/
namespace NF
open PySem PySem.Spec PyProof.Rows L2 He
/-- the names that a def reads off the module: those that stand for an object of the written part, those that are still Python's own -/
structure Txt (K : PySem.W.Frag) (mg : Str → Option Value) (gs fs : List Str) : Prop where
  gl : ∀ x, x ∈ gs → mg x = some (.ref (ga K x))
  fr : ∀ x, x ∈ fs → mg x = none
/-- a source of draws at p: three ints -/
def Src (H : Hp) (p : Addr) : Prop := ∃ a s c : Int, H p = some (.lst [.int a, .int s, .int c])
/-- a draw: some number from 0 below m; all but the source stands (H0: what the caller wants to stand) -/
def spPick : Sp := fun vs H Q _ => ∃ (H0 : Hp) (p : Addr) (m : Int), vs = [.ref p, .int m] ∧ Same H0 H ∧ H0 p = none ∧ Src H p ∧ 0 < m ∧ m < 1073741824 ∧
  ∀ d H', 0 ≤ d → d < m → Same H0 H' → Src H' p → Q (.int d) H'
/-- a new source of the script -/
def spSource (K : PySem.W.Frag) : Sp := fun vs H Q _ => ∃ (l : Addr) (ns : List Int) (i : Nat), vs = [.ref l, .int (i : Int)] ∧ SqL K H l (ns.map V.int) ∧ ns.length ≤ 63 ∧ (∀ k ∈ ns, Builtin.Int.intBits k ≤ 1048576) ∧ i < 1000 ∧
  ∀ p H', Same H H' → H p = none → Src H' p → Q (.ref p) H'
theorem Same.put {H0 H : Hp} {p : Addr} {o : HO} (h : Same H0 H) (n : H0 p = none) : Same H0 (upd H p o) := fun b u e => by
  rw [upd_ne (ne_of_none e n)]
  exact h b u e
theorem Same.new {H0 H : Hp} {p : Addr} {o : HO} (h : Same H0 H) (n : H p = none) : Same H0 (upd H p o) := NF.Same.put h (L2.Same.free h n)
/-- a def that may be called by its name; it lets nothing out -/
structure Cal (P : Program) (w : World) (K : PySem.W.Frag) (mg : Str → Option Value) (base : Heap) (k : Nat) (x : Str) (sp : Sp) : Prop where
  ex : ∃ (f : Addr) (fd : FuncData) (ps : List Str), FnOk P w K mg base CX0 k f fd ps sp ∧ mg x = some (.ref f) ∧ PySem.W.keepIn K (.ref f) = true ∧ Binds K fd ps []
theorem pe_c {X : Cx} {k j : Nat} {x : Str} {sp : Sp} {e : Expr} {es : List Expr} {t : TA} {p pos : Pos} (c : Cal X.prog X.w X.K X.mg X.base k x sp) (hr : Room j X.A) (hk : k ≤ j) (hg : Gl X x) (ha : PA X (e :: es) t)
    (hdb : (x == ("__debug__" : Str)) = false := by decide) (he : starEach (e :: es) X.env = (false, eval e X.env) :: starEach es X.env := by rfl) (hpl : (backTo pos (starEach es X.env)).any (·.1) = false := by rfl) :
    PE X (.Call (.Name x p) (e :: es) [] pos) (tCall sp [] E0 t) := by
  obtain ⟨f, fd, ps, F, hm, kp, b⟩ := c.ex
  exact pe_call F (hr.mono hk) hg hm kp b .nil pass0 ha hdb he hpl
theorem Cal.mk' {P : Program} {w : World} {K : PySem.W.Frag} {mg : Str → Option Value} {base : Heap} {k : Nat} {x q : Str} {pa : Arguments} {bd : List Stmt} {sc : Scope} {sp : Sp} {f : Addr} {fd : FuncData} {ps : List Str}
    (F : FunD K x q pa bd sc [] [] f fd) (ok : FnOk P w K mg base CX0 k f fd ps sp) (hm : mg x = some (.ref f)) (b : Binds K fd ps []) : Cal P w K mg base k x sp := ⟨f, fd, ps, ok, hm, F.kp, b⟩
theorem at0 {x y z : V} : atI [x, y, z] 0 = some x := rfl
theorem at1 {x y z : V} : atI [x, y, z] 1 = some y := rfl
theorem at2 {x y z : V} : atI [x, y, z] 2 = some z := rfl
end NF
namespace NF
open PySem PySem.Spec PyProof.Rows L2 He
/-- the heap without p -/
def wo (H : Hp) (p : Addr) : Hp := fun a => if a = p then none else H a
theorem wo_none {H : Hp} {p : Addr} : wo H p p = none := if_pos rfl
theorem wo_ne {H : Hp} {p a : Addr} (h : a ≠ p) : wo H p a = H a := if_neg h
theorem wo_same' {H : Hp} {p : Addr} : Same (wo H p) H := fun a o e => by
  by_cases h : a = p
  · rw [h, wo_none] at e
    cases e
  · rw [wo_ne h] at e
    exact e
theorem wo_same {H0 H H' : Hp} {p : Addr} (s : Same H0 H) (n : H0 p = none) (s' : Same (wo H p) H') : Same H0 H' := fun a o e =>
  s' a o ((wo_ne (ne_of_none e n)).trans (s a o e))
theorem Same.mut {H0 H : Hp} {p : Addr} {o : HO} (h : Same H0 H) (n : H0 p = none) : Same H0 (upd H p o) := NF.Same.put h n
theorem Src.mono {H H' : Hp} {p : Addr} (h : Src H p) (s : Same H H') : Src H' p := by
  obtain ⟨x, y, z, h⟩ := h
  exact ⟨x, y, z, s _ _ h⟩
end NF
namespace NF
open PySem PySem.Spec PyProof.Rows L2 He
theorem walk_ofEB {l : PySem.W.OpenLaw} {n k : Nat} {q : Program} {loose : List Str} {XP : (Str → Option Value) → Heap → Prop} {YP : World → Heap → Prop} {d : DefRec} {CX : CXT} {x : Str}
    (hn : l.most = some n) (hn2 : n ≤ sizeLine) (hdf : d.params.defaults = []) (hr : Room k callerA)
    (F : ∀ (w : World) (mg : Str → Option Value) (fa : Addr) (h : Heap), YP w h → h.Ns mainGlobals mg → mg d.name = some (.ref fa) →
      ∃ (K : PySem.W.Frag) (fd : FuncData) (sp : Sp), K.In h ∧ (∀ (s : Shared) (u : Value), BindsTo s fd ⟨[u], []⟩ [(x, u)]) ∧
        (∀ (H : Hp) (a : Addr) (ns : List Int), ns.length ≤ n → (∀ z ∈ ns, Builtin.Int.intBits z ≤ 1048576) → Only H → SqL K H a (ns.map V.int) → sp [.ref a] H (fun v _ => v = .bl true) fun _ _ _ => False) ∧
        ∀ base : Heap, K.In base → base.Ns mainGlobals mg → FnOk l.prog w K mg base CX k fa fd [x] sp)
    (hCX : ∀ (H : Hp) (s : Shared) (e : Value) (s' : Shared), CX [] H s (fun _ _ _ => False) e s' → False) :
    PySem.W.WalkO q loose XP YP l.row.toRowW d [] (fun f vs => PySem.call f vs) := by
  refine Att.attach_callB hn hdf fun w s₀ s₁ mg mb fa o pm cd doc a vs ns G Y ho hd hcd hmg hobj hints hlen hbits hg => ?_
  obtain ⟨K, fd, sp, KX, hb, hsp, hF⟩ := F w mg fa _ Y G.T.g hmg
  exact law_call KX G.T.g G.T.b G.T.builtins G.T.nolimit hg hobj hints (Nat.le_trans hlen hn2) hr hF hb (fun H hO hS => hsp H a ns hlen hbits hO hS) fun H e s' => hCX H s₁ e s'
end NF
set_option linter.all false
/-! Tables as plain Lean: head, loop, rise; the plain form is the only one. -/
namespace NT
/-- what a loop tells, from its first place on -/
def walk (l : List Int) (r : Int) (k : Nat) : Int := l.getD (k % l.length) 0 + r * ((k / l.length : Nat) : Int)
/-- the value at n, from 1 on; none: never -/
def at_ (h l : List Int) (r : Int) (n : Nat) : Option Int :=
  if n ≤ h.length then some (h.getD (n - 1) 0) else if l = [] then none else some (walk l r (n - h.length - 1))
/-- m steps on the values are a fixed number more -/
def Per (f : Nat → Int) (m : Nat) : Prop := ∃ c, ∀ k, f (k + m) = f k + c
def LoopMin (l : List Int) (r : Int) : Prop := ∀ m, 0 < m → m ∣ l.length → Per (walk l r) m → m = l.length
def HeadMin (h l : List Int) (r : Int) : Prop := ∀ k, h.length = k + 1 → h.getD k 0 + r ≠ l.getD (l.length - 1) 0

theorem walk_add {l : List Int} {r : Int} (hl : 0 < l.length) (k : Nat) : walk l r (k + l.length) = walk l r k + r := by
  unfold walk
  rw [Nat.add_mod_right, Nat.add_div_right _ hl]
  rw [Int.natCast_add, Int.mul_add]
  omega
theorem walk_add_mul {l : List Int} {r : Int} (hl : 0 < l.length) (k j : Nat) : walk l r (k + l.length * j) = walk l r k + r * (j : Int) := by
  induction j with
  | zero => simp
  | succ j ih =>
    rw [Nat.mul_succ, ← Nat.add_assoc, walk_add hl, ih, Int.natCast_add, Int.mul_add]
    omega
theorem walk_lt {l : List Int} {r : Int} {k : Nat} (h : k < l.length) : walk l r k = l.getD k 0 := by
  unfold walk
  rw [Nat.mod_eq_of_lt h, Nat.div_eq_of_lt h]
  simp
/-- periods, further on alone -/
def PerF (f : Nat → Int) (N m : Nat) : Prop := ∃ c, ∀ k, N ≤ k → f (k + m) = f k + c
theorem PerF.sub {f : Nat → Int} {N a b : Nat} (ha : PerF f N (a + b)) (hb : PerF f N b) : PerF f N a := by
  obtain ⟨c, hc⟩ := ha
  obtain ⟨d, hd⟩ := hb
  refine ⟨c - d, fun k hk => ?_⟩
  have h1 := hc k hk
  have h2 := hd (k + a) (by omega)
  rw [show k + a + b = k + (a + b) by omega, h1] at h2
  omega
theorem PerF.mul {f : Nat → Int} {N a : Nat} (ha : PerF f N a) (j : Nat) : PerF f N (a * j) := by
  obtain ⟨c, hc⟩ := ha
  refine ⟨c * (j : Int), ?_⟩
  induction j with
  | zero => intro k _; simp
  | succ j ih =>
    intro k hk
    have h1 := ih k hk
    have h2 := hc (k + a * j) (by omega)
    rw [Nat.mul_succ, ← Nat.add_assoc, h2, h1, Int.natCast_add, Int.mul_add]
    omega
theorem PerF.gcd {f : Nat → Int} {N : Nat} : ∀ (a b : Nat), PerF f N a → PerF f N b → PerF f N (Nat.gcd a b) := by
  intro a
  induction a using Nat.strongRecOn with
  | _ a ih =>
    intro b ha hb
    cases a with
    | zero => rw [Nat.gcd_zero_left]; exact hb
    | succ a =>
      rw [Nat.gcd_rec]
      have hlt : b % (a + 1) < a + 1 := Nat.mod_lt _ (Nat.succ_pos a)
      have hm : PerF f N (b % (a + 1)) := by
        have h1 : b = b % (a + 1) + (a + 1) * (b / (a + 1)) := (Nat.mod_add_div b (a + 1)).symm
        exact PerF.sub (b := (a + 1) * (b / (a + 1))) (by rw [← h1]; exact hb) (ha.mul _)
      exact ih _ hlt (a + 1) hm ha
theorem at_loop {h l : List Int} {r : Int} {n : Nat} (hl : l ≠ []) (hn : h.length < n) : at_ h l r n = some (walk l r (n - h.length - 1)) := by
  unfold at_
  rw [if_neg (by omega), if_neg hl]
theorem len_pos {l : List Int} (h : l ≠ []) : 0 < l.length := List.length_pos_iff.mpr h

section
variable {h1 l1 h2 l2 : List Int} {r1 r2 : Int}
theorem walk_eq (n1 : l1 ≠ []) (n2 : l2 ≠ []) (e : ∀ n, 1 ≤ n → at_ h1 l1 r1 n = at_ h2 l2 r2 n) {n : Nat} (g1 : h1.length < n) (g2 : h2.length < n) : walk l1 r1 (n - h1.length - 1) = walk l2 r2 (n - h2.length - 1) := by
  have q := e n (by omega)
  rw [at_loop n1 g1, at_loop n2 g2] at q
  exact Option.some.inj q
theorem one_loop_le (n1 : l1 ≠ []) (n2 : l2 ≠ []) (m1 : LoopMin l1 r1) (e : ∀ n, 1 ≤ n → at_ h1 l1 r1 n = at_ h2 l2 r2 n) : l1.length ∣ l2.length := by
  have p1 := len_pos n1
  have p2 := len_pos n2
  -- l1's walk is, further on, of both periods
  have hA : PerF (walk l1 r1) (h1.length + h2.length) l1.length := ⟨r1, fun k _ => walk_add p1 k⟩
  have hB : PerF (walk l1 r1) (h1.length + h2.length) l2.length := by
    refine ⟨r2, fun k hk => ?_⟩
    have q1 := walk_eq n1 n2 e (n := k + h1.length + 1) (by omega) (by omega)
    have q2 := walk_eq n1 n2 e (n := k + l2.length + h1.length + 1) (by omega) (by omega)
    rw [show k + h1.length + 1 - h1.length - 1 = k by omega] at q1
    rw [show k + l2.length + h1.length + 1 - h1.length - 1 = k + l2.length by omega, show k + l2.length + h1.length + 1 - h2.length - 1 = (k + h1.length + 1 - h2.length - 1) + l2.length by omega, walk_add p2, ← q1] at q2
    exact q2
  have hG := PerF.gcd _ _ hA hB
  obtain ⟨c, hc⟩ := hG
  have hP : Per (walk l1 r1) (Nat.gcd l1.length l2.length) := by
    refine ⟨c, fun k => ?_⟩
    have q := hc (k + l1.length * (h1.length + h2.length)) (by
      have : h1.length + h2.length ≤ l1.length * (h1.length + h2.length) := Nat.le_mul_of_pos_left _ p1
      omega)
    rw [show k + l1.length * (h1.length + h2.length) + Nat.gcd l1.length l2.length = (k + Nat.gcd l1.length l2.length) + l1.length * (h1.length + h2.length) by omega, walk_add_mul p1, walk_add_mul p1] at q
    omega
  have := m1 _ (Nat.gcd_pos_of_pos_left _ p1) (Nat.gcd_dvd_left _ _) hP
  rw [← this]
  exact Nat.gcd_dvd_right _ _
theorem one_head_le (n1 : l1 ≠ []) (n2 : l2 ≠ []) (el : l1.length = l2.length) (m2 : HeadMin h2 l2 r2) (er : r1 = r2) (e : ∀ n, 1 ≤ n → at_ h1 l1 r1 n = at_ h2 l2 r2 n) : h2.length ≤ h1.length := by
  have p1 := len_pos n1
  have p2 := len_pos n2
  refine Nat.le_of_not_lt fun hlt => ?_
  obtain ⟨k, hk⟩ : ∃ k, h2.length = k + 1 := ⟨h2.length - 1, by omega⟩
  have q1 := e (k + 1) (by omega)
  have q2 := e (k + 1 + l2.length) (by omega)
  rw [at_loop n1 (by omega), at_loop n2 (by omega)] at q2
  rw [at_loop n1 (by omega)] at q1
  unfold at_ at q1
  rw [if_pos (by omega)] at q1
  have q1 := Option.some.inj q1
  have q2 := Option.some.inj q2
  rw [show k + 1 + l2.length - h1.length - 1 = (k + 1 - h1.length - 1) + l1.length by omega, walk_add p1, q1] at q2
  rw [walk_lt (by omega), show k + 1 + l2.length - h2.length - 1 = l2.length - 1 by omega, show k + 1 - 1 = k by omega] at q2
  exact m2 k hk (by rw [← q2, er])
/-- two forms that can't be made smaller and tell the same are the same -/
theorem one_form (n1 : l1 ≠ []) (n2 : l2 ≠ []) (a1 : LoopMin l1 r1) (a2 : LoopMin l2 r2) (b1 : HeadMin h1 l1 r1) (b2 : HeadMin h2 l2 r2) (e : ∀ n, 1 ≤ n → at_ h1 l1 r1 n = at_ h2 l2 r2 n) : h1 = h2 ∧ l1 = l2 ∧ r1 = r2 := by
  have p1 := len_pos n1
  have p2 := len_pos n2
  have el : l1.length = l2.length := Nat.dvd_antisymm (one_loop_le n1 n2 a1 e) (one_loop_le n2 n1 a2 fun n hn => (e n hn).symm)
  have er : r1 = r2 := by
    have q1 := walk_eq n1 n2 e (n := h1.length + h2.length + 1) (by omega) (by omega)
    have q2 := walk_eq n1 n2 e (n := h1.length + h2.length + 1 + l1.length) (by omega) (by omega)
    rw [show h1.length + h2.length + 1 + l1.length - h1.length - 1 = (h1.length + h2.length + 1 - h1.length - 1) + l1.length by omega, walk_add p1,
      show h1.length + h2.length + 1 + l1.length - h2.length - 1 = (h1.length + h2.length + 1 - h2.length - 1) + l2.length by omega, walk_add p2, q1] at q2
    omega
  have eh : h1.length = h2.length := Nat.le_antisymm (one_head_le n2 n1 el.symm b1 er.symm fun n hn => (e n hn).symm) (one_head_le n1 n2 el b2 er e)
  refine ⟨List.ext_getElem eh fun i i1 i2 => ?_, List.ext_getElem el fun i i1 i2 => ?_, er⟩
  · have q := e (i + 1) (by omega)
    unfold at_ at q
    rw [if_pos (by omega), if_pos (by omega)] at q
    have q := Option.some.inj q
    rw [show i + 1 - 1 = i by omega, List.getD_eq_getElem?_getD, List.getD_eq_getElem?_getD, List.getElem?_eq_getElem i1, List.getElem?_eq_getElem i2] at q
    exact q
  · have q := walk_eq n1 n2 e (n := h1.length + 1 + i) (by omega) (by omega)
    rw [show h1.length + 1 + i - h1.length - 1 = i by omega, show h1.length + 1 + i - h2.length - 1 = i by omega, walk_lt i1, walk_lt i2,
      List.getD_eq_getElem?_getD, List.getD_eq_getElem?_getD, List.getElem?_eq_getElem i1, List.getElem?_eq_getElem i2] at q
    exact q
theorem one_never (e : ∀ n, 1 ≤ n → at_ h1 [] r1 n = at_ h2 [] r2 n) : h1 = h2 := by
  have el : h1.length = h2.length := by
    have q1 := e (h1.length + 1) (by omega)
    have q2 := e (h2.length + 1) (by omega)
    unfold at_ at q1 q2
    rw [if_neg (by omega), if_pos rfl] at q1
    rw [if_neg (show ¬ h2.length + 1 ≤ h2.length by omega), if_pos rfl] at q2
    by_cases c1 : h1.length + 1 ≤ h2.length
    · rw [if_pos c1] at q1
      cases q1
    · by_cases c2 : h2.length + 1 ≤ h1.length
      · rw [if_pos c2] at q2
        cases q2
      · omega
  refine List.ext_getElem el fun i i1 i2 => ?_
  have q := e (i + 1) (by omega)
  unfold at_ at q
  rw [if_pos (by omega), if_pos (by omega)] at q
  have q := Option.some.inj q
  rw [show i + 1 - 1 = i by omega, List.getD_eq_getElem?_getD, List.getD_eq_getElem?_getD, List.getElem?_eq_getElem i1, List.getElem?_eq_getElem i2] at q
  exact q
end
end NT
set_option linter.all false
namespace NT
structure LapIs (l : List Int) (r : Int) (m : Nat) : Prop where
  pos : 0 < m
  dvd : m ∣ l.length
  per : Per (walk l r) m
  least : ∀ m', 0 < m' → m' ∣ l.length → Per (walk l r) m' → m ≤ m'
theorem LapIs.one {l : List Int} {r : Int} {m m' : Nat} (a : LapIs l r m) (b : LapIs l r m') : m = m' := Nat.le_antisymm (a.least _ b.pos b.dvd b.per) (b.least _ a.pos a.dvd a.per)
theorem per_mul {f : Nat → Int} {m : Nat} {c : Int} (h : ∀ k, f (k + m) = f k + c) (k j : Nat) : f (k + m * j) = f k + c * (j : Int) := by
  induction j with
  | zero => simp
  | succ j ih =>
    rw [Nat.mul_succ, ← Nat.add_assoc, h, ih, Int.natCast_add, Int.mul_add]
    omega
/-- the rise of a part that comes round -/
theorem per_rise {l : List Int} {r c : Int} {m : Nat} (hl : l ≠ []) (h : ∀ k, walk l r (k + m) = walk l r k + c) {t : Nat} (ht : m * t = l.length) : r = c * (t : Int) := by
  have q := per_mul h 0 t
  rw [ht, walk_add (len_pos hl)] at q
  omega
theorem per_self {l : List Int} {r : Int} (hl : l ≠ []) : Per (walk l r) l.length := ⟨r, walk_add (len_pos hl)⟩
theorem getD_take {l : List Int} {m i : Nat} (h : i < m) : (l.take m).getD i 0 = l.getD i 0 := by
  rw [List.getD_eq_getElem?_getD, List.getD_eq_getElem?_getD, List.getElem?_take, if_pos h]
theorem getD_drop {l : List Int} {m i : Nat} : (l.drop m).getD i 0 = l.getD (m + i) 0 := by
  rw [List.getD_eq_getElem?_getD, List.getD_eq_getElem?_getD, List.getElem?_drop]
theorem getD_app1 {h l : List Int} {i : Nat} (q : i < h.length) : (h ++ l).getD i 0 = h.getD i 0 := by
  rw [List.getD_eq_getElem?_getD, List.getD_eq_getElem?_getD, List.getElem?_append_left q]
theorem getD_app2 {h l : List Int} {i : Nat} (q : h.length ≤ i) : (h ++ l).getD i 0 = l.getD (i - h.length) 0 := by
  rw [List.getD_eq_getElem?_getD, List.getD_eq_getElem?_getD, List.getElem?_append_right q]
/-- the shorter loop tells the same -/
theorem walk_short {l : List Int} {r c : Int} {m : Nat} (hm : 0 < m) (hle : m ≤ l.length) (h : ∀ k, walk l r (k + m) = walk l r k + c) (k : Nat) : walk (l.take m) c k = walk l r k := by
  have e : k = k % m + m * (k / m) := (Nat.mod_add_div k m).symm
  have hlt : k % m < m := Nat.mod_lt _ hm
  have q := per_mul h (k % m) (k / m)
  rw [← e] at q
  have w1 : walk l r (k % m) = l.getD (k % m) 0 := walk_lt (by omega)
  rw [q, w1]
  show (l.take m).getD (k % (l.take m).length) 0 + c * ((k / (l.take m).length : Nat) : Int) = _
  rw [List.length_take, Nat.min_eq_left hle, getD_take hlt]
theorem short_min {l : List Int} {r c : Int} {m : Nat} (hl : l ≠ []) (a : LapIs l r m) (h : ∀ k, walk l r (k + m) = walk l r k + c) : LoopMin (l.take m) c := by
  have hle : m ≤ l.length := Nat.le_of_dvd (len_pos hl) a.dvd
  intro m' p d q
  rw [List.length_take, Nat.min_eq_left hle] at d ⊢
  have e : walk (l.take m) c = walk l r := funext fun k => walk_short a.pos hle h k
  rw [e] at q
  exact Nat.le_antisymm (Nat.le_of_dvd a.pos d) (a.least _ p (Nat.dvd_trans d a.dvd) q)
/-! ### the head is cut -/
def cut (e : List Int) (p : Nat) (r : Int) : Nat → Nat
  | 0 => 0
  | k + 1 => if e.getD k 0 + r = e.getD (k + p) 0 then cut e p r k else k + 1
/-- the window of p entries behind the first `left` ones -/
def win (e : List Int) (left p : Nat) : List Int := (e.drop left).take p
theorem win_len {e : List Int} {left p : Nat} (h : left + p ≤ e.length) : (win e left p).length = p := by
  unfold win
  rw [List.length_take, List.length_drop]
  omega
theorem win_get {e : List Int} {left p i : Nat} (hi : i < p) : (win e left p).getD i 0 = e.getD (left + i) 0 := by
  unfold win
  rw [getD_take hi, getD_drop]
theorem win_step {e : List Int} {left p : Nat} {r : Int} (hp : 0 < p) (hle : left + 1 + p ≤ e.length) (hs : e.getD left 0 + r = e.getD (left + p) 0) (k : Nat) : walk (win e (left + 1) p) r k = walk (win e left p) r (k + 1) := by
  unfold walk
  rw [win_len (by omega), win_len (by omega)]
  have hlt : k % p < p := Nat.mod_lt _ hp
  rw [win_get hlt]
  by_cases c : k % p + 1 < p
  · have e1 : (k + 1) % p = k % p + 1 := by
      rw [Nat.add_mod, Nat.mod_eq_of_lt (show 1 < p by omega), Nat.mod_eq_of_lt c]
    have e2 : (k + 1) / p = k / p := by
      have q1 := Nat.div_add_mod (k + 1) p
      have q2 := Nat.div_add_mod k p
      rw [e1] at q1
      have : p * ((k + 1) / p) = p * (k / p) := by omega
      exact Nat.eq_of_mul_eq_mul_left hp this
    rw [e1, e2, win_get c]
    congr 2
    omega
  · have cp : k % p + 1 = p := by omega
    have hk : k + 1 = p * (k / p + 1) := by
      have q2 := Nat.div_add_mod k p
      rw [Nat.mul_add, Nat.mul_one]
      omega
    have e1 : (k + 1) % p = 0 := by rw [hk]; exact Nat.mul_mod_right _ _
    have e2 : (k + 1) / p = k / p + 1 := by rw [hk]; exact Nat.mul_div_cancel_left _ hp
    rw [e1, e2, win_get hp, Int.natCast_add, Int.mul_add, show left + 1 + k % p = left + p by omega, ← hs, show left + 0 = left from rfl]
    omega
theorem at_step {e : List Int} {left p : Nat} {r : Int} (hp : 0 < p) (hle : left + 1 + p ≤ e.length) (hs : e.getD left 0 + r = e.getD (left + p) 0) (n : Nat) (hn : 1 ≤ n) :
    at_ (e.take left) (win e left p) r n = at_ (e.take (left + 1)) (win e (left + 1) p) r n := by
  have n1 : win e left p ≠ [] := fun z => by
    have := win_len (e := e) (left := left) (p := p) (by omega)
    rw [z] at this
    simp at this
    omega
  have n2 : win e (left + 1) p ≠ [] := fun z => by
    have := win_len (e := e) (left := left + 1) (p := p) (by omega)
    rw [z] at this
    simp at this
    omega
  unfold at_
  rw [List.length_take, List.length_take, Nat.min_eq_left (by omega), Nat.min_eq_left (by omega), if_neg n1, if_neg n2]
  by_cases c1 : n ≤ left
  · rw [if_pos c1, if_pos (by omega), getD_take (by omega), getD_take (by omega)]
  · by_cases c2 : n ≤ left + 1
    · rw [if_neg c1, if_pos c2, getD_take (by omega), show n - left - 1 = 0 by omega, walk_lt (by rw [win_len (by omega)]; exact hp), win_get hp, show n - 1 = left + 0 by omega]
    · rw [if_neg c1, if_neg c2, win_step hp hle hs, show n - (left + 1) - 1 + 1 = n - left - 1 by omega]
theorem min_step {e : List Int} {left p : Nat} {r : Int} (hp : 0 < p) (hle : left + 1 + p ≤ e.length) (hs : e.getD left 0 + r = e.getD (left + p) 0) (h : LoopMin (win e (left + 1) p) r) : LoopMin (win e left p) r := by
  have l0 := win_len (e := e) (left := left) (p := p) (by omega)
  have l1 := win_len (e := e) (left := left + 1) (p := p) (by omega)
  intro m hm hd hq
  rw [l0] at hd ⊢
  have := h m hm (by rw [l1]; exact hd) (by
    obtain ⟨c, hc⟩ := hq
    refine ⟨c, fun k => ?_⟩
    rw [win_step hp hle hs, win_step hp hle hs, show k + m + 1 = k + 1 + m by omega, hc])
  rw [l1] at this
  exact this
theorem cut_le {e : List Int} {p : Nat} {r : Int} : ∀ k, cut e p r k ≤ k
  | 0 => Nat.le_refl _
  | k + 1 => by
    unfold cut
    split
    · exact Nat.le_succ_of_le (cut_le k)
    · exact Nat.le_refl _
theorem cut_at {e : List Int} {p : Nat} {r : Int} (hp : 0 < p) : ∀ k, k + p ≤ e.length → ∀ n, 1 ≤ n → at_ (e.take (cut e p r k)) (win e (cut e p r k) p) r n = at_ (e.take k) (win e k p) r n
  | 0, _, _, _ => rfl
  | k + 1, h, n, hn => by
    unfold cut
    split
    · rename_i c
      rw [cut_at hp k (by omega) n hn]
      exact at_step hp h c n hn
    · rfl
theorem cut_min {e : List Int} {p : Nat} {r : Int} (hp : 0 < p) : ∀ k, k + p ≤ e.length → LoopMin (win e k p) r → LoopMin (win e (cut e p r k) p) r
  | 0, _, h => h
  | k + 1, hk, h => by
    unfold cut
    split
    · rename_i c
      exact cut_min hp k (by omega) (min_step hp hk c h)
    · exact h
theorem cut_head {e : List Int} {p : Nat} {r : Int} (hp : 0 < p) : ∀ k, k + p ≤ e.length → HeadMin (e.take (cut e p r k)) (win e (cut e p r k) p) r
  | 0, h => fun k hk => by
    unfold cut at hk
    simp at hk
  | k + 1, h => by
    unfold cut
    split
    · exact cut_head hp k (by omega)
    · rename_i c
      intro j hj
      rw [List.length_take, Nat.min_eq_left (by omega)] at hj
      have ej : j = k := by omega
      subst ej
      rw [getD_take (by omega), win_len (by omega), win_get (by omega)]
      intro z
      exact c (by rw [z]; congr 1; omega)
/-! ### the plain form -/
def IsPlain (h l : List Int) (r : Int) (x : List Int × List Int × Int) : Prop :=
  (l = [] ∧ x = (h, [], 0)) ∨ (l ≠ [] ∧ x.2.1 ≠ [] ∧ LoopMin x.2.1 x.2.2 ∧ HeadMin x.1 x.2.1 x.2.2 ∧ ∀ n, 1 ≤ n → at_ x.1 x.2.1 x.2.2 n = at_ h l r n)
theorem plain_one {h1 l1 h2 l2 : List Int} {r1 r2 : Int} {x y : List Int × List Int × Int} (a : IsPlain h1 l1 r1 x) (b : IsPlain h2 l2 r2 y) (e : ∀ n, 1 ≤ n → at_ h1 l1 r1 n = at_ h2 l2 r2 n) : x = y := by
  rcases a with ⟨rfl, rfl⟩ | ⟨n1, n1', m1, k1, e1⟩
  · rcases b with ⟨rfl, rfl⟩ | ⟨n2, n2', m2, k2, e2⟩
    · rw [one_never e]
    · have q := e (h1.length + h2.length + 1) (by omega)
      rw [at_loop n2 (by omega)] at q
      unfold at_ at q
      rw [if_neg (by omega), if_pos rfl] at q
      cases q
  · rcases b with ⟨rfl, rfl⟩ | ⟨n2, n2', m2, k2, e2⟩
    · have q := e (h1.length + h2.length + 1) (by omega)
      rw [at_loop n1 (by omega)] at q
      unfold at_ at q
      rw [if_neg (by omega), if_pos rfl] at q
      cases q
    · obtain ⟨q1, q2, q3⟩ := one_form n1' n2' m1 m2 k1 k2 fun n hn => by rw [e1 n hn, e n hn, e2 n hn]
      obtain ⟨x1, x2, x3⟩ := x
      obtain ⟨y1, y2, y3⟩ := y
      dsimp only at q1 q2 q3
      rw [q1, q2, q3]
theorem plain_is {h l : List Int} {r : Int} {m : Nat} (hl : l ≠ []) (a : LapIs l r m) {c : Int} (hc : ∀ k, walk l r (k + m) = walk l r k + c) :
    IsPlain h l r ((h ++ l.take m).take (cut (h ++ l.take m) m c h.length), win (h ++ l.take m) (cut (h ++ l.take m) m c h.length) m, c) := by
  have hle : m ≤ l.length := Nat.le_of_dvd (len_pos hl) a.dvd
  have hlen : (h ++ l.take m).length = h.length + m := by rw [List.length_append, List.length_take, Nat.min_eq_left hle]
  have hcut := cut_le (e := h ++ l.take m) (p := m) (r := c) h.length
  have hw : win (h ++ l.take m) h.length m = l.take m := by
    unfold win
    rw [List.drop_left, List.take_of_length_le (by rw [List.length_take]; omega)]
  have ht : (h ++ l.take m).take h.length = h := List.take_left
  refine .inr ⟨hl, fun z => ?_, ?_, ?_, fun n hn => ?_⟩
  · have q := win_len (e := h ++ l.take m) (left := cut (h ++ l.take m) m c h.length) (p := m) (by rw [hlen]; omega)
    have z' : win (h ++ l.take m) (cut (h ++ l.take m) m c h.length) m = [] := z
    rw [z'] at q
    have := a.pos
    simp at q
    omega
  · exact cut_min a.pos _ (by rw [hlen]; exact Nat.le_refl _) (by rw [hw]; exact short_min hl a hc)
  · exact cut_head a.pos _ (by rw [hlen]; exact Nat.le_refl _)
  · show at_ ((h ++ l.take m).take (cut (h ++ l.take m) m c h.length)) (win (h ++ l.take m) (cut (h ++ l.take m) m c h.length) m) c n = _
    rw [cut_at a.pos _ (by rw [hlen]; exact Nat.le_refl _) n hn, hw, ht]
    unfold at_
    have n1 : l.take m ≠ [] := fun z => by
      have q := congrArg List.length z
      rw [List.length_take, Nat.min_eq_left hle] at q
      have := a.pos
      simp at q
      omega
    rw [if_neg hl, if_neg n1, walk_short a.pos hle hc]
end NT
set_option linter.all false
namespace NT
def sk (l : List Int) (r : Int) (k : Nat) : Int := walk l r (k + 1) - walk l r k
def steps (l : List Int) (r : Int) : List Int := (List.range l.length).map (sk l r)
section
variable {l : List Int} {r : Int} {m : Nat}
theorem sk_add (hl : l ≠ []) (k q : Nat) : sk l r (k + l.length * q) = sk l r k := by
  unfold sk
  rw [show k + l.length * q + 1 = (k + 1) + l.length * q by omega, walk_add_mul (len_pos hl), walk_add_mul (len_pos hl)]
  omega
theorem per_of_sk (h : ∀ k, sk l r (k + m) = sk l r k) : Per (walk l r) m := by
  refine ⟨walk l r m - walk l r 0, fun k => ?_⟩
  induction k with
  | zero => rw [Nat.zero_add]; omega
  | succ k ih =>
    have q := h k
    unfold sk at q
    rw [show k + 1 + m = k + m + 1 by omega]
    omega
theorem sk_of_per (h : Per (walk l r) m) (k : Nat) : sk l r (k + m) = sk l r k := by
  obtain ⟨c, hc⟩ := h
  unfold sk
  rw [show k + m + 1 = (k + 1) + m by omega, hc, hc]
  omega
theorem chain_up {f : Nat → Int} {n : Nat} {c : Int} (h : ∀ k, k + m < n → f (k + m) = f k + c) (j : Nat) : ∀ u, j + m * u < n → f (j + m * u) = f j + c * (u : Int)
  | 0, _ => by simp
  | u + 1, hu => by
    have e : j + m * (u + 1) = j + m * u + m := by rw [Nat.mul_succ]; omega
    have ih := chain_up h j u (by omega)
    rw [e, h _ (by omega), ih, Int.natCast_add, Int.mul_add]
    omega
/-- a place in the last part of a loop -/
theorem last_part {n i t : Nat} (hm : 0 < m) (ht : m * t = n) (hi : i < n) (hg : ¬ i + m < n) : ∃ j, j < m ∧ i + m = n + j ∧ i = j + m * (t - 1) ∧ 0 < t := by
  have t0 : 0 < t := Nat.pos_of_ne_zero fun z => by rw [z, Nat.mul_zero] at ht; omega
  obtain ⟨t', rfl⟩ : ∃ t', t = t' + 1 := ⟨t - 1, by omega⟩
  rw [Nat.mul_succ] at ht
  refine ⟨i + m - n, by omega, by omega, ?_, t0⟩
  rw [show t' + 1 - 1 = t' by omega]
  omega
theorem cond_iff (hl : l ≠ []) (hm : 0 < m) (hd : m ∣ l.length) : ((steps l r).drop m = (steps l r).take (l.length - m)) ↔ Per (walk l r) m := by
  obtain ⟨t, ht⟩ := hd
  have hle : m ≤ l.length := by rw [ht]; exact Nat.le_mul_of_pos_right _ (Nat.pos_of_ne_zero fun z => by rw [z, Nat.mul_zero] at ht; exact absurd ht (Nat.ne_of_gt (len_pos hl)))
  constructor
  · intro h
    have h0 : ∀ k, k + m < l.length → sk l r (k + m) = sk l r k + 0 := fun k hk => by
      have q := congrArg (fun z : List Int => z[k]?) h
      simp only [steps, List.getElem?_drop, List.getElem?_take, if_pos (show k < l.length - m by omega), List.getElem?_map, List.getElem?_range (show m + k < l.length by omega), List.getElem?_range (show k < l.length by omega), Option.map_some, Option.some.injEq] at q
      rw [show k + m = m + k by omega, q]
      omega
    refine per_of_sk fun k => ?_
    have hp := len_pos hl
    have e : k = k % l.length + l.length * (k / l.length) := (Nat.mod_add_div k _).symm
    have hi : k % l.length < l.length := Nat.mod_lt _ hp
    have e1 : sk l r k = sk l r (k % l.length) := by
      have := sk_add (r := r) hl (k % l.length) (k / l.length)
      rw [← e] at this
      exact this
    have e2 : sk l r (k + m) = sk l r (k % l.length + m) := by
      have := sk_add (r := r) hl (k % l.length + m) (k / l.length)
      rw [show k % l.length + m + l.length * (k / l.length) = k + m by omega] at this
      exact this
    rw [e1, e2]
    by_cases c : k % l.length + m < l.length
    · rw [h0 _ c]; omega
    · obtain ⟨j, j1, j2, j3, t0⟩ := last_part hm ht.symm hi c
      have q := chain_up (f := sk l r) (n := l.length) h0 j (t - 1) (by omega)
      rw [j2, show l.length + j = j + l.length * 1 by omega, sk_add hl, j3, q]
      omega
  · intro h
    refine List.ext_getElem? fun k => ?_
    simp only [steps, List.getElem?_drop, List.getElem?_take, List.getElem?_map]
    by_cases c : k < l.length - m
    · rw [if_pos c, List.getElem?_range (by omega), List.getElem?_range (by omega)]
      simp only [Option.map_some]
      rw [show m + k = k + m by omega, sk_of_per h]
    · rw [if_neg c, List.getElem?_eq_none (by rw [List.length_range]; omega)]
      rfl
theorem walk_i {i : Nat} (h : i < l.length) : walk l r i = l.getD i 0 := walk_lt h
/-- the law's own look at a part of a loop -/
theorem law_iff (hl : l ≠ []) (hm : 0 < m) {t : Nat} (ht : m * t = l.length) : (r % (t : Int) = 0 ∧ ∀ k, k + m < l.length → l.getD (k + m) 0 = l.getD k 0 + r / (t : Int)) ↔ Per (walk l r) m := by
  have hp := len_pos hl
  have t0 : 0 < t := Nat.pos_of_ne_zero fun z => by rw [z, Nat.mul_zero] at ht; omega
  constructor
  · rintro ⟨h1, h2⟩
    have hr : r = r / (t : Int) * (t : Int) := (Int.ediv_mul_cancel (Int.dvd_of_emod_eq_zero h1)).symm
    refine ⟨r / (t : Int), fun k => ?_⟩
    have e : k = k % l.length + l.length * (k / l.length) := (Nat.mod_add_div k _).symm
    have hi : k % l.length < l.length := Nat.mod_lt _ hp
    have e1 : walk l r k = walk l r (k % l.length) + r * ((k / l.length : Nat) : Int) := by
      have := walk_add_mul (r := r) hp (k % l.length) (k / l.length)
      rw [← e] at this
      exact this
    have e2 : walk l r (k + m) = walk l r (k % l.length + m) + r * ((k / l.length : Nat) : Int) := by
      have := walk_add_mul (r := r) hp (k % l.length + m) (k / l.length)
      rw [show k % l.length + m + l.length * (k / l.length) = k + m by omega] at this
      exact this
    rw [e1, e2, walk_i hi]
    by_cases c : k % l.length + m < l.length
    · rw [walk_i c, h2 _ c]; omega
    · obtain ⟨j, j1, j2, j3, _⟩ := last_part hm ht hi c
      have q := chain_up (f := fun i => l.getD i 0) (n := l.length) h2 j (t - 1) (by omega)
      have q' : l.getD (k % l.length) 0 = l.getD j 0 + r / (t : Int) * ((t - 1 : Nat) : Int) := by rw [← q]; exact congrArg (fun i => l.getD i 0) j3
      have hjl : j < l.length := by omega
      rw [j2, show l.length + j = j + l.length by omega, walk_add hp, walk_i hjl, q']
      have e3 : r / (t : Int) * (t : Int) = r / (t : Int) * ((t - 1 : Nat) : Int) + r / (t : Int) := by
        rw [show (t : Int) = ((t - 1 : Nat) : Int) + 1 by omega, Int.mul_add, Int.mul_one]
      omega
  · rintro ⟨c, hc⟩
    have hr := per_rise hl hc ht
    have hd : r / (t : Int) = c := by
      rw [hr]
      exact Int.mul_ediv_cancel _ (by omega)
    refine ⟨by rw [hr]; exact Int.mul_emod_left _ _, fun k hk => ?_⟩
    have q := hc k
    rw [walk_i hk, walk_i (by omega)] at q
    rw [q, hd]
/-- what goes on by a part goes on so by its rise -/
theorem per_at (hl : l ≠ []) (hm : 0 < m) (h : Per (walk l r) m) {t : Nat} (ht : m * t = l.length) : ∀ k, walk l r (k + m) = walk l r k + r / (t : Int) := by
  obtain ⟨c, hc⟩ := h
  have hr := per_rise hl hc ht
  have t0 : 0 < t := Nat.pos_of_ne_zero fun z => by rw [z, Nat.mul_zero] at ht; exact absurd ht.symm (Nat.ne_of_gt (len_pos hl))
  have hd : r / (t : Int) = c := by
    rw [hr]
    exact Int.mul_ediv_cancel _ (by omega)
  rw [hd]
  exact hc
/-- the program's search -/
theorem lap_prog (hl : l ≠ []) (hm : 0 < m) (hle : m ≤ l.length / 2) (hd : m ∣ l.length) (hp : Per (walk l r) m) (hno : ∀ m', 0 < m' → m' < m → m' ∣ l.length → ¬ Per (walk l r) m') : LapIs l r m :=
  ⟨hm, hd, hp, fun m' p d q => Nat.le_of_not_lt fun c => hno m' p c d q⟩
theorem lap_whole (hl : l ≠ []) (hno : ∀ m', 0 < m' → m' ≤ l.length / 2 → m' ∣ l.length → ¬ Per (walk l r) m') : LapIs l r l.length :=
  ⟨len_pos hl, Nat.dvd_refl _, per_self hl, fun m' p d q => Nat.le_of_not_lt fun c => hno m' p (by
    obtain ⟨t, ht⟩ := d
    have t2 : 2 ≤ t := Nat.le_of_not_lt fun z => by
      have : t = 0 ∨ t = 1 := by omega
      rcases this with rfl | rfl
      · rw [Nat.mul_zero] at ht; omega
      · rw [Nat.mul_one] at ht; omega
    have : m' * 2 ≤ l.length := by rw [ht]; exact Nat.mul_le_mul_left _ t2
    omega) d q⟩
end
end NT
set_option Elab.async false
set_option linter.all false
set_option maxRecDepth 100000
set_option maxHeartbeats 4000000
namespace NF
open PySem PySem.Spec PyProof.Rows L2 He RZ
theorem Same.tup {K : PySem.W.Frag} {H H' : Hp} {a : Addr} {xs : List V} (e : Same H H') (h : SqT K H a xs) : SqT K H' a xs := by
  rcases h with (h | ⟨o, h⟩) | h
  · exact .inl (.inl (e _ _ h))
  · exact .inl (.inr ⟨o, e _ _ h⟩)
  · exact .inr h
abbrev vI (l : List Int) : List V := l.map V.int
/-! ### o.f = v as one of several targets -/
def gFld (K : PySem.W.Frag) (ta : TE) (f : Str) : TG := fun v σ H Q => ta σ H fun x H1 => ∃ a C dx fs, x = .ref a ∧ H1 a = some (.ins C dx fs) ∧ Cls K C ∧ NoAttr K C f ∧ fs.length < 1000 ∧ Q σ (upd H1 a (.ins C dx (putF f v fs)))
theorem pg_fld {X : Cx} {o : Expr} {f : Str} {pos : Pos} {ta : TE} (ha : PE X o ta) : PG X (.Attribute o f pos) (gFld X.K ta f) := by
  refine ⟨fun pins s σ H v u Q I r h => ?_⟩
  refine PySem.W.kas_attr (thn (ha.run pins s σ H _ I h) fun ov s1 ⟨x, H1, I1, rx, a, C, dx, fs, ex, ea, c, n, l, q⟩ => ?_)
  subst ex
  obtain rfl : ov = Value.ref a := rx
  exact setattr_ok I1 ea c n l r fun s2 I2 => ⟨σ, _, I2, q⟩
/-! ### a name of the module that is a function of Python's own -/
theorem pe_gl {X : Cx} {x : Str} {a : Addr} {pos : Pos} (hm : X.mg x = some (.ref a)) (hg : Gl X x := by rfl) (hd : (x == ("__debug__" : Str)) = false := by decide) : PE X (.Name x pos) (tC (.ref a)) := pe_glob (v := .ref a) hg hm rfl hd
theorem ixl {X : Cx} {K : PySem.W.Frag} (h : X.K = K := by rfl) : IxR X (rIxL K) := h ▸ ix_list
theorem pgt {X : Cx} {K : PySem.W.Frag} {es : List Expr} {k : Nat} {pos : Pos} {t : TGs} {n : Nat} (hK : X.K = K) (hc : X.calm = true) (h : PGs X es t)
    (hn : (assignEach es X.env).length = n := by rfl) (hst : (assignEach es X.env).findIdx? (·.1) = none := by rfl) : PG X (.Tuple es k pos) (gTup K n t) := hK ▸ pg_tup hc h hn hst
theorem ixt {X : Cx} {K : PySem.W.Frag} (h : X.K = K := by rfl) : IxR X (rIxT K) := h ▸ ix_tup
/-! ### slices and sums of tuples: whatever object they give -/
theorem sIx_negN {n d k : Nat} (hk : 0 < k) : HT.sIx n d (some (-(k : Int))) = n - k := by
  show (if -(k : Int) < 0 then (-(k : Int) + (n : Int)).toNat else min (-(k : Int)).toNat n) = n - k
  rw [if_pos (by omega)]
  omega
theorem cut_whole {xs : List V} {lo hi : Option Int} (h : HT.sIx xs.length 0 lo = 0 ∧ HT.sIx xs.length xs.length hi = xs.length) : cutV xs lo hi = xs := by
  unfold cutV
  rw [h.1, h.2]
  simp
theorem slA_done {K : PySem.W.Frag} {H : Hp} {a : Addr} {xs : List V} {lo hi : Option Int} {Q : VK} (hx : SqT K H a xs) (q : ∀ p H', Same H H' → SqT K H' p (cutV xs lo hi) → Q (.ref p) H') : rSlA K (.ref a) lo hi H Q := by
  refine ⟨a, xs, rfl, hx, fun w => q a H (Same.refl H) (by rw [cut_whole w]; exact hx), fun _ p hp => q p _ (NF.Same.new (Same.refl H) hp) (SqT.of upd_same)⟩
theorem slA_from {K : PySem.W.Frag} {H : Hp} {a : Addr} {xs : List V} {lo : Option Int} {Q : VK} {σ : L2.St} (hx : SqT K H a xs) (q : ∀ p H', Same H H' → SqT K H' p (cutV xs lo none) → Q (.ref p) H') : tNoPart σ H fun u H3 => rSlA K (.ref a) lo u H3 Q := by
  show rSlA K (.ref a) lo none H Q
  exact slA_done hx q
theorem catA_done {K : PySem.W.Frag} {H : Hp} {a b : Addr} {xs ys : List V} {Q : VK} (hx : SqT K H a xs) (hy : SqT K H b ys) (hz : xs.length + ys.length ≤ sizeLine) (q : ∀ p H', Same H H' → SqT K H' p (xs ++ ys) → Q (.ref p) H') : rCatA K (.ref a) (.ref b) H Q := by
  refine ⟨a, b, xs, ys, rfl, rfl, hx, hy, hz, fun e => q b H (Same.refl H) (by rw [e]; exact hy), fun _ e => q a H (Same.refl H) (by rw [e, List.append_nil]; exact hx), fun _ _ p hp => q p _ (NF.Same.new (Same.refl H) hp) (SqT.of upd_same)⟩
theorem cut_from {xs : List V} {n : Nat} : cutV xs (some (n : Int)) none = xs.drop n := by
  unfold cutV
  rw [HT.sIx_nat]
  show (xs.drop (min n xs.length)).take (xs.length - min n xs.length) = xs.drop n
  by_cases h : n ≤ xs.length
  · rw [Nat.min_eq_left h, List.take_of_length_le (by rw [List.length_drop]; exact Nat.le_refl _)]
  · rw [Nat.min_eq_right (by omega), List.drop_of_length_le (Nat.le_refl _), List.drop_of_length_le (by omega)]
    simp
theorem cut_to {xs : List V} {n : Nat} : cutV xs none (some (n : Int)) = xs.take n := by
  unfold cutV
  rw [HT.sIx_nat]
  show (xs.drop 0).take (min n xs.length - 0) = xs.take n
  rw [List.drop_zero, Nat.sub_zero]
  by_cases h : n ≤ xs.length
  · rw [Nat.min_eq_left h]
  · rw [Nat.min_eq_right (by omega), List.take_of_length_le (Nat.le_refl _), List.take_of_length_le (by omega)]
theorem cut_toN {xs : List V} {n : Nat} (h : 0 < n) : cutV xs none (some (-(n : Int))) = xs.take (xs.length - n) := by
  unfold cutV
  rw [sIx_negN h]
  show (xs.drop 0).take (xs.length - n - 0) = _
  rw [List.drop_zero, Nat.sub_zero]
theorem cut_mid {xs : List V} {a b : Nat} (h : a ≤ b) (hb : b ≤ xs.length) : cutV xs (some (a : Int)) (some (b : Int)) = (xs.drop a).take (b - a) := by
  unfold cutV
  rw [HT.sIx_nat, HT.sIx_nat, Nat.min_eq_left hb, Nat.min_eq_left (by omega)]
theorem map_cut {l : List Int} {lo hi : Option Int} : ∃ m : List Int, cutV (vI l) lo hi = vI m := ⟨(l.drop (HT.sIx (vI l).length 0 lo)).take (HT.sIx (vI l).length (vI l).length hi - HT.sIx (vI l).length 0 lo), by unfold cutV; simp only [vI, List.map_take, List.map_drop]⟩
theorem at_int {l : List Int} {i : Int} {k : Nat} (e : i = (k : Int)) (h : k < l.length) : atI (vI l) i = some (V.int (l.getD k 0)) := by
  rw [e]
  exact atI_nat (by rw [List.getElem?_map, List.getElem?_eq_getElem h, List.getD_eq_getElem?_getD, List.getElem?_eq_getElem h] <;> rfl)
theorem at_last {l : List Int} (h : 0 < l.length) : atI (vI l) (-1) = some (V.int (l.getD (l.length - 1) 0)) := by
  unfold atI ixN
  rw [if_neg (by omega), List.length_map, if_pos (by omega)]
  show (vI l)[((-1 : Int) + (l.length : Int)).toNat]? = _
  rw [show ((-1 : Int) + (l.length : Int)).toNat = l.length - 1 by omega, List.getElem?_map, List.getElem?_eq_getElem (by omega), List.getD_eq_getElem?_getD, List.getElem?_eq_getElem (by omega)] <;> rfl
/-! ### [.. for a, b in zip(t, u)] of two tuples of one length -/
theorem lc_zipT {K : PySem.W.Frag} {a b : Addr} {xs ys : List V} {g : TG} {tt : TT} {te : TE} {vs : List Nat} {σ : L2.St} {H1 : Hp} {D : Addr} {Qd : Hp → Prop} (hl : xs.length = ys.length) (Pv : Nat → Hp → Prop) (h0 : Pv 0 (upd H1 D (.lst []))) (hq : ∀ i H, Pv i H → SqT K H a xs ∧ SqT K H b ys)
    (hs : ∀ i x y T H, xs[i]? = some x → ys[i]? = some y → Pv i H → H T = none → g (.ref T) (wipe σ vs) (upd H T (.tup [x, y])) fun σ2 H2 => wipe σ2 vs = wipe σ vs ∧ tt σ2 H2 fun b H3 =>
      if b = true then te σ2 H3 fun y H4 => ∃ acc, H4 D = some (.lst acc) ∧ acc.length < sizeLine ∧ Pv (i + 1) (upd H4 D (.lst (acc ++ [y]))) else Pv (i + 1) H3) (hd : ∀ H, Pv xs.length H → Qd H) :
    ∃ W : Nat → Nat → Hp → Prop, (∃ m, W 0 m (upd H1 D (.lst []))) ∧ ∀ i m H, W i m H →
      ((ItzT K a b).stop i H ∧ Qd H) ∨ ((ItzT K a b).go i H ∧ ∃ Nx : Hp → Prop, (∀ H', Nx H' → ∃ m', m' < m ∧ W (i + 1) m' H') ∧ ∀ x H', (ItzT K a b).yld i H x H' → g x (wipe σ vs) H' fun σ2 H2 => wipe σ2 vs = wipe σ vs ∧ tt σ2 H2 fun b H3 =>
        if b = true then te σ2 H3 fun y H4 => ∃ acc, H4 D = some (.lst acc) ∧ acc.length < sizeLine ∧ Nx (upd H4 D (.lst (acc ++ [y]))) else Nx H3) := by
  refine ⟨fun i m H => m = xs.length - i ∧ i ≤ xs.length ∧ Pv i H, ⟨xs.length, rfl, Nat.zero_le _, h0⟩, ?_⟩
  rintro i m H ⟨rfl, hi, p⟩
  obtain ⟨qx, qy⟩ := hq i H p
  by_cases hlt : i < xs.length
  · have hx : xs[i]? = some xs[i] := List.getElem?_eq_getElem hlt
    have hlt2 : i < ys.length := by omega
    have hy : ys[i]? = some ys[i] := List.getElem?_eq_getElem hlt2
    refine .inr ⟨⟨xs, ys, _, _, qx, qy, hx, hy⟩, Pv (i + 1), fun H' p' => ⟨xs.length - (i + 1), by omega, rfl, hlt, p'⟩, fun v H' y => ?_⟩
    obtain ⟨T, x', y', rfl, hT, rfl, f1, f2⟩ := y
    exact hs i x' y' T H (f1 xs qx) (f2 ys qy) p hT
  · have e : i = xs.length := by omega
    subst e
    exact .inl ⟨⟨xs, ys, qx, qy, Or.inl (Nat.le_refl _)⟩, hd H p⟩
theorem tru_tup {K : PySem.W.Frag} {H : Hp} {a : Addr} {l : List Int} (h : SqT K H a (vI l)) : TruV K (.ref a) H (!l.isEmpty) := Or.inr (Or.inl ⟨_, h, by cases l <;> rfl⟩)
theorem tru_int {K : PySem.W.Frag} {H : Hp} {i : Int} : TruV K (.int i) H (i != 0) := rfl
/-! ### deep == of lists and tuples of vI -/
theorem dp_ints {K : PySem.W.Frag} {H : Hp} : ∀ l : List Int, DpAll K H (vI l) (l.map PyData.int)
  | [] => .nil
  | i :: l => .cons (.int i) (dp_ints l)
theorem eqv_ints : ∀ a b : List Int, PyData.eqvAll (a.map PyData.int) (b.map PyData.int) = decide (a = b)
  | [], [] => rfl
  | [], _ :: _ => rfl
  | _ :: _, [] => rfl
  | x :: a, y :: b => by
    show (PyData.eqv (.int x) (.int y) && PyData.eqvAll (a.map PyData.int) (b.map PyData.int)) = _
    rw [eqv_ints a b]
    show ((x == y) && decide (a = b)) = _
    by_cases h : x = y <;> by_cases g : a = b <;> simp [h, g]
end NF
namespace NF
open PySem PySem.Spec PyProof.Rows L2 He RZ
theorem lay_ints : ∀ l : List Int, PyData.canLayAll0 (l.map PyData.int) = true
  | [] => rfl
  | _ :: l => lay_ints l
theorem depth_ints : ∀ l : List Int, PyData.depthAll (l.map PyData.int) = 0
  | [] => rfl
  | i :: l => by
    show max (PyData.depth (.int i)) (PyData.depthAll (l.map PyData.int)) = 0
    rw [depth_ints l]
    rfl
theorem shaped_L (l : List Int) : SeqAt.shaped (.list (l.map PyData.int)) = true := by
  show (PyData.canLayAll0 (l.map PyData.int) && decide (PyData.depthAll (l.map PyData.int) + 1 ≤ 64)) = true
  rw [lay_ints, depth_ints]
  rfl
theorem shaped_T (l : List Int) : SeqAt.shaped (.tuple (l.map PyData.int)) = true := by
  show (PyData.canLayAll0 (l.map PyData.int) && decide (PyData.depthAll (l.map PyData.int) + 1 ≤ 64)) = true
  rw [lay_ints, depth_ints]
  rfl
theorem eqL_done {K : PySem.W.Frag} {H : Hp} {a b : Addr} {x y : List Int} {Q : VK} (hx : SqL K H a (vI x)) (hy : SqL K H b (vI y)) (q : Q (.bl (decide (x = y))) H) : rEqD K (.ref a) (.ref b) H Q :=
  ⟨_, _, .lst hx (dp_ints x), .lst hy (dp_ints y), shaped_L x, shaped_L y, by rw [show PyData.eqv (.list (x.map PyData.int)) (.list (y.map PyData.int)) = decide (x = y) from eqv_ints x y]; exact q⟩
theorem eqT_done {K : PySem.W.Frag} {H : Hp} {a b : Addr} {x y : List Int} {Q : VK} (hx : SqT K H a (vI x)) (hy : SqT K H b (vI y)) (q : Q (.bl (decide (x = y))) H) : rEqD K (.ref a) (.ref b) H Q :=
  ⟨_, _, .tup hx (dp_ints x), .tup hy (dp_ints y), shaped_T x, shaped_T y, by rw [show PyData.eqv (.tuple (x.map PyData.int)) (.tuple (y.map PyData.int)) = decide (x = y) from eqv_ints x y]; exact q⟩
theorem neT_done {K : PySem.W.Frag} {H : Hp} {a b : Addr} {x y : List Int} {Q : VK} (hx : SqT K H a (vI x)) (hy : SqT K H b (vI y)) (q : Q (.bl (!decide (x = y))) H) : rNeD K (.ref a) (.ref b) H Q :=
  ⟨_, _, .tup hx (dp_ints x), .tup hy (dp_ints y), shaped_T x, shaped_T y, by rw [show PyData.eqv (.tuple (x.map PyData.int)) (.tuple (y.map PyData.int)) = decide (x = y) from eqv_ints x y]; exact q⟩
end NF
namespace NF
open PySem
theorem vI_drop {l : List Int} {n : Nat} : (vI l).drop n = vI (l.drop n) := by simp [vI, List.map_drop]
theorem vI_take {l : List Int} {n : Nat} : (vI l).take n = vI (l.take n) := by simp [vI, List.map_take]
theorem vI_app {l m : List Int} : vI l ++ vI m = vI (l ++ m) := by simp [vI]
theorem vI_len {l : List Int} : (vI l).length = l.length := by simp [vI]
end NF
namespace NF
open PySem PySem.Spec PyProof.Rows L2 He RZ
/-- a list or a tuple -/
def Row (K : PySem.W.Frag) (H : Hp) (a : Addr) (xs : List V) : Prop := SqL K H a xs ∨ SqT K H a xs
theorem Row.mono {K : PySem.W.Frag} {H H' : Hp} {a : Addr} {xs : List V} (h : Row K H a xs) (s : Same H H') : Row K H' a xs := h.elim (fun h => .inl (L2.Same.seq s h)) (fun h => .inr (NF.Same.tup s h))
def iRow (K : PySem.W.Frag) (tl : TE) : TI := fun σ H R => tl σ H fun x H1 => ∃ a, x = .ref a ∧ (((∃ xs, SqL K H1 a xs) ∧ R (Itl K a) H1) ∨ ((∃ xs, SqT K H1 a xs) ∧ R (Itt K a) H1))
theorem pi_row {X : Cx} {tg l : Expr} {tl : TE} (hl : PE X l tl) : PI X tg l (iRow X.K tl) := by
  refine ⟨fun pins s σ H R I h => ?_⟩
  refine thn (hl.run pins s σ H _ I h) fun v s1 ⟨x, H1, I1, r1, q1⟩ => ?_
  obtain ⟨a, e, q⟩ := q1
  subst e
  cases r1
  rcases q with ⟨⟨xs, hq⟩, q⟩ | ⟨⟨xs, hq⟩, q⟩
  · obtain ⟨its, rv, p, hz⟩ := I1.list hq
    refine wpAny_pyIter_list p.isList ?_
    refine ⟨s1.heap.objs.size, [s1.heap.objs.size], _, _, H1, rfl, I1.kept (t' := s1.toks) fun b o e => Heap.get?_push_of_some _ e, turn_list a _, ⟨_, Heap.get?_push_size _ rfl, rfl, rfl⟩, fun b hb => ?_, q⟩
    have e : b = s1.heap.objs.size := by simpa using hb
    subst e
    exact I1.fpOk (Nat.le_refl _) (I1.hok.fresh (Nat.le_refl _))
  · obtain ⟨its, rv, p, hz⟩ := I1.tuple hq
    refine wpAny_pyIter_tuple (show s1.heap.IsTuple a its.toArray from p) ?_
    refine ⟨s1.heap.objs.size, [s1.heap.objs.size], _, _, H1, rfl, I1.kept (t' := s1.toks) fun b o e => Heap.get?_push_of_some _ e, turn_tuple a _, ⟨_, Heap.get?_push_size _ rfl, rfl, rfl⟩, fun b hb => ?_, q⟩
    have e : b = s1.heap.objs.size := by simpa using hb
    subst e
    exact I1.fpOk (Nat.le_refl _) (I1.hok.fresh (Nat.le_refl _))
theorem for_row {K : PySem.W.Frag} {a : Addr} {xs : List V} {g : TG} {tb : TS} {D : Ends} {σ : L2.St} {H : Hp} (hr : Row K H a xs) (Pv : Nat → L2.St → Hp → Prop) (h0 : Pv 0 σ H) (hm : ∀ i σ H', Pv i σ H' → Same H H')
    (hs : ∀ i x σ H, xs[i]? = some x → Pv i σ H → g x σ H fun σ2 H2 => tb { D with nx := Pv (i + 1), ct := Pv (i + 1), bk := D.nx } σ2 H2) (hd : ∀ σ H, Pv xs.length σ H → D.nx σ H) :
    ((∃ xs, SqL K H a xs) ∧ (∃ W : Nat → Nat → L2.St → Hp → Prop, (∃ m, W 0 m σ H) ∧ ∀ i m σ H, W i m σ H →
      ((Itl K a).stop i H ∧ D.nx σ H) ∨ ((Itl K a).go i H ∧ ∃ N : L2.St → Hp → Prop, (∀ σ' H', N σ' H' → ∃ m', m' < m ∧ W (i + 1) m' σ' H') ∧ ∀ x H', (Itl K a).yld i H x H' → g x σ H' fun σ2 H2 => tb { D with nx := N, ct := N, bk := D.nx } σ2 H2))) ∨
    ((∃ xs, SqT K H a xs) ∧ (∃ W : Nat → Nat → L2.St → Hp → Prop, (∃ m, W 0 m σ H) ∧ ∀ i m σ H, W i m σ H →
      ((Itt K a).stop i H ∧ D.nx σ H) ∨ ((Itt K a).go i H ∧ ∃ N : L2.St → Hp → Prop, (∀ σ' H', N σ' H' → ∃ m', m' < m ∧ W (i + 1) m' σ' H') ∧ ∀ x H', (Itt K a).yld i H x H' → g x σ H' fun σ2 H2 => tb { D with nx := N, ct := N, bk := D.nx } σ2 H2))) := by
  rcases hr with hr | hr
  · exact .inl ⟨⟨_, hr⟩, for_list Pv h0 (fun i σ H' _ p => L2.Same.seq (hm i σ H' p) hr) hs hd⟩
  · exact .inr ⟨⟨_, hr⟩, for_tup Pv h0 (fun i σ H' _ p => NF.Same.tup (hm i σ H' p) hr) hs hd⟩
theorem ixs {X : Cx} {K : PySem.W.Frag} (h : X.K = K := by rfl) : IxR X (rIx K) := h ▸ ix_seq
theorem ix_done {K : PySem.W.Frag} {H : Hp} {a : Addr} {xs : List V} {i : Int} {v : V} {Q : VK} (hr : Row K H a xs) (hv : atI xs i = some v) (q : Q v H) : rIx K (.ref a) (.int i) H Q :=
  hr.elim (fun h => .inl ⟨a, xs, i, v, rfl, rfl, h, hv, q⟩) fun h => .inr (.inl ⟨a, xs, i, v, rfl, rfl, h, hv, q⟩)
theorem tru_row {K : PySem.W.Frag} {H : Hp} {a : Addr} {l : List Int} (h : Row K H a (vI l)) : TruV K (.ref a) H (!l.isEmpty) := h.elim (fun h => Or.inl ⟨_, h, by cases l <;> rfl⟩) tru_tup
theorem tyx_tup {K : PySem.W.Frag} {H : Hp} {a : Addr} {xs : List V} (h : SqT K H a xs) : TyX K H (.ref a) (.type "tuple") := by
  rcases h with (h | ⟨o, h⟩) | ⟨o, its, n, h1, h2, _⟩
  · exact .base (.tup h)
  · exact .fTuple h
  · exact .kTuple h1 h2
theorem tyx_lst {K : PySem.W.Frag} {H : Hp} {a : Addr} {xs : List V} (h : SqL K H a xs) : TyX K H (.ref a) (.type "list") := by
  rcases h with (h | ⟨o, h⟩) | ⟨o, its, n, h1, h2, _⟩
  · exact .base (.lst h)
  · exact .base (.frz h)
  · exact .kList h1 h2
theorem kit_i_i (K : PySem.W.Frag) : PySem.W.kitOne K (.type "int") (.type "int") = some true := if_pos (by decide +kernel)
theorem kit_i_b (K : PySem.W.Frag) : PySem.W.kitOne K (.type "int") (.type "bool") = some false := by kernel_rfl
theorem kit_b_b (K : PySem.W.Frag) : PySem.W.kitOne K (.type "bool") (.type "bool") = some true := if_pos (by decide +kernel)
theorem kit_t_t (K : PySem.W.Frag) : PySem.W.kitOne K (.type "tuple") (.type "tuple") = some true := if_pos (by decide +kernel)
theorem kit_t_tl (K : PySem.W.Frag) : PySem.W.kitAny K (.type "tuple") [.type "tuple", .type "list"] = some true := by kernel_rfl
theorem kit_l_tl (K : PySem.W.Frag) : PySem.W.kitAny K (.type "list") [.type "tuple", .type "list"] = some true := by kernel_rfl
end NF
namespace NT
def climbs : Int → List Int → Prop
  | _, [] => True
  | lo, x :: xs => lo ≤ x ∧ climbs x xs
structure Good (h l : List Int) (r : Int) : Prop where
  hd : climbs 0 h
  lp : climbs 0 l
  join : h ≠ [] → l ≠ [] → h.getD (h.length - 1) 0 ≤ l.getD 0 0
  r0 : 0 ≤ r
  rl : l = [] → r = 0
  last : l ≠ [] → l.getD (l.length - 1) 0 ≤ l.getD 0 0 + r
end NT
set_option Elab.async false
set_option linter.all false
set_option maxRecDepth 100000
set_option maxHeartbeats 4000000
namespace NT
theorem least_of {p : Nat → Prop} : ∀ n, p n → ∃ m, p m ∧ m ≤ n ∧ ∀ k, p k → m ≤ k := by
  intro n
  induction n using Nat.strongRecOn with
  | _ n ih =>
    intro hn
    by_cases h : ∃ k, p k ∧ k < n
    · obtain ⟨k, hk, hlt⟩ := h
      obtain ⟨m, h1, h2, h3⟩ := ih k hlt hk
      exact ⟨m, h1, by omega, h3⟩
    · exact ⟨n, hn, Nat.le_refl _, fun k hk => Nat.le_of_not_lt fun hlt => h ⟨k, hk, hlt⟩⟩
theorem lap_ex {l : List Int} {r : Int} (hl : l ≠ []) : ∃ m, LapIs l r m := by
  obtain ⟨m, ⟨h1, h2, h3⟩, _, hm⟩ := least_of (p := fun m => 0 < m ∧ m ∣ l.length ∧ Per (walk l r) m) l.length ⟨len_pos hl, Nat.dvd_refl _, per_self hl⟩
  exact ⟨m, h1, h2, h3, fun k a b c => hm k ⟨a, b, c⟩⟩
/-- the plain form is no longer than what it was told by -/
theorem plain_size {h l : List Int} {r : Int} {x : List Int × List Int × Int} (hx : IsPlain h l r x) : x.1.length ≤ h.length ∧ x.2.1.length ≤ l.length ∧ (l ≠ [] → x.2.1 ≠ []) ∧ (l = [] → x.2.1 = []) ∧ (0 ≤ r → 0 ≤ x.2.2 ∧ x.2.2 ≤ r) ∧ (l ≠ [] → (0 < r ↔ 0 < x.2.2)) ∧ (l = [] → x = (h, [], 0)) := by
  by_cases hl : l = []
  · subst hl
    rcases hx with ⟨_, rfl⟩ | ⟨z, _⟩
    · exact ⟨Nat.le_refl _, Nat.le_refl _, fun z => absurd rfl z, fun _ => rfl, fun h => ⟨Int.le_refl _, h⟩, fun z => absurd rfl z, fun _ => rfl⟩
    · exact absurd rfl z
  · obtain ⟨m, a⟩ := lap_ex (r := r) hl
    obtain ⟨t, ht⟩ := a.dvd
    have hc := per_at hl a.pos a.per ht.symm
    have hr := per_rise hl hc ht.symm
    have t0 : 0 < t := Nat.pos_of_ne_zero fun z => by rw [z, Nat.mul_zero] at ht; have := len_pos hl; omega
    have b := plain_is (h := h) hl a hc
    have e := plain_one hx b fun n _ => rfl
    have hle : m ≤ l.length := Nat.le_of_dvd (len_pos hl) a.dvd
    have hlen : (h ++ l.take m).length = h.length + m := by rw [List.length_append, List.length_take, Nat.min_eq_left hle]
    have hcut := cut_le (e := h ++ l.take m) (p := m) (r := r / (t : Int)) h.length
    have hw := win_len (e := h ++ l.take m) (left := cut (h ++ l.take m) m (r / (t : Int)) h.length) (p := m) (by rw [hlen]; omega)
    subst e
    have hm := a.pos
    refine ⟨?_, ?_, fun _ z => ?_, fun z => absurd z hl, fun h0 => ?_, fun _ => ?_, fun z => absurd z hl⟩
    · show ((h ++ l.take m).take _).length ≤ _
      rw [List.length_take]
      omega
    · show (win _ _ _).length ≤ _
      rw [hw]
      exact hle
    · have z' : win (h ++ l.take m) (cut (h ++ l.take m) m (r / (t : Int)) h.length) m = [] := z
      rw [z'] at hw
      simp at hw
      omega
    · show 0 ≤ r / (t : Int) ∧ r / (t : Int) ≤ r
      exact ⟨Int.ediv_nonneg h0 (by omega), Int.ediv_le_self _ h0⟩
    · show 0 < r ↔ 0 < r / (t : Int)
      have t1 : (0 : Int) < (t : Int) := by omega
      constructor
      · intro h0
        rcases Int.lt_or_le 0 (r / (t : Int)) with q | q
        · exact q
        · have := Int.mul_le_mul_of_nonneg_right q (Int.le_of_lt t1)
          omega
      · intro h0
        have := Int.mul_pos h0 t1
        omega
/-- the end of a table -/
def fin_ (l : List Int) (r : Int) : Option Int := if l = [] ∨ 0 < r then none else some (l.getD (l.length - 1) 0)
/-- the value at a count, or at never -/
def val_ (h l : List Int) (r : Int) : Option Nat → Option Int
  | none => fin_ l r
  | some n => if n = 0 then some 0 else at_ h l r n
end NT
namespace NF
open PySem PySem.Spec PyProof.Rows L2 He RZ NT
def vO : Option Int → V
  | none => .non
  | some i => .int i
def vN : Option Nat → V
  | none => .non
  | some n => .int (n : Int)
def tf (a b : Addr) (r : Int) : List (Str × V) := [("head", .ref a), ("loop", .ref b), ("rise", .int r)]
/-- a table with these three -/
def TabAt (K : PySem.W.Frag) (C : Addr) (H : Hp) (x : Addr) (y : List Int × List Int × Int) : Prop := ∃ dx a b, H x = some (.ins C dx (tf a b y.2.2)) ∧ SqT K H a (vI y.1) ∧ SqT K H b (vI y.2.1)
theorem TabAt.mono {K : PySem.W.Frag} {C : Addr} {H H' : Hp} {x : Addr} {y : List Int × List Int × Int} (h : TabAt K C H x y) (s : Same H H') : TabAt K C H' x y := by
  obtain ⟨dx, a, b, h1, h2, h3⟩ := h
  exact ⟨dx, a, b, s _ _ h1, NF.Same.tup s h2, NF.Same.tup s h3⟩
/-- what stands at p is no tuple -/
def NoTup : HO → Prop
  | .tup _ => False
  | .frz _ _ => False
  | _ => True
theorem SqT.put {K : PySem.W.Frag} {H : Hp} {a p : Addr} {o u : HO} {xs : List V} (h : SqT K H a xs) (hp : H p = some u) (n : match u with | .lst _ => True | .ins _ _ _ => True | _ => False) : SqT K (upd H p o) a xs := by
  rcases h with (h | ⟨w, h⟩) | h
  · refine .inl (.inl ?_)
    rw [upd_ne (fun z => by subst z; rw [h] at hp; cases hp; exact n)]
    exact h
  · refine .inl (.inr ⟨w, ?_⟩)
    rw [upd_ne (fun z => by subst z; rw [h] at hp; cases hp; exact n)]
    exact h
  · exact .inr h
theorem SqT.wo {K : PySem.W.Frag} {H : Hp} {a p : Addr} {u : HO} {xs : List V} (h : SqT K H a xs) (hp : H p = some u) (n : match u with | .lst _ => True | .ins _ _ _ => True | _ => False) : SqT K (wo H p) a xs := by
  rcases h with (h | ⟨w, h⟩) | h
  · refine .inl (.inl ?_)
    rw [wo_ne (fun z => by subst z; rw [h] at hp; cases hp; exact n)]
    exact h
  · refine .inl (.inr ⟨w, ?_⟩)
    rw [wo_ne (fun z => by subst z; rw [h] at hp; cases hp; exact n)]
    exact h
  · exact .inr h
theorem TabAt.wo {K : PySem.W.Frag} {C : Addr} {H : Hp} {x p : Addr} {y : List Int × List Int × Int} {l : List V} (h : TabAt K C H x y) (hp : H p = some (.lst l)) : TabAt K C (NF.wo H p) x y := by
  obtain ⟨dx, a, b, h1, h2, h3⟩ := h
  refine ⟨dx, a, b, ?_, SqT.wo h2 hp trivial, SqT.wo h3 hp trivial⟩
  rw [wo_ne (fun z => by subst z; rw [h1] at hp; cases hp)]
  exact h1
/-- a class that may be made by its name; sp: its __init__ -/
structure Mak (P : Program) (w : World) (K : PySem.W.Frag) (mg : Str → Option Value) (base : Heap) (k n : Nat) (x : Str) (C : Addr) (sp : Sp) (dvs : List V) : Prop where
  ex : ∃ (f : Addr) (fd : FuncData) (ps : List Str) (ds : List Value), Mk K C f ∧ FnOk P w K mg base CX0 k f fd ps sp ∧ mg x = some (.ref C) ∧ Binds K fd ps ds ∧ Vals dvs ds
theorem pe_mk {X : Cx} {k j n : Nat} {C : Addr} {x : Str} {sp : Sp} {dvs : List V} {p pos : Pos} {e : Expr} {es : List Expr} {t : TA} (c : Mak X.prog X.w X.K X.mg X.base k n x C sp dvs) (hr : Room j X.A) (hk : k + 1 ≤ j) (hg : Gl X x) (ha : PA X (e :: es) t)
    (hdb : (x == ("__debug__" : Str)) = false := by decide) (he : starEach (e :: es) X.env = (false, eval e X.env) :: starEach es X.env := by rfl) (hpl : (backTo pos (starEach es X.env)).any (·.1) = false := by rfl) :
    PE X (.Call (.Name x p) (e :: es) [] pos) (tMake C sp dvs E0 t) := by
  obtain ⟨f, fd, ps, ds, M, F, hm, b, d⟩ := c.ex
  exact pe_make M F (hr.mono hk) hg hm b d pass0 ha hdb he hpl
end NF
namespace NF
open PySem PySem.Spec PyProof.Rows L2 He RZ NT
/-- tuple(..) of a list or a tuple -/
def rTupOf (K : PySem.W.Frag) : List V → Hp → VK → Prop := fun xs H Q => ∃ a ys, xs = [.ref a] ∧ Row K H a ys ∧ ∀ p H', Same H H' → SqT K H' p ys → Q (.ref p) H'
theorem cr_tup {X : Cx} : CallR X (.type "tuple") (rTupOf X.K) := by
  intro pins s σ H xs us Q I r h
  obtain ⟨a, ys, rfl, hr, q⟩ := h
  refine call_tuple_of pins s σ H _ us Q I r ⟨a, ys, rfl, ?_⟩
  exact hr.elim (fun h => .inl ⟨h, fun l hl => q l _ (NF.Same.new (Same.refl H) hl) (SqT.of upd_same)⟩) fun h => .inr ⟨h, q a H (Same.refl H) h⟩
end NF
set_option Elab.async false
set_option linter.all false
set_option maxRecDepth 100000
set_option maxHeartbeats 4000000
/-! Instances of a plain class with an own __eq__: ==, !=, isinstance, calls, properties. -/
namespace NF
open PySem PySem.Spec PyProof.Rows L2 He RZ NT
theorem ns_some_of {K : PySem.W.Frag} {h : Heap} {N : Addr} {mg : Str → Option Value} {n : Str} {v : Value} (X : K.In h) (G : h.Ns N mg) (e : PySem.W.nsIn K N n = some (some v)) : mg n = some v := by
  rcases G with ⟨ob, rows, cnt, at_, isD, rest⟩
  have val := rest.2 n
  rcases hk : K.lookup N with _ | ⟨c0, d0, dt, sl⟩
  · simp only [PySem.W.nsIn, hk] at e
    cases e
  · have same := (X N _ hk).symm.trans at_
    injection same with same
    subst same
    dsimp only at isD
    subst isD
    simp only [PySem.W.nsIn, hk] at e
    rw [← val]
    unfold nsFind findBy
    rw [← Array.find?_toList]
    revert e
    cases rows.toList.find? _ with
    | some en => exact fun e => by simpa using e
    | none =>
      intro e
      by_cases hany : (rows.toList.any fun x => x.refKey) = true
      · simp [hany] at e
      · simp [hany] at e
/-- the class's own object: nothing above it but object, an own __eq__ at f, no own __ne__ -/
def plObjB (K : PySem.W.Frag) (C f : Addr) : Bool := match K.lookup C with
  | some ⟨.type t, _, .cls cd, sl⟩ => t == "type" && (match cd.mro with
    | .ref C' :: bm => C' == C && bm == [.type "object"]
    | _ => false) && (cd.hasDict && !cd.hasDel) && (PySem.W.nsOkIn K cd.ns && eqO (PySem.W.nsIn K cd.ns "__eq__") (some (some (.ref f))) && eqO (PySem.W.nsIn K cd.ns "__ne__") (some none)) && (match sl.toList with
    | [_, _, _, _, some (.builtin n), _] => n == "object.__new__"
    | _ => false)
  | _ => false
theorem plObjB_ok {K : PySem.W.Frag} {C f : Addr} (h : plObjB K C f = true) :
    ∃ nm q N bs sn sub ab col dd k0 k1 k2 k3 k5, K.lookup C = some (excClassObj nm q C N bs [.type "object"] true sn sub ab col dd k0 k1 k2 k3 k5 "object.__new__") ∧ PySem.W.nsOkIn K N = true ∧ PySem.W.nsIn K N "__eq__" = some (some (.ref f)) ∧ PySem.W.nsIn K N "__ne__" = some none := by
  unfold plObjB at h
  split at h
  · rename_i t dd cd sl hl
    obtain ⟨h, h4⟩ := ba h
    obtain ⟨h, h9⟩ := ba h
    obtain ⟨h, h3⟩ := ba h
    obtain ⟨h1, h2⟩ := ba h
    obtain ⟨h12, h11⟩ := ba h9
    obtain ⟨h13, h10⟩ := ba h12
    split at h2
    · rename_i C' bm hm
      obtain ⟨h5, h6⟩ := ba h2
      split at h4
      · rename_i k0 k1 k2 k3 n k5 hs
        obtain ⟨h7, h8⟩ := ba h3
        have e1 : t = "type" := eq_of_beq h1
        have e5 : C' = C := eq_of_beq h5
        have e6 : bm = [.type "object"] := eq_of_beq h6
        have e9 : n = "object.__new__" := eq_of_beq h4
        subst e1 e5 e6 e9
        obtain ⟨nm, bs, mro, N, q, hd, sn, sub, ab, col, hdel⟩ := cd
        dsimp only at hm h7 h8 h13 h10 h11
        subst hm h7
        have hdel' : hdel = false := by
          cases hdel with
          | false => rfl
          | true => cases h8
        subst hdel'
        have hsl : sl = #[k0, k1, k2, k3, some (.builtin "object.__new__"), k5] := by
          have := congrArg List.toArray hs
          simpa using this
        subst hsl
        exact ⟨nm, q, N, bs, sn, sub, ab, col, dd, k0, k1, k2, k3, k5, hl, h13, eqO_ok h10, eqO_ok h11⟩
      · cases h4
    · cases h2
  · cases h
/-- x == y, x an instance of C -/
def rEqO (K : PySem.W.Frag) (C : Addr) (sp : Sp) : R2 := fun x y H Q => ∃ a dx fs tb, x = .ref a ∧ H a = some (.ins C dx fs) ∧ TyX K H y tb ∧ PySem.W.notFirst K C tb = true ∧ sp [.ref a, y] H Q E0
/-- x != y, both instances of C -/
def rNeO (K : PySem.W.Frag) (C : Addr) (sp : Sp) : R2 := fun x y H Q => ∃ a dx fs b dy gs, x = .ref a ∧ H a = some (.ins C dx fs) ∧ y = .ref b ∧ H b = some (.ins C dy gs) ∧ sp [.ref a, .ref b] H (fun v H' => ∃ t, v = .bl t ∧ Q (.bl (!t)) H') E0
/-- a class with an own == at f -/
structure EqC (P : Program) (w : World) (K : PySem.W.Frag) (mg : Str → Option Value) (base : Heap) (k : Nat) (C : Addr) (sp : Sp) : Prop where
  ex : ∃ (f : Addr) (fd : FuncData) (ps : List Str), FnOk P w K mg base CX0 k f fd ps sp ∧ PySem.W.findIn K (.ref C) "__eq__" = some (some (.ref f)) ∧ PySem.W.isFn K (.ref f) = true ∧ plObjB K C f = true ∧ Binds K fd ps []
theorem op_eqO {X : Cx} {k j : Nat} {C : Addr} {sp : Sp} (c : EqC X.prog X.w X.K X.mg X.base k C sp) (hr : Room j X.A) (hk : k ≤ j) : OpR X (compareOp .Eq) (rEqO X.K C sp) := by
  obtain ⟨f, fd, ps, F, hs, hf, _, hb⟩ := c.ex
  intro pins s σ H x y v u Q I rx ry h
  obtain ⟨a, dx, fs, tb, rfl, ha, ty, hn, q⟩ := h
  cases rx
  obtain ⟨mA, O, _⟩ := ins_get I.hok ha
  obtain ⟨od, J, _⟩ := O.look
  obtain ⟨m, hF⟩ := I.fr
  obtain ⟨P, Z, p, _⟩ := kit_of I ry ty
  show wpAny (model X.prog X.w) X.A (richCompare .Eq (.ref a) u) (EP X pins σ Q) X.xe s
  refine PySem.W.cmp_K (op := .Eq) (tb := tb) hr.units0 hF I.ok.mod.kin J (Z.ty _ _ I.kIn p) hn hs hf ?_
  have r2 : Vals [V.ref a, y] [Value.ref a, u] := .cons rfl (.cons ry .nil)
  refine wpAny_mono (run_fn (us := [.ref a, u]) (vs := [.ref a, y]) F (hr.mono hk) hb .nil pass0 I r2 q) (fun r s' z => ?_) fun _ _ e => e
  obtain ⟨z, H', I', rz, q'⟩ := z
  have hni : r ≠ .notImplemented := fun e => by
    subst e
    cases z with
    | int i => obtain ⟨t, e⟩ := (show ∃ t, Value.notImplemented = Value.int i t from rz); cases e
    | str i => obtain ⟨t, e⟩ := (show ∃ t, Value.notImplemented = Value.str i t from rz); cases e
    | byt i => obtain ⟨t, e⟩ := (show ∃ t, Value.notImplemented = Value.bytes i t from rz); cases e
    | flt i => obtain ⟨t, e⟩ := (show ∃ t, Value.notImplemented = Value.float i t from rz); cases e
    | _ => cases rz
  unfold PySem.W.CmpBack
  split
  · exact hni rfl
  · exact ⟨z, H', I', rz, q'⟩
theorem op_neO {X : Cx} {k j : Nat} {C : Addr} {sp : Sp} (c : EqC X.prog X.w X.K X.mg X.base k C sp) (hr : Room j X.A) (hk : k + 1 ≤ j) : OpR X (compareOp .NotEq) (rNeO X.K C sp) := by
  obtain ⟨f, fd, ps, F, hs, hf, hp, hb⟩ := c.ex
  intro pins s σ H x y v u Q I rx ry h
  obtain ⟨a, dx, fs, b, dy, gs, rfl, ha, rfl, hb', q⟩ := h
  cases rx
  cases ry
  obtain ⟨mA, O, _⟩ := ins_get I.hok ha
  obtain ⟨od, J, _⟩ := O.look
  obtain ⟨mB, O', _⟩ := ins_get I.hok hb'
  obtain ⟨od', J', _⟩ := O'.look
  obtain ⟨nm, qn, N, bs, sn, sub, ab, col, dd, k0, k1, k2, k3, k5, hl, hok, he, hne⟩ := plObjB_ok hp
  have G : s.heap.Ns N (s.heap.nsMap N) := .of_isNs (PySem.W.isNs_of_in I.kIn hok)
  have hr1 := hr.mono hk
  have r2 : Vals [V.ref a, .ref b] [Value.ref a, .ref b] := .cons rfl (.cons rfl .nil)
  have hlen := F.len _ _ _ _ q
  have run : wpAny (model X.prog X.w) X.A.in1 (call (.ref f) [.ref a, .ref b]) (fun v s' => ∃ t, v = .bool t ∧ EP X pins σ Q (.bool (!t)) s') X.xe s := by
    refine wpAny_call (codeAny_mono (F.run X.A.in1 X.stack s H ⟨[.ref a, .ref b], []⟩ [.ref a, .ref b] [.ref a, .ref b] _ E0 hr1.in1 I.env0.in1 (by
      have := hb s [.ref a, .ref b] I.kIn (by simpa using hlen)
      simpa using this) r2 q) fun r s' hq => ?_)
    cases r with
    | error e => exact False.elim hq
    | ok fl =>
      cases fl with
      | ret w =>
        obtain ⟨z, H', I', rz, t, ez, q3⟩ := I.after hq
        subst ez
        cases rz
        exact ⟨t, rfl, .bl (!t), H', I', rfl, q3⟩
      | next => exact False.elim hq
      | brk => exact False.elim hq
      | cont => exact False.elim hq
  obtain ⟨j1, j2, _⟩ := J
  obtain ⟨j3, j4, _⟩ := J'
  obtain ⟨of, hfo, hfc⟩ : ∃ of, s.heap.get? f = some of ∧ of.cls = .type "function" := by
    have e : (K0 : PySem.W.Frag) → K0.In s.heap → PySem.W.isFn K0 (.ref f) = true → ∃ of, s.heap.get? f = some of ∧ of.cls = .type "function" := fun K0 hK h0 => by
      have e1 : (K0.lookup f).map (·.cls) = some (.type "function") := beq_iff_eq.mp h0
      obtain ⟨o, ho, hc⟩ := Option.map_eq_some_iff.mp e1
      exact ⟨o, hK _ _ ho, hc⟩
    exact e X.K I.kIn hf
  obtain ⟨hp', g, d, tk, os⟩ := s
  exact PySem.compareOp_ne_ownEq (B := "object") (bm := [.type "object"]) PySem.F.cmp_object ⟨_, of, nm, qn, N, bs, true, sn, sub, ab, col, dd, k0, k1, k2, k3, k5, "object.__new__", _, _, j1, j2, I.kIn _ _ hl, G, ns_some_of I.kIn G he, hfo, hfc, PySem.F.cmp_object.mro, PySem.F.cmp_object.eq.lookup, PySem.W.ns_none_of I.kIn G hne⟩ j3 j4 (by have := hr.un; omega) run
/-- an instance of C may be called -/
structure CalO (P : Program) (w : World) (K : PySem.W.Frag) (mg : Str → Option Value) (base : Heap) (k : Nat) (C : Addr) (sp : Sp) : Prop where
  ex : ∃ (g : Addr) (fd : FuncData) (ps : List Str), StX.CallO K C g ∧ FnOk P w K mg base CX0 k g fd ps sp ∧ Binds K fd ps []
theorem pe_co {X : Cx} {k j : Nat} {C : Addr} {sp : Sp} {fe e : Expr} {es : List Expr} {t : TA} {tf : TE} {pos : Pos} (hf : PE X fe tf) (c : CalO X.prog X.w X.K X.mg X.base k C sp) (hr : Room j X.A) (hk : k ≤ j) (ha : PA X (e :: es) t)
    (ht : eval (.Call fe (e :: es) [] pos) X.env = (do callWith pos (← eval fe X.env) [] (backTo pos (starEach (e :: es) X.env)) (backToKw pos (keywordEach [] X.env))) := by rfl)
    (he : starEach (e :: es) X.env = (false, eval e X.env) :: starEach es X.env := by rfl) (hpl : (backTo pos (starEach es X.env)).any (·.1) = false := by rfl) :
    PE X (.Call fe (e :: es) [] pos) (StX.tCallO X C (fun vs H Q E => sp (vs ++ []) H Q E) E0 tf t) := by
  obtain ⟨g, fd, ps, c, F, b⟩ := c.ex
  exact StX.pe_callO hf c (F.raw b .nil) (hr.mono hk) pass0 ha ht he hpl
/-- a property of C -/
structure PropC (P : Program) (w : World) (K : PySem.W.Frag) (mg : Str → Option Value) (base : Heap) (k : Nat) (C : Addr) (f : Str) (sp : Sp) : Prop where
  cl : Cls K C
  ex : ∃ (p g : Addr) (fd : FuncData) (ps : List Str), PropOf K C f p g ∧ FnOk P w K mg base CX0 k g fd ps sp ∧ Binds K fd ps []
theorem pe_pr {X : Cx} {k j : Nat} {C : Addr} {f : Str} {sp : Sp} {e : Expr} {ta : TE} {pos : Pos} (he : PE X e ta) (c : PropC X.prog X.w X.K X.mg X.base k C f sp) (hr : Room j X.A) (hk : k + 1 ≤ j) (hab : attributeBase e f X.env (eval e X.env) = eval e X.env := by rfl) :
    PE X (.Attribute e f pos) (tProp C sp [] E0 ta) := by
  obtain ⟨p, g, fd, ps, c2, F, b⟩ := c.ex
  exact pe_prop he c.cl c2 F (hr.mono hk) b .nil pass0 hab
end NF
set_option Elab.async false
set_option linter.all false
set_option maxRecDepth 100000
set_option maxHeartbeats 4000000
/-! The hook with getters: defs at addresses told by the written part. -/
namespace NF
open PySem PySem.Spec PyProof.Rows L2 He
def fnWa (K : PySem.W.Frag) (a : Addr) : FnW := match K.lookup a with
  | some ⟨_, _, .func fd, _⟩ => some (fd.name, fd.qualname, fd.params, fd.body, fd.scope, fd.globals, fd.closure, fd.builtins)
  | _ => none
def okA (K : PySem.W.Frag) (a : Addr) (d : DefD) : Bool := PySem.W.keepIn K (.ref a) && (match K.lookup a with
  | some ⟨_, _, .func fd, _⟩ => PySem.W.codeIn K fd.code d.qual && (dflB K fd.defaults (d.dvs K) && kwdB K fd.kwdefaults (d.kws K))
  | _ => false)
theorem funA {K : PySem.W.Frag} {a : Addr} {d : DefD} (e : fnWa K a = d.val) (c : okA K a d = true) : ∃ fd, FunD K d.name d.qual d.params d.body d.scope (d.dvs K) (d.kws K) a fd := by
  have hkp := (ba c).1
  have hrec := (ba c).2
  rcases hl : K.lookup a with _ | ⟨c0, d0, dt, sl⟩
  · simp only [hl] at hrec
    exact absurd hrec (by decide)
  · cases dt
    case func g =>
      simp only [fnWa, hl, DefD.val, Option.some.injEq, Prod.mk.injEq] at e
      rcases g with ⟨m1, m2, m3, m4, m5, m6, m7, m8, m9, m10, m11, m12, m13, m14, m15⟩
      simp only at e
      rcases e with ⟨z1, z2, z3, z4, z5, z6, z7, z8⟩
      simp only [hl] at hrec
      have hcode := (ba hrec).1
      have hdfl := dflB_ok (ba (ba hrec).2).1
      have hkwd := kwdB_ok (ba (ba hrec).2).2
      refine ⟨PySem.W.fnOf d.name d.qual d.params d.body d.scope m8 m9 m10 m11 m12 m13 m14, ⟨c0, d0, m8, m9, m10, m11, m12, m13, m14, sl, rfl, ?_, hcode, hdfl, hkwd⟩, hkp⟩
      subst z1 z2 z3 z4 z5 z6 z7 z8
      exact hl
    all_goals
      simp only [hl] at hrec
      exact absurd hrec (by decide)
abbrev Adr := (PySem.W.Frag → Addr) × DefD
def obsP (ex : PySem.W.Frag → Bool) (fn : List Adr) (K : PySem.W.Frag) : AlD := (ex K && fn.all fun d => okA K (d.1 K) d.2, fn.map fun d => fnWa K (d.1 K))
def valP (fn : List Adr) : AlD := (true, fn.map fun d => d.2.val)
def SaysP (ex : PySem.W.Frag → Bool) (fn : List Adr) (K : PySem.W.Frag) : Prop := obsP ex fn K = valP fn
def obsPG (n : Nat) (ex : PySem.W.Frag → Bool) (fn : List Adr) (g : Addr → Option Obj) : AlD := obsP ex fn (frG g (asD g n))
def hookP (n : Nat) (ex : PySem.W.Frag → Bool) (fn : List Adr) : PySem.W.Hook where
  α := AlD
  obs := fun s => obsPG n ex fn s.heap.get?
  val := fun _ => valP fn
  says := fun _ h => ∃ K : PySem.W.Frag, K.In h ∧ SaysP ex fn K
  of := fun _ _ e => ⟨_, frG_in, e⟩
  keeps := fun _ _ _ ⟨K, hK, c⟩ k => ⟨K, PySem.W.Frag.In.keeps hK k, c⟩
theorem obsPG_eq {n : Nat} {ex : PySem.W.Frag → Bool} {fn : List Adr} {g : Addr → Option Obj} {s : Shared} (h : ∀ a, g a = s.heap.get? a) : obsPG n ex fn g = (hookP n ex fn).obs s := by
  have e : g = s.heap.get? := funext h
  rw [e] <;> rfl
section
variable {ex : PySem.W.Frag → Bool} {fn : List Adr} {K : PySem.W.Frag}
theorem SaysP.truth (c : SaysP ex fn K) : ex K = true :=
  (ba (show (ex K && fn.all fun d => okA K (d.1 K) d.2) = true from congrArg (fun z : AlD => z.1) c)).1
theorem SaysP.def_ (c : SaysP ex fn K) (i : Nat) {d : Adr} (h : fn[i]? = some d := by rfl) : ∃ fd, FunD K d.2.name d.2.qual d.2.params d.2.body d.2.scope (d.2.dvs K) (d.2.kws K) (d.1 K) fd := by
  have c2 := (ba (show (ex K && fn.all fun d => okA K (d.1 K) d.2) = true from congrArg (fun z : AlD => z.1) c)).2
  have e : fn.map (fun d => fnWa K (d.1 K)) = fn.map fun d => d.2.val := congrArg (fun z : AlD => z.2) c
  have e2 : (fn.map fun d => fnWa K (d.1 K))[i]? = (fn.map fun d => d.2.val)[i]? := by rw [e]
  rw [List.getElem?_map, List.getElem?_map, h] at e2
  exact funA (Option.some.inj e2) (List.all_eq_true.mp c2 d (List.mem_of_getElem? h))
end
end NF
set_option Elab.async false
set_option linter.all false
set_option maxRecDepth 100000
set_option maxHeartbeats 4000000
/-! Makers and instances whose defs let an exception out. -/
namespace NF
open PySem PySem.Spec PyProof.Rows L2 He RZ NT
/-- a def's answer handed on, or its exception let through -/
theorem handS {X : Cx} {CX : CXT} {E : L2.St → XK} {σ : L2.St} {pins : List (Addr × Obj)} {H : Hp} {s : Shared} {Q : VK} (hx : PassesAt CX X σ (E σ)) (I : Inv X pins σ H s) {r : Result} {s' : Shared} (h : CR CX X.stack X.prog X.w H s Q (E σ) r s') :
    (∃ u, r = .ok (.ret u) ∧ EP X pins σ Q u s') ∨ ∃ e, r = .error e ∧ X.xe e s' := by
  cases r with
  | error e => exact .inr ⟨e, rfl, hx pins H s e s' I h⟩
  | ok fl => cases fl with
    | ret u => exact .inl ⟨u, rfl, I.after h⟩
    | next => exact h.elim
    | brk => exact h.elim
    | cont => exact h.elim
def tMakeS (C : Addr) (sp : Sp) (dvs : List V) (E : L2.St → XK) (t : TA) : TE := fun σ H Q => t σ H fun vs H1 => ∀ x dx, H1 x = none → H1 dx = none → dx ≠ x →
  sp (.ref x :: (vs ++ dvs)) (upd (upd H1 dx (.own x)) x (.ins C dx [])) (fun v H2 => v = .non ∧ Q (.ref x) H2) (E σ)
theorem make_runs {X : Cx} {CX : CXT} {k : Nat} {C f : Addr} {fd : FuncData} {ps : List Str} {sp : Sp} {dvs : List V} {ds : List Value} {E : L2.St → XK} {pins : List (Addr × Obj)} {σ : L2.St} {H : Hp} {s : Shared} {Q : VK} {us : List Value} {vs : List V}
    (M : Mk X.K C f) (F : FnOk X.prog X.w X.K X.mg X.base CX k f fd ps sp) (hr : Room (k + 1) X.A) (hb : Binds X.K fd ps ds) (hd : Vals dvs ds) (hx : PassesAt CX X σ (E σ)) (I : Inv X pins σ H s) (r : Vals vs us)
    (h : ∀ x dx, H x = none → H dx = none → dx ≠ x → sp (.ref x :: (vs ++ dvs)) (upd (upd H dx (.own x)) x (.ins C dx [])) (fun v H2 => v = .non ∧ Q (.ref x) H2) (E σ)) :
    wpAny (model X.prog X.w) X.A (call (.ref C) us) (EP X pins σ Q) X.xe s := by
  have want := h (s.heap.objs.size + 1) s.heap.objs.size (I.hok.fresh (Nat.le_succ _)) (I.hok.fresh (Nat.le_refl _)) (Nat.ne_of_lt (Nat.lt_succ_self _))
  have J := Inv.made (C := C) I
  have rr : Vals (V.ref (s.heap.objs.size + 1) :: (vs ++ dvs)) (Value.ref (s.heap.objs.size + 1) :: (us ++ ds)) := .cons rfl (r.append hd)
  have len : (Value.ref (s.heap.objs.size + 1) :: us ++ ds).length = ps.length := rr.length.symm.trans (F.len _ _ _ _ want)
  have body := F.run _ X.stack _ _ ⟨Value.ref (s.heap.objs.size + 1) :: us, []⟩ (Value.ref (s.heap.objs.size + 1) :: (us ++ ds)) _ _ (E σ) (hr.make C us []) (J.env0.make C us []) (hb _ (Value.ref (s.heap.objs.size + 1) :: us) J.kIn len) rr want
  refine wpAny_call (make_map (f := f) I.kIn M.makes M.init (beq_iff_eq.mp M.fn) (codeAny_mono body fun q s' hq => ?_))
  rcases handS hx J hq with ⟨u, rfl, v, H', J', rv, ev, q3⟩ | ⟨e, rfl, hz⟩
  · subst ev
    exact ⟨rv, V.ref (s.heap.objs.size + 1), H', J', rfl, q3⟩
  · exact hz
/-- a class whose __init__ may let an exception out -/
structure MakX (P : Program) (w : World) (K : PySem.W.Frag) (mg : Str → Option Value) (base : Heap) (k n : Nat) (x : Str) (C : Addr) (sp : Sp) (dvs : List V) : Prop where
  ex : ∃ (f : Addr) (fd : FuncData) (ps : List Str) (ds : List Value), Mk K C f ∧ FnOk P w K mg base (L2.CX P w) k f fd ps sp ∧ mg x = some (.ref C) ∧ Binds K fd ps ds ∧ Vals dvs ds
theorem pe_mkX {X : Cx} {k j n : Nat} {C : Addr} {x : Str} {sp : Sp} {dvs : List V} {W : WX} {p pos : Pos} {e : Expr} {es : List Expr} {t : TA} (tk : Takes X W) (c : MakX X.prog X.w X.K X.mg X.base k n x C sp dvs) (hr : Room j X.A) (hk : k + 1 ≤ j) (hg : Gl X x) (ha : PA X (e :: es) t)
    (hdb : (x == ("__debug__" : Str)) = false := by decide) (he : starEach (e :: es) X.env = (false, eval e X.env) :: starEach es X.env := by rfl) (hpl : (backTo pos (starEach es X.env)).any (·.1) = false := by rfl) :
    PE X (.Call (.Name x p) (e :: es) [] pos) (tMakeS C sp dvs (WE W) t) := by
  obtain ⟨f, fd, ps, ds, M, F, hm, b, d⟩ := c.ex
  refine ⟨fun pins s σ H Q I h => ?_⟩
  refine wpAny_Call_Name_kw (ld_glob I hg hm ?_ hdb)
  refine PySem.W.callWith_K (h₀ := X.base) I.ok.mod.kin M.kp (thn (ha.run pos pins s σ H _ I h) fun us s1 ⟨vs, H1, I1, r, q⟩ => ⟨I1.kIn, ?_⟩) he hpl
  exact make_runs (E := WE W) M F (hr.mono hk) b d (passAt tk σ) I1 r q
/-- a def that may let an exception out, by its name -/
structure CalX (P : Program) (w : World) (K : PySem.W.Frag) (mg : Str → Option Value) (base : Heap) (k : Nat) (x : Str) (sp : Sp) : Prop where
  ex : ∃ (f : Addr) (fd : FuncData) (ps : List Str), FnOk P w K mg base (L2.CX P w) k f fd ps sp ∧ mg x = some (.ref f) ∧ PySem.W.keepIn K (.ref f) = true ∧ Binds K fd ps []
theorem pe_cX {X : Cx} {k j : Nat} {x : Str} {sp : Sp} {W : WX} {e : Expr} {es : List Expr} {t : TA} {p pos : Pos} (tk : Takes X W) (c : CalX X.prog X.w X.K X.mg X.base k x sp) (hr : Room j X.A) (hk : k ≤ j) (hg : Gl X x) (ha : PA X (e :: es) t)
    (hdb : (x == ("__debug__" : Str)) = false := by decide) (he : starEach (e :: es) X.env = (false, eval e X.env) :: starEach es X.env := by rfl) (hpl : (backTo pos (starEach es X.env)).any (·.1) = false := by rfl) :
    PE X (.Call (.Name x p) (e :: es) [] pos) (tCallS sp (WE W) t) := by
  obtain ⟨f, fd, ps, F, hm, kp, b⟩ := c.ex
  exact pe_callS F (hr.mono hk) hg hm kp b (fun σ => passAt tk σ) ha hdb he hpl
/-- an instance that may be called, and may let an exception out -/
structure CalOX (P : Program) (w : World) (K : PySem.W.Frag) (mg : Str → Option Value) (base : Heap) (k : Nat) (C : Addr) (sp : Sp) : Prop where
  ex : ∃ (g : Addr) (fd : FuncData) (ps : List Str), StX.CallO K C g ∧ FnOk P w K mg base (L2.CX P w) k g fd ps sp ∧ Binds K fd ps []
def tCallOS (C : Addr) (sp : Sp) (E : L2.St → XK) (tf : TE) (t : TA) : TE := fun σ H Q => tf σ H fun y H1 => ∃ a, y = V.ref a ∧ t σ H1 fun vs H2 => (∃ dx fs, H2 a = some (.ins C dx fs)) ∧ sp (V.ref a :: vs) H2 Q (E σ)
theorem pe_coX {X : Cx} {k j : Nat} {C : Addr} {sp : Sp} {W : WX} {fe e : Expr} {es : List Expr} {t : TA} {tf : TE} {pos : Pos} (tk : Takes X W) (hf : PE X fe tf) (c : CalOX X.prog X.w X.K X.mg X.base k C sp) (hr : Room j X.A) (hk : k ≤ j) (ha : PA X (e :: es) t)
    (ht : eval (.Call fe (e :: es) [] pos) X.env = (do callWith pos (← eval fe X.env) [] (backTo pos (starEach (e :: es) X.env)) (backToKw pos (keywordEach [] X.env))) := by rfl)
    (he : starEach (e :: es) X.env = (false, eval e X.env) :: starEach es X.env := by rfl) (hpl : (backTo pos (starEach es X.env)).any (·.1) = false := by rfl) :
    PE X (.Call fe (e :: es) [] pos) (tCallOS C sp (WE W) tf t) := by
  obtain ⟨g, fd, ps, co, F, b⟩ := c.ex
  refine ⟨fun pins s σ H Q I h => ?_⟩
  refine Call_ (thn (hf.run pins s σ H _ I h) fun u s1 ⟨y, H1, I1, ry, a, ey, q⟩ => ?_) ht
  subst ey
  cases ry
  refine StX.callO_with (thn (ha.run pos pins s1 σ H1 _ I1 q) fun us s2 ⟨vs, H2, I2, r, hi0, q2⟩ => ?_) he hpl
  have hi : StX.InsC X H2 a C := .inr hi0
  obtain ⟨ox, od, J, hd⟩ := StX.insC_at I2 hi
  refine ⟨⟨C, ox, od, J, hd⟩, ?_⟩
  have rr : Vals (V.ref a :: vs) (Value.ref a :: us) := .cons rfl r
  have len : (Value.ref a :: us).length = ps.length := rr.length.symm.trans (F.len _ _ _ _ q2)
  have bb := b s2 (Value.ref a :: us) I2.kIn (by rw [List.append_nil]; exact len)
  rw [List.append_nil] at bb
  refine wpAny_call (PySem.W.kco_code I2.kIn J hd co.at_ co.fn co.fi (codeAny_mono (F.run X.A X.stack s2 H2 ⟨Value.ref a :: us, []⟩ (Value.ref a :: us) (V.ref a :: vs) Q (WE W σ) (hr.mono hk) I2.env0 bb rr q2) fun z s' hq => ?_))
  rcases handS (E := WE W) (passAt tk σ) I2 hq with ⟨u, rfl, hz⟩ | ⟨e, rfl, hz⟩
  · exact hz
  · exact hz
/-! ### own exceptions that keep their one argument -/
/-- what __init__ of a class whose errors bear f does -/
def spExc (C : Addr) (f : Str) : Sp := fun vs H Q _ => ∃ (a : Addr) (v : V), vs = [.ref a, v] ∧ H a = some (exo a C none) ∧ ∀ d, H d = none → d ≠ a → Q .non (upd (upd H d (exd d [(f, v)])) a (exo a C (some d)))
structure ExcI (P : Program) (w : World) (K : PySem.W.Frag) (mg : Str → Option Value) (base : Heap) (x f : Str) : Prop where
  T : OexC K (ga K x)
  ex : ∃ (fI : Addr) (fd : FuncData), PySem.W.findIn K (.ref (ga K x)) "__init__" = some (some (.ref fI)) ∧ PySem.W.typeIn K (.ref fI) = some (.type "function") ∧ FnOk P w K mg base CX0 1 fI fd ["self", f] (spExc (ga K x) f) ∧ Binds K fd ["self", f] []
  gm : mg x = some (.ref (ga K x))
abbrev bodyE (f : Str) (q1 q2 q3 q4 : Pos) : List Stmt := [.Assign [.Attribute (.Name "self" q1) f q2] (.Name f q3) q4]
theorem ok_exc {P : Program} {w : World} {K : PySem.W.Frag} {mg : Str → Option Value} {base : Heap} {x q f : Str} {pa : Arguments} {bd : List Stmt} {sc : Scope} {fI : Addr} {fd : FuncData} {q1 q2 q3 q4 : Pos} (F : FunD K "__init__" q pa bd sc [] [] fI fd) (hb : bd = bodyE f q1 q2 q3 q4) (S : FnScope ["self", f] ["self", f] sc)
    (T : OexC K (ga K x)) (hno : PySem.W.findIn K (.ref (ga K x)) f = some none) (hv0 : Vis sc "self") (hv1 : Vis sc f) (hd : (f == ("__debug__" : Str)) = false) (hcd : (f == ("__classdict__" : Str)) = false) :
    FnOk P w K mg base CX0 1 fI fd ["self", f] (spExc (ga K x) f) := by
  subst hb
  refine F.ok S (fun vs H Q E h => ?_) (fun cdv A outer s H vs Q E hr h => ?_)
  · obtain ⟨a, v, rfl, _⟩ := h
    rfl
  · obtain ⟨a, v, rfl, ha, k⟩ := h
    refine ⟨_, PSs.nox (pss_one (ps_ost (pe_var (i := 0) rfl hv0) (pe_var (i := 1) rfl hv1 hd hcd))), ?_⟩
    exact ⟨_, rfl, _, rfl, a, ga K x, rfl, T, hno, Or.inl ⟨ha, fun d hd hda => k d hd hda⟩⟩
/-- raise X(e) -/
theorem ps_rz {X : Cx} {W : WX} {x f : Str} {e : Expr} {te : TE} {p pos pos' : Pos} {j : Nat} (hc : X.calm = true) (tk : Takes X W) (M : ExcI X.prog X.w X.K X.mg X.base x f) (hr : Room j X.A) (hj : 2 ≤ j) (hg : Gl X x) (he : PE X e te) (hdb : (x == ("__debug__" : Str)) = false := by decide)
    (hs : starEach (e :: []) X.env = (false, eval e X.env) :: starEach [] X.env := by rfl) : PS X (.Raise (some (.Call (.Name x p) [e] [] pos)) none pos') (fun _ σ H => tMkO (ga X.K x) (spExc (ga X.K x) f) [] (tCons te tNil) σ H fun cls d H' => W cls d σ H') := by
  obtain ⟨fI, fd, h1, h2, h3, h4⟩ := M.ex
  exact ps_raise hc tk (pmk_oex M.T h1 h2 h3 (hr.mono hj) h4 .nil pass0 hg M.gm (pa_cons he pa_nil hs) hdb hs)
theorem raise_done {C : Addr} {f : Str} {v : V} {H1 : Hp} {Q : XK} (k : ∀ d H2, H1 d = none → Same H1 H2 → H2 d = some (.xd [(f, v)]) → Q (.ref C) (some d) H2) :
    ([v] : List V).length ≤ 1000 ∧ ∀ a, H1 a = none → spExc C f (.ref a :: ([v] ++ [])) (upd H1 a (exo a C none)) (fun u H2 => u = .non ∧ ∃ (d : Addr) (fs : List (Str × V)), H2 a = some (exo a C (some d)) ∧ H2 d = some (exd d fs) ∧ H1 d = none ∧ Q (.ref C) (some d) (upd (del H2 a) d (.xd fs))) (fun _ _ _ => False) := by
  refine ⟨by show 1 ≤ 1000; decide, fun a ha => ⟨a, v, rfl, upd_same, fun d hd hda => ?_⟩⟩
  have hd0 : H1 d = none := by
    rw [upd_ne hda] at hd
    exact hd
  refine ⟨rfl, d, [(f, v)], upd_same, by rw [upd_ne hda, upd_same], hd0, k d _ hd0 ?_ upd_same⟩
  intro b u e
  have hb : b ≠ d := ne_of_none e hd0
  have hba : b ≠ a := ne_of_none e ha
  rw [upd_ne hb, del_ne hba, upd_ne hba, upd_ne hb, upd_ne hba]
  exact e
end NF
set_option Elab.async false
set_option linter.all false
set_option maxRecDepth 100000
set_option maxHeartbeats 4000000
/-! tuple * int for any int that is not too great. -/
namespace NF
open PySem PySem.Spec PyProof.Rows L2 He RZ
theorem rep_none (l : Addr) (items : Array Value) (n : Nat) (dd : Option Addr) (sl : Array (Option Value)) (x : Int) (u : Tok) (c0 : (decide (x < -(2 ^ 63)) || decide (x ≥ 2 ^ 63)) = false) (c1 : (items.isEmpty || x == 1) = false) (c2 : (decide (x ≤ 0) || items.isEmpty) = true) :
    Meets (Builtin.«tuple.__mul__» ⟨[.ref l, .int x u], []⟩) (fun _ R s => s.heap.get? l = some { cls := .type "tuple", dict := dd, data := .seq items n, slots := sl } ∧
      R (.ok (.ret (Value.ref s.heap.objs.size))) { s with heap := s.heap.push { cls := Value.type "tuple", data := Data.seq #[] } }) :=
  .of_wp fun prog w A R s h => by
    obtain ⟨hp, g, d, tk, os⟩ := s
    obtain ⟨hl, h⟩ := h
    have f1 := AutoSeq1.idx_int
    wp_walk using wpAny_loadPart' hl
    repeat (first
      | (refine wpAny_ite_false (decide_eq_false (by rw [c0]; exact Bool.false_ne_true)) ?_; wp_walk using wpAny_loadPart' hl)
      | (refine wpAny_ite_false (decide_eq_false (by rw [c1]; exact Bool.false_ne_true)) ?_; wp_walk using wpAny_loadPart' hl)
      | (refine wpAny_ite_true (decide_eq_true (by rw [c2])) ?_; wp_walk using wpAny_loadPart' hl))
    exact ⟨_, rfl, h⟩
theorem rep_one (l : Addr) (items : Array Value) (n : Nat) (dd : Option Addr) (sl : Array (Option Value)) (x : Int) (u : Tok) (c0 : (decide (x < -(2 ^ 63)) || decide (x ≥ 2 ^ 63)) = false) (c1 : (items.isEmpty || x == 1) = true) :
    Meets (Builtin.«tuple.__mul__» ⟨[.ref l, .int x u], []⟩) (fun _ R s => s.heap.get? l = some { cls := .type "tuple", dict := dd, data := .seq items n, slots := sl } ∧ R (.ok (.ret (Value.ref l))) s) :=
  .of_wp fun prog w A R s h => by
    obtain ⟨hp, g, d, tk, os⟩ := s
    obtain ⟨hl, h⟩ := h
    have f1 := AutoSeq1.idx_int
    wp_walk using wpAny_loadPart' hl
    repeat (first
      | (refine wpAny_ite_false (decide_eq_false (by rw [c0]; exact Bool.false_ne_true)) ?_; wp_walk using wpAny_loadPart' hl)
      | (refine wpAny_ite_true (decide_eq_true (by rw [c1])) ?_; wp_walk using wpAny_loadPart' hl))
    exact ⟨_, rfl, h⟩
def rRepA (K : PySem.W.Frag) : R2 := fun x y H Q => ∃ l k xs, x = .ref l ∧ y = .int k ∧ SqT K H l xs ∧ xs ≠ [] ∧ xs.length ≤ 100 ∧ -10000 ≤ k ∧ k ≤ 10000 ∧ ∀ p H', Same H H' → SqT K H' p (List.replicate k.toNat xs).flatten → Q (.ref p) H'
/-- t * k -/
theorem op_repA {X : Cx} : OpR X (binaryOp .Mult) (rRepA X.K) := by
  intro pins s σ H x y v u Q I rx ry h
  obtain ⟨l, k, xs, rfl, rfl, hT, hne, hz, k1, k2, q⟩ := h
  cases rx
  obtain ⟨t, rfl⟩ := ry
  obtain ⟨its, r, ⟨⟨cls, dd, data, sl⟩, ho, hc, n, hd⟩, hs⟩ := I.tuple hT
  simp only at hc hd
  subst hc hd
  have hle : its.length = xs.length := r.length.symm
  have hpos : 0 < its.length := by
    rw [hle]
    exact List.length_pos_iff.mpr hne
  have hfull : its.toArray.isEmpty = false := by
    cases hi : its with
    | nil => rw [hi] at hpos; simp at hpos
    | cons _ _ => rfl
  have small : (decide (k < -(2 ^ 63)) || decide (k ≥ 2 ^ 63)) = false := by
    rw [decide_eq_false (show ¬ k < -(2 ^ 63) by omega), decide_eq_false (show ¬ k ≥ 2 ^ 63 by omega)]
    rfl
  have ty : s.TypeIs (.ref l) "tuple" := ⟨_, ho, rfl⟩
  have road : ∀ {W : Value → Shared → Prop}, wpAny (model X.prog X.w) X.A (call (.builtin "tuple.__mul__") [.ref l, .int k t]) W X.xe s → wpAny (model X.prog X.w) X.A (binaryOp .Mult (.ref l) (.int k t)) W X.xe s := fun {W} z =>
    wpAny_binaryOp_repeat_ref (T := "tuple") (U := "int") (by decide) ty (fun s' => typeIs_int s' k t) noFill_tuple_mul F.fills_int_mul F.slot_int_rmul repeat_tuple F.slot_int_index.lookup
      (call_meets F.slot_int_rmul (typeIs_int s k t) F.entry_int_rmul (F.args_int_rmul_2 _ _) (int_rmul_tuple k t l its.toArray n dd sl) ⟨ho, rfl, ty, z⟩)
  refine road ?_
  by_cases c1 : k = 1
  · subst c1
    refine call_meets F.slot_tuple_mul ty F.entry_tuple_mul (F.args_tuple_mul_2 _ _) (rep_one l its.toArray n dd sl 1 t small (by rw [hfull]; rfl)) ⟨ho, ?_⟩
    refine ⟨.ref l, H, I, rfl, q l H (Same.refl H) ?_⟩
    rw [show (List.replicate (1 : Int).toNat xs).flatten = xs by simp]
    exact hT
  · have not1 : (its.toArray.isEmpty || k == 1) = false := by
      rw [hfull, Bool.false_or]
      exact beq_eq_false_iff_ne.mpr c1
    by_cases c0 : k ≤ 0
    · refine call_meets F.slot_tuple_mul ty F.entry_tuple_mul (F.args_tuple_mul_2 _ _) (rep_none l its.toArray n dd sl k t small not1 (by rw [decide_eq_true c0]; rfl)) ⟨ho, ?_⟩
      have hn := I.hok.fresh (Nat.le_refl s.heap.objs.size)
      have e0 : (List.replicate k.toNat xs).flatten = [] := by
        rw [show k.toNat = 0 by omega]
        rfl
      refine ⟨.ref s.heap.objs.size, _, I.laid (t' := s.toks) (o := .tup []) (fun b ob q => Heap.get?_push_of_some _ q) (Nat.le_refl _) ?_, rfl, q _ _ (NF.Same.new (Same.refl H) hn) (by rw [e0]; exact SqT.of upd_same)⟩
      exact ⟨Nat.zero_le _, [], .nil, IsTup.new _ _⟩
    · have many : its.toArray.size = xs.length := by rw [List.size_toArray, hle]
      have prod : ((its.toArray.size : Nat) : Int) * k ≤ 100 * 10000 := by
        rw [many]
        exact Int.mul_le_mul (by omega) k2 (by omega) (by decide)
      have flat : (List.replicate k.toNat xs).flatten.length ≤ 1000000 := by
        rw [PyProof.Rows.lm_len_rep_flat]
        exact Nat.le_trans (Nat.mul_le_mul (show k.toNat ≤ 10000 by omega) hz) (by decide)
      have flat2 : (List.replicate k.toNat its).flatten.length ≤ 1000000 := by
        rw [PyProof.Rows.lm_len_rep_flat, hle]
        exact Nat.le_trans (Nat.mul_le_mul (show k.toNat ≤ 10000 by omega) hz) (by decide)
      refine call_meets F.slot_tuple_mul ty F.entry_tuple_mul (F.args_tuple_mul_2 _ _) (tuple_mulW l its.toArray n dd sl k t small not1 (by rw [hfull, Bool.or_false]; exact decide_eq_false c0) (by omega) ?_ ?_) ⟨ho, ?_⟩
      · unfold Builtin.Tuple.tupleTooMany
        rw [sizeLine_eq]
        exact decide_eq_false (by omega)
      · rw [size_rep, List.size_toArray, sizeLine_eq]
        omega
      · rw [size_rep]
        have hn := I.hok.fresh (Nat.le_refl s.heap.objs.size)
        refine ⟨.ref s.heap.objs.size, _, I.laid (t' := s.toks) (o := .tup (List.replicate k.toNat xs).flatten) (fun b ob q => Heap.get?_push_of_some _ q) (Nat.le_refl _) ?_, rfl, q _ _ (NF.Same.new (Same.refl H) hn) (SqT.of upd_same)⟩
        exact ⟨by rw [sizeLine_eq]; omega, _, r.rep k.toNat, IsTup.new _ _⟩
end NF
set_option Elab.async false
set_option linter.all false
set_option maxRecDepth 100000
set_option maxHeartbeats 4000000
/-! C.m(..), m a static method that may let an exception out. -/
namespace NF
open PySem PySem.Spec PyProof.Rows L2 He RZ
structure SMet (K : PySem.W.Frag) (C : Addr) (mc : Value) (m : Str) (p g : Addr) : Prop where
  ty : PySem.W.typeIn K (.ref C) = some mc
  rd : PySem.W.readsIn K C mc = true
  ga : PySem.W.specialIn K (.ref C) "__getattribute__" = some (some (.builtin "type.__getattribute__"))
  at_ : PySem.W.findCls K (.ref C) mc m = some (.get (.builtin "staticmethod.__get__") (.ref p) .none (.ref C))
  rc : ∃ rest, PySem.W.recIn K p "staticmethod" = some (.ref g :: rest)
  kp : PySem.W.keepIn K (.ref g) = true
structure StaX (P : Program) (w : World) (K : PySem.W.Frag) (mg : Str → Option Value) (base : Heap) (k : Nat) (C : Addr) (m : Str) (sp : Sp) : Prop where
  ex : ∃ (mc : Value) (p g : Addr) (fd : FuncData) (ps : List Str), SMet K C mc m p g ∧ FnOk P w K mg base (L2.CX P w) k g fd ps sp ∧ Binds K fd ps []
def tStaS (C : Addr) (sp : Sp) (E : L2.St → XK) (ta : TE) (t : TA) : TE := fun σ H Q => ta σ H fun x H1 => x = .ref C ∧ t σ H1 fun vs H2 => sp vs H2 Q (E σ)
theorem pe_smX {X : Cx} {k j : Nat} {C : Addr} {m : Str} {sp : Sp} {W : WX} {o e : Expr} {es : List Expr} {ta : TE} {t : TA} {pos apos : Pos} {pl : Sem Bool} (tk : Takes X W) (he : PE X o ta) (c : StaX X.prog X.w X.K X.mg X.base k C m sp) (hr : Room j X.A) (hk : k ≤ j) (ha : PA X (e :: es) t)
    (hst : starEach (e :: es) X.env = (false, eval e X.env) :: starEach es X.env := by rfl) (hpl : (backTo pos (starEach es X.env)).any (·.1) = false := by rfl)
    (ht : eval (.Call (.Attribute o m apos) (e :: es) [] pos) X.env = (do
      let ov ← eval o X.env
      standAt apos.atName
      let (f, first) ← holding [ov] (getMethod ov m pl)
      callWith pos f first (backTo pos (starEach (e :: es) X.env)) (backToKw pos (keywordEach [] X.env))) := by rfl) :
    PE X (.Call (.Attribute o m apos) (e :: es) [] pos) (tStaS C sp (WE W) ta t) := by
  obtain ⟨mc, p, g, fd, ps, S, F, hb⟩ := c.ex
  obtain ⟨rest, hp⟩ := S.rc
  refine ⟨fun pins s σ H Q I h => ?_⟩
  refine PySem.W.methodCall_KW (pl := pl) (thn (he.run pins s σ H _ I h) fun u s1 ⟨x, H1, I1, rx, ex, q⟩ => ?_) ht
  subst ex
  cases rx
  obtain ⟨fm, hF⟩ := I1.fr
  refine PySem.W.method_cls I1.kIn S.ga (PySem.W.cls_sm hF I1.ok.mod.kin S.ty S.rd S.at_ hp rfl ?_)
  have I2 := I1.tok (s1.toks + 1)
  show wpAny _ _ (callWith pos (.ref g) [] (backTo pos (starEach (e :: es) X.env)) []) _ _ _
  refine PySem.W.callWith_K (h₀ := X.base) I2.ok.mod.kin S.kp (thn (ha.run pos pins _ σ H1 _ I2 q) fun us s3 ⟨vs, H2, I3, r, q2⟩ => ⟨I3.kIn, ?_⟩) hst hpl
  exact run_fnS (E := WE W) F (hr.mono hk) hb (passAt tk σ) I3 r q2
end NF
set_option Elab.async false
set_option linter.all false
set_option maxRecDepth 100000
set_option maxHeartbeats 4000000
/-! Facts of a top, each as one Bool of the written part, with what it says. -/
namespace NF
open PySem PySem.Spec PyProof.Rows L2 He RZ
def dG (x : Str) (st : Stmt) : Adr := (fun K => ga K x, ⟨(x, none), x, x, defArgs st, defBody st, defScope st, [], []⟩)
def dGd (x : Str) (st : Stmt) (dfl : List He.Dv) : Adr := (fun K => ga K x, ⟨(x, none), x, x, defArgs st, defBody st, defScope st, dfl, []⟩)
def dM (c m q : Str) (st : Stmt) (dfl : List He.Dv) : Adr := (fun K => ma K (ga K c) m, ⟨(c, some m), m, q, defArgs st, defBody st, defScope st, dfl, []⟩)
def getW (t : String) (c f : Str) (K : PySem.W.Frag) : Addr := match PySem.W.recIn K (ma K (ga K c) f) t with
  | some (.ref g :: _) => g
  | _ => 0
def dP (c m q : Str) (st : Stmt) : Adr := (getW "property" c m, ⟨(c, some m), m, q, defArgs st, defBody st, defScope st, [], []⟩)
def dS (c m q : Str) (st : Stmt) : Adr := (getW "staticmethod" c m, ⟨(c, some m), m, q, defArgs st, defBody st, defScope st, [], []⟩)
def recB (t : String) (c f : Str) (K : PySem.W.Frag) : Bool := match PySem.W.recIn K (ma K (ga K c) f) t with
  | some (.ref _ :: _) => true
  | _ => false
theorem rec_ok {t : String} {c f : Str} {K : PySem.W.Frag} (h : recB t c f K = true) : ∃ rest, PySem.W.recIn K (ma K (ga K c) f) t = some (.ref (getW t c f K) :: rest) := by
  unfold recB at h
  unfold getW
  cases q : PySem.W.recIn K (ma K (ga K c) f) t with
  | none =>
    rw [q] at h
    cases h
  | some l =>
    rw [q] at h
    match l, h with
    | .ref g' :: rest, _ => exact ⟨rest, rfl⟩
/-! ### names -/
def namB (gs fs : List Str) (K : PySem.W.Frag) : Bool := (gs.all fun x => eqO (PySem.W.nsIn K mainGlobals x) (some (some (.ref (ga K x))))) && fs.all fun x => eqO (PySem.W.nsIn K mainGlobals x) (some none)
theorem nam_ok {gs fs : List Str} {K : PySem.W.Frag} {mg : Str → Option Value} {h : Heap} (c : namB gs fs K = true) (X : K.In h) (G : h.Ns mainGlobals mg) : Txt K mg gs fs := by
  obtain ⟨h1, h2⟩ := ba c
  exact ⟨fun x hx => PySem.W.mg_of X G (eqO_ok (List.all_eq_true.mp h1 x hx)), fun x hx => PySem.W.mg_none_of X G (eqO_ok (List.all_eq_true.mp h2 x hx))⟩
def bltB (x : Str) (b : String) (K : PySem.W.Frag) : Bool := eqO (PySem.W.nsIn K mainGlobals x) (some (some (.builtin b)))
theorem blt_ok {x : Str} {b : String} {K : PySem.W.Frag} {mg : Str → Option Value} {h : Heap} (c : bltB x b K = true) (X : K.In h) (G : h.Ns mainGlobals mg) : mg x = some (.builtin b) := PySem.W.mg_of X G (eqO_ok c)
def intB (x : Str) (n : Int) (K : PySem.W.Frag) : Bool := match PySem.W.nsIn K mainGlobals x with
  | some (some (.int m _)) => decide (m = n)
  | _ => false
theorem int_ok {x : Str} {n : Int} {K : PySem.W.Frag} {mg : Str → Option Value} {h : Heap} (c : intB x n K = true) (X : K.In h) (G : h.Ns mainGlobals mg) : ∃ tok, mg x = some (.int n tok) := by
  unfold intB at c
  split at c
  · rename_i m tok q
    have e : m = n := of_decide_eq_true c
    subst e
    exact ⟨tok, PySem.W.mg_of X G q⟩
  · cases c
def strB (x s : Str) (K : PySem.W.Frag) : Bool := match PySem.W.nsIn K mainGlobals x with
  | some (some (.str m _)) => decide (m = s)
  | _ => false
theorem str_ok {x s : Str} {K : PySem.W.Frag} {mg : Str → Option Value} {h : Heap} (c : strB x s K = true) (X : K.In h) (G : h.Ns mainGlobals mg) : ∃ tok, mg x = some (.str s tok) := by
  unfold strB at c
  split at c
  · rename_i m tok q
    have e : m = s := of_decide_eq_true c
    subst e
    exact ⟨tok, PySem.W.mg_of X G q⟩
  · cases c
/-! ### an own exception that keeps its one argument under f -/
structure ExcK (K : PySem.W.Frag) (x f : Str) : Prop where
  xc : ExcC K (ga K x)
  T : OexC K (ga K x)
  i : PySem.W.findIn K (.ref (ga K x)) "__init__" = some (some (.ref (ma K (ga K x) "__init__")))
  t : PySem.W.typeIn K (.ref (ma K (ga K x) "__init__")) = some (.type "function")
  no : PySem.W.findIn K (.ref (ga K x)) f = some none
  xf : XfC K (ga K x)
def excKB (x f : Str) (K : PySem.W.Frag) : Bool := (excB K (ga K x) && (oexB K (ga K x) && eqO (PySem.W.findIn K (.ref (ga K x)) "__init__") (some (some (.ref (ma K (ga K x) "__init__")))))) &&
  (decide (PySem.W.typeIn K (.ref (ma K (ga K x) "__init__")) = some (.type "function")) && (eqO (PySem.W.findIn K (.ref (ga K x)) f) (some none) && xfB K (ga K x)))
theorem excK_ok {x f : Str} {K : PySem.W.Frag} (h : excKB x f K = true) : ExcK K x f := by
  obtain ⟨h1, h2⟩ := ba h
  obtain ⟨a1, h1⟩ := ba h1
  obtain ⟨a2, a3⟩ := ba h1
  obtain ⟨a4, h2⟩ := ba h2
  obtain ⟨a5, a6⟩ := ba h2
  exact ⟨excB_ok a1, oexB_ok a2, eqO_ok a3, of_decide_eq_true a4, eqO_ok a5, xfB_ok a6⟩
theorem ExcK.excI {P : Program} {w : World} {K : PySem.W.Frag} {mg : Str → Option Value} {base : Heap} {x f q : Str} {gs fs : List Str} {pa : Arguments} {bd : List Stmt} {sc : Scope} {fd : FuncData} {q1 q2 q3 q4 : Pos} (e : ExcK K x f) (T : Txt K mg gs fs) (hx : x ∈ gs)
    (F : FunD K "__init__" q pa bd sc [] [] (ma K (ga K x) "__init__") fd) (hb : bd = bodyE f q1 q2 q3 q4) (S : FnScope ["self", f] ["self", f] sc)
    (hv0 : Vis sc "self") (hv1 : Vis sc f) (hd : (f == ("__debug__" : Str)) = false) (hcd : (f == ("__classdict__" : Str)) = false) (b : Binds K fd ["self", f] []) : ExcI P w K mg base x f :=
  ⟨e.T, ⟨_, fd, e.i, e.t, ok_exc (x := x) F hb S e.T e.no hv0 hv1 hd hcd, b⟩, T.gl x hx⟩
/-! ### which class is under which -/
def kitPB (ps : List (Str × Str × Bool)) (K : PySem.W.Frag) : Bool := ps.all fun p => decide (PySem.W.kitOne K (.ref (ga K p.1)) (.ref (ga K p.2.1)) = some p.2.2)
theorem kitP_ok {ps : List (Str × Str × Bool)} {K : PySem.W.Frag} (h : kitPB ps K = true) {x y : Str} {b : Bool} (m : (x, y, b) ∈ ps) : PySem.W.kitOne K (.ref (ga K x)) (.ref (ga K y)) = some b := of_decide_eq_true (List.all_eq_true.mp h _ m)
def exmPB (ps : List (Str × Str × Bool)) (K : PySem.W.Frag) : Bool := ps.all fun p => decide (PySem.W.exmOne K (.ref (ga K p.1)) (.ref (ga K p.2.1)) = some p.2.2)
theorem exmP_ok {ps : List (Str × Str × Bool)} {K : PySem.W.Frag} (h : exmPB ps K = true) {x y : Str} {b : Bool} (m : (x, y, b) ∈ ps) : PySem.W.exmOne K (.ref (ga K x)) (.ref (ga K y)) = some b := of_decide_eq_true (List.all_eq_true.mp h _ m)
/-! ### an own class -/
def clsB (c : Str) (K : PySem.W.Frag) : Bool := (PySem.W.plainGet K (ga K c) Str.empty && PySem.W.hasDictIn K (ga K c)) && (PySem.W.plainOver K (ga K c) && eqO (PySem.W.findIn K (.ref (ga K c)) "__setattr__") (some (some (.builtin "object.__setattr__"))))
theorem cls_ok {c : Str} {K : PySem.W.Frag} (h : clsB c K = true) : Cls K (ga K c) := by
  obtain ⟨h1, h2⟩ := ba h
  obtain ⟨a1, a2⟩ := ba h1
  obtain ⟨a3, a4⟩ := ba h2
  exact ⟨a1, a2, a3, eqO_ok a4⟩
def fldsB (c : Str) (fs : List Str) (K : PySem.W.Frag) : Bool := fs.all fun f => eqO (PySem.W.findIn K (.ref (ga K c)) f) (some none)
theorem flds_ok {c : Str} {fs : List Str} {K : PySem.W.Frag} (h : fldsB c fs K = true) {f : Str} (m : f ∈ fs) : PySem.W.findIn K (.ref (ga K c)) f = some none := eqO_ok (List.all_eq_true.mp h f m)
structure TyC (K : PySem.W.Frag) (C : Addr) : Prop where
  ac : PySem.W.findIn K (.ref C) "__class__" = some (some (.builtin "object.__class__"))
  ag : PySem.W.specialIn K (.builtin "object.__class__") "__get__" = some (some (.builtin "getset_descriptor.__get__"))
  at_ : PySem.W.takesIn K (.builtin "object.__class__") = some true
  am : PySem.W.mroIn K C (.type "object") = some true
  self : PySem.W.kitOne K (.ref C) (.ref C) = some true
  tup : PySem.W.kitOne K (.type "tuple") (.ref C) = some false
  int : PySem.W.kitOne K (.type "int") (.ref C) = some false
  non : PySem.W.kitOne K (.type "NoneType") (.ref C) = some false
def tyB (c : Str) (K : PySem.W.Frag) : Bool := ((eqO (PySem.W.findIn K (.ref (ga K c)) "__class__") (some (some (.builtin "object.__class__"))) && eqO (PySem.W.specialIn K (.builtin "object.__class__") "__get__") (some (some (.builtin "getset_descriptor.__get__")))) &&
  (decide (PySem.W.takesIn K (.builtin "object.__class__") = some true) && decide (PySem.W.mroIn K (ga K c) (.type "object") = some true))) &&
  ((decide (PySem.W.kitOne K (.ref (ga K c)) (.ref (ga K c)) = some true) && decide (PySem.W.kitOne K (.type "tuple") (.ref (ga K c)) = some false)) && (decide (PySem.W.kitOne K (.type "int") (.ref (ga K c)) = some false) && decide (PySem.W.kitOne K (.type "NoneType") (.ref (ga K c)) = some false)))
theorem ty_ok {c : Str} {K : PySem.W.Frag} (h : tyB c K = true) : TyC K (ga K c) := by
  obtain ⟨h1, h2⟩ := ba h
  obtain ⟨t1, t2⟩ := ba h1
  obtain ⟨t1, t3⟩ := ba t1
  obtain ⟨t2, t4⟩ := ba t2
  obtain ⟨k1, k2⟩ := ba h2
  obtain ⟨k1, k3⟩ := ba k1
  obtain ⟨k2, k4⟩ := ba k2
  exact ⟨eqO_ok t1, eqO_ok t3, of_decide_eq_true t2, of_decide_eq_true t4, of_decide_eq_true k1, of_decide_eq_true k3, of_decide_eq_true k2, of_decide_eq_true k4⟩
def nfB (c : Str) (ts : List String) (K : PySem.W.Frag) : Bool := ts.all fun t => PySem.W.notFirst K (ga K c) (.type t)
theorem nf_ok {c : Str} {ts : List String} {K : PySem.W.Frag} (h : nfB c ts K = true) {t : String} (m : t ∈ ts) : PySem.W.notFirst K (ga K c) (.type t) = true := List.all_eq_true.mp h t m
def mkB (c : Str) (K : PySem.W.Frag) : Bool := (PySem.W.makesIn K (ga K c) && eqO (PySem.W.findIn K (.ref (ga K c)) "__init__") (some (some (.ref (ma K (ga K c) "__init__"))))) && (PySem.W.isFn K (.ref (ma K (ga K c) "__init__")) && PySem.W.keepIn K (.ref (ga K c)))
theorem mk_ok {c : Str} {K : PySem.W.Frag} (h : mkB c K = true) : Mk K (ga K c) (ma K (ga K c) "__init__") := by
  obtain ⟨m1, m2⟩ := ba h
  obtain ⟨m1, m3⟩ := ba m1
  obtain ⟨m2, m4⟩ := ba m2
  exact ⟨m1, eqO_ok m3, m2, m4⟩
def callB (c : Str) (K : PySem.W.Frag) : Bool := eqO (PySem.W.findIn K (.ref (ga K c)) "__call__") (some (some (.ref (ma K (ga K c) "__call__")))) && (PySem.W.isFn K (.ref (ma K (ga K c) "__call__")) && PySem.W.fnIn K (ma K (ga K c) "__call__"))
theorem call_ok {c : Str} {K : PySem.W.Frag} (h : callB c K = true) : StX.CallO K (ga K c) (ma K (ga K c) "__call__") := by
  obtain ⟨g1, g2⟩ := ba h
  obtain ⟨g2, g3⟩ := ba g2
  exact ⟨eqO_ok g1, g2, g3⟩
structure EqM (K : PySem.W.Frag) (C : Addr) : Prop where
  e1 : PySem.W.findIn K (.ref C) "__eq__" = some (some (.ref (ma K C "__eq__")))
  e2 : PySem.W.isFn K (.ref (ma K C "__eq__")) = true
  e3 : plObjB K C (ma K C "__eq__") = true
def eqB (c : Str) (K : PySem.W.Frag) : Bool := (eqO (PySem.W.findIn K (.ref (ga K c)) "__eq__") (some (some (.ref (ma K (ga K c) "__eq__")))) && PySem.W.isFn K (.ref (ma K (ga K c) "__eq__"))) && plObjB K (ga K c) (ma K (ga K c) "__eq__")
theorem eq_ok {c : Str} {K : PySem.W.Frag} (h : eqB c K = true) : EqM K (ga K c) := by
  obtain ⟨e1, e2⟩ := ba h
  obtain ⟨e1, e3⟩ := ba e1
  exact ⟨eqO_ok e1, e3, e2⟩
def propB (c f : Str) (K : PySem.W.Frag) : Bool := (eqO (PySem.W.findIn K (.ref (ga K c)) f) (some (some (.ref (ma K (ga K c) f)))) && eqO (PySem.W.specialIn K (.ref (ma K (ga K c) f)) "__get__") (some (some (.builtin "property.__get__")))) &&
  (decide (PySem.W.takesIn K (.ref (ma K (ga K c) f)) = some true) && recB "property" c f K)
theorem prop_ok {c f : Str} {K : PySem.W.Frag} (h : propB c f K = true) : PropOf K (ga K c) f (ma K (ga K c) f) (getW "property" c f K) := by
  obtain ⟨h1, h2⟩ := ba h
  obtain ⟨h1, h3⟩ := ba h1
  obtain ⟨h2, h4⟩ := ba h2
  exact ⟨eqO_ok h1, eqO_ok h3, of_decide_eq_true h2, rec_ok h4⟩
def staB (c m : Str) (K : PySem.W.Frag) : Bool := (decide (PySem.W.typeIn K (.ref (ga K c)) = some (.type "type")) && (PySem.W.readsIn K (ga K c) (.type "type") && eqO (PySem.W.specialIn K (.ref (ga K c)) "__getattribute__") (some (some (.builtin "type.__getattribute__"))))) &&
  ((match PySem.W.findCls K (.ref (ga K c)) (.type "type") m with
    | some (.get g a o t) => decide (g = .builtin "staticmethod.__get__") && (decide (a = .ref (ma K (ga K c) m)) && (decide (o = .none) && decide (t = .ref (ga K c))))
    | _ => false) && (recB "staticmethod" c m K && PySem.W.keepIn K (.ref (getW "staticmethod" c m K))))
theorem sta_ok {c m : Str} {K : PySem.W.Frag} (h : staB c m K = true) : SMet K (ga K c) (.type "type") m (ma K (ga K c) m) (getW "staticmethod" c m K) := by
  obtain ⟨h1, h2⟩ := ba h
  obtain ⟨a1, h1⟩ := ba h1
  obtain ⟨a2, a3⟩ := ba h1
  obtain ⟨a4, h2⟩ := ba h2
  obtain ⟨a5, a6⟩ := ba h2
  refine ⟨of_decide_eq_true a1, a2, eqO_ok a3, ?_, rec_ok a5, a6⟩
  split at a4
  · rename_i g a o t q
    obtain ⟨b1, a4⟩ := ba a4
    obtain ⟨b2, a4⟩ := ba a4
    obtain ⟨b3, b4⟩ := ba a4
    rw [q, of_decide_eq_true b1, of_decide_eq_true b2, of_decide_eq_true b3, of_decide_eq_true b4]
  · cases a4
/-! ### a default that is an empty tuple -/
def e0B (e0 : PySem.W.Frag → Addr) (K : PySem.W.Frag) : Bool := match K.lookup (e0 K) with
  | some ⟨.type c, _, .seq its _, _⟩ => decide (c = "tuple") && decide (its.toList = [])
  | _ => false
theorem e0_ok {e0 : PySem.W.Frag → Addr} {K : PySem.W.Frag} (h : e0B e0 K = true) (H : Hp) : SqT K H (e0 K) [] := by
  unfold e0B at h
  split at h
  · rename_i c dd its n sl q
    obtain ⟨h1, h2⟩ := ba h
    have e : its.toList = [] := of_decide_eq_true h2
    refine .inr ⟨_, its, n, q, congrArg Value.type (of_decide_eq_true h1), rfl, ?_, ?_⟩
    · rw [← Array.length_toList, e]
      exact Nat.zero_le _
    · rw [e]
      exact .nil
  · cases h
/-! ### what the module's names reach, each address once (seen ones are bits of a number) -/
def newB : List Addr → Nat → List Addr → List Addr × Nat
  | [], seen, acc => (acc, seen)
  | a :: r, seen, acc => match Nat.beq (Nat.land (Nat.shiftRight seen a) 1) 0 with
    | true => newB r (Nat.lor seen (Nat.shiftLeft 1 a)) (a :: acc)
    | false => newB r seen acc
def asB (g : Addr → Option Obj) : Nat → List Addr → Nat → List Addr → List Addr
  | 0, fr, _, all => fr ++ all
  | n + 1, fr, seen, all => match newB (fr.flatMap fun a => match g a with
      | some o => refsD o
      | none => []) seen [] with
    | (fr', seen') => asB g n fr' seen' (fr ++ all)
/-! ### the hook, with the classes' statics beside -/
def obsQG (n : Nat) (ex : PySem.W.Frag → Bool) (fn : List Adr) (g : Addr → Option Obj) : AlD := obsP ex fn (frG g (asB g n [mainGlobals] (Nat.shiftLeft 1 mainGlobals) [] ++ [cStatics]))
def hookQ (n : Nat) (ex : PySem.W.Frag → Bool) (fn : List Adr) : PySem.W.Hook where
  α := AlD
  obs := fun s => obsQG n ex fn s.heap.get?
  val := fun _ => valP fn
  says := fun _ h => ∃ K : PySem.W.Frag, K.In h ∧ SaysP ex fn K
  of := fun _ _ e => ⟨_, frG_in, e⟩
  keeps := fun _ _ _ ⟨K, hK, c⟩ k => ⟨K, PySem.W.Frag.In.keeps hK k, c⟩
theorem obsQG_eq {n : Nat} {ex : PySem.W.Frag → Bool} {fn : List Adr} {g : Addr → Option Obj} {s : Shared} (h : ∀ a, g a = s.heap.get? a) : obsQG n ex fn g = (hookQ n ex fn).obs s := by
  have e : g = s.heap.get? := funext h
  rw [e] <;> rfl
end NF
set_option Elab.async false
set_option linter.all false
set_option maxRecDepth 100000
set_option maxHeartbeats 4000000
/-! Own binary operators of a class: x * y, x & y, x | y, both instances of it. -/
namespace NF
open PySem PySem.Spec PyProof.Rows L2 He RZ NT
def rBinO (C : Addr) (sp : Sp) : R2 := fun x y H Q => ∃ a dx fs b dy gs, x = .ref a ∧ H a = some (.ins C dx fs) ∧ y = .ref b ∧ H b = some (.ins C dy gs) ∧ sp [.ref a, .ref b] H Q E0
structure OpM (K : PySem.W.Frag) (C f : Addr) (nm : Str) : Prop where
  o1 : PySem.W.findIn K (.ref C) nm = some (some (.ref f))
  o2 : PySem.W.isFn K (.ref f) = true
  o3 : PySem.W.selfFirst K C = true
/-- a class with an own operator, and how its instances' type is read -/
structure OpC (P : Program) (w : World) (K : PySem.W.Frag) (mg : Str → Option Value) (base : Heap) (k : Nat) (C : Addr) (nm : Str) (sp : Sp) : Prop where
  cl : Cls K C
  ac : PySem.W.findIn K (.ref C) "__class__" = some (some (.builtin "object.__class__"))
  ag : PySem.W.specialIn K (.builtin "object.__class__") "__get__" = some (some (.builtin "getset_descriptor.__get__"))
  at_ : PySem.W.takesIn K (.builtin "object.__class__") = some true
  am : PySem.W.mroIn K C (.type "object") = some true
  ex : ∃ (f : Addr) (fd : FuncData) (ps : List Str), FnOk P w K mg base CX0 k f fd ps sp ∧ OpM K C f nm ∧ Binds K fd ps []
theorem op_bin {X : Cx} {k j : Nat} {C : Addr} {sp : Sp} {op : Operator} {nm : Str} (c : OpC X.prog X.w X.K X.mg X.base k C nm sp) (hr : Room j X.A) (hk : k ≤ j) (hnm : PySem.dunder op.info.2 = nm := by rfl) : OpR X (binaryOp op) (rBinO C sp) := by
  obtain ⟨f, fd, ps, F, ⟨hs, hf, hc⟩, hb⟩ := c.ex
  intro pins s σ H x y v u Q I rx ry h
  obtain ⟨a, dx, fs, b, dy, gs, rfl, ha, rfl, hb2, q⟩ := h
  cases rx
  obtain ⟨mA, O, _⟩ := ins_get I.hok ha
  obtain ⟨od, J, _⟩ := O.look
  obtain ⟨m, hF⟩ := I.fr
  obtain ⟨P, Z, p, _⟩ := kit_of I ry (.base (.ins hb2 c.cl c.ac c.ag c.at_ c.am))
  cases ry
  show wpAny (model X.prog X.w) X.A (binaryOp op (.ref a) (.ref b)) (EP X pins σ Q) X.xe s
  refine PySem.W.binop_K hF I.ok.mod.kin J (Z.ty _ _ I.kIn p) hc (by rw [hnm]; exact hs) hf ?_
  have r2 : Vals [V.ref a, V.ref b] [Value.ref a, Value.ref b] := .cons rfl (.cons rfl .nil)
  refine wpAny_mono (run_fn (us := [.ref a, .ref b]) (vs := [.ref a, .ref b]) F (hr.mono hk) hb .nil pass0 I r2 q) (fun r s' z => ?_) fun _ _ e => e
  obtain ⟨z, H', I', rz, q'⟩ := z
  have hni : r ≠ .notImplemented := fun e => by
    subst e
    cases z with
    | int i => obtain ⟨t, e⟩ := (show ∃ t, Value.notImplemented = Value.int i t from rz); cases e
    | str i => obtain ⟨t, e⟩ := (show ∃ t, Value.notImplemented = Value.str i t from rz); cases e
    | byt i => obtain ⟨t, e⟩ := (show ∃ t, Value.notImplemented = Value.bytes i t from rz); cases e
    | flt i => obtain ⟨t, e⟩ := (show ∃ t, Value.notImplemented = Value.float i t from rz); cases e
    | _ => cases rz
  unfold PySem.W.CmpBack
  split
  · exact hni rfl
  · exact ⟨z, H', I', rz, q'⟩
end NF
set_option Elab.async false
set_option linter.all false
set_option maxRecDepth 100000
set_option maxHeartbeats 4000000
namespace NF
open PySem PySem.Spec PyProof.Rows L2 He RZ NT
def binB (c m : Str) (K : PySem.W.Frag) : Bool := eqO (PySem.W.findIn K (.ref (ga K c)) m) (some (some (.ref (ma K (ga K c) m)))) && (PySem.W.isFn K (.ref (ma K (ga K c) m)) && PySem.W.selfFirst K (ga K c))
theorem bin_ok {c m : Str} {K : PySem.W.Frag} (h : binB c m K = true) : OpM K (ga K c) (ma K (ga K c) m) m := by
  obtain ⟨h1, h2⟩ := ba h
  obtain ⟨h2, h3⟩ := ba h2
  exact ⟨eqO_ok h1, h2, h3⟩
end NF
set_option Elab.async false
set_option linter.all false
set_option maxRecDepth 100000
set_option maxHeartbeats 4000000
/-! o.m(..): a method of a class of one's own. -/
namespace NF
open PySem PySem.Spec PyProof.Rows L2 He RZ NT
structure MetC (P : Program) (w : World) (K : PySem.W.Frag) (mg : Str → Option Value) (base : Heap) (k : Nat) (C : Addr) (m : Str) (sp : Sp) : Prop where
  cl : Cls K C
  ex : ∃ (f : Addr) (fd : FuncData) (ps : List Str), Meth K C m f ∧ FnOk P w K mg base CX0 k f fd ps sp ∧ Binds K fd ps []
theorem pe_mt {X : Cx} {k j : Nat} {C : Addr} {m : Str} {sp : Sp} {o e : Expr} {es : List Expr} {ta : TE} {t : TA} {pl : Sem Bool} {pos apos : Pos} (he : PE X o ta) (c : MetC X.prog X.w X.K X.mg X.base k C m sp) (hr : Room j X.A) (hk : k ≤ j) (ha : PA X (e :: es) t)
    (hst : starEach (e :: es) X.env = (false, eval e X.env) :: starEach es X.env := by rfl) (hpl : (backTo pos (starEach es X.env)).any (·.1) = false := by rfl)
    (ht : eval (.Call (.Attribute o m apos) (e :: es) [] pos) X.env = (do
      let ov ← eval o X.env
      standAt apos.atName
      let (f, first) ← holding [ov] (getMethod ov m pl)
      callWith pos f first (backTo pos (starEach (e :: es) X.env)) (backToKw pos (keywordEach [] X.env))) := by rfl) :
    PE X (.Call (.Attribute o m apos) (e :: es) [] pos) (tMeth C m sp [] E0 ta t) := by
  obtain ⟨f, fd, ps, hm, F, b⟩ := c.ex
  exact pe_meth he c.cl hm F (hr.mono hk) b .nil pass0 ha hst hpl ht
/-- o.m() -/
theorem pe_mt0 {X : Cx} {k j : Nat} {C : Addr} {m : Str} {sp : Sp} {o : Expr} {ta : TE} {pl : Sem Bool} {pos apos : Pos} (he : PE X o ta) (c : MetC X.prog X.w X.K X.mg X.base k C m sp) (hr : Room j X.A) (hk : k ≤ j)
    (ht : eval (.Call (.Attribute o m apos) [] [] pos) X.env = (do
      let ov ← eval o X.env
      standAt apos.atName
      let (f, first) ← holding [ov] (getMethod ov m pl)
      callWith pos f first (backTo pos (starEach [] X.env)) (backToKw pos (keywordEach [] X.env))) := by rfl) :
    PE X (.Call (.Attribute o m apos) [] [] pos) (tMeth C m sp [] E0 ta tNil) := by
  obtain ⟨f, fd, ps, hm, F, b⟩ := c.ex
  exact pe_meth0 he c.cl hm F (hr.mono hk) b .nil pass0 ht
end NF
set_option linter.all false
namespace NF
open PySem PySem.Spec PyProof.Rows L2 He RZ
/-- o.m(..): a plain method, as the head's run finds it -/
def metB (c m : Str) (K : PySem.W.Frag) : Bool := eqO (PySem.W.findIn K (.ref (ga K c)) m) (some (some (.ref (ma K (ga K c) m)))) && (PySem.W.isFn K (.ref (ma K (ga K c) m)) && PySem.W.keepIn K (.ref (ma K (ga K c) m)))
theorem met_ok {c m : Str} {K : PySem.W.Frag} (h : metB c m K = true) : Meth K (ga K c) m (ma K (ga K c) m) := by
  obtain ⟨h1, h2⟩ := ba h
  obtain ⟨h2, h3⟩ := ba h2
  exact ⟨eqO_ok h1, h2, h3⟩
end NF
set_option Elab.async false
set_option linter.all false
set_option maxRecDepth 100000
set_option maxHeartbeats 4000000
/-! o.m(..): a method that may let an exception out. -/
namespace NF
open PySem PySem.Spec PyProof.Rows L2 He RZ
structure MetX (P : Program) (w : World) (K : PySem.W.Frag) (mg : Str → Option Value) (base : Heap) (k : Nat) (C : Addr) (m : Str) (sp : Sp) : Prop where
  cl : Cls K C
  ex : ∃ (f : Addr) (fd : FuncData) (ps : List Str), Meth K C m f ∧ FnOk P w K mg base (L2.CX P w) k f fd ps sp ∧ Binds K fd ps []
def tMethX (C : Addr) (m : Str) (sp : Sp) (E : L2.St → XK) (ta : TE) (t : TA) : TE := fun σ H Q => ta σ H fun x H1 => ∃ a dx fs, x = .ref a ∧ H1 a = some (.ins C dx fs) ∧ fs.lookup m = none ∧ t σ H1 fun vs H2 => sp (.ref a :: vs) H2 Q (E σ)
theorem pe_mtX {X : Cx} {k j : Nat} {C : Addr} {m : Str} {sp : Sp} {W : WX} {o e : Expr} {es : List Expr} {ta : TE} {t : TA} {pl : Sem Bool} {pos apos : Pos} (tk : Takes X W) (he : PE X o ta) (c : MetX X.prog X.w X.K X.mg X.base k C m sp) (hr : Room j X.A) (hk : k ≤ j) (ha : PA X (e :: es) t)
    (hst : starEach (e :: es) X.env = (false, eval e X.env) :: starEach es X.env := by rfl) (hpl : (backTo pos (starEach es X.env)).any (·.1) = false := by rfl)
    (ht : eval (.Call (.Attribute o m apos) (e :: es) [] pos) X.env = (do
      let ov ← eval o X.env
      standAt apos.atName
      let (f, first) ← holding [ov] (getMethod ov m pl)
      callWith pos f first (backTo pos (starEach (e :: es) X.env)) (backToKw pos (keywordEach [] X.env))) := by rfl) :
    PE X (.Call (.Attribute o m apos) (e :: es) [] pos) (tMethX C m sp (WE W) ta t) := by
  obtain ⟨f, fd, ps, hm, F, b⟩ := c.ex
  refine ⟨fun pins s σ H Q I h => ?_⟩
  refine PySem.W.methodCall_KW (pl := pl) (thn (he.run pins s σ H _ I h) fun u s1 ⟨x, H1, I1, rx, a, dx, fs, ex, ea, l, q⟩ => ?_) ht
  subst ex
  obtain rfl : u = Value.ref a := rx
  refine getmeth_ok I1 ea c.cl hm l ?_
  refine PySem.W.callWith_K (first := [.ref a]) (h₀ := X.base) I.ok.mod.kin hm.kp (thn (ha.run pos pins s1 σ H1 _ I1 q) fun us s2 ⟨vs, H2, I2, r, q2⟩ => ⟨I2.kIn, ?_⟩) hst hpl
  exact run_fnS (E := WE W) (us := .ref a :: us) (vs := .ref a :: vs) F (hr.mono hk) b (passAt tk σ) I2 (.cons rfl r) q2
end NF
set_option Elab.async false
set_option linter.all false
set_option maxRecDepth 100000
set_option maxHeartbeats 0
namespace K09
open PySem PySem.Spec PyProof.Rows L2 He NF RZ
def top (i : Nat) : Stmt := PySem.Challenge.pw_needforth_k09_whole_gap.main.body.getD i (.Pass ⟨0, 0, 0, 0⟩)
abbrev s__wall : Stmt := top 1
abbrev s_end_of : Stmt := top 3
abbrev s_value_at : Stmt := top 4
abbrev s_values_from : Stmt := top 5
abbrev s_many_at_most : Stmt := top 6
abbrev s_last_at_most : Stmt := top 7
abbrev s_shortest_lap : Stmt := top 8
abbrev s_plain_form : Stmt := top 9
abbrev s_settled_form : Stmt := top 10
abbrev s_spread : Stmt := top 11
abbrev s_ladder_of : Stmt := top 13
abbrev s_least_in : Stmt := top 14
abbrev s_first_under : Stmt := top 15
abbrev s_last_under : Stmt := top 16
abbrev s_Chase_init : Stmt := inClass (top 17) 0
abbrev s_Chase_ladder_from : Stmt := inClass (top 17) 1
abbrev s_Chase_runners_of : Stmt := inClass (top 17) 2
abbrev s_Chase_greatest_lead : Stmt := inClass (top 17) 3
abbrev s_Chase_first_lead : Stmt := inClass (top 17) 4
abbrev s_Chase_last_lead : Stmt := inClass (top 17) 5
abbrev s_Chase_place_of : Stmt := inClass (top 17) 6
abbrev s_drift_of : Stmt := top 18
abbrev s_longest_head : Stmt := top 19
abbrev s_first_excess_in : Stmt := top 20
abbrev s_first_excess : Stmt := top 21
abbrev s_greatest_excess : Stmt := top 22
abbrev s_greatest_excess_in : Stmt := top 23
abbrev s_BadCount_init : Stmt := inClass (top 26) 0
abbrev s_BadTable_init : Stmt := inClass (top 27) 0
abbrev s_is_integer : Stmt := top 29
abbrev s_is_count : Stmt := top 30
abbrev s_is_row : Stmt := top 31
abbrev s_is_climb : Stmt := top 32
abbrev s_Gap_init : Stmt := inClass (top 34) 0
abbrev s_Gap_beyond : Stmt := inClass (top 34) 1
abbrev s_gap : Stmt := top 35
abbrev s_values_behind : Stmt := top 37
abbrev s_behind_form : Stmt := top 38
abbrev s_chosen : Stmt := top 39
abbrev s_settling : Stmt := top 40
abbrev s_joined_form : Stmt := top 41
abbrev s_both_form : Stmt := top 42
abbrev s_either_form : Stmt := top 43
abbrev s_turn_form : Stmt := top 44
abbrev s_check_table : Stmt := top 46
abbrev s_Table_init : Stmt := inClass (top 47) 0
abbrev s_Table_eq : Stmt := inClass (top 47) 1
abbrev s_Table_call : Stmt := inClass (top 47) 2
abbrev s_Table_end : Stmt := inClass (top 47) 3
abbrev s_Table_rate : Stmt := inClass (top 47) 4
abbrev s_Table_steady : Stmt := inClass (top 47) 5
abbrev s_Table_shift : Stmt := inClass (top 47) 6
abbrev s_Table_mul : Stmt := inClass (top 47) 7
abbrev s_Table_and : Stmt := inClass (top 47) 8
abbrev s_Table_or : Stmt := inClass (top 47) 9
abbrev s_Table_invert : Stmt := inClass (top 47) 10
abbrev s__law_source : Stmt := top 49
abbrev s__law_pick : Stmt := top 50
abbrev s__law_is_integer : Stmt := top 51
abbrev s__law_is_count : Stmt := top 52
abbrev s__law_rising : Stmt := top 53
abbrev s__law_raw : Stmt := top 54
abbrev s__law_end : Stmt := top 55
abbrev s__law_at : Stmt := top 56
abbrev s__law_gcd : Stmt := top 57
abbrev s__law_table : Stmt := top 58
abbrev s__law_near : Stmt := top 59
abbrev s__law_difference : Stmt := top 60
abbrev s__law_span : Stmt := top 61
abbrev s__law_beyond : Stmt := top 62
abbrev s_law : Stmt := top 63
def FS : List Str := ["len", "int", "abs", "range", "isinstance", "all", "bool", "tuple", "list", "zip", "divmod", "max", "min", "enumerate", "str", "sum", "sorted", "dict", "set"]
end K09
set_option Elab.async false
set_option linter.all false
set_option maxRecDepth 100000
set_option maxHeartbeats 0
namespace K09
open PySem PySem.Spec PyProof.Rows L2 He NF RZ
def e0 (K : PySem.W.Frag) : Addr := He.dflAt ("Table", some "__init__") 0 K
def exms : List (Str × Str × Bool) := [("BadCount", "BadCount", true)]
def fn : List Adr := ([dG "shortest_lap" s_shortest_lap, dG "plain_form" s_plain_form, dG "is_integer" s_is_integer, dG "is_count" s_is_count, dG "is_row" s_is_row, dG "is_climb" s_is_climb, dG "check_table" s_check_table, dM "Table" "__init__" "Table.__init__" s_Table_init [.adr e0, .int 0], dG "end_of" s_end_of, dG "value_at" s_value_at, dG "_law_pick" s__law_pick, dG "_law_source" s__law_source, dG "_law_is_integer" s__law_is_integer, dG "_law_is_count" s__law_is_count, dG "_law_end" s__law_end, dG "_law_at" s__law_at, dG "_law_gcd" s__law_gcd, dG "_law_rising" s__law_rising, dG "_law_raw" s__law_raw, dG "_law_table" s__law_table] : List Adr) ++ ([dG "least_in" s_least_in, dG "first_under" s_first_under, dG "ladder_of" s_ladder_of, dM "Chase" "place_of" "Chase.place_of" s_Chase_place_of [], dM "Chase" "ladder_from" "Chase.ladder_from" s_Chase_ladder_from [], dM "Chase" "runners_of" "Chase.runners_of" s_Chase_runners_of [], dG "values_from" s_values_from, dM "Chase" "__init__" "Chase.__init__" s_Chase_init [], dM "Chase" "first_lead" "Chase.first_lead" s_Chase_first_lead [], dM "Chase" "greatest_lead" "Chase.greatest_lead" s_Chase_greatest_lead [], dG "first_excess_in" s_first_excess_in, dG "longest_head" s_longest_head, dG "first_excess" s_first_excess, dG "drift_of" s_drift_of, dG "greatest_excess_in" s_greatest_excess_in, dG "greatest_excess" s_greatest_excess, dM "Gap" "__init__" "Gap.__init__" s_Gap_init [], dG "gap" s_gap, dM "Gap" "beyond" "Gap.beyond" s_Gap_beyond [], dG "_law_near" s__law_near] : List Adr) ++ ([dG "_law_difference" s__law_difference, dG "_law_span" s__law_span, dG "_law_beyond" s__law_beyond, dG "law" s_law, dM "BadCount" "__init__" "BadCount.__init__" s_BadCount_init []] : List Adr)
def gs : List Str := (["shortest_lap", "plain_form", "is_integer", "is_count", "is_row", "is_climb", "check_table", "end_of", "value_at", "_law_pick", "_law_source", "_law_is_integer", "_law_is_count", "_law_end", "_law_at", "_law_gcd", "_law_rising", "_law_raw", "_law_table", "least_in", "first_under", "ladder_of", "values_from", "first_excess_in", "longest_head"] : List Str) ++ (["first_excess", "drift_of", "greatest_excess_in", "greatest_excess", "gap", "_law_near", "_law_difference", "_law_span", "_law_beyond", "law", "Chase", "NeedforthError", "BadCount", "BadTable", "Gap", "Table"] : List Str)
def exL : List (PySem.W.Frag → Bool) := [namB gs FS, bltB "gcd" "math.gcd", excKB "BadCount" "thing", exmPB exms, clsB "Table", fldsB "Table" ["head", "loop", "rise"], tyB "Table", mkB "Table", clsB "Chase", fldsB "Chase" ["start", "lap", "window", "drift", "ladders", "runners"], mkB "Chase", metB "Chase" "ladder_from", metB "Chase" "runners_of", metB "Chase" "first_lead", metB "Chase" "greatest_lead", metB "Chase" "place_of", clsB "Gap", fldsB "Gap" ["first", "second", "most", "place"], tyB "Gap", mkB "Gap", metB "Gap" "beyond"]
def exB (K : PySem.W.Frag) : Bool := exL.all fun f => f K
end K09
set_option Elab.async false
set_option linter.all false
set_option maxRecDepth 100000
set_option maxHeartbeats 0
namespace K09
open PySem PySem.Spec PyProof.Rows L2 He NF
abbrev R : PySem.W.OpenRow := PySem.W.OpenLaw.row PySem.Challenge.rw_needforth_k09_whole_gap
abbrev hk : PySem.W.Hook := hookQ 4 exB fn
def ob (s : PySem.W.SharedT) : He.AlD := obsQG 4 exB fn (HandSHeadRun.getT s)
theorem ob_eq (s : PySem.W.SharedT) : ob s = hk.obs s.abs := obsQG_eq (HandSHeadRun.getT_eq s)
def loose : List Str := (["_wall", "__name__", "end_of", "value_at", "values_from", "many_at_most", "last_at_most", "shortest_lap", "plain_form", "settled_form", "spread", "ladder_of", "least_in", "first_under", "last_under", "Chase", "drift_of", "longest_head", "first_excess_in", "first_excess", "greatest_excess", "greatest_excess_in", "NeedforthError", "BadCount", "BadTable"] : List Str) ++ (["is_integer", "is_count", "is_row", "is_climb", "Gap", "gap", "values_behind", "behind_form", "chosen", "settling", "joined_form", "both_form", "either_form", "turn_form", "check_table", "Table", "_law_source", "_law_pick", "_law_is_integer", "_law_is_count", "_law_rising", "_law_raw", "_law_end", "_law_at", "_law_gcd"] : List Str) ++ (["_law_table", "_law_near", "_law_difference", "_law_span", "_law_beyond"] : List Str)
theorem run (w : World) : HandSHeadRun.RunEqI R (PySem.W.view R.prog [0, 63]) hk ob 12000 loose w := by
  show _ = _
  kernel_rfl
end K09
set_option Elab.async false
set_option linter.all false
set_option maxRecDepth 100000
set_option maxHeartbeats 4000000
namespace K09
open PySem PySem.Spec PyProof.Rows L2 He NF RZ NT
/-- the shortest lap of a loop -/
def spLap (K : PySem.W.Frag) : Sp := fun vs H Q _ => ∃ (a : Addr) (l : List Int) (r : Int), vs = [.ref a, .int r] ∧ SqT K H a (vI l) ∧ l ≠ [] ∧ l.length ≤ 1000 ∧ ∀ m H', LapIs l r m → Same H H' → Q (.int (m : Int)) H'
theorem sc_shortest_lap : FnScope ["loop", "rise", "following", "steps", "many", "entry", "later"] ["loop", "rise"] (defScope s_shortest_lap) := ⟨rfl, rfl, rfl, by decide +kernel, rfl, by decide +kernel, by decide +kernel⟩
theorem following_is {l : List Int} {r : Int} (hl : l ≠ []) : cutV (vI l) (some 1) none ++ [V.int (l.getD 0 0 + r)] = vI ((List.range l.length).map fun k => walk l r (k + 1)) := by
  rw [show (1 : Int) = ((1 : Nat) : Int) from rfl, cut_from]
  have hp := len_pos hl
  refine List.ext_getElem? fun k => ?_
  simp only [vI, List.getElem?_map]
  by_cases c : k + 1 < l.length
  · rw [List.getElem?_append_left (by rw [List.length_drop, List.length_map]; omega), List.getElem?_drop, List.getElem?_map, List.getElem?_range (by omega), List.getElem?_eq_getElem (show 1 + k < l.length by omega)]
    simp only [Option.map_some]
    rw [walk_i c, List.getD_eq_getElem?_getD, List.getElem?_eq_getElem c]
    simp only [Option.getD_some, Option.some.injEq, V.int.injEq]
    congr 1
    omega
  · by_cases c2 : k + 1 = l.length
    · rw [List.getElem?_append_right (by rw [List.length_drop, List.length_map]; omega), List.length_drop, List.length_map, show k - (l.length - 1) = 0 by omega, List.getElem?_range (by omega)]
      simp only [Option.map_some, List.getElem?_cons_zero]
      rw [show k + 1 = 0 + l.length by omega, walk_add hp, walk_i hp]
    · rw [List.getElem?_eq_none (by rw [List.length_append, List.length_drop, List.length_map, List.length_singleton]; omega), List.getElem?_eq_none (by rw [List.length_range]; omega)]
      rfl
theorem steps_get {l : List Int} {r : Int} {k : Nat} (h : k < l.length) : (vI (steps l r))[k]? = some (V.int (walk l r (k + 1) - l.getD k 0)) := by
  unfold steps
  simp only [vI, List.getElem?_map]
  rw [List.getElem?_range h]
  simp only [Option.map_some, sk]
  rw [walk_i h]
section
variable {P : Program} {w : World} {K : PySem.W.Frag} {mg : Str → Option Value} {base : Heap} {gs fs : List Str}
theorem ok_shortest_lap {f : Addr} {fd : FuncData} (F : FunD K "shortest_lap" "shortest_lap" (defArgs s_shortest_lap) (defBody s_shortest_lap) (defScope s_shortest_lap) [] [] f fd) (T : Txt K mg gs fs) (hfs : fs = FS) : FnOk P w K mg base CX0 1 f fd ["loop", "rise"] (spLap K) := by
  subst hfs
  refine F.ok sc_shortest_lap (fun vs H Q E h => ?_) (fun cdv A outer s H vs Q E hr h => ?_)
  · obtain ⟨a, l, r, rfl, _⟩ := h
    rfl
  · obtain ⟨a, l, r, rfl, ha, hl, hz, q⟩ := h
    have hu : (A.deeper (envOfC "shortest_lap" (defScope s_shortest_lap) s.heap.objs.size f cdv)).units + 64 < cLine := by
      have := hr.un
      omega
    have hp := len_pos hl
    refine ⟨_, PSs.nox (pss_cons (ps_set (i := 2) sc_shortest_lap.nd rfl (Or.inl rfl) (pe_op op_catA (pe_slice sl_tupA (pv 0) (po_some pe_int) po_none) (pe_tup (pa_cons (pe_op op_add (pe_ix (ixt (K := K)) (pv 0) pe_int fun _ _ => rfl) (pv 1)) pa_nil)))) (pss_cons (ps_setLc (i := 3) (own := [("entry", 5), ("later", 6)]) rfl sc_shortest_lap.nd rfl rfl (sw_true rfl rfl rfl (by decide +kernel)) (pi_zipA rfl (T.fr _ (by decide +kernel)) (pa_cons (pv 0) (pa_cons (pv 2) pa_nil))) (blkOk_by (N := ["loop", "rise", "following", "steps", "many", "entry", "later"]) (sc := defScope s_shortest_lap) (by decide +kernel)) (fun _ _ _ _ _ => by exact (pgt (K := K) (n := 2) rfl rfl (pgs_cons (pg_name (i := 5) sc_shortest_lap.nd rfl (Or.inl rfl)) (pgs_cons (pg_name (i := 6) sc_shortest_lap.nd rfl (Or.inl rfl)) pgs_nil)))) (fun _ _ _ _ _ => by exact pts_nil) (fun _ _ _ _ _ => by exact (pe_op op_sub (pv 6) (pv 5)))) (pss_cons (ps_for PassesOwn.never rfl (pi_range2 rfl (T.fr _ (by decide +kernel)) (pa_cons pe_int (pa_cons (pe_op op_add (pe_op op_fdiv (pe_callB call_len_seq rfl (T.fr _ (by decide +kernel)) boot_len (pa_cons (pv 3) pa_nil)) pe_int) pe_int) pa_nil))) (pg_name (i := 4) sc_shortest_lap.nd rfl (Or.inl rfl)) (pss_one (ps_if (PW.pt (pw_and (pt_cmpR op_eq (pe_op op_mod (pe_callB call_len_seq rfl (T.fr _ (by decide +kernel)) boot_len (pa_cons (pv 3) pa_nil)) (pv 4)) pe_int (nomark _)) (pw_and1 (pt_cmpR (op_eqD hu) (pe_slice sl_list (pv 3) (po_some (pv 4)) po_none) (pe_slice sl_list (pv 3) po_none (po_some (pe_un un_neg (pv 4)))) (nomark _))))) (pss_one (ps_ret (pv 4))) pss_nil))) (pss_one (ps_ret (pe_callB call_len_seq rfl (T.fr _ (by decide +kernel)) boot_len (pa_cons (pv 3) pa_nil))))))), ?_⟩
    refine ⟨_, rfl, _, rfl, ?_⟩
    refine slA_from (K := K) ha fun p1 H1 s1 t1 => ?_
    refine ⟨_, rfl, a, _, 0, _, rfl, rfl, NF.Same.tup s1 ha, at_int (k := 0) rfl hp, _, rfl, _, _, rfl, rfl, (by show 1 ≤ sizeLine; decide), fun p2 hp2 => ?_⟩
    refine catA_done (NF.Same.tup (NF.Same.new (Same.refl _) hp2) t1) (SqT.of upd_same) ?_ fun p3 H3 s3 t3 => ?_
    · have : (cutV (vI l) (some 1) none).length = l.length - 1 := by
        rw [show (1 : Int) = ((1 : Nat) : Int) from rfl, cut_from, List.length_drop, List.length_map]
      rw [this]
      exact Nat.le_trans (show l.length - 1 + 1 ≤ 1001 by omega) (by decide)
    rw [following_is hl] at t3
    have s03 : Same H H3 := Same.trans s1 (Same.trans (NF.Same.new (Same.refl _) hp2) s3)
    refine ⟨_, rfl, _, rfl, a, p3, _, _, rfl, Or.inr ⟨NF.Same.tup s03 ha, t3, fun D hD => ?_⟩⟩
    have hsl : (vI (steps l r)).length = l.length := by unfold steps; simp
    refine lc_zipT (by simp) (fun i G => Same H3 G ∧ G D = some (.lst ((vI (steps l r)).take i))) ⟨NF.Same.new (Same.refl _) hD, upd_same⟩ (fun i G z => ⟨NF.Same.tup (Same.trans s03 z.1) ha, NF.Same.tup z.1 t3⟩) ?_ ?_
    · rintro i x y U G hx hy ⟨hG, hD2⟩ hU
      have hi : i < l.length := by
        have := (List.getElem?_eq_some_iff.mp hx).1
        rw [List.length_map] at this
        exact this
      obtain rfl : x = V.int (l.getD i 0) := by
        rw [List.getElem?_map, List.getElem?_eq_getElem hi] at hx
        rw [List.getD_eq_getElem?_getD, List.getElem?_eq_getElem hi]
        exact (Option.some.inj hx).symm
      obtain rfl : y = V.int (walk l r (i + 1)) := by
        rw [List.getElem?_map, List.getElem?_map, List.getElem?_range hi] at hy
        exact (Option.some.inj hy).symm
      refine ⟨U, _, rfl, SqT.of upd_same, rfl, _, _, rfl, _, _, rfl, rfl, rfl, ?_⟩
      refine ⟨_, rfl, _, rfl, _, _, rfl, rfl, (vI (steps l r)).take i, ?_, ?_, ?_, ?_⟩
      · rw [upd_ne (ne_of_none hD2 hU)]
        exact hD2
      · rw [List.length_take, hsl]
        exact Nat.lt_of_le_of_lt (show min i l.length ≤ 1000 by omega) (by decide)
      · exact NF.Same.mut (NF.Same.new hG hU) hD
      · rw [upd_same, List.take_add_one, steps_get hi]
        rfl
    · rintro G ⟨hG, hD2⟩
      rw [List.length_map, List.take_of_length_le (by rw [hsl]; exact Nat.le_refl _)] at hD2
      have hlen : (vI (steps l r)).length = l.length := hsl
      refine ⟨_, rfl, D, _, rfl, Or.inl (SqL.of hD2), _, _, rfl, rfl, ⟨by decide, by decide⟩, _, _, rfl, rfl, 1, _, rfl, ⟨by decide, by decide, ?_, ?_⟩, ?_⟩
      · rw [hlen]; omega
      · rw [hlen]; omega
      have en : (((vI (steps l r)).length : Int) / 2 + 1 - 1).toNat = l.length / 2 := by rw [hlen]; omega
      have s0G : Same H G := Same.trans s03 hG
      show (fun J H1 => _) (Itr 1 (((vI (steps l r)).length : Int) / 2 + 1 - 1).toNat) G
      rw [en]
      refine for_range (lo := 1) (n := l.length / 2) (fun i σ G' => Same G G' ∧ (∀ m', 0 < m' → m' ≤ i → m' ∣ l.length → ¬ Per (walk l r) m') ∧ ∃ v : Option V, σ = [some (.ref a), some (.int r), some (.ref p3), some (.ref D), v, none, none])
        ⟨Same.refl _, fun m' h1 h2 => by omega, none, rfl⟩ ?_ ?_
      · rintro i σ G' hi ⟨hs, hno, v, rfl⟩
        have e1 : (1 : Int) + (i : Int) = ((i + 1 : Nat) : Int) := by omega
        rw [e1]
        have hD3 := hs _ _ hD2
        refine ⟨_, rfl, D, _, rfl, Or.inl (SqL.of hD3), _, rfl, _, _, rfl, rfl, (by show (0 : Int) < ((i + 1 : Nat) : Int); omega), rfl, _, rfl, ?_⟩
        have hnext : ¬ ((i + 1 ∣ l.length) ∧ Per (walk l r) (i + 1)) → (∀ m', 0 < m' → m' ≤ i + 1 → m' ∣ l.length → ¬ Per (walk l r) m') := fun hn m' h1 h2 h3 h4 => by
          by_cases c : m' ≤ i
          · exact hno m' h1 c h3 h4
          · have : m' = i + 1 := by omega
            subst this
            exact hn ⟨h3, h4⟩
        refine ite2 (fun hc => ?_) (fun hc => ?_)
        · have hd : i + 1 ∣ l.length := by
            have hc := of_decide_eq_true hc
            injection hc with hc
            rw [hlen] at hc
            have := Int.dvd_of_emod_eq_zero hc
            exact Int.natCast_dvd_natCast.mp this
          refine ⟨_, rfl, _, rfl, _, rfl, D, _, rfl, SqL.of hD3, fun q1 hq1 => ?_⟩
          have hD4 : upd G' q1 (.lst (cutV (vI (steps l r)) (some ((i + 1 : Nat) : Int)) none)) D = some (.lst (vI (steps l r))) := by
            rw [upd_ne (ne_of_none hD3 hq1)]
            exact hD3
          refine ⟨_, rfl, _, rfl, _, rfl, _, rfl, D, _, rfl, SqL.of hD4, fun q2 hq2 => ?_⟩
          have hq3 : upd (upd G' q1 (.lst (cutV (vI (steps l r)) (some ((i + 1 : Nat) : Int)) none))) q2 (.lst (cutV (vI (steps l r)) none (some (-((i + 1 : Nat) : Int))))) q1 = some (.lst (vI ((steps l r).drop (i + 1)))) := by
            rw [upd_ne (ne_of_none upd_same hq2), upd_same, cut_from, vI_drop]
          have hq4 : upd (upd G' q1 (.lst (cutV (vI (steps l r)) (some ((i + 1 : Nat) : Int)) none))) q2 (.lst (cutV (vI (steps l r)) none (some (-((i + 1 : Nat) : Int))))) q2 = some (.lst (vI ((steps l r).take (l.length - (i + 1))))) := by
            rw [upd_same, cut_toN (by omega), hlen, vI_take]
          have hsD : Same G (upd (upd G' q1 (.lst (cutV (vI (steps l r)) (some ((i + 1 : Nat) : Int)) none))) q2 (.lst (cutV (vI (steps l r)) none (some (-((i + 1 : Nat) : Int)))))) := NF.Same.new (NF.Same.new hs hq1) hq2
          refine eqL_done (SqL.of hq3) (SqL.of hq4) ⟨_, rfl, ?_⟩
          refine ite2 (fun hc2 => ?_) (fun hc2 => ?_)
          · have hper := (cond_iff hl (Nat.succ_pos i) hd).mp (of_decide_eq_true hc2)
            exact ⟨_, rfl, q (i + 1) _ (lap_prog hl (Nat.succ_pos i) (by omega) hd hper fun m' h1 h2 h3 h4 => hno m' h1 (by omega) h3 h4) (Same.trans s0G hsD)⟩
          · refine ⟨hsD, hnext fun ⟨_, h⟩ => hc2 (decide_eq_true ((cond_iff hl (Nat.succ_pos i) hd).mpr h)), _, rfl⟩
        · refine ⟨hs, hnext fun ⟨h, _⟩ => hc (decide_eq_true ?_), _, rfl⟩
          rw [hlen]
          exact congrArg V.int (Int.emod_eq_zero_of_dvd (Int.natCast_dvd_natCast.mpr h))
      · rintro σ G' ⟨hs, hno, v, rfl⟩
        refine ⟨_, rfl, D, _, rfl, Or.inl (SqL.of (hs _ _ hD2)), ?_⟩
        rw [hlen]
        exact q l.length _ (lap_whole hl hno) (Same.trans s0G hs)
end
end K09
set_option Elab.async false
set_option linter.all false
set_option maxRecDepth 100000
set_option maxHeartbeats 4000000
namespace K09
open PySem PySem.Spec PyProof.Rows L2 He NF RZ NT
/-- a tuple of two tuples of ints and an int stands at p -/
def FormAt (K : PySem.W.Frag) (H : Hp) (p : Addr) (x : List Int × List Int × Int) : Prop := ∃ a b, SqT K H p [.ref a, .ref b, .int x.2.2] ∧ SqT K H a (vI x.1) ∧ SqT K H b (vI x.2.1)
theorem FormAt.mono {K : PySem.W.Frag} {H H' : Hp} {p : Addr} {x : List Int × List Int × Int} (h : FormAt K H p x) (s : Same H H') : FormAt K H' p x := by
  obtain ⟨a, b, h1, h2, h3⟩ := h
  exact ⟨a, b, NF.Same.tup s h1, NF.Same.tup s h2, NF.Same.tup s h3⟩
def spForm (K : PySem.W.Frag) : Sp := fun vs H Q _ => ∃ (a b : Addr) (h l : List Int) (r : Int), vs = [.ref a, .ref b, .int r] ∧ SqT K H a (vI h) ∧ SqT K H b (vI l) ∧ h.length + l.length ≤ 1000 ∧ ∀ x p H', IsPlain h l r x → Same H H' → FormAt K H' p x → Q (.ref p) H'
theorem sc_plain_form : FnScope ["head", "loop", "rise", "many", "lap_rise", "entries", "left"] ["head", "loop", "rise"] (defScope s_plain_form) := ⟨rfl, rfl, rfl, by decide +kernel, rfl, by decide +kernel, by decide +kernel⟩
section
variable {P : Program} {w : World} {K : PySem.W.Frag} {mg : Str → Option Value} {base : Heap} {gs fs : List Str}
theorem ok_plain_form {f : Addr} {fd : FuncData} (F : FunD K "plain_form" "plain_form" (defArgs s_plain_form) (defBody s_plain_form) (defScope s_plain_form) [] [] f fd) (T : Txt K mg gs fs) (hfs : fs = FS) (c_shortest_lap : Cal P w K mg base 1 "shortest_lap" (spLap K)) : FnOk P w K mg base CX0 2 f fd ["head", "loop", "rise"] (spForm K) := by
  subst hfs
  refine F.ok sc_plain_form (fun vs H Q E h => ?_) (fun cdv A outer s H vs Q E hr h => ?_)
  · obtain ⟨a, b, h, l, r, rfl, _⟩ := h
    rfl
  · obtain ⟨a, b, h, l, r, rfl, ha, hb, hz, q⟩ := h
    refine ⟨_, PSs.nox (pss_cons (ps_if (pt_not (pt_truth (pv 1) (fun _ => rfl))) (pss_one (ps_ret (pe_tup (pa_cons (pv 0) (pa_cons (pe_tup pa_nil) (pa_cons pe_int pa_nil)))))) pss_nil) (pss_cons (ps_set (i := 3) sc_plain_form.nd rfl (Or.inl rfl) (pe_c c_shortest_lap hr (by decide) rfl (pa_cons (pv 1) (pa_cons (pv 2) pa_nil)))) (pss_cons (ps_set (i := 4) sc_plain_form.nd rfl (Or.inl rfl) (pe_op op_fdiv (pe_op op_mul (pv 2) (pv 3)) (pe_callB call_len_seq rfl (T.fr _ (by decide +kernel)) boot_len (pa_cons (pv 1) pa_nil)))) (pss_cons (ps_set (i := 5) sc_plain_form.nd rfl (Or.inl rfl) (pe_op op_catA (pv 0) (pe_slice sl_tupA (pv 1) po_none (po_some (pv 3))))) (pss_cons (ps_set (i := 6) sc_plain_form.nd rfl (Or.inl rfl) (pe_callB call_len_seq rfl (T.fr _ (by decide +kernel)) boot_len (pa_cons (pv 0) pa_nil))) (pss_cons (ps_while PassesOwn.never (PW.pt (pw_and (pt_cmpR op_gt (pv 6) pe_int (nomark _)) (pw_and1 (pt_cmpR op_eq (pe_op op_add (pe_ix (ixt (K := K)) (pv 5) (pe_op op_sub (pv 6) pe_int) fun _ _ => rfl) (pv 4)) (pe_ix (ixt (K := K)) (pv 5) (pe_op op_add (pe_op op_sub (pv 6) pe_int) (pv 3)) fun _ _ => rfl) (nomark _))))) (pss_one (ps_set (i := 6) sc_plain_form.nd rfl (Or.inl rfl) (pe_op op_sub (pv 6) pe_int)))) (pss_one (ps_ret (pe_tup (pa_cons (pe_slice sl_tupA (pv 5) po_none (po_some (pv 6))) (pa_cons (pe_slice sl_tupA (pv 5) (po_some (pv 6)) (po_some (pe_op op_add (pv 6) (pv 3)))) (pa_cons (pv 4) pa_nil)))))))))))), ?_⟩
    refine ⟨_, rfl, _, tru_tup hb, ?_⟩
    by_cases hl : l = []
    · subst hl
      refine iteT ?_
      refine ⟨_, rfl, (by show 0 ≤ sizeLine; decide), fun p1 hp1 => ⟨(by show 3 ≤ sizeLine; decide), fun p2 hp2 => ?_⟩⟩
      have s1 := NF.Same.new (o := .tup []) (Same.refl H) hp1
      have s2 := NF.Same.new (o := .tup [V.ref a, V.ref p1, V.int 0]) s1 hp2
      exact q (h, [], 0) p2 _ (.inl ⟨rfl, rfl⟩) s2 ⟨a, p1, SqT.of upd_same, NF.Same.tup s2 ha, SqT.of (by rw [upd_ne (ne_of_none upd_same hp2)]; exact upd_same)⟩
    · have hne : (!l.isEmpty) = true := by cases l with
        | nil => exact absurd rfl hl
        | cons _ _ => rfl
      rw [hne]
      refine iteF ?_
      have hp := len_pos hl
      refine ⟨_, rfl, _, rfl, b, l, r, rfl, hb, hl, by omega, fun m H1 hm s1 => ?_⟩
      have hle : m ≤ l.length := Nat.le_of_dvd hp hm.dvd
      obtain ⟨t, ht⟩ := hm.dvd
      have hc := per_at hl hm.pos hm.per ht.symm
      have hb1 := NF.Same.tup s1 hb
      have t0 : 0 < t := Nat.pos_of_ne_zero fun z => by rw [z, Nat.mul_zero] at ht; omega
      have hcr : r * (m : Int) / ((vI l).length : Int) = r / (t : Int) := by
        rw [vI_len]
        have hr := per_rise hl hc ht.symm
        have e : r * (m : Int) = r / (t : Int) * (l.length : Int) := by
          rw [ht, Int.natCast_mul]
          calc r * (m : Int) = (r / (t : Int) * (t : Int)) * (m : Int) := by rw [← hr]
            _ = r / (t : Int) * ((m : Int) * (t : Int)) := by rw [Int.mul_assoc, Int.mul_comm (t : Int)]
        rw [e]
        exact Int.mul_ediv_cancel _ (by omega)
      refine ⟨_, rfl, _, rfl, _, _, rfl, rfl, Or.inr ⟨by omega, by omega⟩, ?_⟩
      refine ⟨_, rfl, b, _, rfl, Or.inr hb1, _, _, rfl, rfl, ⟨by rw [vI_len]; omega, by rw [vI_len]; omega⟩, ?_⟩
      show gName 4 (V.int (r * (m : Int) / ((vI l).length : Int))) _ _ _
      rw [hcr]
      generalize hcc : r / (t : Int) = cc at hc
      refine ⟨_, rfl, _, rfl, _, rfl, _, rfl, ?_⟩
      refine slA_done (K := K) hb1 fun p2 H2 s2 t2 => ?_
      rw [cut_to, vI_take] at t2
      refine catA_done (K := K) (NF.Same.tup (Same.trans s1 s2) ha) t2 (Nat.le_trans (show (vI h).length + (vI (l.take m)).length ≤ 1000 by rw [vI_len, vI_len, List.length_take]; omega) (by decide)) fun p3 H3 s3 t3 => ?_
      rw [vI_app] at t3
      have s03 : Same H H3 := Same.trans s1 (Same.trans s2 s3)
      refine ⟨_, rfl, a, _, rfl, Or.inr (NF.Same.tup s03 ha), ?_⟩
      rw [vI_len]
      have hel : (h ++ l.take m).length = h.length + m := by rw [List.length_append, List.length_take, Nat.min_eq_left hle]
      refine ⟨fun k σ G => G = H3 ∧ k ≤ h.length ∧ cut (h ++ l.take m) m cc h.length = cut (h ++ l.take m) m cc k ∧ σ = [some (.ref a), some (.ref b), some (.int r), some (.int (m : Int)), some (.int cc), some (.ref p3), some (.int (k : Int))], ⟨h.length, rfl, Nat.le_refl _, rfl, rfl⟩, ?_⟩
      rintro k σ G ⟨rfl, hk, hcut, rfl⟩
      -- what is handed back
      have hdone : cut (h ++ l.take m) m cc k = k → (tRet (tTup (tCons (tSl (rSlA K) (tVar 5) tNoPart (tPart (tVar 6))) (tCons (tSl (rSlA K) (tVar 5) (tPart (tVar 6)) (tPart (tOp (rI0 fun i j => .int (i + j)) (tVar 6) (tVar 3)))) (tCons (tVar 4) tNil))))) { nx := fun _ H' => Q .non H', rt := Q }
          [some (.ref a), some (.ref b), some (.int r), some (.int (m : Int)), some (.int cc), some (.ref p3), some (.int (k : Int))] G := fun hk2 => by
        refine ⟨_, rfl, _, rfl, _, rfl, ?_⟩
        refine slA_done (K := K) t3 fun p4 H4 s4 t4 => ?_
        refine ⟨_, rfl, _, rfl, _, rfl, _, rfl, _, rfl, _, _, rfl, rfl, _, rfl, ?_⟩
        refine slA_done (K := K) (NF.Same.tup s4 t3) fun p5 H5 s5 t5 => ?_
        refine ⟨_, rfl, (by show 3 ≤ sizeLine; decide), fun p6 hp6 => ?_⟩
        have s6 := NF.Same.new (o := .tup [V.ref p4, V.ref p5, V.int cc]) (Same.refl H5) hp6
        have hx := plain_is (h := h) hl hm hc
        rw [hcut, hk2] at hx
        rw [cut_to, vI_take] at t4
        rw [show (k : Int) + (m : Int) = ((k + m : Nat) : Int) by omega, cut_mid (by omega) (by rw [vI_len, hel]; omega), vI_drop, vI_take, show k + m - k = m by omega] at t5
        exact q _ p6 _ hx (Same.trans s03 (Same.trans s4 (Same.trans s5 s6))) ⟨p4, p5, SqT.of upd_same, NF.Same.tup (Same.trans s5 s6) t4, NF.Same.tup s6 t5⟩
      refine ⟨_, rfl, _, _, rfl, rfl, _, rfl, ?_⟩
      refine ite2 (fun h1 => ?_) (fun h1 => ?_)
      · have k0 : 0 < k := by
          have := of_decide_eq_true h1
          omega
        obtain ⟨j, rfl⟩ : ∃ j, k = j + 1 := ⟨k - 1, by omega⟩
        have e1 : ((j + 1 : Nat) : Int) - 1 = (j : Int) := by omega
        refine ⟨_, rfl, _, rfl, _, _, rfl, rfl, p3, _, _, _, rfl, rfl, t3, at_int (k := j) e1 (by rw [hel]; omega), _, rfl, _, _, rfl, rfl, ?_⟩
        refine ⟨_, rfl, _, rfl, _, _, rfl, rfl, _, rfl, _, _, rfl, rfl, p3, _, _, _, rfl, rfl, t3, at_int (k := j + m) (by omega) (by rw [hel]; omega), rfl, _, rfl, ?_⟩
        refine ite2 (fun h2 => ?_) (fun h2 => ?_)
        · have h2' : (h ++ l.take m).getD j 0 + cc = (h ++ l.take m).getD (j + m) 0 := by
            have := of_decide_eq_true h2
            injection this
          refine ⟨fun σ' G' => G' = G ∧ σ' = [some (.ref a), some (.ref b), some (.int r), some (.int (m : Int)), some (.int cc), some (.ref p3), some (.int (j : Int))], fun σ' G' ⟨z1, z2⟩ => ⟨j, Nat.lt_succ_self j, z1, by omega, ?_, z2⟩, ?_⟩
          · rw [hcut]
            show (if (h ++ l.take m).getD j 0 + cc = (h ++ l.take m).getD (j + m) 0 then _ else _) = _
            rw [if_pos h2']
          · refine ⟨_, rfl, _, _, rfl, rfl, rfl, ?_⟩
            show _ = _
            rw [← e1]
            rfl
        · refine hdone ?_
          show (if (h ++ l.take m).getD j 0 + cc = (h ++ l.take m).getD (j + m) 0 then _ else _) = _
          rw [if_neg fun z => h2 (decide_eq_true (congrArg V.int z))]
      · have k0 : k = 0 := by
          have : ¬ (0 : Int) < (k : Int) := fun z => h1 (decide_eq_true z)
          omega
        subst k0
        exact hdone rfl
end
end K09
set_option Elab.async false
set_option linter.all false
set_option maxRecDepth 100000
set_option maxHeartbeats 4000000
namespace K09
open PySem PySem.Spec PyProof.Rows L2 He NF RZ NT
def spIsInt : Sp := fun vs H Q _ => ∃ i : Int, vs = [.int i] ∧ Q (.bl true) H
def spIsCount : Sp := fun vs H Q _ => ∃ i : Int, vs = [.int i] ∧ Q (.bl (decide (0 ≤ i))) H
def spIsRow (K : PySem.W.Frag) : Sp := fun vs H Q _ => ∃ (a : Addr) (xs : List V), vs = [.ref a] ∧ Row K H a xs ∧ ∀ H', Same H H' → Q (.bl true) H'
def spIsClimb (K : PySem.W.Frag) : Sp := fun vs H Q _ => ∃ (a : Addr) (l : List Int), vs = [.ref a] ∧ Row K H a (vI l) ∧ climbs 0 l ∧ ∀ H', Same H H' → Q (.bl true) H'
def spCheck (K : PySem.W.Frag) : Sp := fun vs H Q _ => ∃ (a b : Addr) (h l : List Int) (r : Int), vs = [.ref a, .ref b, .int r] ∧ Row K H a (vI h) ∧ Row K H b (vI l) ∧ Good h l r ∧ ∀ H', Same H H' → Q .non H'
theorem sc_is_integer : FnScope ["thing"] ["thing"] (defScope s_is_integer) := ⟨rfl, rfl, rfl, by decide +kernel, rfl, by decide +kernel, by decide +kernel⟩
theorem sc_is_count : FnScope ["thing"] ["thing"] (defScope s_is_count) := ⟨rfl, rfl, rfl, by decide +kernel, rfl, by decide +kernel, by decide +kernel⟩
theorem sc_is_row : FnScope ["thing"] ["thing"] (defScope s_is_row) := ⟨rfl, rfl, rfl, by decide +kernel, rfl, by decide +kernel, by decide +kernel⟩
theorem sc_is_climb : FnScope ["thing", "last", "entry"] ["thing"] (defScope s_is_climb) := ⟨rfl, rfl, rfl, by decide +kernel, rfl, by decide +kernel, by decide +kernel⟩
theorem sc_check_table : FnScope ["head", "loop", "rise"] ["head", "loop", "rise"] (defScope s_check_table) := ⟨rfl, rfl, rfl, by decide +kernel, rfl, by decide +kernel, by decide +kernel⟩
theorem climbs_get : ∀ {l : List Int} {lo : Int} {i : Nat}, climbs lo l → i < l.length → (if i = 0 then lo else l.getD (i - 1) 0) ≤ l.getD i 0
  | [], _, _, _, h => by simp at h
  | x :: l, lo, 0, c, _ => c.1
  | x :: l, lo, i + 1, c, h => by
    have ih := climbs_get (i := i) c.2 (by simpa using h)
    rw [if_neg (Nat.succ_ne_zero i)]
    by_cases z : i = 0
    · subst z
      simpa using ih
    · rw [if_neg z] at ih
      obtain ⟨j, rfl⟩ : ∃ j, i = j + 1 := ⟨i - 1, by omega⟩
      simpa using ih
section
variable {P : Program} {w : World} {K : PySem.W.Frag} {mg : Str → Option Value} {base : Heap} {gs fs : List Str}
theorem ok_is_integer {f : Addr} {fd : FuncData} (F : FunD K "is_integer" "is_integer" (defArgs s_is_integer) (defBody s_is_integer) (defScope s_is_integer) [] [] f fd) (T : Txt K mg gs FS) : FnOk P w K mg base CX0 1 f fd ["thing"] spIsInt := by
  refine F.ok sc_is_integer (fun vs H Q E h => ?_) (fun cdv A outer s H vs Q E hr h => ?_)
  · obtain ⟨i, rfl, _⟩ := h
    rfl
  · obtain ⟨i, rfl, q⟩ := h
    refine ⟨_, PSs.nox (pss_one (ps_ret (pe_and (pe_callB call_isi rfl (T.fr _ (by decide +kernel)) (by decide +kernel) (pa_cons (pv 0) (pa_cons (pe_bltn (v := .ty "int") rfl (T.fr _ (by decide +kernel)) (by decide +kernel) rfl) pa_nil))) (pe_one (pe_not (pe_callB call_isi rfl (T.fr _ (by decide +kernel)) (by decide +kernel) (pa_cons (pv 0) (pa_cons (pe_bltn (v := .ty "bool") rfl (T.fr _ (by decide +kernel)) (by decide +kernel) rfl) pa_nil)))))))), ?_⟩
    exact ⟨_, rfl, _, _, _, _, true, rfl, .ty "int", .base (.int i), kit_i_i K, true, rfl, _, rfl, _, _, _, _, false, rfl, .ty "bool", .base (.int i), kit_i_b K, false, rfl, q⟩
theorem ok_is_count {f : Addr} {fd : FuncData} (F : FunD K "is_count" "is_count" (defArgs s_is_count) (defBody s_is_count) (defScope s_is_count) [] [] f fd) (T : Txt K mg gs FS) (c_is_integer : Cal P w K mg base 1 "is_integer" spIsInt) : FnOk P w K mg base CX0 2 f fd ["thing"] spIsCount := by
  refine F.ok sc_is_count (fun vs H Q E h => ?_) (fun cdv A outer s H vs Q E hr h => ?_)
  · obtain ⟨i, rfl, _⟩ := h
    rfl
  · obtain ⟨i, rfl, q⟩ := h
    refine ⟨_, PSs.nox (pss_one (ps_ret (pe_and (pe_c c_is_integer hr (by decide) rfl (pa_cons (pv 0) pa_nil)) (pe_one (pe_cmpR op_ge (pv 0) pe_int (nomark _)))))), ?_⟩
    exact ⟨_, rfl, i, rfl, true, rfl, _, rfl, _, _, rfl, rfl, q⟩
theorem ok_is_row {f : Addr} {fd : FuncData} (F : FunD K "is_row" "is_row" (defArgs s_is_row) (defBody s_is_row) (defScope s_is_row) [] [] f fd) (T : Txt K mg gs FS) : FnOk P w K mg base CX0 1 f fd ["thing"] (spIsRow K) := by
  refine F.ok sc_is_row (fun vs H Q E h => ?_) (fun cdv A outer s H vs Q E hr h => ?_)
  · obtain ⟨a, xs, rfl, _⟩ := h
    rfl
  · obtain ⟨a, xs, rfl, ha, q⟩ := h
    refine ⟨_, PSs.nox (pss_one (ps_ret (pe_callB call_isiT rfl (T.fr _ (by decide +kernel)) (by decide +kernel) (pa_cons (pv 0) (pa_cons (pe_tup (pa_cons (pe_bltn (v := .ty "tuple") rfl (T.fr _ (by decide +kernel)) (by decide +kernel) rfl) (pa_cons (pe_bltn (v := .ty "list") rfl (T.fr _ (by decide +kernel)) (by decide +kernel) rfl) pa_nil))) pa_nil))))), ?_⟩
    refine ⟨_, rfl, (by show 2 ≤ sizeLine; decide), fun p hp => ?_⟩
    have s1 := NF.Same.new (o := .tup [V.ty "tuple", V.ty "list"]) (Same.refl H) hp
    rcases ha.mono s1 with h | h
    · exact ⟨_, p, _, _, _, true, rfl, upd_same, .cons (.ty _) (.cons (.ty _) .nil), tyx_lst h, kit_l_tl K, q _ s1⟩
    · exact ⟨_, p, _, _, _, true, rfl, upd_same, .cons (.ty _) (.cons (.ty _) .nil), tyx_tup h, kit_t_tl K, q _ s1⟩
theorem ok_is_climb {f : Addr} {fd : FuncData} (F : FunD K "is_climb" "is_climb" (defArgs s_is_climb) (defBody s_is_climb) (defScope s_is_climb) [] [] f fd) (T : Txt K mg gs FS) (c_is_row : Cal P w K mg base 1 "is_row" (spIsRow K)) (c_is_integer : Cal P w K mg base 1 "is_integer" spIsInt) : FnOk P w K mg base CX0 2 f fd ["thing"] (spIsClimb K) := by
  refine F.ok sc_is_climb (fun vs H Q E h => ?_) (fun cdv A outer s H vs Q E hr h => ?_)
  · obtain ⟨a, l, rfl, _⟩ := h
    rfl
  · obtain ⟨a, l, rfl, ha, hc, q⟩ := h
    refine ⟨_, PSs.nox (pss_cons (ps_if (pt_not (pt_val (pe_c c_is_row hr (by decide) rfl (pa_cons (pv 0) pa_nil)))) (pss_one (ps_ret pe_bl)) pss_nil) (pss_cons (ps_set (i := 1) sc_is_climb.nd rfl (Or.inl rfl) pe_int) (pss_cons (ps_for PassesOwn.never rfl (pi_row (pv 0)) (pg_name (i := 2) sc_is_climb.nd rfl (Or.inl rfl)) (pss_cons (ps_if (PW.pt (pw_or (pt_not (pt_val (pe_c c_is_integer hr (by decide) rfl (pa_cons (pv 2) pa_nil)))) (pw_or1 (pt_cmpR op_lt (pv 2) (pv 1) (nomark _))))) (pss_one (ps_ret pe_bl)) pss_nil) (pss_one (ps_set (i := 1) sc_is_climb.nd rfl (Or.inl rfl) (pv 2))))) (pss_one (ps_ret pe_bl))))), ?_⟩
    refine ⟨_, rfl, a, _, rfl, ha, fun H1 s1 => ⟨true, rfl, iteF ?_⟩⟩
    refine ⟨_, rfl, a, rfl, ?_⟩
    refine for_row (ha.mono s1) (fun i σ G => Same H1 G ∧ ∃ v : Option V, σ = [some (.ref a), some (.int (if i = 0 then 0 else l.getD (i - 1) 0)), v]) ⟨Same.refl _, none, rfl⟩ (fun i σ G z => z.1) ?_ ?_
    · rintro i x σ G hx ⟨s2, v, rfl⟩
      have hi : i < l.length := by
        have := (List.getElem?_eq_some_iff.mp hx).1
        rw [List.length_map] at this
        exact this
      obtain rfl : x = V.int (l.getD i 0) := by
        rw [List.getElem?_map, List.getElem?_eq_getElem hi] at hx
        rw [List.getD_eq_getElem?_getD, List.getElem?_eq_getElem hi]
        exact (Option.some.inj hx).symm
      have hle := climbs_get hc hi
      refine ⟨_, rfl, _, rfl, true, rfl, iteF ⟨_, rfl, _, rfl, _, _, rfl, rfl, false, congrArg V.bl (decide_eq_false (by omega)), iteF ?_⟩⟩
      refine ⟨_, rfl, s2, some (V.int (l.getD i 0)), ?_⟩
      rw [if_neg (Nat.succ_ne_zero i)]
      rfl
    · rintro σ G ⟨s2, v, rfl⟩
      exact q _ (Same.trans s1 s2)
theorem ok_check_table {f : Addr} {fd : FuncData} (F : FunD K "check_table" "check_table" (defArgs s_check_table) (defBody s_check_table) (defScope s_check_table) [] [] f fd) (T : Txt K mg gs FS) (c_is_climb : Cal P w K mg base 2 "is_climb" (spIsClimb K)) (c_is_count : Cal P w K mg base 2 "is_count" spIsCount) : FnOk P w K mg base CX0 3 f fd ["head", "loop", "rise"] (spCheck K) := by
  refine F.ok sc_check_table (fun vs H Q E h => ?_) (fun cdv A outer s H vs Q E hr h => ?_)
  · obtain ⟨a, b, h, l, r, rfl, _⟩ := h
    rfl
  · obtain ⟨a, b, h, l, r, rfl, ha, hb, hg, q⟩ := h
    refine ⟨_, PSs.nox (pss_cons (ps_if (pt_not (pt_val (pe_c c_is_climb hr (by decide) rfl (pa_cons (pv 0) pa_nil)))) (pss_one ps_never) pss_nil) (pss_cons (ps_if (PW.pt (pw_or (pt_not (pt_val (pe_c c_is_climb hr (by decide) rfl (pa_cons (pv 1) pa_nil)))) (pw_or1 (PW.pt (pw_and (pt_truth (pv 1) (fun _ => rfl)) (pw_and (pt_truth (pv 0) (fun _ => rfl)) (pw_and1 (pt_cmpR op_lt (pe_ix (ixs (K := K)) (pv 1) pe_int fun _ _ => rfl) (pe_ix (ixs (K := K)) (pv 0) (pe_un un_neg pe_int) fun _ _ => rfl) (nomark _))))))))) (pss_one ps_never) pss_nil) (pss_one (ps_if (PW.pt (pw_or (pt_not (pt_val (pe_c c_is_count hr (by decide) rfl (pa_cons (pv 2) pa_nil)))) (pw_or (PW.pt (pw_and (pt_not (pt_truth (pv 1) (fun _ => rfl))) (pw_and1 (pt_cmpR op_ne (pv 2) pe_int (nomark _))))) (pw_or1 (PW.pt (pw_and (pt_truth (pv 1) (fun _ => rfl)) (pw_and1 (pt_cmpR op_gt (pe_ix (ixs (K := K)) (pv 1) (pe_un un_neg pe_int) fun _ _ => rfl) (pe_op op_add (pe_ix (ixs (K := K)) (pv 1) pe_int fun _ _ => rfl) (pv 2)) (nomark _))))))))) (pss_one ps_never) pss_nil)))), ?_⟩
    refine ⟨_, rfl, a, h, rfl, ha, hg.hd, fun H1 s1 => ⟨true, rfl, iteF ?_⟩⟩
    refine ⟨_, rfl, b, l, rfl, hb.mono s1, hg.lp, fun H2 s2 => ⟨true, rfl, iteF ?_⟩⟩
    have s02 := Same.trans s1 s2
    have ha2 := ha.mono s02
    have hb2 := hb.mono s02
    -- the rise
    have hrise : (tIfS (tOr (tNot (tB (tCall spIsCount [] E0 (tCons (tVar 2) tNil)))) (tOr (tAnd (tNot (fun σ H Q => tVar 1 σ H fun x H' => ∃ k, TruV K x H' k ∧ Q k H')) (tTest (tOp rNe (tVar 2) (tC (.int 0)))))
        (tAnd (fun σ H Q => tVar 1 σ H fun x H' => ∃ k, TruV K x H' k ∧ Q k H') (tTest (tOp (rI0 fun i j => .bl (decide (j < i))) (tOp (rIx K) (tVar 1) (tUn (rU fun i => .int (-i)) (tC (.int 1)))) (tOp (rI0 fun i j => .int (i + j)) (tOp (rIx K) (tVar 1) (tC (.int 0))) (tVar 2)))))))
        tNever tNext) { nx := fun _ H' => Q .non H', rt := Q } (start ["head", "loop", "rise"] [.ref a, .ref b, .int r]) H2 := by
      refine ⟨_, rfl, r, rfl, decide (0 ≤ r), rfl, ?_⟩
      rw [decide_eq_true hg.r0]
      refine iteF ?_
      refine ⟨_, rfl, _, tru_row hb2, ?_⟩
      by_cases hl : l = []
      · have hl2 : (!l.isEmpty) = false := by rw [hl]; rfl
        rw [hl2]
        refine iteT ⟨_, rfl, rfl, false, ?_, iteF ⟨_, rfl, _, tru_row hb2, ?_⟩⟩
        · rw [hg.rl hl]; rfl
        · rw [hl2]
          exact iteF (iteF (q _ s02))
      · have hl2 : (!l.isEmpty) = true := by cases l with
          | nil => exact absurd rfl hl
          | cons _ _ => rfl
        rw [hl2]
        refine iteF (iteF ⟨_, rfl, _, tru_row hb2, ?_⟩)
        rw [hl2]
        refine iteT ⟨_, rfl, _, rfl, ix_done hb2 (at_last (len_pos hl)) ⟨_, rfl, ix_done hb2 (at_int (k := 0) rfl (len_pos hl)) ⟨_, rfl, _, _, rfl, rfl, _, _, rfl, rfl, false, congrArg V.bl (decide_eq_false ?_), iteF (q _ s02)⟩⟩⟩
        have := hg.last hl
        omega
    refine ⟨_, rfl, _, tru_row hb2, ?_⟩
    by_cases hl : l = []
    · have hl2 : (!l.isEmpty) = false := by rw [hl]; rfl
      rw [hl2]
      exact iteF (iteF hrise)
    · have hl2 : (!l.isEmpty) = true := by cases l with
        | nil => exact absurd rfl hl
        | cons _ _ => rfl
      rw [hl2]
      refine iteT ⟨_, rfl, _, tru_row ha2, ?_⟩
      by_cases hh : h = []
      · have hh2 : (!h.isEmpty) = false := by rw [hh]; rfl
        rw [hh2]
        exact iteF (iteF hrise)
      · have hh2 : (!h.isEmpty) = true := by cases h with
          | nil => exact absurd rfl hh
          | cons _ _ => rfl
        rw [hh2]
        refine iteT ⟨_, rfl, ?_⟩
        refine ix_done hb2 (at_int (k := 0) rfl (len_pos hl)) ⟨_, rfl, _, rfl, ix_done ha2 (at_last (len_pos hh)) ⟨_, _, rfl, rfl, false, congrArg V.bl (decide_eq_false ?_), iteF hrise⟩⟩
        have := hg.join hh hl
        omega
end
end K09
set_option Elab.async false
set_option linter.all false
set_option maxRecDepth 100000
set_option maxHeartbeats 4000000
namespace K09
open PySem PySem.Spec PyProof.Rows L2 He NF RZ NT
/-- a table is told -/
def spInit (K : PySem.W.Frag) (C : Addr) : Sp := fun vs H Q _ => ∃ (x dx a b : Addr) (h l : List Int) (r : Int), vs = [.ref x, .ref a, .ref b, .int r] ∧ H x = some (.ins C dx []) ∧ Row K H a (vI h) ∧ Row K H b (vI l) ∧ Good h l r ∧ h.length + l.length ≤ 1000 ∧
  ∀ y H', IsPlain h l r y → Same (wo H x) H' → TabAt K C H' x y → Q .non H'
theorem sc_Table___init__ : FnScope ["self", "head", "loop", "rise"] ["self", "head", "loop", "rise"] (defScope s_Table_init) := ⟨rfl, rfl, rfl, by decide +kernel, rfl, by decide +kernel, by decide +kernel⟩
theorem tf_eq (a b : Addr) (r : Int) : putF "rise" (.int r) (putF "loop" (.ref b) (putF "head" (.ref a) [])) = tf a b r := by rfl
theorem few1 (a : V) : (putF "head" a []).length < 1000 := show 1 < 1000 by decide
theorem few2 (a b : V) : (putF "loop" b (putF "head" a [])).length < 1000 := show 2 < 1000 by decide
section
variable {P : Program} {w : World} {K : PySem.W.Frag} {mg : Str → Option Value} {base : Heap} {gs fs : List Str}
theorem ok_Table_init {C : Addr} {dvs : List V} {f : Addr} {fd : FuncData} (F : FunD K "__init__" "Table.__init__" (defArgs s_Table_init) (defBody s_Table_init) (defScope s_Table_init) dvs [] f fd) (T : Txt K mg gs FS) (hc : Cls K C) (n1 : NoAttr K C "head") (n2 : NoAttr K C "loop") (n3 : NoAttr K C "rise") (c_check_table : Cal P w K mg base 3 "check_table" (spCheck K)) (c_plain_form : Cal P w K mg base 2 "plain_form" (spForm K)) : FnOk P w K mg base CX0 4 f fd ["self", "head", "loop", "rise"] (spInit K C) := by
  refine F.ok sc_Table___init__ (fun vs H Q E h => ?_) (fun cdv A outer s H vs Q E hr h => ?_)
  · obtain ⟨x, dx, a, b, h, l, r, rfl, _⟩ := h
    rfl
  · obtain ⟨x, dx, a, b, h, l, r, rfl, hx, ha, hb, hg, hz, q⟩ := h
    refine ⟨_, PSs.nox (pss_cons (ps_expr (pe_c c_check_table hr (by decide) rfl (pa_cons (pv 1) (pa_cons (pv 2) (pa_cons (pv 3) pa_nil))))) (pss_one (ps_asg (pe_c c_plain_form hr (by decide) rfl (pa_cons (pe_callTy cr_tup rfl (T.fr _ (by decide +kernel)) (by decide +kernel) (pa_cons (pv 1) pa_nil)) (pa_cons (pe_callTy cr_tup rfl (T.fr _ (by decide +kernel)) (by decide +kernel) (pa_cons (pv 2) pa_nil)) (pa_cons (pv 3) pa_nil)))) (pgt (K := K) (n := 3) rfl rfl (pgs_cons (pg_fld (pv 0)) (pgs_cons (pg_fld (pv 0)) (pgs_cons (pg_fld (pv 0)) pgs_nil))))))), ?_⟩
    refine ⟨_, rfl, _, rfl, _, rfl, a, b, h, l, r, rfl, ha, hb, hg, fun H1 s1 => ?_⟩
    refine ⟨_, rfl, a, _, rfl, ha.mono s1, fun p1 H2 s2 t1 => ?_⟩
    refine ⟨_, rfl, b, _, rfl, hb.mono (Same.trans s1 s2), fun p2 H3 s3 t2 => ?_⟩
    refine ⟨_, rfl, p1, p2, h, l, r, rfl, NF.Same.tup s3 t1, t2, hz, fun y p H4 hy s4 fo => ?_⟩
    obtain ⟨u, v, f1, f2, f3⟩ := fo
    have s04 : Same H H4 := Same.trans s1 (Same.trans s2 (Same.trans s3 s4))
    have x4 := s04 _ _ hx
    refine ⟨p, _, rfl, f1, rfl, ?_⟩
    refine ⟨_, _, rfl, _, rfl, x, C, dx, _, rfl, x4, hc, n1, by decide, ?_⟩
    refine ⟨_, _, rfl, _, rfl, x, C, dx, _, rfl, upd_same, hc, n2, few1 _, ?_⟩
    refine ⟨_, _, rfl, _, rfl, x, C, dx, _, rfl, upd_same, hc, n3, few2 _ _, ?_⟩
    refine ⟨rfl, ?_⟩
    refine q y _ hy ?_ ⟨dx, u, v, ?_, ?_, ?_⟩
    · exact Same.put (Same.put (Same.put (Same.trans wo_same' s04) wo_none) wo_none) wo_none
    · rw [upd_same, ← tf_eq]
    · exact SqT.put (SqT.put (SqT.put f2 x4 trivial) upd_same trivial) upd_same trivial
    · exact SqT.put (SqT.put (SqT.put f3 x4 trivial) upd_same trivial) upd_same trivial
end
end K09
set_option Elab.async false
set_option linter.all false
set_option maxRecDepth 100000
set_option maxHeartbeats 4000000
namespace K09
open PySem PySem.Spec PyProof.Rows L2 He NF RZ NT
/-- what the class of tables is -/
structure TabC (K : PySem.W.Frag) (C : Addr) : Prop where
  cl : Cls K C
  hd : NoAttr K C "head"
  lp : NoAttr K C "loop"
  ri : NoAttr K C "rise"
  ac : PySem.W.findIn K (.ref C) "__class__" = some (some (.builtin "object.__class__"))
  ag : PySem.W.specialIn K (.builtin "object.__class__") "__get__" = some (some (.builtin "getset_descriptor.__get__"))
  at_ : PySem.W.takesIn K (.builtin "object.__class__") = some true
  am : PySem.W.mroIn K C (.type "object") = some true
  self : PySem.W.kitOne K (.ref C) (.ref C) = some true
  tup : PySem.W.kitOne K (.type "tuple") (.ref C) = some false
  int : PySem.W.kitOne K (.type "int") (.ref C) = some false
  non : PySem.W.kitOne K (.type "NoneType") (.ref C) = some false
theorem TabC.ty {K : PySem.W.Frag} {C : Addr} (c : TabC K C) {H : Hp} {a dx : Addr} {fs : List (Str × V)} (h : H a = some (.ins C dx fs)) : TyX K H (.ref a) (.ref C) := .base (.ins h c.cl c.ac c.ag c.at_ c.am)
/-- what a table must be that it can be asked -/
structure Small (y : List Int × List Int × Int) : Prop where
  h : y.1.length ≤ 1000
  l : y.2.1.length ≤ 1000
  r0 : 0 ≤ y.2.2
  r1 : y.2.2 ≤ 1000000
def spEnd (K : PySem.W.Frag) (C : Addr) : Sp := fun vs H Q _ => ∃ x y, vs = [.ref x] ∧ TabAt K C H x y ∧ Q (vO (fin_ y.2.1 y.2.2)) H
def spAt (K : PySem.W.Frag) (C : Addr) : Sp := fun vs H Q _ => ∃ x y n, vs = [.ref x, vN n] ∧ TabAt K C H x y ∧ Small y ∧ ∀ H', Same H H' → Q (vO (val_ y.1 y.2.1 y.2.2 n)) H'
/-- ==: with another table, with what is none -/
def spEq (K : PySem.W.Frag) (C : Addr) : Sp := fun vs H Q _ => ∃ x y v, vs = [.ref x, v] ∧ TabAt K C H x y ∧
  ((∃ x2 y2, v = .ref x2 ∧ TabAt K C H x2 y2 ∧ Q (.bl (decide (y = y2))) H) ∨ (∃ t, TyX K H v t ∧ PySem.W.kitOne K t (.ref C) = some false ∧ Q (.bl false) H))
theorem sc_end_of : FnScope ["table"] ["table"] (defScope s_end_of) := ⟨rfl, rfl, rfl, by decide +kernel, rfl, by decide +kernel, by decide +kernel⟩
theorem sc_value_at : FnScope ["table", "n", "lap", "at"] ["table", "n"] (defScope s_value_at) := ⟨rfl, rfl, rfl, by decide +kernel, rfl, by decide +kernel, by decide +kernel⟩
theorem sc_Table___call__ : FnScope ["self", "n"] ["self", "n"] (defScope s_Table_call) := ⟨rfl, rfl, rfl, by decide +kernel, rfl, by decide +kernel, by decide +kernel⟩
theorem sc_Table_end : FnScope ["self"] ["self"] (defScope s_Table_end) := ⟨rfl, rfl, rfl, by decide +kernel, rfl, by decide +kernel, by decide +kernel⟩
theorem sc_Table___eq__ : FnScope ["self", "other"] ["self", "other"] (defScope s_Table_eq) := ⟨rfl, rfl, rfl, by decide +kernel, rfl, by decide +kernel, by decide +kernel⟩
theorem ne_nil {l : List Int} (h : l ≠ []) : (!l.isEmpty) = true := by cases l with
  | nil => exact absurd rfl h
  | cons _ _ => rfl
theorem is_nil {l : List Int} (h : l = []) : (!l.isEmpty) = false := by rw [h]; rfl
section
variable {P : Program} {w : World} {K : PySem.W.Frag} {mg : Str → Option Value} {base : Heap} {gs fs : List Str} {C : Addr}
theorem ok_end_of {f : Addr} {fd : FuncData} (F : FunD K "end_of" "end_of" (defArgs s_end_of) (defBody s_end_of) (defScope s_end_of) [] [] f fd) (T : Txt K mg gs FS) (tc : TabC K C) : FnOk P w K mg base CX0 1 f fd ["table"] (spEnd K C) := by
  refine F.ok sc_end_of (fun vs H Q E h => ?_) (fun cdv A outer s H vs Q E hr h => ?_)
  · obtain ⟨x, y, rfl, _⟩ := h
    rfl
  · obtain ⟨x, ⟨h, l, r⟩, rfl, ⟨dx, a, b, hx, ha, hb⟩, q⟩ := h
    dsimp only at hx ha hb q
    refine ⟨_, PSs.nox (pss_cons (ps_if (PW.pt (pw_or (pt_not (pt_truth (pe_fld (pv 0) rfl) (fun _ => rfl))) (pw_or1 (pt_cmpR op_gt (pe_fld (pv 0) rfl) pe_int (nomark _))))) (pss_one (ps_ret pe_non)) pss_nil) (pss_one (ps_ret (pe_ix (ixt (K := K)) (pe_fld (pv 0) rfl) (pe_un un_neg pe_int) fun _ _ => rfl)))), ?_⟩
    refine ⟨_, rfl, x, C, dx, _, _, rfl, hx, tc.cl, tc.lp, rfl, _, tru_tup hb, ?_⟩
    by_cases hl : l = []
    · rw [is_nil hl]
      refine iteT (iteT ?_)
      unfold fin_ at q
      rw [if_pos (.inl hl)] at q
      exact q
    · rw [ne_nil hl]
      refine iteF ⟨_, rfl, x, C, dx, _, _, rfl, hx, tc.cl, tc.ri, rfl, _, _, rfl, rfl, _, rfl, ?_⟩
      refine ite2 (fun h1 => ?_) (fun h1 => ?_)
      · have h2 : (0 : Int) < r := of_decide_eq_true h1
        unfold fin_ at q
        rw [if_pos (.inr h2)] at q
        exact q
      · have h2 : ¬ (0 : Int) < r := fun z => h1 (decide_eq_true z)
        unfold fin_ at q
        rw [if_neg (fun z => z.elim hl h2)] at q
        exact ⟨_, rfl, x, C, dx, _, _, rfl, hx, tc.cl, tc.lp, rfl, _, rfl, b, _, _, _, rfl, rfl, hb, at_last (len_pos hl), q⟩
theorem ok_value_at {f : Addr} {fd : FuncData} (F : FunD K "value_at" "value_at" (defArgs s_value_at) (defBody s_value_at) (defScope s_value_at) [] [] f fd) (T : Txt K mg gs FS) (tc : TabC K C) (c_end_of : Cal P w K mg base 1 "end_of" (spEnd K C)) : FnOk P w K mg base CX0 2 f fd ["table", "n"] (spAt K C) := by
  refine F.ok sc_value_at (fun vs H Q E h => ?_) (fun cdv A outer s H vs Q E hr h => ?_)
  · obtain ⟨x, y, n, rfl, _⟩ := h
    rfl
  · obtain ⟨x, ⟨h, l, r⟩, n, rfl, tb, sm, q⟩ := h
    have tb0 := tb
    obtain ⟨dx, a, b, hx, ha, hb⟩ := tb0
    dsimp only at hx ha hb q
    refine ⟨_, PSs.nox (pss_cons (ps_if (pt_cmpR op_isN (pv 1) pe_non (nomark _)) (pss_one (ps_ret (pe_c c_end_of hr (by decide) rfl (pa_cons (pv 0) pa_nil)))) pss_nil) (pss_cons (ps_if (pt_cmpR op_eq (pv 1) pe_int (nomark _)) (pss_one (ps_ret pe_int)) pss_nil) (pss_cons (ps_if (pt_cmpR op_le (pv 1) (pe_callB call_len_seq rfl (T.fr _ (by decide +kernel)) boot_len (pa_cons (pe_fld (pv 0) rfl) pa_nil)) (nomark _)) (pss_one (ps_ret (pe_ix (ixt (K := K)) (pe_fld (pv 0) rfl) (pe_op op_sub (pv 1) pe_int) fun _ _ => rfl))) pss_nil) (pss_cons (ps_if (pt_not (pt_truth (pe_fld (pv 0) rfl) (fun _ => rfl))) (pss_one (ps_ret pe_non)) pss_nil) (pss_cons (ps_asg (pe_callB call_divmod rfl (T.fr _ (by decide +kernel)) (by decide +kernel) (pa_cons (pe_op op_sub (pe_op op_sub (pv 1) (pe_callB call_len_seq rfl (T.fr _ (by decide +kernel)) boot_len (pa_cons (pe_fld (pv 0) rfl) pa_nil))) pe_int) (pa_cons (pe_callB call_len_seq rfl (T.fr _ (by decide +kernel)) boot_len (pa_cons (pe_fld (pv 0) rfl) pa_nil)) pa_nil))) (pgt (K := K) (n := 2) rfl rfl (pgs_cons (pg_name (i := 2) sc_value_at.nd rfl (Or.inl rfl)) (pgs_cons (pg_name (i := 3) sc_value_at.nd rfl (Or.inl rfl)) pgs_nil)))) (pss_one (ps_ret (pe_op op_add (pe_ix (ixt (K := K)) (pe_fld (pv 0) rfl) (pv 3) fun _ _ => rfl) (pe_op op_mul (pv 2) (pe_fld (pv 0) rfl)))))))))), ?_⟩
    cases n with
    | none => exact ⟨_, rfl, rfl, _, rfl, iteT ⟨_, rfl, x, _, rfl, tb, q _ (Same.refl H)⟩⟩
    | some n =>
      refine ⟨_, rfl, rfl, _, rfl, iteF ?_⟩
      refine ⟨_, rfl, rfl, _, rfl, ite2 (fun h1 => ?_) (fun h1 => ?_)⟩
      · have h2 : n = 0 := by
          have := of_decide_eq_true h1
          injection this with this
          omega
        subst h2
        exact q _ (Same.refl H)
      have n0 : n ≠ 0 := fun z => h1 (by rw [z]; exact decide_eq_true rfl)
      unfold val_ at q
      dsimp only at q
      rw [if_neg n0] at q
      refine ⟨_, rfl, _, rfl, x, C, dx, _, _, rfl, hx, tc.cl, tc.hd, rfl, a, _, rfl, Or.inr ha, ?_⟩
      rw [vI_len]
      refine ⟨_, _, rfl, rfl, _, rfl, ite2 (fun h1 => ?_) (fun h1 => ?_)⟩
      · have h2 : n ≤ h.length := by
          have := of_decide_eq_true h1
          omega
        unfold at_ at q
        rw [if_pos h2] at q
        exact ⟨_, rfl, x, C, dx, _, _, rfl, hx, tc.cl, tc.hd, rfl, _, rfl, _, _, rfl, rfl, a, _, _, _, rfl, rfl, ha, at_int (k := n - 1) (by omega) (by omega), q _ (Same.refl H)⟩
      have h2 : ¬ n ≤ h.length := fun z => h1 (decide_eq_true (by omega))
      refine ⟨_, rfl, x, C, dx, _, _, rfl, hx, tc.cl, tc.lp, rfl, _, tru_tup hb, ?_⟩
      by_cases hl : l = []
      · rw [is_nil hl]
        unfold at_ at q
        rw [if_neg h2, if_pos hl] at q
        exact iteT (q _ (Same.refl H))
      rw [ne_nil hl]
      have hp := len_pos hl
      have hsl := sm.l
      dsimp only at hsl
      rw [at_loop hl (by omega)] at q
      refine iteF ?_
      refine ⟨_, rfl, _, rfl, x, C, dx, _, _, rfl, hx, tc.cl, tc.hd, rfl, a, _, rfl, Or.inr ha, _, _, rfl, rfl, _, _, rfl, rfl, ?_⟩
      refine ⟨_, rfl, x, C, dx, _, _, rfl, hx, tc.cl, tc.lp, rfl, b, _, rfl, Or.inr hb, ?_⟩
      rw [vI_len, vI_len]
      refine ⟨_, _, rfl, ⟨by omega, by omega⟩, fun p hpn => ?_⟩
      have s1 := NF.Same.new (o := .tup [V.int (((n : Int) - (h.length : Int) - 1) / (l.length : Int)), V.int (((n : Int) - (h.length : Int) - 1) % (l.length : Int))]) (Same.refl H) hpn
      refine ⟨p, _, rfl, SqT.of upd_same, rfl, _, _, rfl, ?_⟩
      refine ⟨_, _, rfl, ?_⟩
      refine ⟨rfl, ?_⟩
      have hx1 := s1 _ _ hx
      have hb1 := NF.Same.tup s1 hb
      have e1 : (n : Int) - (h.length : Int) - 1 = ((n - h.length - 1 : Nat) : Int) := by omega
      have e2 : ((n : Int) - (h.length : Int) - 1) % (l.length : Int) = (((n - h.length - 1) % l.length : Nat) : Int) := by rw [e1]; rfl
      refine ⟨_, rfl, x, C, dx, _, _, rfl, hx1, tc.cl, tc.lp, rfl, _, rfl, b, _, _, _, rfl, rfl, hb1, at_int (k := (n - h.length - 1) % l.length) e2 (Nat.mod_lt _ hp), ?_⟩
      have r0 := sm.r0
      have r1 := sm.r1
      dsimp only at r0 r1
      refine ⟨_, rfl, _, rfl, x, C, dx, _, _, rfl, hx1, tc.cl, tc.ri, rfl, _, _, rfl, rfl, Or.inr ⟨by omega, by omega⟩, ?_⟩
      refine ⟨_, _, rfl, rfl, ?_⟩
      have e3 : l.getD ((n - h.length - 1) % l.length) 0 + ((n : Int) - (h.length : Int) - 1) / (l.length : Int) * r = walk l r (n - h.length - 1) := by
        unfold walk
        rw [e1, Int.mul_comm]
        rfl
      show Q (V.int _) _
      rw [e3]
      exact q _ s1
theorem ok_Table_call {f : Addr} {fd : FuncData} (F : FunD K "__call__" "Table.__call__" (defArgs s_Table_call) (defBody s_Table_call) (defScope s_Table_call) [] [] f fd) (T : Txt K mg gs FS) (c_is_count : Cal P w K mg base 2 "is_count" spIsCount) (c_value_at : Cal P w K mg base 2 "value_at" (spAt K C)) : FnOk P w K mg base CX0 3 f fd ["self", "n"] (spAt K C) := by
  refine F.ok sc_Table___call__ (fun vs H Q E h => ?_) (fun cdv A outer s H vs Q E hr h => ?_)
  · obtain ⟨x, y, n, rfl, _⟩ := h
    rfl
  · obtain ⟨x, y, n, rfl, tb, sm, q⟩ := h
    refine ⟨_, PSs.nox (pss_cons (ps_if (PW.pt (pw_and (pt_cmpR op_notN (pv 1) pe_non (nomark _)) (pw_and1 (pt_not (pt_val (pe_c c_is_count hr (by decide) rfl (pa_cons (pv 1) pa_nil))))))) (pss_one ps_never) pss_nil) (pss_one (ps_ret (pe_c c_value_at hr (by decide) rfl (pa_cons (pv 0) (pa_cons (pv 1) pa_nil)))))), ?_⟩
    cases n with
    | none => exact ⟨_, rfl, rfl, _, rfl, iteF (iteF ⟨_, rfl, _, rfl, x, y, none, rfl, tb, sm, q⟩)⟩
    | some n =>
      refine ⟨_, rfl, rfl, _, rfl, iteT ⟨_, rfl, (n : Int), rfl, true, congrArg V.bl (decide_eq_true (by omega)), iteF ?_⟩⟩
      exact ⟨_, rfl, _, rfl, x, y, some n, rfl, tb, sm, q⟩
theorem ok_Table_end {f : Addr} {fd : FuncData} (F : FunD K "end" "Table.end" (defArgs s_Table_end) (defBody s_Table_end) (defScope s_Table_end) [] [] f fd) (T : Txt K mg gs FS) (c_end_of : Cal P w K mg base 1 "end_of" (spEnd K C)) : FnOk P w K mg base CX0 2 f fd ["self"] (spEnd K C) := by
  refine F.ok sc_Table_end (fun vs H Q E h => ?_) (fun cdv A outer s H vs Q E hr h => ?_)
  · obtain ⟨x, y, rfl, _⟩ := h
    rfl
  · obtain ⟨x, y, rfl, tb, q⟩ := h
    exact ⟨_, PSs.nox (pss_one (ps_ret (pe_c c_end_of hr (by decide) rfl (pa_cons (pv 0) pa_nil)))), _, rfl, x, y, rfl, tb, q⟩
theorem ok_Table_eq {f : Addr} {fd : FuncData} (F : FunD K "__eq__" "Table.__eq__" (defArgs s_Table_eq) (defBody s_Table_eq) (defScope s_Table_eq) [] [] f fd) (T : Txt K mg gs FS) (hT : mg "Table" = some (.ref C)) (tc : TabC K C) : FnOk P w K mg base CX0 1 f fd ["self", "other"] (spEq K C) := by
  refine F.ok sc_Table___eq__ (fun vs H Q E h => ?_) (fun cdv A outer s H vs Q E hr h => ?_)
  · obtain ⟨x, y, v, rfl, _⟩ := h
    rfl
  · obtain ⟨x, ⟨h, l, r⟩, v, rfl, ⟨dx, a, b, hx, ha, hb⟩, q⟩ := h
    have hu : (A.deeper (envOfC "Table.__eq__" (defScope s_Table_eq) s.heap.objs.size f cdv)).units + 64 < cLine := by
      have := hr.un
      omega
    refine ⟨_, PSs.nox (pss_one (ps_ret (pe_and (pe_callB call_isi rfl (T.fr _ (by decide +kernel)) (by decide +kernel) (pa_cons (pv 1) (pa_cons (pe_gl hT) pa_nil))) (pe_and (pe_cmpR (op_eqD hu) (pe_fld (pv 0) rfl) (pe_fld (pv 1) rfl) (nomark _)) (pe_and (pe_cmpR (op_eqD hu) (pe_fld (pv 0) rfl) (pe_fld (pv 1) rfl) (nomark _)) (pe_one (pe_cmpR op_eq (pe_fld (pv 0) rfl) (pe_fld (pv 1) rfl) (nomark _)))))))), ?_⟩
    rcases q with ⟨x2, ⟨h2, l2, r2⟩, rfl, ⟨dx2, a2, b2, hx2, ha2, hb2⟩, q⟩ | ⟨t, ty, hk, q⟩
    · have tx := tc.ty hx2
      dsimp only at hx ha hb hx2 ha2 hb2 q
      refine ⟨_, rfl, _, _, _, _, true, rfl, .own C, tx, tc.self, true, rfl, iteT ?_⟩
      refine ⟨_, rfl, x, C, dx, _, _, rfl, hx, tc.cl, tc.hd, rfl, _, rfl, x2, C, dx2, _, _, rfl, hx2, tc.cl, tc.hd, rfl, ?_⟩
      refine eqT_done (K := K) ha ha2 ⟨_, rfl, ite2 (fun h1 => ?_) (fun h1 => ?_)⟩
      · have e1 : h = h2 := of_decide_eq_true h1
        refine ⟨_, rfl, x, C, dx, _, _, rfl, hx, tc.cl, tc.lp, rfl, _, rfl, x2, C, dx2, _, _, rfl, hx2, tc.cl, tc.lp, rfl, ?_⟩
        refine eqT_done (K := K) hb hb2 ⟨_, rfl, ite2 (fun h3 => ?_) (fun h3 => ?_)⟩
        · have e2 : l = l2 := of_decide_eq_true h3
          refine ⟨_, rfl, x, C, dx, _, _, rfl, hx, tc.cl, tc.ri, rfl, _, rfl, x2, C, dx2, _, _, rfl, hx2, tc.cl, tc.ri, rfl, rfl, ?_⟩
          have e : decide ((h, l, r) = (h2, l2, r2)) = decide (V.int r = V.int r2) := by
            subst e1 e2
            by_cases z : r = r2
            · subst z; simp
            · rw [decide_eq_false (fun y => z (by injection y with _ y; injection y)), decide_eq_false (fun y => z (by injection y))]
          rw [← e]
          exact q
        · have e2 : l ≠ l2 := fun z => h3 (decide_eq_true z)
          rw [decide_eq_false (fun y => e2 (by injection y with _ y; injection y))] at q
          exact q
      · have e1 : h ≠ h2 := fun z => h1 (decide_eq_true z)
        rw [decide_eq_false (fun y => e1 (by injection y))] at q
        exact q
    · exact ⟨_, rfl, _, _, _, _, false, rfl, .own C, ty, hk, false, rfl, iteF q⟩
end
end K09
set_option Elab.async false
set_option linter.all false
set_option maxRecDepth 100000
set_option maxHeartbeats 4000000
namespace K09
open PySem PySem.Spec PyProof.Rows L2 He NF
section
variable {P : Program} {w : World} {K : PySem.W.Frag} {mg : Str → Option Value} {base : Heap}
theorem sc__law_pick : FnScope ["_law_source_here", "_law_many", "_law_value", "_law_digit"] ["_law_source_here", "_law_many"] (defScope s__law_pick) := ⟨rfl, rfl, rfl, by decide +kernel, rfl, by decide +kernel, by decide +kernel⟩
theorem ok_pick {f : Addr} {fd : FuncData} {gs fs : List Str} (F : FunD K "_law_pick" "_law_pick" (defArgs s__law_pick) (defBody s__law_pick) (defScope s__law_pick) [] [] f fd) (T : Txt K mg gs fs) (hi : ("int" : Str) ∈ fs) : FnOk P w K mg base CX0 1 f fd ["_law_source_here", "_law_many"] spPick := by
  refine F.ok sc__law_pick (fun vs H Q E h => ?_) (fun cdv A outer s H vs Q E hr h => ?_)
  · obtain ⟨H0, p, m, rfl, _⟩ := h
    rfl
  · obtain ⟨H0, p, m, rfl, hS, h0, ⟨a, sd, c, hp⟩, m0, m1, k⟩ := h
    refine ⟨_, PSs.nox (pss_cons (ps_if (pt_cmpR op_gt (pe_ix ix_list (pv 0) pe_int fun _ _ => rfl) pe_int (nomark _)) (pss_cons (ps_set (i := 3) sc__law_pick.nd rfl (Or.inl rfl) (pe_op op_mod (pe_callTy call_int1 rfl (T.fr _ hi) (by decide +kernel) (pa_cons (pe_ix ix_list (pv 0) pe_int fun _ _ => rfl) pa_nil)) (pv 1))) (pss_cons (ps_asg (pe_op op_fdiv (pe_ix ix_list (pv 0) pe_int fun _ _ => rfl) (pv 1)) (pg_sub (pv 0) pe_int set_list)) (pss_one (ps_ret (pv 3))))) pss_nil) (pss_cons (ps_asg (pe_op op_add (pe_ix ix_list (pv 0) pe_int fun _ _ => rfl) pe_int) (pg_sub (pv 0) pe_int set_list)) (pss_cons (ps_set (i := 2) sc__law_pick.nd rfl (Or.inl rfl) (pe_op op_mod (pe_callTy call_int1 rfl (T.fr _ hi) (by decide +kernel) (pa_cons (pe_op op_mul (pe_op op_add (pe_ix ix_list (pv 0) pe_int fun _ _ => rfl) (pe_op op_mul pe_int (pe_ix ix_list (pv 0) pe_int fun _ _ => rfl))) pe_int) pa_nil)) pe_int)) (pss_cons (ps_set (i := 2) sc__law_pick.nd rfl (Or.inl rfl) (pe_op op_mod (pe_callTy call_int1 rfl (T.fr _ hi) (by decide +kernel) (pa_cons (pe_op op_add (pe_op op_add (pe_op op_mul (pv 2) (pv 2)) (pe_op op_mul pe_int (pe_ix ix_list (pv 0) pe_int fun _ _ => rfl))) (pe_ix ix_list (pv 0) pe_int fun _ _ => rfl)) pa_nil)) pe_int)) (pss_cons (ps_set (i := 2) sc__law_pick.nd rfl (Or.inl rfl) (pe_op op_mod (pe_callTy call_int1 rfl (T.fr _ hi) (by decide +kernel) (pa_cons (pe_op op_add (pe_op op_mul (pv 2) pe_int) pe_int) pa_nil)) pe_int)) (pss_cons (ps_set (i := 2) sc__law_pick.nd rfl (Or.inl rfl) (pe_op op_mod (pe_callTy call_int1 rfl (T.fr _ hi) (by decide +kernel) (pa_cons (pe_op op_add (pe_op op_mul (pv 2) (pv 2)) (pv 2)) pa_nil)) pe_int)) (pss_one (ps_ret (pe_op op_mod (pe_callTy call_int1 rfl (T.fr _ hi) (by decide +kernel) (pa_cons (pe_op op_fdiv (pv 2) pe_int) pa_nil)) (pv 1)))))))))), ?_⟩
    refine ⟨_, rfl, p, _, _, _, rfl, rfl, SqL.of hp, at0, _, _, rfl, rfl, _, rfl, ?_⟩
    refine ite2 (fun _ => ?_) (fun _ => ?_)
    · refine ⟨_, rfl, p, _, _, _, rfl, rfl, SqL.of hp, at0, Or.inl ⟨_, rfl, _, rfl, _, _, rfl, rfl, m0, ?_⟩⟩
      refine ⟨_, rfl, p, _, _, _, rfl, rfl, SqL.of hp, at0, _, rfl, _, _, rfl, rfl, ⟨m0, m1⟩, ?_⟩
      refine ⟨_, rfl, p, _, _, 0, rfl, rfl, hp, rfl, ?_⟩
      refine ⟨_, rfl, k _ _ (Int.emod_nonneg _ (by omega)) (Int.emod_lt_of_pos _ m0) (NF.Same.put hS h0) ⟨_, _, _, upd_same⟩⟩
    · refine ⟨_, rfl, p, _, _, _, rfl, rfl, SqL.of hp, at2, _, _, rfl, rfl, ?_⟩
      refine ⟨_, rfl, p, _, _, 2, rfl, rfl, hp, rfl, ?_⟩
      have hp' : upd H p (.lst [.int a, .int sd, .int (c + 1)]) p = some (.lst [.int a, .int sd, .int (c + 1)]) := upd_same
      refine ⟨_, rfl, p, _, _, _, rfl, rfl, SqL.of hp', at1, ?_⟩
      refine ⟨_, rfl, p, _, _, _, rfl, rfl, SqL.of hp', at2, _, _, rfl, rfl, Or.inl (by decide), _, _, rfl, rfl, ?_⟩
      refine ⟨_, _, rfl, rfl, Or.inr (by decide), Or.inl ⟨_, rfl, _, _, rfl, rfl, (by first | exact (by decide : (0 : Int) < 2147483647) | exact (by decide : (0 : Int) < 2147483629) | exact (by decide : (0 : Int) < 2147483587)), ?_⟩⟩
      generalize hx : (sd + 104729 * (c + 1)) * 48271 % 2147483647 = x
      have x0 : 0 ≤ x ∧ x < 2147483647 := by omega
      refine ⟨_, rfl, _, rfl, _, _, rfl, rfl, Or.inl (by omega), ?_⟩
      refine ⟨_, rfl, p, _, _, _, rfl, rfl, SqL.of hp', at2, _, _, rfl, rfl, Or.inl (by decide), _, _, rfl, rfl, ?_⟩
      refine ⟨_, rfl, p, _, _, _, rfl, rfl, SqL.of hp', at1, _, _, rfl, rfl, Or.inl ⟨_, rfl, _, _, rfl, rfl, (by first | exact (by decide : (0 : Int) < 2147483647) | exact (by decide : (0 : Int) < 2147483629) | exact (by decide : (0 : Int) < 2147483587)), ?_⟩⟩
      generalize hy : (x * x + 7 * (c + 1) + sd) % 2147483629 = y
      have y0 : 0 ≤ y ∧ y < 2147483629 := by omega
      refine ⟨_, rfl, _, _, rfl, rfl, Or.inl (by omega), _, _, rfl, rfl, Or.inl ⟨_, rfl, _, _, rfl, rfl, (by first | exact (by decide : (0 : Int) < 2147483647) | exact (by decide : (0 : Int) < 2147483629) | exact (by decide : (0 : Int) < 2147483587)), ?_⟩⟩
      generalize hz : (y * 69621 + 5) % 2147483647 = z
      have z0 : 0 ≤ z ∧ z < 2147483647 := by omega
      refine ⟨_, rfl, _, rfl, _, _, rfl, rfl, Or.inl (by omega), ?_⟩
      refine ⟨_, rfl, _, _, rfl, rfl, Or.inl ⟨_, rfl, _, _, rfl, rfl, (by first | exact (by decide : (0 : Int) < 2147483647) | exact (by decide : (0 : Int) < 2147483629) | exact (by decide : (0 : Int) < 2147483587)), ?_⟩⟩
      refine ⟨_, rfl, _, _, rfl, rfl, ⟨by decide, by decide⟩, Or.inl ⟨_, rfl, _, rfl, _, _, rfl, rfl, m0, ?_⟩⟩
      exact k _ _ (Int.emod_nonneg _ (by omega)) (Int.emod_lt_of_pos _ m0) (NF.Same.put hS h0) ⟨_, _, _, hp'⟩
end
end K09
set_option Elab.async false
set_option linter.all false
set_option maxRecDepth 100000
set_option maxHeartbeats 4000000
namespace K09
open PySem PySem.Spec PyProof.Rows L2 He NF
theorem sc__law_source : FnScope ["_law_script", "_law_place", "_law_cell", "_law_seed", "_law_one", "_law_number"] ["_law_script", "_law_place"] (defScope s__law_source) := ⟨rfl, rfl, rfl, by decide +kernel, rfl, by decide +kernel, by decide +kernel⟩
theorem natAbs_bits {x : Int} {n : Nat} (h : x.natAbs < 2 ^ n) : Builtin.Int.intBits x ≤ n := by
  unfold Builtin.Int.intBits
  by_cases e : x = 0
  · rw [if_pos (by rw [e]; rfl)]
    exact Nat.zero_le _
  · rw [if_neg (by simpa using e)]
    exact (Nat.log2_lt (by omega)).mpr h
theorem bits_le {x y : Int} (h : x.natAbs ≤ y.natAbs) : Builtin.Int.intBits x ≤ Builtin.Int.intBits y := by
  refine natAbs_bits (Nat.lt_of_le_of_lt h ?_)
  unfold Builtin.Int.intBits
  by_cases e : y = 0
  · rw [if_pos (by rw [e]; rfl), e]
    decide
  · rw [if_neg (by simpa using e)]
    exact Nat.lt_log2_self
theorem bits_small {x : Int} (h0 : 0 ≤ x) (h : x < 1000000) : Builtin.Int.intBits x ≤ 1048576 := Nat.le_trans (natAbs_bits (n := 20) (by omega)) (by decide)
section
variable {P : Program} {w : World} {K : PySem.W.Frag} {mg : Str → Option Value} {base : Heap}
theorem ok_source {f : Addr} {fd : FuncData} {gs fs : List Str} (F : FunD K "_law_source" "_law_source" (defArgs s__law_source) (defBody s__law_source) (defScope s__law_source) [] [] f fd) (T : Txt K mg gs fs) (hl : ("len" : Str) ∈ fs) (hi : ("int" : Str) ∈ fs) (ha : ("abs" : Str) ∈ fs) : FnOk P w K mg base CX0 1 f fd ["_law_script", "_law_place"] (spSource K) := by
  refine F.ok sc__law_source (fun vs H Q E h => ?_) (fun cdv A outer s H vs Q E hr h => ?_)
  · obtain ⟨l, ns, i, rfl, _⟩ := h
    rfl
  · obtain ⟨l, ns, i, rfl, hS, hn, hb, hi', k⟩ := h
    refine ⟨_, PSs.nox (pss_cons (ps_set (i := 2) sc__law_source.nd rfl (Or.inl rfl) (pe_ifExp (pt_cmpR op_lt (pv 1) (pe_callB call_len_seq rfl (T.fr _ hl) boot_len (pa_cons (pv 0) pa_nil)) (nomark _)) (pe_ix ix_list (pv 0) (pv 1) fun _ _ => rfl) (pe_op op_add (pe_op op_mul pe_int (pv 1)) pe_int))) (pss_cons (ps_set (i := 3) sc__law_source.nd rfl (Or.inl rfl) (pe_op op_mod (pe_callTy call_int1 rfl (T.fr _ hi) (by decide +kernel) (pa_cons (pe_op op_add (pe_op op_mod (pe_callTy call_int1 rfl (T.fr _ hi) (by decide +kernel) (pa_cons (pv 2) pa_nil)) pe_int) (pe_op op_mul pe_int (pv 1))) pa_nil)) pe_int)) (pss_cons (ps_for PassesOwn.never rfl (pi_list (pe_slice sl_list (pv 0) po_none (po_some pe_int))) (pg_name (i := 4) sc__law_source.nd rfl (Or.inl rfl)) (pss_one (ps_set (i := 3) sc__law_source.nd rfl (Or.inl rfl) (pe_op op_mod (pe_callTy call_int1 rfl (T.fr _ hi) (by decide +kernel) (pa_cons (pe_op op_add (pe_op op_mul (pv 3) pe_int) (pe_op op_mod (pe_callTy call_int1 rfl (T.fr _ hi) (by decide +kernel) (pa_cons (pv 4) pa_nil)) pe_int)) pa_nil)) pe_int)))) (pss_cons (ps_set (i := 5) sc__law_source.nd rfl (Or.inl rfl) (pe_callB call_abs rfl (T.fr _ ha) (by decide +kernel) (pa_cons (pv 2) pa_nil))) (pss_cons (ps_if (pt_cmpR op_lt (pv 5) (pe_op op_pow pe_int pe_int) (nomark _)) (pss_one (ps_ret (pe_lst (pa_cons pe_int (pa_cons (pv 3) (pa_cons pe_int pa_nil)))))) pss_nil) (pss_cons (ps_if (pt_cmpR op_gt (pe_op op_shr (pv 5) pe_int) pe_int (nomark _)) (pss_one (ps_set (i := 5) sc__law_source.nd rfl (Or.inl rfl) (pe_op op_sub (pv 5) (pe_op op_shlW (pe_op op_shr (pv 5) pe_int) pe_int)))) pss_nil) (pss_one (ps_ret (pe_lst (pa_cons (pv 5) (pa_cons (pv 3) (pa_cons pe_int pa_nil)))))))))))), ?_⟩
    -- the cell: what stands at the place, or a number by the place
    have hcell : ∀ (Q1 : VK), (∀ c : Int, Builtin.Int.intBits c ≤ 1048576 → Q1 (.int c) H) →
        (if decide ((i : Int) < ((ns.map V.int).length : Int)) = true then tOp (rIxL K) (tVar 0) (tVar 1) (start ["_law_script", "_law_place", "_law_cell", "_law_seed", "_law_one", "_law_number"] [.ref l, .int (i : Int)]) H Q1
          else tOp (rI0 fun i j => .int (i + j)) (tOp (rI CMul fun i j => .int (i * j)) (tC (.int 3)) (tVar 1)) (tC (.int 1)) (start ["_law_script", "_law_place", "_law_cell", "_law_seed", "_law_one", "_law_number"] [.ref l, .int (i : Int)]) H Q1) := by
      intro Q1 q
      rw [List.length_map]
      by_cases hlt : i < ns.length
      · rw [decide_eq_true (show (i : Int) < (ns.length : Int) by omega), if_pos rfl]
        have e : (ns.map V.int)[i]? = some (V.int ns[i]) := by rw [List.getElem?_map, List.getElem?_eq_getElem hlt] <;> rfl
        exact ⟨_, rfl, _, rfl, l, _, _, _, rfl, rfl, hS, atI_nat e, q _ (hb _ (List.getElem_mem hlt))⟩
      · rw [decide_eq_false (show ¬ (i : Int) < (ns.length : Int) by omega), if_neg Bool.false_ne_true]
        refine ⟨_, rfl, _, _, rfl, rfl, Or.inl (by decide), _, _, rfl, rfl, q _ ?_⟩
        exact bits_small (by omega) (by omega)
    refine ⟨_, rfl, _, rfl, l, _, rfl, Or.inl hS, _, _, rfl, rfl, _, rfl, hcell _ fun c hc => ?_⟩
    refine ⟨_, rfl, Or.inl ⟨_, rfl, _, _, rfl, rfl, (by exact (by decide : (0 : Int) < 2147483629)), ?_⟩⟩
    refine ⟨_, rfl, _, _, rfl, rfl, Or.inl (by decide), _, _, rfl, rfl, Or.inl ⟨_, rfl, _, _, rfl, rfl, (by exact (by decide : (0 : Int) < 2147483629)), ?_⟩⟩
    refine ⟨_, rfl, _, rfl, l, _, rfl, hS, fun p hp => ⟨p, rfl, ⟨_, SqL.of upd_same⟩, ?_⟩⟩
    have hpl : H p = none := hp
    obtain ⟨cs, hcs⟩ : ∃ cs : List Int, cutV (ns.map V.int) none (some 2) = cs.map V.int := ⟨(ns.drop (HT.sIx (ns.map V.int).length 0 none)).take (HT.sIx (ns.map V.int).length (ns.map V.int).length (some 2) - HT.sIx (ns.map V.int).length 0 none), by unfold cutV; rw [List.map_take, List.map_drop]⟩
    refine for_list (K := K) (a := p) (xs := cs.map V.int) (fun j σ H' => H' = upd H p (.lst (cs.map V.int)) ∧ ∃ (sd : Int) (v : Option V), σ = [some (.ref l), some (.int (i : Int)), some (.int c), some (.int sd), v, none])
      ⟨by rw [hcs], _, _, rfl⟩ (fun j σ H' _ z => by rw [z.1]; exact SqL.of upd_same) ?_ ?_
    · rintro j y σ H' hj ⟨rfl, sd, v, rfl⟩
      obtain ⟨z, rfl⟩ : ∃ z, y = V.int z := by
        rw [List.getElem?_map] at hj
        cases e : cs[j]? with
        | none =>
          rw [e] at hj
          cases hj
        | some z =>
          rw [e] at hj
          exact ⟨z, (Option.some.inj hj).symm⟩
      refine ⟨_, rfl, _, _, rfl, rfl, Or.inr (by decide), _, rfl, Or.inl ⟨_, rfl, _, _, rfl, rfl, (by exact (by decide : (0 : Int) < 1000003)), ?_⟩⟩
      refine ⟨_, _, rfl, rfl, Or.inl ⟨_, rfl, _, _, rfl, rfl, (by exact (by decide : (0 : Int) < 2147483629)), ?_⟩⟩
      exact ⟨rfl, _, _, rfl⟩
    · rintro σ H' ⟨rfl, sd, v, rfl⟩
      have hS1 : Same H (upd H p (.lst (cs.map V.int))) := NF.Same.new (Same.refl H) hp
      have hend : ∀ (a sd : Int) (q : Addr), upd H p (.lst (cs.map V.int)) q = none → Q (.ref q) (upd (upd H p (.lst (cs.map V.int))) q (.lst [.int a, .int sd, .int 0])) := fun a sd q hq =>
        k q _ (NF.Same.new hS1 hq) (L2.Same.free hS1 hq) ⟨_, _, _, upd_same⟩
      refine ⟨_, rfl, _, rfl, ?_⟩
      have hab : Builtin.Int.intBits (if c < 0 then -c else c) ≤ 1048576 := Nat.le_trans (bits_le (by split <;> omega)) hc
      generalize hm : (if c < 0 then -c else c) = m at hab ⊢
      have m0 : 0 ≤ m := by rw [← hm]; split <;> omega
      refine ⟨_, rfl, _, _, rfl, rfl, ⟨by decide, by decide, by decide⟩, _, _, rfl, rfl, _, rfl, ?_⟩
      refine ite2 (fun _ => ?_) (fun _ => ?_)
      · exact ⟨_, rfl, (by show 3 ≤ sizeLine; decide), fun q hq => hend _ _ q hq⟩
      · refine ⟨_, rfl, _, _, rfl, rfl, (by exact (by decide : (0 : Int) ≤ 4000)), _, _, rfl, rfl, _, rfl, ?_⟩
        refine ite2 (fun _ => ?_) (fun _ => ?_)
        · refine ⟨_, rfl, _, rfl, _, _, rfl, rfl, (by exact (by decide : (0 : Int) ≤ 4000)), _, _, rfl, rfl, ⟨(by exact (by decide : (0 : Int) ≤ 4000)), ?_⟩, _, _, rfl, rfl, ?_⟩
          · have hd : Builtin.Int.intBits (m / 2 ^ (4000 : Int).toNat) ≤ Builtin.Int.intBits m := bits_le (by
              have h1 : 0 ≤ m / 2 ^ (4000 : Int).toNat := Int.ediv_nonneg m0 (Int.le_of_lt (Int.pow_pos (by decide)))
              have h2 : m / 2 ^ (4000 : Int).toNat ≤ m := Int.ediv_le_self _ m0
              omega)
            have h27 : (1048576 : Int) + 4000 ≤ 2 ^ 27 := by decide
            omega
          · exact ⟨_, rfl, _, rfl, (by show 3 ≤ sizeLine; decide), fun q hq => hend _ _ q hq⟩
        · exact ⟨_, rfl, _, rfl, (by show 3 ≤ sizeLine; decide), fun q hq => hend _ _ q hq⟩
end
end K09
set_option Elab.async false
set_option linter.all false
set_option maxRecDepth 100000
set_option maxHeartbeats 4000000
namespace K09
open PySem PySem.Spec PyProof.Rows L2 He NF RZ NT
def spLEnd (K : PySem.W.Frag) : Sp := fun vs H Q _ => ∃ p y, vs = [.ref p] ∧ FormAt K H p y ∧ Q (vO (fin_ y.2.1 y.2.2)) H
def spLAt (K : PySem.W.Frag) : Sp := fun vs H Q _ => ∃ p y n, vs = [.ref p, vN n] ∧ FormAt K H p y ∧ Small y ∧ Q (vO (val_ y.1 y.2.1 y.2.2 n)) H
def spGcd : Sp := fun vs H Q _ => ∃ a b : Nat, vs = [.int (a : Int), .int (b : Int)] ∧ ∀ H', Same H H' → Q (.int ((Nat.gcd a b : Nat) : Int)) H'
theorem iteT' {b : Bool} {A B : Prop} (e : b = true) (h : A) : if b = true then A else B := by rw [e]; exact iteT h
theorem iteF' {b : Bool} {A B : Prop} (e : b = false) (h : B) : if b = true then A else B := by rw [e]; exact iteF h
theorem sc__law_is_integer : FnScope ["_law_thing"] ["_law_thing"] (defScope s__law_is_integer) := ⟨rfl, rfl, rfl, by decide +kernel, rfl, by decide +kernel, by decide +kernel⟩
theorem sc__law_is_count : FnScope ["_law_thing"] ["_law_thing"] (defScope s__law_is_count) := ⟨rfl, rfl, rfl, by decide +kernel, rfl, by decide +kernel, by decide +kernel⟩
theorem sc__law_end : FnScope ["_law_raw_here"] ["_law_raw_here"] (defScope s__law_end) := ⟨rfl, rfl, rfl, by decide +kernel, rfl, by decide +kernel, by decide +kernel⟩
theorem sc__law_at : FnScope ["_law_raw_here", "_law_place", "_law_rest"] ["_law_raw_here", "_law_place"] (defScope s__law_at) := ⟨rfl, rfl, rfl, by decide +kernel, rfl, by decide +kernel, by decide +kernel⟩
theorem sc__law_gcd : FnScope ["_law_one", "_law_other"] ["_law_one", "_law_other"] (defScope s__law_gcd) := ⟨rfl, rfl, rfl, by decide +kernel, rfl, by decide +kernel, by decide +kernel⟩
section
variable {P : Program} {w : World} {K : PySem.W.Frag} {mg : Str → Option Value} {base : Heap} {gs : List Str}
theorem ok__law_is_integer {f : Addr} {fd : FuncData} (F : FunD K "_law_is_integer" "_law_is_integer" (defArgs s__law_is_integer) (defBody s__law_is_integer) (defScope s__law_is_integer) [] [] f fd) (T : Txt K mg gs FS) : FnOk P w K mg base CX0 1 f fd ["_law_thing"] spIsInt := by
  refine F.ok sc__law_is_integer (fun vs H Q E h => ?_) (fun cdv A outer s H vs Q E hr h => ?_)
  · obtain ⟨i, rfl, _⟩ := h
    rfl
  · obtain ⟨i, rfl, q⟩ := h
    refine ⟨_, PSs.nox (pss_one (ps_ret (pe_and (pe_callB call_isi rfl (T.fr _ (by decide +kernel)) (by decide +kernel) (pa_cons (pv 0) (pa_cons (pe_bltn (v := .ty "int") rfl (T.fr _ (by decide +kernel)) (by decide +kernel) rfl) pa_nil))) (pe_one (pe_not (pe_callB call_isi rfl (T.fr _ (by decide +kernel)) (by decide +kernel) (pa_cons (pv 0) (pa_cons (pe_bltn (v := .ty "bool") rfl (T.fr _ (by decide +kernel)) (by decide +kernel) rfl) pa_nil)))))))), ?_⟩
    exact ⟨_, rfl, _, _, _, _, true, rfl, .ty "int", .base (.int i), kit_i_i K, true, rfl, _, rfl, _, _, _, _, false, rfl, .ty "bool", .base (.int i), kit_i_b K, false, rfl, q⟩
theorem ok__law_is_count {f : Addr} {fd : FuncData} (F : FunD K "_law_is_count" "_law_is_count" (defArgs s__law_is_count) (defBody s__law_is_count) (defScope s__law_is_count) [] [] f fd) (T : Txt K mg gs FS) (c__law_is_integer : Cal P w K mg base 1 "_law_is_integer" spIsInt) : FnOk P w K mg base CX0 2 f fd ["_law_thing"] spIsCount := by
  refine F.ok sc__law_is_count (fun vs H Q E h => ?_) (fun cdv A outer s H vs Q E hr h => ?_)
  · obtain ⟨i, rfl, _⟩ := h
    rfl
  · obtain ⟨i, rfl, q⟩ := h
    refine ⟨_, PSs.nox (pss_one (ps_ret (pe_and (pe_c c__law_is_integer hr (by decide) rfl (pa_cons (pv 0) pa_nil)) (pe_one (pe_cmpR op_ge (pv 0) pe_int (nomark _)))))), ?_⟩
    exact ⟨_, rfl, i, rfl, true, rfl, _, rfl, _, _, rfl, rfl, q⟩
theorem ok__law_end {f : Addr} {fd : FuncData} (F : FunD K "_law_end" "_law_end" (defArgs s__law_end) (defBody s__law_end) (defScope s__law_end) [] [] f fd) (T : Txt K mg gs FS) : FnOk P w K mg base CX0 1 f fd ["_law_raw_here"] (spLEnd K) := by
  refine F.ok sc__law_end (fun vs H Q E h => ?_) (fun cdv A outer s H vs Q E hr h => ?_)
  · obtain ⟨p, y, rfl, _⟩ := h
    rfl
  · obtain ⟨p, ⟨h, l, r⟩, rfl, ⟨a, b, hp, ha, hb⟩, q⟩ := h
    dsimp only at hp ha hb q
    refine ⟨_, PSs.nox (pss_cons (ps_if (PW.pt (pw_or (pt_cmpR op_eq (pe_callB call_len_seq rfl (T.fr _ (by decide +kernel)) boot_len (pa_cons (pe_ix (ixt (K := K)) (pv 0) pe_int fun _ _ => rfl) pa_nil)) pe_int (nomark _)) (pw_or1 (pt_cmpR op_gt (pe_ix (ixt (K := K)) (pv 0) pe_int fun _ _ => rfl) pe_int (nomark _))))) (pss_one (ps_ret pe_non)) pss_nil) (pss_one (ps_ret (pe_ix (ixt (K := K)) (pe_ix (ixt (K := K)) (pv 0) pe_int fun _ _ => rfl) (pe_un un_neg pe_int) fun _ _ => rfl)))), ?_⟩
    refine ⟨_, rfl, p, _, _, _, rfl, rfl, hp, at1, b, _, rfl, Or.inr hb, rfl, _, rfl, ?_⟩
    by_cases hl : l = []
    · refine (iteT' (decide_eq_true (by rw [hl]; rfl)) ?_)
      refine iteT ?_
      unfold fin_ at q
      rw [if_pos (.inl hl)] at q
      exact q
    · refine (iteF' (decide_eq_false (fun z => hl ?_)) ?_)
      · injection z with z
        rw [vI_len] at z
        exact List.eq_nil_of_length_eq_zero (by omega)
      refine ⟨_, rfl, p, _, _, _, rfl, rfl, hp, at2, _, _, rfl, rfl, _, rfl, ?_⟩
      refine ite2 (fun h1 => ?_) (fun h1 => ?_)
      · have h2 : (0 : Int) < r := of_decide_eq_true h1
        unfold fin_ at q
        rw [if_pos (.inr h2)] at q
        exact q
      · have h2 : ¬ (0 : Int) < r := fun z => h1 (decide_eq_true z)
        unfold fin_ at q
        rw [if_neg (fun z => z.elim hl h2)] at q
        exact ⟨_, rfl, p, _, _, _, rfl, rfl, hp, at1, _, rfl, b, _, _, _, rfl, rfl, hb, at_last (len_pos hl), q⟩
theorem ok__law_at {f : Addr} {fd : FuncData} (F : FunD K "_law_at" "_law_at" (defArgs s__law_at) (defBody s__law_at) (defScope s__law_at) [] [] f fd) (T : Txt K mg gs FS) (c__law_end : Cal P w K mg base 1 "_law_end" (spLEnd K)) : FnOk P w K mg base CX0 2 f fd ["_law_raw_here", "_law_place"] (spLAt K) := by
  refine F.ok sc__law_at (fun vs H Q E h => ?_) (fun cdv A outer s H vs Q E hr h => ?_)
  · obtain ⟨x, y, n, rfl, _⟩ := h
    rfl
  · obtain ⟨p, ⟨h, l, r⟩, n, rfl, fo, sm, q⟩ := h
    have fo0 := fo
    obtain ⟨a, b, hp, ha, hb⟩ := fo0
    dsimp only at hp ha hb q
    refine ⟨_, PSs.nox (pss_cons (ps_if (pt_cmpR op_isN (pv 1) pe_non (nomark _)) (pss_one (ps_ret (pe_c c__law_end hr (by decide) rfl (pa_cons (pv 0) pa_nil)))) pss_nil) (pss_cons (ps_if (pt_cmpR op_eq (pv 1) pe_int (nomark _)) (pss_one (ps_ret pe_int)) pss_nil) (pss_cons (ps_if (pt_cmpR op_le (pv 1) (pe_callB call_len_seq rfl (T.fr _ (by decide +kernel)) boot_len (pa_cons (pe_ix (ixt (K := K)) (pv 0) pe_int fun _ _ => rfl) pa_nil)) (nomark _)) (pss_one (ps_ret (pe_ix (ixt (K := K)) (pe_ix (ixt (K := K)) (pv 0) pe_int fun _ _ => rfl) (pe_op op_sub (pv 1) pe_int) fun _ _ => rfl))) pss_nil) (pss_cons (ps_if (pt_cmpR op_eq (pe_callB call_len_seq rfl (T.fr _ (by decide +kernel)) boot_len (pa_cons (pe_ix (ixt (K := K)) (pv 0) pe_int fun _ _ => rfl) pa_nil)) pe_int (nomark _)) (pss_one (ps_ret pe_non)) pss_nil) (pss_cons (ps_set (i := 2) sc__law_at.nd rfl (Or.inl rfl) (pe_op op_sub (pe_op op_sub (pv 1) (pe_callB call_len_seq rfl (T.fr _ (by decide +kernel)) boot_len (pa_cons (pe_ix (ixt (K := K)) (pv 0) pe_int fun _ _ => rfl) pa_nil))) pe_int)) (pss_one (ps_ret (pe_op op_add (pe_ix (ixt (K := K)) (pe_ix (ixt (K := K)) (pv 0) pe_int fun _ _ => rfl) (pe_op op_mod (pv 2) (pe_callB call_len_seq rfl (T.fr _ (by decide +kernel)) boot_len (pa_cons (pe_ix (ixt (K := K)) (pv 0) pe_int fun _ _ => rfl) pa_nil))) fun _ _ => rfl) (pe_op op_mul (pe_ix (ixt (K := K)) (pv 0) pe_int fun _ _ => rfl) (pe_op op_fdiv (pv 2) (pe_callB call_len_seq rfl (T.fr _ (by decide +kernel)) boot_len (pa_cons (pe_ix (ixt (K := K)) (pv 0) pe_int fun _ _ => rfl) pa_nil)))))))))))), ?_⟩
    cases n with
    | none => exact ⟨_, rfl, rfl, _, rfl, iteT ⟨_, rfl, p, _, rfl, fo, q⟩⟩
    | some n =>
      refine ⟨_, rfl, rfl, _, rfl, iteF ?_⟩
      refine ⟨_, rfl, rfl, _, rfl, ite2 (fun h1 => ?_) (fun h1 => ?_)⟩
      · have h2 : n = 0 := by
          have := of_decide_eq_true h1
          injection this with this
          omega
        subst h2
        exact q
      have n0 : n ≠ 0 := fun z => h1 (by rw [z]; exact decide_eq_true rfl)
      unfold val_ at q
      dsimp only at q
      rw [if_neg n0] at q
      refine ⟨_, rfl, _, rfl, p, _, _, _, rfl, rfl, hp, at0, a, _, rfl, Or.inr ha, ?_⟩
      rw [vI_len]
      refine ⟨_, _, rfl, rfl, _, rfl, ite2 (fun h1 => ?_) (fun h1 => ?_)⟩
      · have h2 : n ≤ h.length := by
          have := of_decide_eq_true h1
          omega
        unfold at_ at q
        rw [if_pos h2] at q
        exact ⟨_, rfl, p, _, _, _, rfl, rfl, hp, at0, _, rfl, _, _, rfl, rfl, a, _, _, _, rfl, rfl, ha, at_int (k := n - 1) (by omega) (by omega), q⟩
      have h2 : ¬ n ≤ h.length := fun z => h1 (decide_eq_true (by omega))
      refine ⟨_, rfl, p, _, _, _, rfl, rfl, hp, at1, b, _, rfl, Or.inr hb, rfl, _, rfl, ?_⟩
      by_cases hl : l = []
      · refine (iteT' (decide_eq_true (by rw [hl]; rfl)) ?_)
        unfold at_ at q
        rw [if_neg h2, if_pos hl] at q
        exact q
      have hp0 := len_pos hl
      have hsl := sm.l
      dsimp only at hsl
      rw [at_loop hl (by omega)] at q
      refine (iteF' (decide_eq_false (fun z => hl ?_)) ?_)
      · injection z with z
        rw [vI_len] at z
        exact List.eq_nil_of_length_eq_zero (by omega)
      refine ⟨_, rfl, _, rfl, p, _, _, _, rfl, rfl, hp, at0, a, _, rfl, Or.inr ha, _, _, rfl, rfl, _, _, rfl, rfl, ?_⟩
      rw [vI_len]
      refine ⟨_, rfl, p, _, _, _, rfl, rfl, hp, at1, _, rfl, _, rfl, p, _, _, _, rfl, rfl, hp, at1, b, _, rfl, Or.inr hb, _, _, rfl, rfl, (by rw [vI_len]; show (0 : Int) < (l.length : Int); omega), ?_⟩
      rw [vI_len]
      have e1 : (n : Int) - (h.length : Int) - 1 = ((n - h.length - 1 : Nat) : Int) := by omega
      have e2 : ((n : Int) - (h.length : Int) - 1) % (l.length : Int) = (((n - h.length - 1) % l.length : Nat) : Int) := by rw [e1]; rfl
      refine ⟨b, _, _, _, rfl, rfl, hb, at_int (k := (n - h.length - 1) % l.length) e2 (Nat.mod_lt _ hp0), ?_⟩
      have r0 := sm.r0
      have r1 := sm.r1
      dsimp only at r0 r1
      refine ⟨_, rfl, p, _, _, _, rfl, rfl, hp, at2, _, rfl, _, rfl, p, _, _, _, rfl, rfl, hp, at1, b, _, rfl, Or.inr hb, ?_⟩
      rw [vI_len]
      refine ⟨_, _, rfl, rfl, ⟨by omega, by omega⟩, _, _, rfl, rfl, Or.inl ⟨by omega, by omega⟩, _, _, rfl, rfl, ?_⟩
      have e3 : l.getD ((n - h.length - 1) % l.length) 0 + r * (((n : Int) - (h.length : Int) - 1) / (l.length : Int)) = walk l r (n - h.length - 1) := by
        unfold walk
        rw [e1]
        rfl
      show Q (V.int _) _
      rw [e3]
      exact q
theorem ok__law_gcd {f : Addr} {fd : FuncData} (F : FunD K "_law_gcd" "_law_gcd" (defArgs s__law_gcd) (defBody s__law_gcd) (defScope s__law_gcd) [] [] f fd) (T : Txt K mg gs FS) : FnOk P w K mg base CX0 1 f fd ["_law_one", "_law_other"] spGcd := by
  refine F.ok sc__law_gcd (fun vs H Q E h => ?_) (fun cdv A outer s H vs Q E hr h => ?_)
  · obtain ⟨a, b, rfl, _⟩ := h
    rfl
  · obtain ⟨a, b, rfl, q⟩ := h
    refine ⟨_, PSs.nox (pss_cons (ps_while PassesOwn.never (pt_cmpR op_gt (pv 1) pe_int (nomark _)) (pss_one (ps_par (i := 0) (j := 1) (by rfl) sc__law_gcd.nd rfl rfl (by decide) rfl rfl (pa_cons (pv 1) (pa_cons (pe_op op_mod (pe_callTy call_int1 rfl (T.fr _ (by decide +kernel)) (by decide +kernel) (pa_cons (pv 0) pa_nil)) (pv 1)) pa_nil)) (by rfl)))) (pss_one (ps_ret (pv 0)))), ?_⟩
    refine ⟨fun k σ G => Same H G ∧ ∃ a' : Nat, Nat.gcd a' k = Nat.gcd a b ∧ σ = [some (.int (a' : Int)), some (.int (k : Int))], ⟨b, Same.refl H, a, rfl, rfl⟩, ?_⟩
    rintro k σ G ⟨s1, a', hg, rfl⟩
    refine ⟨_, rfl, _, _, rfl, rfl, _, rfl, ite2 (fun h1 => ?_) (fun h1 => ?_)⟩
    · have k0 : 0 < k := by
        have := of_decide_eq_true h1
        omega
      refine ⟨fun σ' G' => Same H G' ∧ σ' = [some (.int (k : Int)), some (.int ((a' % k : Nat) : Int))], fun σ' G' ⟨z1, z2⟩ => ⟨a' % k, Nat.mod_lt _ k0, z1, k, ?_, z2⟩, ?_⟩
      · rw [← hg, Nat.gcd_comm a' k]
        exact (Nat.gcd_comm _ _).trans ((Nat.gcd_rec k a').symm)
      · refine ⟨_, rfl, _, rfl, Or.inl ⟨_, rfl, _, rfl, _, _, rfl, rfl, (by show (0 : Int) < (k : Int); omega), ?_⟩⟩
        exact ⟨_, _, rfl, s1, rfl⟩
    · have k0 : k = 0 := by
        have : ¬ (0 : Int) < (k : Int) := fun z => h1 (decide_eq_true z)
        omega
      subst k0
      rw [Nat.gcd_zero_right] at hg
      subst hg
      exact ⟨_, rfl, q _ s1⟩
end
end K09
set_option Elab.async false
set_option linter.all false
set_option maxHeartbeats 4000000
namespace NT
variable {h l : List Int} {r : Int}
theorem climbs_lo : ∀ {l : List Int} {lo : Int} {i : Nat}, climbs lo l → i < l.length → lo ≤ l.getD i 0
  | [], _, _, _, h => by simp at h
  | x :: l, lo, 0, c, _ => c.1
  | x :: l, lo, i + 1, c, h => by
    have := climbs_lo (i := i) c.2 (by simpa using h)
    have := c.1
    show lo ≤ l.getD i 0
    omega
theorem climbs_up : ∀ {l : List Int} {lo : Int} {i : Nat}, climbs lo l → i + 1 < l.length → l.getD i 0 ≤ l.getD (i + 1) 0
  | [], _, _, _, h => by simp at h
  | x :: l, lo, 0, c, h => climbs_lo (i := 0) c.2 (by simpa using h)
  | x :: l, lo, i + 1, c, h => climbs_up (i := i) c.2 (by simpa using h)
theorem climbs_of : ∀ {l : List Int} {lo : Int}, (∀ i, i < l.length → lo ≤ l.getD i 0) → (∀ i, i + 1 < l.length → l.getD i 0 ≤ l.getD (i + 1) 0) → climbs lo l
  | [], _, _, _ => trivial
  | x :: l, lo, h1, h2 => by
    refine ⟨h1 0 (by simp), climbs_of (fun i hi => ?_) fun i hi => h2 (i + 1) (by simpa using hi)⟩
    induction i with
    | zero => exact h2 0 (by simpa using hi)
    | succ i ih => exact Int.le_trans (ih (by omega)) (h2 (i + 1) (by simpa using hi))
/-- the value at n as a number -/
def num (h l : List Int) (r : Int) (n : Nat) : Int := (at_ h l r n).getD 0
theorem walk_up (g : Good h l r) (hl : l ≠ []) (k : Nat) : walk l r k ≤ walk l r (k + 1) := by
  have hp := len_pos hl
  have e : k = k % l.length + l.length * (k / l.length) := (Nat.mod_add_div k _).symm
  have hi : k % l.length < l.length := Nat.mod_lt _ hp
  generalize k % l.length = a at e hi
  generalize k / l.length = b at e
  subst e
  rw [walk_add_mul hp, show a + l.length * b + 1 = (a + 1) + l.length * b by omega, walk_add_mul hp, walk_lt hi]
  by_cases c : a + 1 < l.length
  · rw [walk_lt c]
    have := climbs_up g.lp c
    omega
  · have : a + 1 = 0 + l.length := by omega
    rw [this, walk_add hp, walk_lt hp]
    have := g.last hl
    have e : l.length - 1 = a := by omega
    rw [e] at this
    omega
theorem at_some (n : Nat) (hn : n ≤ h.length ∨ l ≠ []) : at_ h l r n = some (num h l r n) := by
  unfold num at_
  by_cases c : n ≤ h.length
  · rw [if_pos c]; rfl
  · rw [if_neg c, if_neg (hn.resolve_left c)]; rfl
theorem num_up (g : Good h l r) (n : Nat) (hn : 1 ≤ n) (hs : n + 1 ≤ h.length ∨ l ≠ []) : num h l r n ≤ num h l r (n + 1) := by
  unfold num at_
  by_cases c : n + 1 ≤ h.length
  · rw [if_pos c, if_pos (by omega)]
    show h.getD (n - 1) 0 ≤ h.getD (n + 1 - 1) 0
    have := climbs_up (i := n - 1) g.hd (by omega)
    rw [show n - 1 + 1 = n + 1 - 1 by omega] at this
    exact this
  · have hl := hs.resolve_left c
    have e1 : (if n + 1 ≤ h.length then some (h.getD (n + 1 - 1) 0) else if l = [] then none else some (walk l r (n + 1 - h.length - 1))).getD 0 = walk l r (n + 1 - h.length - 1) := by rw [if_neg c, if_neg hl]; rfl
    rw [e1]
    by_cases c2 : n ≤ h.length
    · rw [if_pos c2]
      have e : n = h.length := by omega
      subst e
      show h.getD (h.length - 1) 0 ≤ walk l r (h.length + 1 - h.length - 1)
      rw [show h.length + 1 - h.length - 1 = 0 by omega, walk_lt (len_pos hl)]
      exact g.join (fun z => by rw [z] at hn; simp at hn) hl
    · rw [if_neg c2, if_neg hl]
      show walk l r (n - h.length - 1) ≤ walk l r (n + 1 - h.length - 1)
      rw [show n + 1 - h.length - 1 = (n - h.length - 1) + 1 by omega]
      exact walk_up g hl _
theorem walk_ge (g : Good h l r) (hl : l ≠ []) (k : Nat) : 0 ≤ walk l r k := by
  induction k with
  | zero =>
    rw [walk_lt (len_pos hl)]
    exact climbs_lo g.lp (len_pos hl)
  | succ k ih => exact Int.le_trans ih (walk_up g hl k)
theorem num_ge (g : Good h l r) (n : Nat) (hn : 1 ≤ n) : 0 ≤ num h l r n := by
  unfold num at_
  by_cases c : n ≤ h.length
  · rw [if_pos c]
    exact climbs_lo (i := n - 1) g.hd (by omega)
  · rw [if_neg c]
    by_cases hl : l = []
    · rw [if_pos hl]; exact Int.le_refl _
    · rw [if_neg hl]; exact walk_ge g hl _
theorem walk_mono (g : Good h l r) (hl : l ≠ []) (k d : Nat) : walk l r k ≤ walk l r (k + d) := by
  induction d with
  | zero => exact Int.le_refl _
  | succ d ih => exact Int.le_trans ih (walk_up g hl (k + d))
/-- the plain form is made of counts -/
theorem plain_counts (g : Good h l r) {x : List Int × List Int × Int} (hx : IsPlain h l r x) : (∀ i, i ∈ x.1 ++ x.2.1 → 0 ≤ i) ∧ 0 ≤ x.2.2 := by
  have hz := plain_size hx
  refine ⟨fun i hi => ?_, (hz.2.2.2.2.1 g.r0).1⟩
  have all : ∀ n, 1 ≤ n → ∀ v, at_ x.1 x.2.1 x.2.2 n = some v → 0 ≤ v := by
    rcases hx with ⟨rfl, rfl⟩ | ⟨_, _, _, _, e⟩
    · intro n hn v hv
      unfold at_ at hv
      by_cases c : n ≤ h.length
      · rw [if_pos c] at hv
        injection hv with hv
        rw [← hv]
        exact climbs_lo (l := h) (i := n - 1) g.hd (by omega)
      · rw [if_neg c, if_pos rfl] at hv
        cases hv
    · intro n hn v hv
      rw [e n hn] at hv
      have := num_ge g n hn
      unfold num at this
      rw [hv] at this
      exact this
  rcases List.mem_append.mp hi with h1 | h1
  · obtain ⟨k, hk, rfl⟩ := List.getElem_of_mem h1
    refine all (k + 1) (by omega) _ ?_
    unfold at_
    rw [if_pos (by omega), Nat.add_sub_cancel, List.getD_eq_getElem?_getD, List.getElem?_eq_getElem hk]
    rfl
  · obtain ⟨k, hk, rfl⟩ := List.getElem_of_mem h1
    have hne : x.2.1 ≠ [] := fun z => by rw [z] at hk; simp at hk
    refine all (x.1.length + k + 1) (by omega) _ ?_
    rw [at_loop hne (by omega), show x.1.length + k + 1 - x.1.length - 1 = k by omega, walk_lt hk, List.getD_eq_getElem?_getD, List.getElem?_eq_getElem hk]
    rfl
/-! ### the same table with more values in the head and a longer loop -/
def tell (h l : List Int) (r : Int) (n : Nat) : List Int := (List.range n).map fun k => num h l r (k + 1)
theorem tell_len (n : Nat) : (tell h l r n).length = n := by unfold tell; rw [List.length_map, List.length_range]
theorem tell_get {n k : Nat} (hk : k < n) : (tell h l r n).getD k 0 = num h l r (k + 1) := by
  unfold tell
  rw [List.getD_eq_getElem?_getD, List.getElem?_map, List.getElem?_range hk]
  rfl
theorem getD_take' {l : List Int} {m i : Nat} (h : i < m) : (l.take m).getD i 0 = l.getD i 0 := getD_take h
theorem tell_good (g : Good h l r) {more t : Nat} (hm : l = [] → more = 0) (ht : 0 < t) :
    Good ((tell h l r (h.length + more + l.length * t)).take (h.length + more)) ((tell h l r (h.length + more + l.length * t)).drop (h.length + more)) (r * (t : Int)) := by
  generalize hN : h.length + more + l.length * t = N
  generalize hc : h.length + more = c
  have some_ : ∀ n, n ≤ N → n ≤ h.length ∨ l ≠ [] := fun n hn => by
    by_cases hl : l = []
    · left
      have := hm hl
      have : l.length = 0 := by rw [hl]; rfl
      rw [this, Nat.zero_mul] at hN
      omega
    · exact .inr hl
  have cle : c ≤ N := by omega
  have hlt : ((tell h l r N).take c).length = c := by rw [List.length_take, tell_len]; omega
  have hld : ((tell h l r N).drop c).length = N - c := by rw [List.length_drop, tell_len]
  refine ⟨climbs_of (fun i hi => ?_) (fun i hi => ?_), climbs_of (fun i hi => ?_) (fun i hi => ?_), fun h1 h2 => ?_, ?_, fun hl => ?_, fun hl => ?_⟩
  · rw [hlt] at hi
    rw [getD_take hi, tell_get (by omega)]
    exact num_ge g _ (by omega)
  · rw [hlt] at hi
    rw [getD_take (by omega), getD_take hi, tell_get (by omega), tell_get (by omega)]
    exact num_up g _ (by omega) (some_ _ (by omega))
  · rw [hld] at hi
    rw [getD_drop, tell_get (by omega)]
    exact num_ge g _ (by omega)
  · rw [hld] at hi
    rw [getD_drop, getD_drop, tell_get (by omega), tell_get (by omega)]
    have := num_up g (c + i + 1) (by omega) (some_ _ (by omega))
    exact this
  · have c0 : 0 < c := by
      rcases Nat.eq_zero_or_pos c with z | z
      · rw [z] at h1; exact absurd rfl h1
      · exact z
    have d0 : 0 < N - c := by rw [← hld]; exact len_pos h2
    rw [hlt, getD_take (by omega), getD_drop, tell_get (by omega), tell_get (by omega)]
    have := num_up g c (by omega) (some_ _ (by omega))
    rw [show c - 1 + 1 = c by omega, show c + 0 + 1 = c + 1 by omega]
    exact this
  · exact Int.mul_nonneg g.r0 (by omega)
  · have z : N - c = 0 := by rw [← hld, hl]; rfl
    have z2 : l.length * t = 0 := by omega
    have z3 : l.length = 0 := by
      rcases Nat.mul_eq_zero.mp z2 with q | q
      · exact q
      · omega
    rw [g.rl (List.eq_nil_of_length_eq_zero z3), Int.zero_mul]
  · have d0 : 0 < N - c := by rw [← hld]; exact len_pos hl
    have hl2 : l ≠ [] := fun z => by
      have : l.length = 0 := by rw [z]; rfl
      rw [this, Nat.zero_mul] at hN
      omega
    rw [hld, getD_drop, getD_drop, tell_get (by omega), tell_get (by omega)]
    have w : ∀ j, num h l r (c + j + 1) = walk l r (more + j) := fun j => by
      unfold num
      rw [at_loop hl2 (by omega), show c + j + 1 - h.length - 1 = more + j by omega]
      rfl
    rw [w (N - c - 1), w 0, ← walk_add_mul (len_pos hl2)]
    have e : more + 0 + l.length * t = (more + (N - c - 1)) + 1 := by omega
    rw [e]
    exact walk_mono g hl2 _ 1
theorem tell_at {more t : Nat} (hm : l = [] → more = 0) (ht : 0 < t) (n : Nat) (hn : 1 ≤ n) :
    at_ ((tell h l r (h.length + more + l.length * t)).take (h.length + more)) ((tell h l r (h.length + more + l.length * t)).drop (h.length + more)) (r * (t : Int)) n = at_ h l r n := by
  by_cases hl : l = []
  · subst hl
    have hm := hm rfl
    subst hm
    have e : h.length + 0 + ([] : List Int).length * t = h.length := by simp
    rw [e, Nat.add_zero]
    unfold at_
    have e1 : ((tell h [] r h.length).take h.length).length = h.length := by rw [List.length_take, tell_len]; omega
    have e2 : (tell h [] r h.length).drop h.length = [] := List.drop_of_length_le (by rw [tell_len]; exact Nat.le_refl _)
    rw [e1, e2]
    by_cases c : n ≤ h.length
    · rw [if_pos c, if_pos c, getD_take (by omega), tell_get (by omega)]
      unfold num at_
      rw [show n - 1 + 1 = n by omega, if_pos c]
      rfl
    · rw [if_neg c, if_neg c, if_pos rfl, if_pos rfl]
  · have hp := len_pos hl
    generalize hN : h.length + more + l.length * t = N
    generalize hc : h.length + more = c
    have lt0 : 0 < l.length * t := Nat.mul_pos hp ht
    have hlt : ((tell h l r N).take c).length = c := by rw [List.length_take, tell_len]; omega
    have hld : ((tell h l r N).drop c).length = l.length * t := by rw [List.length_drop, tell_len]; omega
    have hne : (tell h l r N).drop c ≠ [] := fun z => by rw [z] at hld; simp at hld; omega
    by_cases q : n ≤ c
    · have : at_ h l r n = some (num h l r n) := at_some n (.inr hl)
      rw [this]
      unfold at_
      rw [hlt, if_pos q, getD_take (by omega), tell_get (by omega), show n - 1 + 1 = n by omega]
    · rw [at_loop hne (by rw [hlt]; omega), hlt, at_loop hl (by omega)]
      congr 1
      unfold walk
      rw [hld]
      generalize hk : n - c - 1 = k
      have hi : k % (l.length * t) < l.length * t := Nat.mod_lt _ lt0
      have w : ∀ j, num h l r (c + j + 1) = walk l r (more + j) := fun j => by
        unfold num
        rw [at_loop hl (by omega), show c + j + 1 - h.length - 1 = more + j by omega]
        rfl
      rw [getD_drop, tell_get (by omega), w]
      have e : n - h.length - 1 = (more + k % (l.length * t)) + l.length * (t * (k / (l.length * t))) := by
        have := Nat.mod_add_div k (l.length * t)
        rw [← Nat.mul_assoc]
        omega
      have e2 : walk l r (n - h.length - 1) = walk l r (more + k % (l.length * t)) + r * ((t * (k / (l.length * t)) : Nat) : Int) := by rw [e, walk_add_mul hp]
      have e3 : walk l r (n - h.length - 1) = l.getD ((n - h.length - 1) % l.length) 0 + r * (((n - h.length - 1) / l.length : Nat) : Int) := rfl
      rw [← e3, e2, Int.natCast_mul, Int.mul_assoc]
end NT
set_option linter.all false
/-! Where one walk leads another one: ladders of least values, lanes, leads. Plain Lean. -/
namespace NT
/-- Python's min of two -/
def mn (a b : Int) : Int := if b < a then b else a
/-- v is the least of f on the w places from i on -/
structure IsLo (f : Nat → Int) (i w : Nat) (v : Int) : Prop where
  le : ∀ j, i ≤ j → j < i + w → v ≤ f j
  at_ : ∃ j, i ≤ j ∧ j < i + w ∧ f j = v
theorem IsLo.one (f : Nat → Int) (i : Nat) : IsLo f i 1 (f i) := ⟨fun j h1 h2 => by rw [show j = i by omega]; exact Int.le_refl _, i, Nat.le_refl _, by omega, rfl⟩
theorem IsLo.join {f : Nat → Int} {i w d : Nat} {a b : Int} (h1 : IsLo f i w a) (h2 : IsLo f (i + d) w b) (hd : d ≤ w) : IsLo f i (w + d) (mn a b) := by
  have ha : mn a b ≤ a := by unfold mn; split <;> omega
  have hb : mn a b ≤ b := by unfold mn; split <;> omega
  refine ⟨fun j j1 j2 => ?_, ?_⟩
  · by_cases c : j < i + w
    · exact Int.le_trans ha (h1.le j j1 c)
    · exact Int.le_trans hb (h2.le j (by omega) (by omega))
  · unfold mn
    by_cases c : b < a
    · rw [if_pos c]
      obtain ⟨j, j1, j2, j3⟩ := h2.at_
      exact ⟨j, by omega, by omega, j3⟩
    · rw [if_neg c]
      obtain ⟨j, j1, j2, j3⟩ := h1.at_
      exact ⟨j, by omega, by omega, j3⟩
/-- a rung: the least values of f, window w, over the first n places -/
structure Rung (f : Nat → Int) (n w : Nat) (m : List Int) : Prop where
  w0 : 0 < w
  wn : w ≤ n
  len : m.length = n + 1 - w
  lo : ∀ i, i + w ≤ n → IsLo f i w (m.getD i 0)
theorem Rung.base {f : Nat → Int} {m : List Int} (h0 : 0 < m.length) (h : ∀ i, i < m.length → m.getD i 0 = f i) : Rung f m.length 1 m :=
  ⟨by decide, h0, by omega, fun i hi => by rw [h i (by omega)]; exact IsLo.one f i⟩
/-- the next rung -/
def nextRow (m : List Int) (w : Nat) : List Int := List.zipWith mn m (m.drop w)
theorem Rung.next {f : Nat → Int} {n w : Nat} {m : List Int} (h : Rung f n w m) (h2 : 2 * w ≤ n) : Rung f n (2 * w) (nextRow m w) := by
  have hl := h.len
  have w0 := h.w0
  have hz : (nextRow m w).length = n + 1 - 2 * w := by
    unfold nextRow
    rw [List.length_zipWith, List.length_drop]
    omega
  refine ⟨by omega, h2, hz, fun i hi => ?_⟩
  have e : (nextRow m w).getD i 0 = mn (m.getD i 0) (m.getD (i + w) 0) := by
    have h1 : i < m.length := by omega
    have h2 : w + i < m.length := by omega
    unfold nextRow
    rw [List.getD_eq_getElem?_getD, List.getD_eq_getElem?_getD, List.getD_eq_getElem?_getD, List.getElem?_zipWith, List.getElem?_drop, show i + w = w + i by omega, List.getElem?_eq_getElem h1, List.getElem?_eq_getElem h2]
    rfl
  rw [e, show 2 * w = w + w by omega]
  exact (h.lo i (by omega)).join (h.lo (i + w) (by omega)) (Nat.le_refl _)
/-- a ladder, the widest rung first -/
inductive Lad (f : Nat → Int) (n : Nat) : Nat → List (Nat × List Int) → Prop where
  | one {m : List Int} (h : Rung f n 1 m) : Lad f n 1 [(1, m)]
  | two {w : Nat} {m : List Int} {L : List (Nat × List Int)} (h : Rung f n (2 * w) m) (r : Lad f n w L) : Lad f n (2 * w) ((2 * w, m) :: L)
theorem Lad.head {f : Nat → Int} {n w : Nat} {L : List (Nat × List Int)} (h : Lad f n w L) : ∃ m L', L = (w, m) :: L' ∧ Rung f n w m := by
  cases h with
  | one h => exact ⟨_, _, rfl, h⟩
  | two h r => exact ⟨_, _, rfl, h⟩
theorem Lad.step {f : Nat → Int} {n w : Nat} {L : List (Nat × List Int)} (h : Lad f n w L) (h2 : 2 * w ≤ n) : ∃ m, L.head? = some (w, m) ∧ Lad f n (2 * w) ((2 * w, nextRow m w) :: L) := by
  obtain ⟨m, L', rfl, hm⟩ := h.head
  exact ⟨m, rfl, .two (hm.next h2) h⟩
theorem Lad.least {f : Nat → Int} {n w W i : Nat} {L : List (Nat × List Int)} (h : Lad f n w L) (h1 : w ≤ W) (h2 : W < 2 * w) (hi : i + W ≤ n) : ∃ m L', L = (w, m) :: L' ∧ i < m.length ∧ i + (W - w) < m.length ∧ IsLo f i W (mn (m.getD i 0) (m.getD (i + (W - w)) 0)) := by
  obtain ⟨m, L', rfl, hm⟩ := h.head
  have hl := hm.len
  refine ⟨m, L', rfl, by omega, by omega, ?_⟩
  have := (hm.lo i (by omega)).join (hm.lo (i + (W - w)) (by omega)) (by omega)
  rw [show w + (W - w) = W by omega] at this
  exact this
/-- the descent to the first place under a limit -/
def under (lim : Int) : Nat → List (Nat × List Int) → Nat
  | a, [] => a
  | a, (w, m) :: L => under lim (if a < m.length ∧ lim ≤ m.getD a 0 then a + w else a) L
/-- the first place from i on with f under the limit -/
structure First (f : Nat → Int) (lim : Int) (i t : Nat) : Prop where
  le : i ≤ t
  at_ : f t < lim
  no : ∀ j, i ≤ j → j < t → lim ≤ f j
theorem under_ok {f : Nat → Int} {n : Nat} {lim : Int} : ∀ {w : Nat} {L : List (Nat × List Int)}, Lad f n w L → ∀ {a t : Nat}, First f lim a t → t < a + 2 * w → t < n → under lim a L = t := by
  intro w L h
  induction h with
  | @one m h =>
    intro a t F h1 h2
    have hl := h.len
    show (if a < m.length ∧ lim ≤ m.getD a 0 then a + 1 else a) = t
    have han : a < n := Nat.lt_of_le_of_lt F.le h2
    have e : m.getD a 0 = f a := by
      obtain ⟨j, j1, j2, j3⟩ := (h.lo a (by omega)).at_
      rw [← j3, show j = a by omega]
    by_cases c : a < m.length ∧ lim ≤ m.getD a 0
    · rw [if_pos c]
      have hne : a ≠ t := fun z => by
        have := F.at_
        rw [← z, ← e] at this
        omega
      have := F.le
      omega
    · rw [if_neg c]
      have hlt : f a < lim := by
        rw [← e]
        refine Int.lt_of_not_ge fun z => c ⟨by omega, z⟩
      refine Classical.byContradiction fun z => ?_
      have := F.no a (Nat.le_refl _) (by have := F.le; omega)
      omega
  | @two w m L h r ih =>
    intro a t F h1 h2
    have hl := h.len
    show under lim (if a < m.length ∧ lim ≤ m.getD a 0 then a + 2 * w else a) L = t
    have w0 := h.w0
    by_cases c : a < m.length ∧ lim ≤ m.getD a 0
    · rw [if_pos c]
      have lo := h.lo a (by omega)
      have ht : a + 2 * w ≤ t := Nat.le_of_not_lt fun z => by
        have := lo.le t F.le z
        have := F.at_
        omega
      exact ih ⟨ht, F.at_, fun j j1 j2 => F.no j (by omega) j2⟩ (by omega) h2
    · rw [if_neg c]
      refine ih F ?_ h2
      by_cases hm : a < m.length
      · have hlt : m.getD a 0 < lim := Int.lt_of_not_ge fun z => c ⟨hm, z⟩
        have lo := h.lo a (by omega)
        obtain ⟨j, j1, j2, j3⟩ := lo.at_
        refine Classical.byContradiction fun z => ?_
        have := F.no j j1 (by omega)
        omega
      · omega
/-- the descent from behind to the last place under a limit; e: the place behind the last one looked at -/
def underB (lim : Int) (s : Nat) : Nat → List (Nat × List Int) → Nat
  | e, [] => e
  | e, (w, m) :: L => underB lim s (if s + w ≤ e ∧ lim ≤ m.getD (e - w) 0 then e - w else e) L
/-- the last place ahead of e, not ahead of s, with f under the limit -/
structure Last (f : Nat → Int) (lim : Int) (s e t : Nat) : Prop where
  ge : s ≤ t
  lt : t < e
  at_ : f t < lim
  no : ∀ j, t < j → j < e → lim ≤ f j
theorem underB_ok {f : Nat → Int} {n : Nat} {lim : Int} {s : Nat} : ∀ {w : Nat} {L : List (Nat × List Int)}, Lad f n w L → ∀ {e t : Nat}, Last f lim s e t → e ≤ t + 2 * w → e ≤ n → underB lim s e L = t + 1 := by
  intro w L h
  induction h with
  | @one m h =>
    intro e t F h1 h2
    have hl := h.len
    have f1 := F.ge
    have f2 := F.lt
    show (if s + 1 ≤ e ∧ lim ≤ m.getD (e - 1) 0 then e - 1 else e) = t + 1
    have e1 : m.getD (e - 1) 0 = f (e - 1) := by
      obtain ⟨j, j1, j2, j3⟩ := (h.lo (e - 1) (by omega)).at_
      rw [← j3, show j = e - 1 by omega]
    by_cases c : s + 1 ≤ e ∧ lim ≤ m.getD (e - 1) 0
    · rw [if_pos c]
      have hne : e - 1 ≠ t := fun z => by
        have := F.at_
        rw [← z, ← e1] at this
        omega
      omega
    · rw [if_neg c]
      have hlt : f (e - 1) < lim := by
        rw [← e1]
        refine Int.lt_of_not_ge fun z => c ⟨by omega, z⟩
      refine Classical.byContradiction fun z => ?_
      have := F.no (e - 1) (by omega) (by omega)
      omega
  | @two w m L h r ih =>
    intro e t F h1 h2
    have hl := h.len
    have w0 := h.w0
    have f1 := F.ge
    have f2 := F.lt
    show underB lim s (if s + 2 * w ≤ e ∧ lim ≤ m.getD (e - 2 * w) 0 then e - 2 * w else e) L = t + 1
    by_cases c : s + 2 * w ≤ e ∧ lim ≤ m.getD (e - 2 * w) 0
    · rw [if_pos c]
      have lo := h.lo (e - 2 * w) (by omega)
      have ht : t < e - 2 * w := Nat.lt_of_not_le fun z => by
        have := lo.le t z (by omega)
        have := F.at_
        omega
      exact ih ⟨f1, ht, F.at_, fun j j1 j2 => F.no j j1 (by omega)⟩ (by omega) (by omega)
    · rw [if_neg c]
      refine ih F ?_ h2
      by_cases hm : s + 2 * w ≤ e
      · have hlt : m.getD (e - 2 * w) 0 < lim := Int.lt_of_not_ge fun z => c ⟨hm, z⟩
        have lo := h.lo (e - 2 * w) (by omega)
        obtain ⟨j, j1, j2, j3⟩ := lo.at_
        refine Classical.byContradiction fun z => ?_
        have := F.no j (by omega) (by omega)
        omega
      · omega
end NT
set_option linter.all false
/-! Leads of one walk over another one: lanes, runners, the first and the last lead. Plain Lean. -/
namespace NT
/-- the numbers of two laps -/
structure Ln (L M g W V : Nat) : Prop where
  l0 : 0 < L
  m0 : 0 < M
  g0 : 0 < g
  w0 : 0 < W
  eL : L = g * V
  eM : M = g * W
  co : ∃ x y : Int, (L : Int) * x + (M : Int) * y = (g : Int)
theorem bez : ∀ m n : Nat, ∃ x y : Int, (m : Int) * x + (n : Int) * y = ((Nat.gcd m n : Nat) : Int) := by
  intro m
  induction m using Nat.strongRecOn with
  | _ m ih =>
    intro n
    cases m with
    | zero => exact ⟨0, 1, by rw [Nat.gcd_zero_left]; simp⟩
    | succ m =>
      obtain ⟨x, y, e⟩ := ih (n % (m + 1)) (Nat.mod_lt _ (Nat.succ_pos m)) (m + 1)
      refine ⟨y - ((n / (m + 1) : Nat) : Int) * x, x, ?_⟩
      rw [Nat.gcd_rec, ← e]
      have h : (n : Int) = ((n % (m + 1) : Nat) : Int) + ((m + 1 : Nat) : Int) * ((n / (m + 1) : Nat) : Int) := by
        rw [← Int.natCast_mul, ← Int.natCast_add, Nat.mod_add_div]
      generalize ((n % (m + 1) : Nat) : Int) = r at *
      generalize ((n / (m + 1) : Nat) : Int) = q at *
      generalize ((m + 1 : Nat) : Int) = k at *
      rw [h, Int.mul_sub, Int.add_mul]
      have : k * (q * x) = k * q * x := (Int.mul_assoc _ _ _).symm
      omega
theorem ln_of {L M : Nat} (hl : 0 < L) (hm : 0 < M) : Ln L M (Nat.gcd L M) (M / Nat.gcd L M) (L / Nat.gcd L M) := by
  have g0 : 0 < Nat.gcd L M := Nat.gcd_pos_of_pos_left _ hl
  have eL : L = Nat.gcd L M * (L / Nat.gcd L M) := (Nat.mul_div_cancel' (Nat.gcd_dvd_left L M)).symm
  have eM : M = Nat.gcd L M * (M / Nat.gcd L M) := (Nat.mul_div_cancel' (Nat.gcd_dvd_right L M)).symm
  exact ⟨hl, hm, g0, Nat.pos_of_ne_zero fun z => by rw [z, Nat.mul_zero] at eM; omega, eL, eM, bez L M⟩
section
variable {L M g W V : Nat}
theorem Ln.lap (h : Ln L M g W V) : L * W = M * V := by
  rw [h.eL, h.eM, Nat.mul_assoc, Nat.mul_assoc, Nat.mul_comm V W]
/-- each residue is that of a step in its lane -/
theorem Ln.reach (h : Ln L M g W V) (r : Nat) (hr : r < M) : ∃ s, s < W ∧ (r % g + L * s) % M = r := by
  obtain ⟨x, y, e⟩ := h.co
  have g0 := h.g0
  have W0 : (0 : Int) < (W : Int) := by have := h.w0; omega
  obtain ⟨c, hc⟩ : ∃ c : Nat, c = r / g := ⟨_, rfl⟩
  have er : r = r % g + g * c := by rw [hc]; exact (Nat.mod_add_div r g).symm
  obtain ⟨z, hz⟩ : ∃ z : Int, z = (x * (c : Int)) % (W : Int) := ⟨_, rfl⟩
  have z0 : 0 ≤ z := by rw [hz]; exact Int.emod_nonneg _ (by omega)
  have z1 : z < (W : Int) := by rw [hz]; exact Int.emod_lt_of_pos _ W0
  have ez : x * (c : Int) = z + (W : Int) * (x * (c : Int) / (W : Int)) := by rw [hz]; exact (Int.emod_add_mul_ediv _ _).symm
  generalize x * (c : Int) / (W : Int) = q at ez
  refine ⟨z.toNat, by omega, ?_⟩
  have hlap : (L : Int) * (W : Int) = (M : Int) * (V : Int) := by
    have := h.lap
    rw [← Int.natCast_mul, ← Int.natCast_mul, this]
  have key : ((r % g + L * z.toNat : Nat) : Int) = (r : Int) + (M : Int) * (- (y * (c : Int)) - (V : Int) * q) := by
    have h1 : (L : Int) * (x * (c : Int)) = (g : Int) * (c : Int) - (M : Int) * (y * (c : Int)) := by
      have : ((L : Int) * x + (M : Int) * y) * (c : Int) = (g : Int) * (c : Int) := by rw [e]
      rw [Int.add_mul, Int.mul_assoc, Int.mul_assoc] at this
      omega
    have h2 : (L : Int) * z = (L : Int) * (x * (c : Int)) - (M : Int) * ((V : Int) * q) := by
      rw [ez, Int.mul_add, ← Int.mul_assoc (L : Int) (W : Int) q, hlap, Int.mul_assoc]
      omega
    have h3 : (z.toNat : Int) = z := Int.toNat_of_nonneg z0
    have h4 : (r : Int) = ((r % g : Nat) : Int) + (g : Int) * (c : Int) := by
      rw [← Int.natCast_mul, ← Int.natCast_add, ← er]
    rw [Int.natCast_add, Int.natCast_mul, h3, h2, h1, Int.mul_sub, Int.mul_neg]
    omega
  have := congrArg (fun k : Int => k % (M : Int)) key
  simp only [Int.add_mul_emod_self_left] at this
  rw [← Int.natCast_emod, ← Int.natCast_emod, Nat.mod_eq_of_lt hr] at this
  exact Int.ofNat.inj this
/-- a step whose residue is that of a place lies in the place's lane -/
theorem Ln.lane (h : Ln L M g W V) {l s at_ : Nat} (hl : l < g) (e : (l + L * s) % M = at_ % M) : l = at_ % g := by
  have h1 := congrArg (fun k => k % g) e
  have d1 : g ∣ M := ⟨W, h.eM⟩
  have d2 : g ∣ L * s := ⟨V * s, by rw [h.eL, Nat.mul_assoc]⟩
  simp only [Nat.mod_mod_of_dvd _ d1] at h1
  obtain ⟨k, hk⟩ := d2
  rw [hk, Nat.add_mul_mod_self_left, Nat.mod_eq_of_lt hl] at h1
  exact h1
/-- how many whole laps lie between -/
theorem turns_of {x y M : Nat} (hM : 0 < M) (e : x % M = y % M) : (x : Int) - (y : Int) = (M : Int) * (((x : Int) - (y : Int)) / (M : Int)) := by
  have h1 : ((x : Int) - (y : Int)) % (M : Int) = 0 := by
    rw [Int.emod_eq_emod_iff_emod_sub_eq_zero.symm]
    rw [← Int.natCast_emod, ← Int.natCast_emod, e]
  have := Int.emod_add_mul_ediv ((x : Int) - (y : Int)) (M : Int)
  omega
end
/-- a row of a lane: the other walk at each step, less what the first one climbs -/
def rowR (B : List Int) (b : Int) (L : Nat) (a : Int) (lane s : Nat) : Int := walk B b (lane + L * s) - (s : Int) * a
/-- how far the first walk leads -/
def leadD (A : List Int) (a : Int) (B : List Int) (b : Int) (k : Nat) : Int := walk A a k - walk B b k
section
variable {A B : List Int} {a b : Int} {g W V : Nat}
theorem walk_int {l : List Int} {r : Int} (hl : 0 < l.length) {x y : Nat} {t : Int} (e : (x : Int) - (y : Int) = (l.length : Int) * t) : walk l r x = walk l r y + r * t := by
  by_cases h : 0 ≤ t
  · obtain ⟨n, rfl⟩ := Int.eq_ofNat_of_zero_le h
    rw [← walk_add_mul hl]
    congr 1
    have : ((y + l.length * n : Nat) : Int) = (x : Int) := by rw [Int.natCast_add, Int.natCast_mul]; omega
    omega
  · obtain ⟨n, hn⟩ := Int.eq_ofNat_of_zero_le (show 0 ≤ -t by omega)
    have et : t = -(n : Int) := by omega
    have := walk_add_mul (r := r) hl x n
    have e2 : x + l.length * n = y := by
      have : ((x + l.length * n : Nat) : Int) = (y : Int) := by
        rw [Int.natCast_add, Int.natCast_mul]
        rw [et, Int.mul_neg] at e
        omega
      omega
    rw [e2] at this
    rw [this, et, Int.mul_neg]
    omega
theorem rowR_per (h : Ln A.length B.length g W V) (lane s : Nat) : rowR B b A.length a lane (s + W) = rowR B b A.length a lane s - (a * (W : Int) - b * (V : Int)) := by
  unfold rowR
  have e : lane + A.length * (s + W) = lane + A.length * s + B.length * V := by rw [Nat.mul_add, h.lap]; omega
  rw [e, walk_add_mul h.m0, Int.natCast_add, Int.add_mul, Int.mul_comm (W : Int) a]
  omega
theorem drift_is (h : Ln A.length B.length g W V) : (a * (B.length : Int) - b * (A.length : Int)) / (g : Int) = a * (W : Int) - b * (V : Int) := by
  have e : a * (B.length : Int) - b * (A.length : Int) = (g : Int) * (a * (W : Int) - b * (V : Int)) := by
    rw [h.eM, h.eL, Int.natCast_mul, Int.natCast_mul, Int.mul_sub, Int.mul_left_comm, Int.mul_left_comm b]
  rw [e]
  exact Int.mul_ediv_cancel_left _ (by have := h.g0; omega)
/-- the lead at a step of a runner -/
theorem lead_at (h : Ln A.length B.length g W V) {at_ lane step s : Nat} {t : Int} (ha : at_ < A.length) (ht : ((lane + A.length * step : Nat) : Int) - (at_ : Int) = (B.length : Int) * t) :
    leadD A a B b (at_ + A.length * s) = (A.getD at_ 0 - (step : Int) * a + t * b) - rowR B b A.length a lane (step + s) := by
  unfold leadD rowR
  rw [walk_add_mul h.l0, walk_lt ha]
  have e : ((lane + A.length * (step + s) : Nat) : Int) - ((at_ + A.length * s : Nat) : Int) = (B.length : Int) * t := by
    rw [← ht, Nat.mul_add]
    omega
  have e2 := walk_int (r := b) h.m0 e
  rw [e2, Int.natCast_add, Int.add_mul, Int.mul_comm (s : Int) a, Int.mul_comm t b]
  omega
end
/-! ### the first step under a limit of a row that repeats with a drift -/
section
variable {f : Nat → Int} {W : Nat} {dr lim v : Int} {i : Nat}
theorem per_drift (hp : ∀ s, f (s + W) = f s - dr) (s : Nat) : ∀ u, f (s + W * u) = f s - dr * (u : Int)
  | 0 => by simp
  | u + 1 => by
    rw [Nat.mul_succ, ← Nat.add_assoc, hp, per_drift hp s u, Int.natCast_add, Int.mul_add]
    omega
theorem first_ex (lo : IsLo f i W v) (h : v < lim) : ∃ t, First f lim i t ∧ t < i + W := by
  obtain ⟨j, j1, j2, j3⟩ := lo.at_
  obtain ⟨t, ⟨t1, t2⟩, t3, t4⟩ := least_of (p := fun t => i ≤ t ∧ f t < lim) j ⟨j1, by rw [j3]; exact h⟩
  refine ⟨t, ⟨t1, t2, fun k k1 k2 => ?_⟩, by omega⟩
  refine Int.le_of_not_gt fun z => ?_
  have := t4 k ⟨k1, z⟩
  omega
theorem lapOf (hw : 0 < W) (k : Nat) : ∃ o u, k = o + W * u ∧ o < W := ⟨k % W, k / W, (Nat.mod_add_div k W).symm, Nat.mod_lt _ hw⟩
theorem lead_now (F : First f lim i (i + s)) : f (i + s) < lim ∧ ∀ s', s' < s → lim ≤ f (i + s') := ⟨F.at_, fun s' h => F.no _ (by omega) (by omega)⟩
theorem lead_later (hw : 0 < W) (hp : ∀ s, f (s + W) = f s - dr) (lo : IsLo f i W v) (hv : lim ≤ v) (hd : 0 < dr) {t : Nat} {n : Nat} (hn : (n : Int) = (v - lim) / dr + 1) (F : First f (lim + (n : Int) * dr) i (i + t)) (ht : t < W) :
    f (i + (t + W * n)) < lim ∧ ∀ s', s' < t + W * n → lim ≤ f (i + s') := by
  refine ⟨?_, fun s' hs => ?_⟩
  · rw [← Nat.add_assoc, per_drift hp]
    have := F.at_
    rw [Int.mul_comm (n : Int) dr] at this
    omega
  · obtain ⟨o, u, rfl, ho⟩ := lapOf hw s'
    rw [← Nat.add_assoc, per_drift hp]
    by_cases hu : u < n
    · have h1 := lo.le (i + o) (by omega) (by omega)
      have h2 : dr * (u : Int) ≤ dr * ((n : Int) - 1) := Int.mul_le_mul_of_nonneg_left (by omega) (by omega)
      have h3 : dr * ((v - lim) / dr) ≤ v - lim := Int.mul_ediv_self_le (by omega)
      have h4 : (n : Int) - 1 = (v - lim) / dr := by omega
      rw [h4] at h2
      omega
    · have hu2 : u = n := by
        refine Nat.le_antisymm (Nat.le_of_not_lt fun z => ?_) (by omega)
        have : W * (n + 1) ≤ W * u := Nat.mul_le_mul_left _ z
        rw [Nat.mul_succ] at this
        omega
      subst hu2
      have := F.no (i + o) (by omega) (by omega)
      rw [Int.mul_comm (u : Int) dr] at this
      omega
theorem lead_never (hw : 0 < W) (hp : ∀ s, f (s + W) = f s - dr) (lo : IsLo f i W v) (hv : lim ≤ v) (hd : dr ≤ 0) (s' : Nat) : lim ≤ f (i + s') := by
  obtain ⟨o, u, rfl, ho⟩ := lapOf hw s'
  rw [← Nat.add_assoc, per_drift hp]
  have h1 := lo.le (i + o) (by omega) (by omega)
  have h2 : dr * (u : Int) ≤ 0 * (u : Int) := Int.mul_le_mul_of_nonneg_right hd (by omega)
  omega
end
/-! ### all runners together -/
/-- the least number with P, or none -/
def LeastP (P : Nat → Prop) : Option Nat → Prop
  | some s => P s ∧ ∀ s', s' < s → ¬ P s'
  | none => ∀ s, ¬ P s
theorem least_runner {P : Nat → Prop} {L : Nat} (hL : 0 < L) {st : Nat → Option Nat} (h : ∀ at_, at_ < L → LeastP (fun s => P (at_ + L * s)) (st at_)) :
    (∀ r, (∃ at_ s, at_ < L ∧ st at_ = some s ∧ r = at_ + L * s) → (∀ at_ s, at_ < L → st at_ = some s → r ≤ at_ + L * s) → LeastP P (some r)) ∧ ((∀ at_, at_ < L → st at_ = none) → LeastP P none) := by
  refine ⟨fun r ⟨at_, s, h1, h2, h3⟩ hmin => ⟨?_, fun k hk hP => ?_⟩, fun hn k hP => ?_⟩
  · have := h at_ h1
    rw [h2] at this
    rw [h3]
    exact this.1
  · obtain ⟨o, u, rfl, ho⟩ := lapOf hL k
    have := h o ho
    cases e : st o with
    | none =>
      rw [e] at this
      exact this u hP
    | some s2 =>
      rw [e] at this
      have h4 := hmin o s2 ho e
      have h5 : u < s2 := Nat.lt_of_mul_lt_mul_left (a := L) (by omega)
      exact this.2 u h5 hP
  · obtain ⟨o, u, rfl, ho⟩ := lapOf hL k
    have := h o ho
    rw [hn o ho] at this
    exact this u hP
end NT
set_option Elab.async false
set_option linter.all false
set_option maxRecDepth 100000
set_option maxHeartbeats 4000000
namespace NF
open PySem PySem.Spec PyProof.Rows L2 He RZ NT
def RungAt (K : PySem.W.Frag) (H : Hp) (v : V) (r : Nat × List Int) : Prop := ∃ t q, v = .ref t ∧ SqT K H t [.int (r.1 : Int), .ref q] ∧ SqL K H q (vI r.2)
theorem RungAt.mono {K : PySem.W.Frag} {H H' : Hp} {v : V} {r : Nat × List Int} (h : RungAt K H v r) (s : Same H H') : RungAt K H' v r := by
  obtain ⟨t, q, e, h1, h2⟩ := h
  exact ⟨t, q, e, NF.Same.tup s h1, L2.Same.seq s h2⟩
inductive Rungs (K : PySem.W.Frag) (H : Hp) : List V → List (Nat × List Int) → Prop where
  | nil : Rungs K H [] []
  | cons {v : V} {r : Nat × List Int} {vs : List V} {L : List (Nat × List Int)} (h : RungAt K H v r) (t : Rungs K H vs L) : Rungs K H (v :: vs) (r :: L)
theorem Rungs.mono {K : PySem.W.Frag} {H H' : Hp} (s : Same H H') : ∀ {vs : List V} {L : List (Nat × List Int)}, Rungs K H vs L → Rungs K H' vs L
  | _, _, .nil => .nil
  | _, _, .cons h t => .cons (h.mono s) (Rungs.mono s t)
theorem Rungs.len {K : PySem.W.Frag} {H : Hp} : ∀ {vs : List V} {L : List (Nat × List Int)}, Rungs K H vs L → vs.length = L.length
  | _, _, .nil => rfl
  | _, _, .cons _ t => congrArg (· + 1) (Rungs.len t)
theorem Rungs.get {K : PySem.W.Frag} {H : Hp} : ∀ {vs : List V} {L : List (Nat × List Int)}, Rungs K H vs L → ∀ {i : Nat} {v : V}, vs[i]? = some v → ∃ r, L[i]? = some r ∧ RungAt K H v r
  | _, _, .cons h t, 0, v, e => by
    obtain rfl := Option.some.inj e
    exact ⟨_, rfl, h⟩
  | _, _, .cons h t, i + 1, v, e => Rungs.get t (i := i) e
/-- a ladder that stands in a list -/
def LadAt (K : PySem.W.Frag) (H : Hp) (p : Addr) (L : List (Nat × List Int)) : Prop := ∃ vs, SqL K H p vs ∧ Rungs K H vs L
theorem LadAt.mono {K : PySem.W.Frag} {H H' : Hp} {p : Addr} {L : List (Nat × List Int)} (h : LadAt K H p L) (s : Same H H') : LadAt K H' p L := by
  obtain ⟨vs, h1, h2⟩ := h
  exact ⟨vs, L2.Same.seq s h1, h2.mono s⟩
theorem at_first {vs : List V} {v : V} : atI (v :: vs) 0 = some v := by
  have e : (v :: vs)[0]? = some v := rfl
  have := atI_nat e
  exact this
theorem at_lastV {vs : List V} {v : V} : atI (vs ++ [v]) (-1) = some v := by
  unfold atI ixN
  rw [if_neg (by decide), List.length_append, if_pos (by show -(((vs.length + 1 : Nat)) : Int) ≤ -1; omega)]
  show (vs ++ [v])[((-1 : Int) + ((vs.length + 1 : Nat) : Int)).toNat]? = _
  rw [show ((-1 : Int) + ((vs.length + 1 : Nat) : Int)).toNat = vs.length by omega, List.getElem?_append_right (Nat.le_refl _)]
  simp
end NF
namespace NT
theorem under_drop {lim : Int} {a : Nat} {L : List (Nat × List Int)} {i : Nat} {r : Nat × List Int} (h : L[i]? = some r) : under lim a (L.drop i) = under lim (if a < r.2.length ∧ lim ≤ r.2.getD a 0 then a + r.1 else a) (L.drop (i + 1)) := by
  have hi := (List.getElem?_eq_some_iff.mp h).1
  have e : L.drop i = r :: L.drop (i + 1) := by
    rw [List.drop_eq_getElem_cons hi]
    rw [List.getElem?_eq_getElem hi] at h
    rw [Option.some.inj h]
  rw [e]
  rfl
theorem underB_drop {lim : Int} {s a : Nat} {L : List (Nat × List Int)} {i : Nat} {r : Nat × List Int} (h : L[i]? = some r) : underB lim s a (L.drop i) = underB lim s (if s + r.1 ≤ a ∧ lim ≤ r.2.getD (a - r.1) 0 then a - r.1 else a) (L.drop (i + 1)) := by
  have hi := (List.getElem?_eq_some_iff.mp h).1
  have e : L.drop i = r :: L.drop (i + 1) := by
    rw [List.drop_eq_getElem_cons hi]
    rw [List.getElem?_eq_getElem hi] at h
    rw [Option.some.inj h]
  rw [e]
  rfl
end NT
namespace K09
open PySem PySem.Spec PyProof.Rows L2 He NF RZ NT
def spLeast (K : PySem.W.Frag) : Sp := fun vs H Q _ => ∃ (p : Addr) (w : Nat) (m : List Int) (L : List (Nat × List Int)) (s W : Nat), vs = [.ref p, .int (s : Int), .int (W : Int)] ∧ LadAt K H p ((w, m) :: L) ∧ s < m.length ∧ w ≤ W ∧ s + (W - w) < m.length ∧ Q (.int (mn (m.getD s 0) (m.getD (s + (W - w)) 0))) H
def spFirstU (K : PySem.W.Frag) : Sp := fun vs H Q _ => ∃ (p : Addr) (L : List (Nat × List Int)) (s : Nat) (lim : Int), vs = [.ref p, .int (s : Int), .int lim] ∧ LadAt K H p L ∧ Q (.int ((under lim s L : Nat) : Int)) H
def spLastU (K : PySem.W.Frag) : Sp := fun vs H Q _ => ∃ (p : Addr) (L : List (Nat × List Int)) (s W : Nat) (lim : Int), vs = [.ref p, .int (s : Int), .int (W : Int), .int lim] ∧ LadAt K H p L ∧ (∀ r ∈ L, s + W < r.2.length + r.1) ∧ (∀ r ∈ L, 0 < r.1) ∧ Q (.int (((underB lim s (s + W) L : Nat) : Int) - 1)) H
theorem sc_least_in : FnScope ["ladder", "start", "window", "width", "least"] ["ladder", "start", "window"] (defScope s_least_in) := ⟨rfl, rfl, rfl, by decide +kernel, rfl, by decide +kernel, by decide +kernel⟩
theorem sc_first_under : FnScope ["ladder", "start", "limit", "at", "width", "least"] ["ladder", "start", "limit"] (defScope s_first_under) := ⟨rfl, rfl, rfl, by decide +kernel, rfl, by decide +kernel, by decide +kernel⟩
theorem sc_last_under : FnScope ["ladder", "start", "window", "limit", "behind", "width", "least"] ["ladder", "start", "window", "limit"] (defScope s_last_under) := ⟨rfl, rfl, rfl, by decide +kernel, rfl, by decide +kernel, by decide +kernel⟩
section
variable {P : Program} {w : World} {K : PySem.W.Frag} {mg : Str → Option Value} {base : Heap} {gs fs : List Str} {C : Addr}
theorem ok_least_in {f : Addr} {fd : FuncData} (F : FunD K "least_in" "least_in" (defArgs s_least_in) (defBody s_least_in) (defScope s_least_in) [] [] f fd) (T : Txt K mg gs FS) : FnOk P w K mg base CX0 1 f fd ["ladder", "start", "window"] (spLeast K) := by
  refine F.ok sc_least_in (fun vs H Q E h => ?_) (fun cdv A outer s H vs Q E hr h => ?_)
  · obtain ⟨p, w, m, L, s, W, rfl, _⟩ := h
    rfl
  · obtain ⟨p, wd, m, L, s0, W, rfl, ⟨vs, hp, hr2⟩, h1, h2, h3, q⟩ := h
    cases hr2 with
    | cons h t =>
      obtain ⟨t, q1, rfl, ht, hq⟩ := h
      refine ⟨_, PSs.nox (pss_cons (ps_asg (pe_ix (ixl (K := K)) (pv 0) pe_int fun _ _ => rfl) (pgt (K := K) (n := 2) rfl rfl (pgs_cons (pg_name (i := 3) sc_least_in.nd rfl (Or.inl rfl)) (pgs_cons (pg_name (i := 4) sc_least_in.nd rfl (Or.inl rfl)) pgs_nil)))) (pss_one (ps_ret (pe_callB (call_min2 rfl) rfl (T.fr _ (by decide +kernel)) (by decide +kernel) (pa_cons (pe_ix (ixl (K := K)) (pv 4) (pv 1) fun _ _ => rfl) (pa_cons (pe_ix (ixl (K := K)) (pv 4) (pe_op op_sub (pe_op op_add (pv 1) (pv 2)) (pv 3)) fun _ _ => rfl) pa_nil)))))), ?_⟩
      refine ⟨_, rfl, p, _, _, _, rfl, rfl, hp, at_first, ?_⟩
      refine ⟨t, _, rfl, ht, rfl, _, _, rfl, ?_⟩
      refine ⟨_, _, rfl, ?_⟩
      refine ⟨rfl, ?_⟩
      have e : (s0 : Int) + (W : Int) - (wd : Int) = ((s0 + (W - wd) : Nat) : Int) := by omega
      refine ⟨_, rfl, _, rfl, q1, _, _, _, rfl, rfl, hq, at_int rfl h1, _, rfl, _, rfl, _, rfl, _, _, rfl, rfl, _, rfl, _, _, rfl, rfl, q1, _, _, _, rfl, rfl, hq, at_int e h3, _, _, rfl, ?_⟩
      exact q
theorem ok_first_under {f : Addr} {fd : FuncData} (F : FunD K "first_under" "first_under" (defArgs s_first_under) (defBody s_first_under) (defScope s_first_under) [] [] f fd) (T : Txt K mg gs FS) : FnOk P w K mg base CX0 1 f fd ["ladder", "start", "limit"] (spFirstU K) := by
  refine F.ok sc_first_under (fun vs H Q E h => ?_) (fun cdv A outer s H vs Q E hr h => ?_)
  · obtain ⟨p, L, s, lim, rfl, _⟩ := h
    rfl
  · obtain ⟨p, L, s0, lim, rfl, ⟨vs, hp, hr2⟩, q⟩ := h
    refine ⟨_, PSs.nox (pss_cons (ps_set (i := 3) sc_first_under.nd rfl (Or.inl rfl) (pv 1)) (pss_cons (ps_for PassesOwn.never rfl (pi_list (pv 0)) (pgt (K := K) (n := 2) rfl rfl (pgs_cons (pg_name (i := 4) sc_first_under.nd rfl (Or.inl rfl)) (pgs_cons (pg_name (i := 5) sc_first_under.nd rfl (Or.inl rfl)) pgs_nil))) (pss_one (ps_if (PW.pt (pw_and (pt_cmpR op_lt (pv 3) (pe_callB call_len_seq rfl (T.fr _ (by decide +kernel)) boot_len (pa_cons (pv 5) pa_nil)) (nomark _)) (pw_and1 (pt_cmpR op_ge (pe_ix (ixl (K := K)) (pv 5) (pv 3) fun _ _ => rfl) (pv 2) (nomark _))))) (pss_one (ps_set (i := 3) sc_first_under.nd rfl (Or.inl rfl) (pe_op op_add (pv 3) (pv 4)))) pss_nil))) (pss_one (ps_ret (pv 3))))), ?_⟩
    refine ⟨_, rfl, _, rfl, p, rfl, ⟨_, hp⟩, ?_⟩
    refine for_it (walk_list (xs := vs)) (fun i σ G => G = H ∧ ∃ (a : Nat) (v1 v2 : Option V), under lim s0 L = under lim a (L.drop i) ∧ σ = [some (.ref p), some (.int (s0 : Int)), some (.int lim), some (.int (a : Int)), v1, v2]) ⟨rfl, s0, none, none, rfl, rfl⟩ (fun i σ G _ z => z.1 ▸ hp) ?_ ?_
    · rintro i x σ G G' hi ⟨rfl, a, v1, v2, e, rfl⟩ ⟨rfl, hx⟩
      obtain ⟨⟨wd, m⟩, hL, t, q1, rfl, ht, hq⟩ := hr2.get hx
      rw [under_drop hL] at e
      dsimp only at ht hq e
      refine ⟨t, _, rfl, ht, rfl, _, _, rfl, ?_⟩
      refine ⟨_, _, rfl, ?_⟩
      refine ⟨rfl, ?_⟩
      refine ⟨_, rfl, _, rfl, q1, _, rfl, Or.inl hq, ?_⟩
      rw [vI_len]
      refine ⟨_, _, rfl, rfl, _, rfl, ?_⟩
      by_cases c : a < m.length
      · refine iteT' (decide_eq_true (by omega)) ?_
        refine ⟨_, rfl, _, rfl, q1, _, _, _, rfl, rfl, hq, at_int rfl c, _, rfl, _, _, rfl, rfl, _, rfl, ite2 (fun h1 => ?_) (fun h1 => ?_)⟩
        · have h2 : lim ≤ m.getD a 0 := of_decide_eq_true h1
          rw [if_pos ⟨c, h2⟩] at e
          exact ⟨_, rfl, _, rfl, _, _, rfl, rfl, rfl, a + wd, _, _, e, rfl⟩
        · have h2 : ¬ lim ≤ m.getD a 0 := fun z => h1 (decide_eq_true z)
          rw [if_neg fun z => h2 z.2] at e
          exact ⟨rfl, a, _, _, e, rfl⟩
      · refine iteF' (decide_eq_false (by omega)) ?_
        rw [if_neg fun z => c z.1] at e
        exact iteF ⟨rfl, a, _, _, e, rfl⟩
    · rintro σ G ⟨rfl, a, v1, v2, e, rfl⟩
      rw [hr2.len, List.drop_length] at e
      refine ⟨_, rfl, ?_⟩
      have e2 : under lim s0 L = a := e
      rw [e2] at q
      exact q
theorem ok_last_under {f : Addr} {fd : FuncData} (F : FunD K "last_under" "last_under" (defArgs s_last_under) (defBody s_last_under) (defScope s_last_under) [] [] f fd) (T : Txt K mg gs FS) : FnOk P w K mg base CX0 1 f fd ["ladder", "start", "window", "limit"] (spLastU K) := by
  refine F.ok sc_last_under (fun vs H Q E h => ?_) (fun cdv A outer s H vs Q E hr h => ?_)
  · obtain ⟨p, L, s, W, lim, rfl, _⟩ := h
    rfl
  · obtain ⟨p, L, s0, W, lim, rfl, ⟨vs, hp, hr2⟩, hb, hw, q⟩ := h
    refine ⟨_, PSs.nox (pss_cons (ps_set (i := 4) sc_last_under.nd rfl (Or.inl rfl) (pe_op op_add (pv 1) (pv 2))) (pss_cons (ps_for PassesOwn.never rfl (pi_list (pv 0)) (pgt (K := K) (n := 2) rfl rfl (pgs_cons (pg_name (i := 5) sc_last_under.nd rfl (Or.inl rfl)) (pgs_cons (pg_name (i := 6) sc_last_under.nd rfl (Or.inl rfl)) pgs_nil))) (pss_one (ps_if (PW.pt (pw_and (pt_cmpR op_ge (pe_op op_sub (pv 4) (pv 5)) (pv 1) (nomark _)) (pw_and1 (pt_cmpR op_ge (pe_ix (ixl (K := K)) (pv 6) (pe_op op_sub (pv 4) (pv 5)) fun _ _ => rfl) (pv 3) (nomark _))))) (pss_one (ps_set (i := 4) sc_last_under.nd rfl (Or.inl rfl) (pe_op op_sub (pv 4) (pv 5)))) pss_nil))) (pss_one (ps_ret (pe_op op_sub (pv 4) pe_int))))), ?_⟩
    refine ⟨_, rfl, _, rfl, _, _, rfl, rfl, _, rfl, p, rfl, ⟨_, hp⟩, ?_⟩
    refine for_it (walk_list (xs := vs)) (fun i σ G => G = H ∧ ∃ (a : Nat) (v1 v2 : Option V), a ≤ s0 + W ∧ underB lim s0 (s0 + W) L = underB lim s0 a (L.drop i) ∧ σ = [some (.ref p), some (.int (s0 : Int)), some (.int (W : Int)), some (.int lim), some (.int (a : Int)), v1, v2]) ⟨rfl, s0 + W, none, none, Nat.le_refl _, rfl, rfl⟩ (fun i σ G _ z => z.1 ▸ hp) ?_ ?_
    · rintro i x σ G G' hi ⟨rfl, a, v1, v2, ha, e, rfl⟩ ⟨rfl, hx⟩
      obtain ⟨⟨wd, m⟩, hL, t, q1, rfl, ht, hq⟩ := hr2.get hx
      have hm := List.mem_of_getElem? hL
      have b1 := hb _ hm
      have b2 := hw _ hm
      dsimp only at b1 b2
      rw [underB_drop hL] at e
      dsimp only at ht hq e
      refine ⟨t, _, rfl, ht, rfl, _, _, rfl, ?_⟩
      refine ⟨_, _, rfl, ?_⟩
      refine ⟨rfl, ?_⟩
      refine ⟨_, rfl, _, rfl, _, _, rfl, rfl, _, rfl, _, _, rfl, rfl, _, rfl, ?_⟩
      by_cases c : s0 + wd ≤ a
      · have ei : (a : Int) - (wd : Int) = ((a - wd : Nat) : Int) := by omega
        refine iteT' (decide_eq_true (by omega)) ?_
        refine ⟨_, rfl, _, rfl, _, rfl, _, _, rfl, rfl, q1, _, _, _, rfl, rfl, hq, at_int ei (by omega), _, rfl, _, _, rfl, rfl, _, rfl, ite2 (fun h1 => ?_) (fun h1 => ?_)⟩
        · have h2 : lim ≤ m.getD (a - wd) 0 := of_decide_eq_true h1
          rw [if_pos ⟨c, h2⟩] at e
          refine ⟨_, rfl, _, rfl, _, _, rfl, rfl, ?_⟩
          show gName 4 (V.int ((a : Int) - (wd : Int))) _ _ _
          rw [ei]
          exact ⟨rfl, a - wd, _, _, by omega, e, rfl⟩
        · have h2 : ¬ lim ≤ m.getD (a - wd) 0 := fun z => h1 (decide_eq_true z)
          rw [if_neg fun z => h2 z.2] at e
          exact ⟨rfl, a, _, _, ha, e, rfl⟩
      · refine iteF' (decide_eq_false (by omega)) ?_
        rw [if_neg fun z => c z.1] at e
        exact iteF ⟨rfl, a, _, _, ha, e, rfl⟩
    · rintro σ G ⟨rfl, a, v1, v2, ha, e, rfl⟩
      rw [hr2.len, List.drop_length] at e
      refine ⟨_, rfl, _, _, rfl, rfl, ?_⟩
      have e2 : underB lim s0 (s0 + W) L = a := e
      rw [e2] at q
      exact q
end
end K09
set_option Elab.async false
set_option linter.all false
set_option maxRecDepth 100000
set_option maxHeartbeats 4000000
namespace K09
open PySem PySem.Spec PyProof.Rows L2 He NF RZ NT
def spLadder (K : PySem.W.Frag) : Sp := fun vs H Q _ => ∃ (a : Addr) (row : List Int) (W : Nat), vs = [.ref a, .int (W : Int)] ∧ SqL K H a (vI row) ∧ 0 < W ∧ W ≤ row.length ∧ row.length ≤ 100000 ∧
  ∀ p L w H', Lad (fun i => row.getD i 0) row.length w L → w ≤ W → W < 2 * w → Same H H' → H p = none → LadAt K H' p L → Q (.ref p) H'
theorem wo_new {X : Hp} {D : Addr} {o : HO} (h : X D = none) : Same X (NF.wo (upd X D o) D) := fun b u e => by
  have n := ne_of_none e h
  rw [wo_ne n, upd_ne n]
  exact e
theorem wo_put {G G' : Hp} {D : Addr} {o : HO} (s : Same G G') : Same (NF.wo G D) (NF.wo (upd G' D o) D) := fun b u e => by
  by_cases n : b = D
  · subst n
    rw [wo_none] at e
    cases e
  · rw [wo_ne n] at e
    rw [wo_ne n, upd_ne n]
    exact s b u e
theorem sc_ladder_of : FnScope ["row", "window", "width", "rungs", "lesser", "a", "b"] ["row", "window"] (defScope s_ladder_of) := ⟨rfl, rfl, rfl, by decide +kernel, rfl, by decide +kernel, by decide +kernel⟩
section
variable {P : Program} {w : World} {K : PySem.W.Frag} {mg : Str → Option Value} {base : Heap} {gs fs : List Str} {C : Addr}
theorem ok_ladder_of {f : Addr} {fd : FuncData} (F : FunD K "ladder_of" "ladder_of" (defArgs s_ladder_of) (defBody s_ladder_of) (defScope s_ladder_of) [] [] f fd) (T : Txt K mg gs FS) : FnOk P w K mg base CX0 1 f fd ["row", "window"] (spLadder K) := by
  refine F.ok sc_ladder_of (fun vs H Q E h => ?_) (fun cdv A outer s H vs Q E hr h => ?_)
  · obtain ⟨a, row, W, rfl, _⟩ := h
    rfl
  · obtain ⟨a, row, W, rfl, ha, W0, W1, rl, q⟩ := h
    refine ⟨_, PSs.nox (pss_cons (ps_set (i := 2) sc_ladder_of.nd rfl (Or.inl rfl) pe_int) (pss_cons (ps_set (i := 3) sc_ladder_of.nd rfl (Or.inl rfl) (pe_lst (pa_cons (pe_tup (pa_cons pe_int (pa_cons (pv 0) pa_nil))) pa_nil))) (pss_cons (ps_while PassesOwn.never (pt_cmpR op_le (pe_op op_mul pe_int (pv 2)) (pv 1) (nomark _)) (pss_cons (ps_set (i := 4) sc_ladder_of.nd rfl (Or.inl rfl) (pe_ix (ixt (K := K)) (pe_ix (ixl (K := K)) (pv 3) (pe_un un_neg pe_int) fun _ _ => rfl) pe_int fun _ _ => rfl)) (pss_cons (ps_expr (pe_bm PySem.F.plainAttrs_list PySem.F.slot_list_append PySem.F.type_list_append mt_append (pv 3) (pa_cons (pe_tup (pa_cons (pe_op op_mul pe_int (pv 2)) (pa_cons (pe_lc (own := [("a", 5), ("b", 6)]) rfl sc_ladder_of.nd (pi_zipA rfl (T.fr _ (by decide +kernel)) (pa_cons (pv 4) (pa_cons (pe_slice sl_list (pv 4) (po_some (pv 2)) po_none) pa_nil))) (blkOk_by (N := ["row", "window", "width", "rungs", "lesser", "a", "b"]) (sc := defScope s_ladder_of) (by decide +kernel)) (fun _ _ _ _ _ => by exact (pgt (K := K) (n := 2) rfl rfl (pgs_cons (pg_name (i := 5) sc_ladder_of.nd rfl (Or.inl rfl)) (pgs_cons (pg_name (i := 6) sc_ladder_of.nd rfl (Or.inl rfl)) pgs_nil)))) (fun _ _ _ _ _ => by exact pts_nil) (fun _ _ _ _ _ => by exact (pe_callB (call_min2 rfl) rfl (T.fr _ (by decide +kernel)) (by decide +kernel) (pa_cons (pv 5) (pa_cons (pv 6) pa_nil))))) pa_nil))) pa_nil))) (pss_one (ps_set (i := 2) sc_ladder_of.nd rfl (Or.inl rfl) (pe_op op_mul pe_int (pv 2))))))) (pss_one (ps_ret (pe_revL (pv 3))))))), ?_⟩
    refine ⟨_, rfl, (by show 2 ≤ sizeLine; decide), fun t1 ht1 => ?_⟩
    have s1 := NF.Same.new (o := .tup [V.int 1, V.ref a]) (Same.refl H) ht1
    refine ⟨(by show 1 ≤ sizeLine; decide), fun D hD => ?_⟩
    have s2 := NF.Same.new (o := .lst [V.ref t1]) s1 hD
    have hDH : H D = none := L2.Same.free s1 hD
    have r1 : RungAt K (NF.wo (upd (upd H t1 (.tup [V.int 1, V.ref a])) D (.lst [V.ref t1])) D) (.ref t1) (1, row) := ⟨t1, a, rfl, NF.Same.tup (wo_new hD) (SqT.of upd_same), L2.Same.seq (wo_new hD) (L2.Same.seq s1 ha)⟩
    refine ⟨fun k σ G => Same H G ∧ ∃ (wd : Nat) (L : List (Nat × List Int)) (vs0 : List V) (v4 : Option V), k = W + 1 - wd ∧ G D = some (.lst vs0.reverse) ∧ Rungs K (NF.wo G D) vs0 L ∧ Lad (fun i => row.getD i 0) row.length wd L ∧ wd ≤ W ∧ vs0.length ≤ wd ∧ σ = [some (.ref a), some (.int (W : Int)), some (.int (wd : Int)), some (.ref D), v4, none, none],
      ⟨W, s2, 1, [(1, row)], [.ref t1], none, rfl, upd_same, .cons r1 .nil, .one (Rung.base (by omega) fun i _ => rfl), by omega, Nat.le_refl _, rfl⟩, ?_⟩
    rintro k σ G ⟨sG, wd, L, vs0, v4, rfl, hG, hR, hL, hwW, hvl, rfl⟩
    obtain ⟨m, L', rfl, hm⟩ := hL.head
    have w0 := hm.w0
    have ml := hm.len
    cases hR with
    | @cons v _ vs' _ hv hR' =>
    obtain ⟨t, q1, rfl, ht, hq⟩ := id (hv.mono wo_same')
    dsimp only at ht hq
    rw [List.reverse_cons] at hG
    refine ⟨_, rfl, _, _, rfl, rfl, Or.inr ⟨by omega, by omega⟩, _, rfl, _, _, rfl, rfl, _, rfl, ite2 (fun h1 => ?_) (fun h1 => ?_)⟩
    · have h2 : 2 * wd ≤ W := by
        have := of_decide_eq_true h1
        omega
      refine ⟨fun σ' G' => Same H G' ∧ ∃ (vs0 : List V) (v4 : Option V), G' D = some (.lst vs0.reverse) ∧ Rungs K (NF.wo G' D) vs0 ((2 * wd, nextRow m wd) :: (wd, m) :: L') ∧ vs0.length ≤ 2 * wd ∧ σ' = [some (.ref a), some (.int (W : Int)), some (.int ((2 * wd : Nat) : Int)), some (.ref D), v4, none, none], fun σ' G' z => ?_, ?_⟩
      · obtain ⟨z1, vs1, v5, z2, z3, z4, rfl⟩ := z
        exact ⟨W + 1 - 2 * wd, by omega, z1, 2 * wd, _, vs1, v5, rfl, z2, z3, .two (hm.next (by omega)) hL, h2, z4, rfl⟩
      refine ⟨_, rfl, _, rfl, D, _, _, _, rfl, rfl, SqL.of hG, at_lastV, t, _, _, _, rfl, rfl, ht, rfl, ?_⟩
      refine ⟨_, rfl, .inl ⟨rfl, _, SqL.of hG⟩, _, rfl, _, _, rfl, rfl, Or.inr ⟨by omega, by omega⟩, ?_⟩
      refine ⟨_, rfl, _, rfl, _, rfl, _, rfl, q1, _, rfl, hq, fun p2 hp2 => ?_⟩
      rw [cut_from, vI_drop]
      have s3 := NF.Same.new (o := .lst (vI (m.drop wd))) (Same.refl G) hp2
      refine ⟨q1, p2, _, _, rfl, .inl ⟨L2.Same.seq s3 hq, SqL.of upd_same, fun D2 hD2 => ?_⟩⟩
      generalize hG2 : upd G p2 (.lst (vI (m.drop wd))) = G2 at s3 hD2
      have hp2' : G2 p2 = some (.lst (vI (m.drop wd))) := by rw [← hG2]; exact upd_same
      have nl : (nextRow m wd).length = (m.drop wd).length := by
        unfold nextRow
        rw [List.length_zipWith, List.length_drop]
        omega
      refine lc_it (walk_zip (xs := vI m) (ys := vI (m.drop wd)) (n := (m.drop wd).length) (by rw [vI_len, vI_len, List.length_drop]; omega)) (fun j G' => Same G2 G' ∧ G' D2 = some (.lst (vI ((nextRow m wd).take j)))) ⟨NF.Same.new (Same.refl G2) hD2, upd_same⟩ (fun j G' _ z => ⟨L2.Same.seq (Same.trans s3 z.1) hq, L2.Same.seq z.1 (SqL.of hp2')⟩) ?_ ?_
      · rintro j x G' G'' hj ⟨sG', hG'⟩ ⟨U, x1, y1, rfl, hU, rfl, hx, hy⟩
        rw [List.length_drop] at hj
        have hj1 : j < m.length := by omega
        have hj2 : wd + j < m.length := by omega
        obtain rfl : V.int (m.getD j 0) = x1 := by
          have hx : (vI m)[j]? = some x1 := hx
          rw [List.getElem?_map, List.getElem?_eq_getElem hj1] at hx
          rw [List.getD_eq_getElem?_getD, List.getElem?_eq_getElem hj1]
          exact Option.some.inj hx
        obtain rfl : V.int (m.getD (wd + j) 0) = y1 := by
          have hy : (vI (m.drop wd))[j]? = some y1 := hy
          rw [List.getElem?_map, List.getElem?_drop, List.getElem?_eq_getElem hj2] at hy
          rw [List.getD_eq_getElem?_getD, List.getElem?_eq_getElem hj2]
          exact Option.some.inj hy
        have en : (nextRow m wd)[j]? = some (mn (m.getD j 0) (m.getD (wd + j) 0)) := by
          unfold nextRow
          rw [List.getElem?_zipWith, List.getElem?_drop, List.getElem?_eq_getElem hj1, List.getElem?_eq_getElem hj2, List.getD_eq_getElem?_getD, List.getD_eq_getElem?_getD, List.getElem?_eq_getElem hj1, List.getElem?_eq_getElem hj2]
          rfl
        refine ⟨U, _, rfl, SqT.of upd_same, rfl, _, _, rfl, _, _, rfl, rfl, rfl, ?_⟩
        refine ⟨_, rfl, _, rfl, _, _, rfl, vI ((nextRow m wd).take j), ?_, ?_, ?_, ?_⟩
        · rw [upd_ne (ne_of_none hG' hU)]
          exact hG'
        · rw [vI_len, List.length_take]
          exact Nat.lt_of_le_of_lt (show min j (nextRow m wd).length ≤ 100000 by omega) (by decide)
        · exact NF.Same.mut (NF.Same.new sG' hU) hD2
        · rw [upd_same, List.take_add_one, en, ← vI_app]
          rfl
      · rintro G' ⟨sG', hG'⟩
        rw [List.take_of_length_le (by omega)] at hG'
        have sGG' : Same G G' := Same.trans s3 sG'
        refine ⟨(by show 2 ≤ sizeLine; decide), fun t2 ht2 => ?_⟩
        have s4 : Same G (upd G' t2 (.tup [V.int (2 * (wd : Int)), V.ref D2])) := NF.Same.new sGG' ht2
        refine ⟨D, _, _, rfl, rfl, s4 _ _ hG, ?_, ?_⟩
        · rw [List.length_append, List.length_reverse]
          simp only [List.length_cons, List.length_nil] at hvl ⊢
          exact Nat.lt_of_le_of_lt (show vs'.length + (0 + 1) ≤ 100000 by omega) (by decide)
        have nt2 : t2 ≠ D := Ne.symm (ne_of_none (sGG' _ _ hG) ht2)
        have nD2 : D2 ≠ D := Ne.symm (ne_of_none (s3 _ _ hG) hD2)
        refine ⟨_, rfl, _, _, rfl, rfl, Or.inr ⟨by omega, by omega⟩, NF.Same.mut (Same.trans sG s4) hDH, .ref t2 :: .ref t :: vs', _, ?_, .cons ⟨t2, D2, rfl, SqT.of ?_, SqL.of ?_⟩ ((Rungs.cons hv hR').mono (wo_put s4)), ?_, rfl⟩
        · rw [upd_same, List.reverse_cons, List.reverse_cons]
        · rw [wo_ne nt2, upd_ne nt2, upd_same]
          rfl
        · rw [wo_ne nD2, upd_ne nD2, upd_ne (ne_of_none hG' ht2)]
          exact hG'
        · simp only [List.length_cons] at hvl ⊢
          omega
    · have h2 : W < 2 * wd := by
        have : ¬ (2 * (wd : Int) ≤ (W : Int)) := fun z => h1 (decide_eq_true z)
        omega
      refine ⟨_, rfl, D, _, rfl, SqL.of hG, fun p hp => ?_⟩
      have s5 := NF.Same.new (o := .lst (vs'.reverse ++ [V.ref t]).reverse) (Same.refl G) hp
      have er : (vs'.reverse ++ [V.ref t]).reverse = V.ref t :: vs' := by rw [List.reverse_append, List.reverse_reverse]; rfl
      refine q p _ wd _ hL hwW h2 (Same.trans sG s5) (L2.Same.free sG hp) ⟨V.ref t :: vs', SqL.of (upd_same.trans (congrArg (fun z => some (HO.lst z)) er)), ?_⟩
      exact .cons ⟨t, q1, rfl, NF.Same.tup s5 ht, L2.Same.seq s5 hq⟩ ((hR'.mono wo_same').mono s5)
end
end K09
set_option Elab.async false
set_option linter.all false
set_option maxRecDepth 100000
set_option maxHeartbeats 4000000
namespace NT
theorem IsLo.congr {f g : Nat → Int} {i w n : Nat} {v : Int} (h : IsLo f i w v) (e : ∀ j, j < n → f j = g j) (hn : i + w ≤ n) : IsLo g i w v := by
  obtain ⟨h1, j, j1, j2, j3⟩ := h
  exact ⟨fun j a b => by rw [← e j (by omega)]; exact h1 j a b, j, j1, j2, by rw [← e j (by omega)]; exact j3⟩
theorem Rung.congr {f g : Nat → Int} {n w : Nat} {m : List Int} (h : Rung f n w m) (e : ∀ j, j < n → f j = g j) : Rung g n w m :=
  ⟨h.w0, h.wn, h.len, fun i hi => (h.lo i hi).congr e hi⟩
theorem Lad.congr {f g : Nat → Int} {n w : Nat} {L : List (Nat × List Int)} (h : Lad f n w L) (e : ∀ j, j < n → f j = g j) : Lad g n w L := by
  induction h with
  | one h => exact .one (h.congr e)
  | two h _ ih => exact .two (h.congr e) ih
end NT
namespace K09
open PySem PySem.Spec PyProof.Rows L2 He NF RZ NT
structure ChC (K : PySem.W.Frag) (C : Addr) : Prop where
  cl : Cls K C
  st : NoAttr K C "start"
  lp : NoAttr K C "lap"
  wi : NoAttr K C "window"
  dr : NoAttr K C "drift"
  ls : NoAttr K C "ladders"
  ru : NoAttr K C "runners"
def spLadFrom (K : PySem.W.Frag) (C : Addr) : Sp := fun vs H Q _ => ∃ (x dx o : Addr) (fs : List (Str × V)) (lane lap W : Nat) (B : List Int) (a b : Int), vs = [.ref x, .int (lane : Int), .ref o, .int a, .int b] ∧ H x = some (.ins C dx fs) ∧ fs.lookup ("lap" : Str) = some (.int (lap : Int)) ∧ fs.lookup ("window" : Str) = some (.int (W : Int)) ∧
  SqL K H o (vI B) ∧ B ≠ [] ∧ 0 < W ∧ W ≤ 1000 ∧ lap ≤ 1000 ∧ lane ≤ 1000 ∧ B.length ≤ 1000 ∧ -1000000 ≤ a ∧ a ≤ 1000000 ∧ -1000000 ≤ b ∧ b ≤ 1000000 ∧
  ∀ p L w H', Lad (rowR B b lap a lane) (2 * W) w L → w ≤ W → W < 2 * w → Same H H' → H p = none → LadAt K H' p L → Q (.ref p) H'
def spPlaceOf (K : PySem.W.Frag) (C : Addr) : Sp := fun vs H Q _ => ∃ (x dx : Addr) (fs : List (Str × V)) (st at_ s lap : Int), vs = [.ref x, .int at_, .int s] ∧ H x = some (.ins C dx fs) ∧ fs.lookup ("start" : Str) = some (.int st) ∧ fs.lookup ("lap" : Str) = some (.int lap) ∧ 0 ≤ lap ∧ lap ≤ 1000000 ∧ Q (.int (st + 1 + at_ + s * lap)) H
theorem sc_Chase_ladder_from : FnScope ["self", "lane", "other", "climb", "climb_other", "row", "step", "turn", "at"] ["self", "lane", "other", "climb", "climb_other"] (defScope s_Chase_ladder_from) := ⟨rfl, rfl, rfl, by decide +kernel, rfl, by decide +kernel, by decide +kernel⟩
theorem sc_Chase_place_of : FnScope ["self", "at", "steps"] ["self", "at", "steps"] (defScope s_Chase_place_of) := ⟨rfl, rfl, rfl, by decide +kernel, rfl, by decide +kernel, by decide +kernel⟩
section
variable {P : Program} {w : World} {K : PySem.W.Frag} {mg : Str → Option Value} {base : Heap} {gs fs : List Str} {C : Addr}
theorem ok_Chase_place_of {f : Addr} {fd : FuncData} (F : FunD K "place_of" "Chase.place_of" (defArgs s_Chase_place_of) (defBody s_Chase_place_of) (defScope s_Chase_place_of) [] [] f fd) (T : Txt K mg gs FS) (hc : ChC K C) : FnOk P w K mg base CX0 1 f fd ["self", "at", "steps"] (spPlaceOf K C) := by
  refine F.ok sc_Chase_place_of (fun vs H Q E h => ?_) (fun cdv A outer s H vs Q E hr h => ?_)
  · obtain ⟨x, dx, fs, st, at_, s, lap, rfl, _⟩ := h
    rfl
  · obtain ⟨x, dx, fs, st, at_, s0, lap, rfl, hx, e1, e2, l0, l1, q⟩ := h
    refine ⟨_, PSs.nox (pss_one (ps_ret (pe_op op_add (pe_op op_add (pe_op op_add (pe_fld (pv 0) rfl) pe_int) (pv 1)) (pe_op op_mul (pv 2) (pe_fld (pv 0) rfl))))), ?_⟩
    exact ⟨_, rfl, x, C, dx, _, _, rfl, hx, hc.cl, hc.st, e1, _, _, rfl, rfl, _, rfl, _, _, rfl, rfl, _, rfl, _, rfl, x, C, dx, _, _, rfl, hx, hc.cl, hc.lp, e2, _, _, rfl, rfl, Or.inr ⟨by omega, by omega⟩, _, _, rfl, rfl, q⟩
theorem ok_Chase_ladder_from {f : Addr} {fd : FuncData} (F : FunD K "ladder_from" "Chase.ladder_from" (defArgs s_Chase_ladder_from) (defBody s_Chase_ladder_from) (defScope s_Chase_ladder_from) [] [] f fd) (T : Txt K mg gs FS) (hc : ChC K C) (c_ladder_of : Cal P w K mg base 1 "ladder_of" (spLadder K)) : FnOk P w K mg base CX0 2 f fd ["self", "lane", "other", "climb", "climb_other"] (spLadFrom K C) := by
  refine F.ok sc_Chase_ladder_from (fun vs H Q E h => ?_) (fun cdv A outer s H vs Q E hr h => ?_)
  · obtain ⟨x, dx, o, fs, lane, lap, W, B, a, b, rfl, _⟩ := h
    rfl
  · obtain ⟨x, dx, o, fs, lane, lap, W, B, a, b, rfl, hx, e1, e2, ho, hB, W0, W1, lap1, lane1, bl, a0, a1, b0, b1, q⟩ := h
    have l0 := len_pos hB
    refine ⟨_, PSs.nox (pss_cons (ps_set (i := 5) sc_Chase_ladder_from.nd rfl (Or.inl rfl) (pe_lst pa_nil)) (pss_cons (ps_for PassesOwn.never rfl (pi_range1 rfl (T.fr _ (by decide +kernel)) (pa_cons (pe_op op_mul pe_int (pe_fld (pv 0) rfl)) pa_nil)) (pg_name (i := 6) sc_Chase_ladder_from.nd rfl (Or.inl rfl)) (pss_cons (ps_asg (pe_callB call_divmod rfl (T.fr _ (by decide +kernel)) (by decide +kernel) (pa_cons (pe_op op_add (pv 1) (pe_op op_mul (pe_fld (pv 0) rfl) (pv 6))) (pa_cons (pe_callB call_len_seq rfl (T.fr _ (by decide +kernel)) boot_len (pa_cons (pv 2) pa_nil)) pa_nil))) (pgt (K := K) (n := 2) rfl rfl (pgs_cons (pg_name (i := 7) sc_Chase_ladder_from.nd rfl (Or.inl rfl)) (pgs_cons (pg_name (i := 8) sc_Chase_ladder_from.nd rfl (Or.inl rfl)) pgs_nil)))) (pss_one (ps_expr (pe_bm PySem.F.plainAttrs_list PySem.F.slot_list_append PySem.F.type_list_append mt_append (pv 5) (pa_cons (pe_op op_sub (pe_op op_add (pe_ix (ixl (K := K)) (pv 2) (pv 8) fun _ _ => rfl) (pe_op op_mul (pv 7) (pv 4))) (pe_op op_mul (pv 6) (pv 3))) pa_nil)))))) (pss_one (ps_ret (pe_c c_ladder_of hr (by decide) rfl (pa_cons (pv 5) (pa_cons (pe_fld (pv 0) rfl) pa_nil))))))), ?_⟩
    refine ⟨(by show 0 ≤ sizeLine; decide), fun D hD => ?_⟩
    have s1 := NF.Same.new (o := .lst []) (Same.refl H) hD
    refine ⟨_, rfl, x, C, dx, _, _, rfl, s1 _ _ hx, hc.cl, hc.wi, e2, _, _, rfl, rfl, Or.inr ⟨by omega, by omega⟩, ((2 * W : Nat) : Int), rfl, by omega, by omega, ?_⟩
    refine for_range (lo := 0) (n := 2 * W) (fun i σ G => Same H G ∧ G D = some (.lst (vI ((List.range i).map (rowR B b lap a lane)))) ∧ ∃ v6 v7 v8, σ = [some (.ref x), some (.int (lane : Int)), some (.ref o), some (.int a), some (.int b), some (.ref D), v6, v7, v8]) ⟨s1, upd_same, none, none, none, rfl⟩ ?_ ?_
    · rintro i σ G hi ⟨sG, hG, v6, v7, v8, rfl⟩
      rw [Int.zero_add]
      have hxG := sG _ _ hx
      have hoG := L2.Same.seq sG ho
      refine ⟨_, rfl, _, rfl, x, C, dx, _, _, rfl, hxG, hc.cl, hc.lp, e1, _, rfl, _, _, rfl, rfl, Or.inr ⟨by omega, by omega⟩, _, _, rfl, rfl, _, rfl, o, _, rfl, Or.inl hoG, ?_⟩
      rw [vI_len]
      have ek : (lane : Int) + (lap : Int) * (i : Int) = ((lane + lap * i : Nat) : Int) := by rw [Int.natCast_add, Int.natCast_mul]
      refine ⟨_, _, rfl, ⟨by omega, by omega⟩, fun p hpn => ?_⟩
      rw [ek] at *
      have s2 := NF.Same.new (o := .tup [V.int (((lane + lap * i : Nat) : Int) / (B.length : Int)), V.int (((lane + lap * i : Nat) : Int) % (B.length : Int))]) (Same.refl G) hpn
      refine ⟨p, _, rfl, SqT.of upd_same, rfl, _, _, rfl, ?_⟩
      refine ⟨_, _, rfl, ?_⟩
      refine ⟨rfl, ?_⟩
      have hG2 := s2 _ _ hG
      have em : ((lane + lap * i : Nat) : Int) % (B.length : Int) = (((lane + lap * i) % B.length : Nat) : Int) := rfl
      refine ⟨_, rfl, .inl ⟨rfl, _, SqL.of hG2⟩, _, rfl, _, rfl, o, _, _, _, rfl, rfl, L2.Same.seq s2 hoG, at_int em (Nat.mod_lt _ l0), _, rfl, _, rfl, _, _, rfl, rfl, Or.inr ⟨by omega, by omega⟩, _, _, rfl, rfl, _, rfl, _, rfl, _, _, rfl, rfl, Or.inr ⟨by omega, by omega⟩, _, _, rfl, rfl, D, _, _, rfl, rfl, hG2, ?_, ?_⟩
      · rw [vI_len, List.length_map, List.length_range]
        exact Nat.lt_of_le_of_lt (show i ≤ 2000 by omega) (by decide)
      · refine ⟨NF.Same.mut (Same.trans sG s2) (L2.Same.free (Same.refl H) hD), ?_, _, _, _, rfl⟩
        have ev : B.getD ((lane + lap * i) % B.length) 0 + ((lane + lap * i : Nat) : Int) / (B.length : Int) * b - (i : Int) * a = rowR B b lap a lane i := by
          unfold rowR walk
          rw [Int.mul_comm b]
          rfl
        rw [upd_same, List.range_succ, List.map_append, ← vI_app, show [i].map (rowR B b lap a lane) = [rowR B b lap a lane i] from rfl, ← ev]
        rfl
    · rintro σ G ⟨sG, hG, v6, v7, v8, rfl⟩
      refine ⟨_, rfl, _, rfl, x, C, dx, _, _, rfl, sG _ _ hx, hc.cl, hc.wi, e2, D, _, W, rfl, SqL.of hG, W0, by rw [List.length_map, List.length_range]; omega, by rw [List.length_map, List.length_range]; omega, fun p L w H' hL w1 w2 s3 np la => ?_⟩
      rw [List.length_map, List.length_range] at hL
      refine q p L w H' (hL.congr fun j hj => ?_) w1 w2 (Same.trans sG s3) (L2.Same.free sG np) la
      rw [List.getD_eq_getElem?_getD, List.getElem?_map, List.getElem?_range hj]
      rfl
end
end K09
set_option Elab.async false
set_option linter.all false
set_option maxRecDepth 100000
set_option maxHeartbeats 4000000
namespace NF
open PySem PySem.Spec PyProof.Rows L2 He RZ NT
def RnrAt (K : PySem.W.Frag) (H : Hp) (v : V) (r : Nat × Nat × Int) : Prop := ∃ t, v = .ref t ∧ SqT K H t [.int (r.1 : Int), .int (r.2.1 : Int), .int r.2.2]
inductive Rnrs (K : PySem.W.Frag) (H : Hp) : List V → List (Nat × Nat × Int) → Prop where
  | nil : Rnrs K H [] []
  | cons {v : V} {r : Nat × Nat × Int} {vs : List V} {R : List (Nat × Nat × Int)} (h : RnrAt K H v r) (t : Rnrs K H vs R) : Rnrs K H (v :: vs) (r :: R)
theorem Rnrs.mono {K : PySem.W.Frag} {H H' : Hp} (s : Same H H') : ∀ {vs : List V} {R : List (Nat × Nat × Int)}, Rnrs K H vs R → Rnrs K H' vs R
  | _, _, .nil => .nil
  | _, _, .cons ⟨t, e, h⟩ r => .cons ⟨t, e, NF.Same.tup s h⟩ (Rnrs.mono s r)
theorem Rnrs.put {K : PySem.W.Frag} {H : Hp} {p : Addr} {xs ys : List V} (hp : H p = some (.lst xs)) : ∀ {vs : List V} {R : List (Nat × Nat × Int)}, Rnrs K H vs R → Rnrs K (upd H p (.lst ys)) vs R
  | _, _, .nil => .nil
  | _, _, .cons ⟨t, e, h⟩ r => .cons ⟨t, e, NF.SqT.put h hp trivial⟩ (Rnrs.put hp r)
theorem Rnrs.snoc {K : PySem.W.Frag} {H : Hp} {v : V} {r : Nat × Nat × Int} (h : RnrAt K H v r) : ∀ {vs : List V} {R : List (Nat × Nat × Int)}, Rnrs K H vs R → Rnrs K H (vs ++ [v]) (R ++ [r])
  | _, _, .nil => .cons h .nil
  | _, _, .cons h' t => .cons h' (Rnrs.snoc h t)
theorem Rnrs.len {K : PySem.W.Frag} {H : Hp} : ∀ {vs : List V} {R : List (Nat × Nat × Int)}, Rnrs K H vs R → vs.length = R.length
  | _, _, .nil => rfl
  | _, _, .cons _ t => congrArg (· + 1) (Rnrs.len t)
theorem Rnrs.get {K : PySem.W.Frag} {H : Hp} : ∀ {vs : List V} {R : List (Nat × Nat × Int)}, Rnrs K H vs R → ∀ {i : Nat} {v : V}, vs[i]? = some v → ∃ r, R[i]? = some r ∧ RnrAt K H v r
  | _, _, .cons h t, 0, v, e => by
    obtain rfl := Option.some.inj e
    exact ⟨_, rfl, h⟩
  | _, _, .cons h t, i + 1, v, e => Rnrs.get t (i := i) e
def RunAt (K : PySem.W.Frag) (H : Hp) (p : Addr) (R : List (Nat × Nat × Int)) : Prop := ∃ vs, SqL K H p vs ∧ Rnrs K H vs R
theorem RunAt.mono {K : PySem.W.Frag} {H H' : Hp} {p : Addr} {R : List (Nat × Nat × Int)} (h : RunAt K H p R) (s : Same H H') : RunAt K H' p R := by
  obtain ⟨vs, h1, h2⟩ := h
  exact ⟨vs, L2.Same.seq s h1, h2.mono s⟩
theorem rep_int {M : Nat} {c : Int} : (List.replicate M [V.int c]).flatten = vI (List.replicate M c) := by
  induction M with
  | zero => rfl
  | succ M ih =>
    rw [List.replicate_succ, List.flatten_cons, ih, List.replicate_succ]
    rfl
theorem vI_set {l : List Int} {i : Nat} {v : Int} : (vI l).set i (.int v) = vI (l.set i v) := by
  unfold vI
  rw [List.map_set]
end NF
namespace NT
/-- the step at which a lane comes to a residue -/
def OkAt (L M g W : Nat) (r : Nat) (v : Int) : Prop := ∃ s : Nat, v = (s : Int) ∧ s < W ∧ (r % g + L * s) % M = r
def rnr (A : List Int) (a b : Int) (L M g : Nat) (S : List Int) (at_ : Nat) : Nat × Nat × Int :=
  (at_ % g, (S.getD (at_ % M) 0).toNat, A.getD at_ 0 - S.getD (at_ % M) 0 * a + (((at_ % g : Nat) : Int) + (L : Int) * S.getD (at_ % M) 0 - (at_ : Int)) / (M : Int) * b)
end NT
namespace K09
open PySem PySem.Spec PyProof.Rows L2 He NF RZ NT
def spRunners (K : PySem.W.Frag) (C : Addr) : Sp := fun vs H Q _ => ∃ (x dx ah lp : Addr) (fs : List (Str × V)) (lvs : List V) (L M g W V_ : Nat) (A : List Int) (a b : Int), vs = [.ref x, .ref ah, .int a, .int (M : Int), .int b] ∧ H x = some (.ins C dx fs) ∧ fs.lookup ("lap" : Str) = some (.int (L : Int)) ∧ fs.lookup ("window" : Str) = some (.int (W : Int)) ∧ fs.lookup ("ladders" : Str) = some (.ref lp) ∧
  SqL K H lp lvs ∧ lvs.length = g ∧ SqL K H ah (vI A) ∧ A.length = L ∧ Ln L M g W V_ ∧ M ≤ 1000 ∧ L ≤ 1000 ∧ -1000000 ≤ a ∧ a ≤ 1000000 ∧ -1000000 ≤ b ∧ b ≤ 1000000 ∧
  ∀ p S R H', (∀ r, r < M → OkAt L M g W r (S.getD r 0)) → R = (List.range L).map (rnr A a b L M g S) → Same H H' → RunAt K H' p R → Q (.ref p) H'
theorem sc_Chase_runners_of : FnScope ["self", "ahead", "climb", "many", "climb_other", "lanes", "step_at", "lane", "found", "step", "at", "value", "turns"] ["self", "ahead", "climb", "many", "climb_other"] (defScope s_Chase_runners_of) := ⟨rfl, rfl, rfl, by decide +kernel, rfl, by decide +kernel, by decide +kernel⟩
section
variable {P : Program} {w : World} {K : PySem.W.Frag} {mg : Str → Option Value} {base : Heap} {gs fs : List Str} {C : Addr}
theorem ok_Chase_runners_of {f : Addr} {fd : FuncData} (F : FunD K "runners_of" "Chase.runners_of" (defArgs s_Chase_runners_of) (defBody s_Chase_runners_of) (defScope s_Chase_runners_of) [] [] f fd) (T : Txt K mg gs FS) (hc : ChC K C) : FnOk P w K mg base CX0 1 f fd ["self", "ahead", "climb", "many", "climb_other"] (spRunners K C) := by
  refine F.ok sc_Chase_runners_of (fun vs H Q E h => ?_) (fun cdv A outer s H vs Q E hr h => ?_)
  · obtain ⟨x, dx, ah, lp, fs, lvs, L, M, g, W, V_, A, a, b, rfl, _⟩ := h
    rfl
  · obtain ⟨x, dx, ah, lp, fs, lvs, L, M, g, W, V_, A', a, b, rfl, hx, e1, e2, e3, hlp, hg, hah, hA, ln, M1, L1, a0, a1, b0, b1, q⟩ := h
    refine ⟨_, PSs.nox (pss_cons (ps_set (i := 5) sc_Chase_runners_of.nd rfl (Or.inl rfl) (pe_callB call_len_seq rfl (T.fr _ (by decide +kernel)) boot_len (pa_cons (pe_fld (pv 0) rfl) pa_nil))) (pss_cons (ps_set (i := 6) sc_Chase_runners_of.nd rfl (Or.inl rfl) (pe_op op_rep (pe_lst (pa_cons pe_int pa_nil)) (pv 3))) (pss_cons (ps_for PassesOwn.never rfl (pi_range1 rfl (T.fr _ (by decide +kernel)) (pa_cons (pv 5) pa_nil)) (pg_name (i := 7) sc_Chase_runners_of.nd rfl (Or.inl rfl)) (pss_one (ps_for PassesOwn.never rfl (pi_range1 rfl (T.fr _ (by decide +kernel)) (pa_cons (pe_fld (pv 0) rfl) pa_nil)) (pg_name (i := 9) sc_Chase_runners_of.nd rfl (Or.inl rfl)) (pss_one (ps_asg (pv 9) (pg_sub (pv 6) (pe_op op_mod (pe_op op_add (pv 7) (pe_op op_mul (pe_fld (pv 0) rfl) (pv 9))) (pv 3)) set_list)))))) (pss_cons (ps_set (i := 8) sc_Chase_runners_of.nd rfl (Or.inl rfl) (pe_lst pa_nil)) (pss_cons (ps_for PassesOwn.never rfl (pi_enum rfl (T.fr _ (by decide +kernel)) (pa_cons (pv 1) pa_nil)) (pgt (K := K) (n := 2) rfl rfl (pgs_cons (pg_name (i := 10) sc_Chase_runners_of.nd rfl (Or.inl rfl)) (pgs_cons (pg_name (i := 11) sc_Chase_runners_of.nd rfl (Or.inl rfl)) pgs_nil))) (pss_cons (ps_set (i := 7) sc_Chase_runners_of.nd rfl (Or.inl rfl) (pe_op op_mod (pv 10) (pv 5))) (pss_cons (ps_set (i := 9) sc_Chase_runners_of.nd rfl (Or.inl rfl) (pe_ix (ixl (K := K)) (pv 6) (pe_op op_mod (pv 10) (pv 3)) fun _ _ => rfl)) (pss_cons (ps_set (i := 12) sc_Chase_runners_of.nd rfl (Or.inl rfl) (pe_op op_fdiv (pe_op op_sub (pe_op op_add (pv 7) (pe_op op_mul (pe_fld (pv 0) rfl) (pv 9))) (pv 10)) (pv 3))) (pss_one (ps_expr (pe_bm PySem.F.plainAttrs_list PySem.F.slot_list_append PySem.F.type_list_append mt_append (pv 8) (pa_cons (pe_tup (pa_cons (pv 7) (pa_cons (pv 9) (pa_cons (pe_op op_add (pe_op op_sub (pv 11) (pe_op op_mul (pv 9) (pv 2))) (pe_op op_mul (pv 12) (pv 4))) pa_nil)))) pa_nil)))))))) (pss_one (ps_ret (pv 8)))))))), ?_⟩
    refine ⟨_, rfl, x, C, dx, _, _, rfl, hx, hc.cl, hc.ls, e3, lp, _, rfl, Or.inl hlp, ?_⟩
    rw [hg]
    refine ⟨(by show 1 ≤ sizeLine; decide), fun t ht => ?_⟩
    have s1 := NF.Same.new (o := .lst [V.int 0]) (Same.refl H) ht
    refine ⟨_, rfl, t, (M : Int), [V.int 0], rfl, rfl, upd_same, by omega, by omega, ?_, fun D hD => ?_⟩
    · rw [Int.toNat_natCast]
      exact Nat.le_trans (show 1 * M ≤ 1000 by omega) (by decide)
    rw [Int.toNat_natCast, rep_int]
    have s2 := NF.Same.new (o := .lst (vI (List.replicate M 0))) s1 hD
    have hDH : H D = none := L2.Same.free s1 hD
    have g0 := ln.g0
    have m0 := ln.m0
    have w0 := ln.w0
    have gM : g ≤ M := by rw [ln.eM]; exact Nat.le_mul_of_pos_right _ w0
    have WM : W ≤ M := by rw [ln.eM]; exact Nat.le_mul_of_pos_left _ g0
    have dv : g ∣ M := ⟨W, ln.eM⟩
    refine ⟨_, rfl, (g : Int), rfl, by omega, by omega, ?_⟩
    refine for_range (lo := 0) (n := g) (fun i σ G => Same H G ∧ ∃ S : List Int, G D = some (.lst (vI S)) ∧ S.length = M ∧ (∀ l s, l < i → s < W → OkAt L M g W ((l + L * s) % M) (S.getD ((l + L * s) % M) 0)) ∧ ∃ v7 v9, σ = [some (.ref x), some (.ref ah), some (.int a), some (.int (M : Int)), some (.int b), some (.int (g : Int)), some (.ref D), v7, none, v9, none, none, none]) ⟨s2, List.replicate M 0, upd_same, List.length_replicate, fun l s z => absurd z (Nat.not_lt_zero _), none, none, rfl⟩ ?_ ?_
    · rintro i σ G hi ⟨sG, S, hG, hS, ok, v7, v9, rfl⟩
      rw [Int.zero_add]
      refine ⟨_, rfl, x, C, dx, _, _, rfl, sG _ _ hx, hc.cl, hc.wi, e2, (W : Int), rfl, by omega, by omega, ?_⟩
      refine for_range (lo := 0) (n := W) (fun j σ G => Same H G ∧ ∃ S : List Int, G D = some (.lst (vI S)) ∧ S.length = M ∧ (∀ l s, l < i → s < W → OkAt L M g W ((l + L * s) % M) (S.getD ((l + L * s) % M) 0)) ∧ (∀ s, s < j → OkAt L M g W ((i + L * s) % M) (S.getD ((i + L * s) % M) 0)) ∧ ∃ v9, σ = [some (.ref x), some (.ref ah), some (.int a), some (.int (M : Int)), some (.int b), some (.int (g : Int)), some (.ref D), some (.int (i : Int)), none, v9, none, none, none]) ⟨sG, S, hG, hS, ok, fun s z => absurd z (Nat.not_lt_zero _), v9, rfl⟩ ?_ ?_
      · rintro j σ G' hj ⟨sG', S', hG', hS', ok', okj, v9', rfl⟩
        rw [Int.zero_add]
        have ek : (i : Int) + (L : Int) * (j : Int) = ((i + L * j : Nat) : Int) := by rw [Int.natCast_add, Int.natCast_mul]
        have elt := Nat.mod_lt (i + L * j) m0
        have em : ((i : Int) + (L : Int) * (j : Int)) % (M : Int) = (((i + L * j) % M : Nat) : Int) := by rw [ek]; rfl
        refine ⟨_, rfl, _, rfl, _, rfl, _, rfl, x, C, dx, _, _, rfl, sG' _ _ hx, hc.cl, hc.lp, e1, _, rfl, _, _, rfl, rfl, Or.inr ⟨by omega, by omega⟩, _, _, rfl, rfl, _, rfl, _, _, rfl, rfl, (by omega), ?_⟩
        refine ⟨D, _, _, (i + L * j) % M, rfl, rfl, hG', ?_, ?_⟩
        · rw [em]
          unfold ixN
          rw [if_pos (by omega), if_pos (by rw [vI_len, hS']; omega)]
          rfl
        · have ok1 : OkAt L M g W ((i + L * j) % M) ((j : Nat) : Int) := ⟨j, rfl, hj, by rw [← ln.lane hi (Nat.mod_mod (i + L * j) M).symm]⟩
          have put : ∀ r, OkAt L M g W r (S'.getD r 0) → OkAt L M g W r ((S'.set ((i + L * j) % M) (j : Int)).getD r 0) := fun r h => by
            by_cases c : (i + L * j) % M = r
            · rw [← c, List.getD_eq_getElem?_getD, List.getElem?_set_self (by omega)]
              exact ok1
            · rw [List.getD_eq_getElem?_getD, List.getElem?_set_ne c, ← List.getD_eq_getElem?_getD]
              exact h
          refine ⟨NF.Same.mut sG' hDH, S'.set ((i + L * j) % M) (j : Int), ?_, by rw [List.length_set]; exact hS', fun l s h1 h2 => put _ (ok' l s h1 h2), fun s h1 => ?_, _, rfl⟩
          · rw [upd_same, vI_set]
          · rcases Nat.lt_or_ge s j with c | c
            · exact put _ (okj s c)
            · rw [show s = j by omega, List.getD_eq_getElem?_getD, List.getElem?_set_self (by omega)]
              exact ok1
      · rintro σ G' ⟨sG', S', hG', hS', ok', okj, v9', rfl⟩
        refine ⟨sG', S', hG', hS', fun l s h1 h2 => ?_, _, _, rfl⟩
        rcases Nat.lt_or_ge l i with c | c
        · exact ok' l s c h2
        · rw [show l = i by omega]
          exact okj s h2
    · rintro σ G ⟨sG, S, hG, hS, ok, v7, v9, rfl⟩
      have okS : ∀ r, r < M → OkAt L M g W r (S.getD r 0) := fun r hr => by
        obtain ⟨s, s1, s2⟩ := ln.reach r hr
        have := ok (r % g) s (Nat.mod_lt _ g0) s1
        rw [s2] at this
        exact this
      refine ⟨(by show 0 ≤ sizeLine; decide), fun Fd hFd => ?_⟩
      have s3 := NF.Same.new (o := .lst []) (Same.refl G) hFd
      have hFH : H Fd = none := L2.Same.free sG hFd
      have nDF : D ≠ Fd := ne_of_none hG hFd
      refine ⟨_, rfl, ah, _, rfl, L2.Same.seq (Same.trans sG s3) hah, ?_⟩
      refine for_it (walk_enum (xs := vI A')) (fun i σ G' => Same H G' ∧ G' D = some (.lst (vI S)) ∧ ∃ vs : List V, G' Fd = some (.lst vs) ∧ Rnrs K G' vs ((List.range i).map (rnr A' a b L M g S)) ∧ ∃ v7 v9 v10 v11 v12, σ = [some (.ref x), some (.ref ah), some (.int a), some (.int (M : Int)), some (.int b), some (.int (g : Int)), some (.ref D), v7, some (.ref Fd), v9, v10, v11, v12])
        ⟨Same.trans sG s3, s3 _ _ hG, [], upd_same, .nil, _, _, _, _, _, rfl⟩ (fun i σ G' _ z => L2.Same.seq z.1 hah) ?_ ?_
      · rintro i y σ G' G'' hi ⟨sG', hD', vs, hF', hR, v7, v9, v10, v11, v12, rfl⟩ ⟨U, x1, y1, rfl, hU, rfl, hx1, hy1⟩
        rw [vI_len] at hi
        obtain rfl : V.int ((i : Nat) : Int) = x1 := Option.some.inj hx1
        obtain rfl : V.int (A'.getD i 0) = y1 := by
          have hy1 : (vI A')[i]? = some y1 := hy1
          rw [List.getElem?_map, List.getElem?_eq_getElem hi] at hy1
          rw [List.getD_eq_getElem?_getD, List.getElem?_eq_getElem hi]
          exact Option.some.inj hy1
        have s4 := NF.Same.new (o := .tup [V.int ((i : Nat) : Int), V.int (A'.getD i 0)]) (Same.refl G') hU
        have sH4 := Same.trans sG' s4
        obtain ⟨st, est, stW, sty⟩ := okS (i % M) (Nat.mod_lt _ m0)
        have elane : ((i : Nat) : Int) % (g : Int) = ((i % g : Nat) : Int) := rfl
        have eres : ((i : Nat) : Int) % (M : Int) = ((i % M : Nat) : Int) := rfl
        refine ⟨U, _, rfl, SqT.of upd_same, rfl, _, _, rfl, ?_⟩
        refine ⟨_, _, rfl, ?_⟩
        refine ⟨rfl, ?_⟩
        refine ⟨_, rfl, _, rfl, _, _, rfl, rfl, (by omega), ?_⟩
        refine ⟨_, rfl, _, rfl, _, rfl, _, _, rfl, rfl, (by omega), D, _, _, _, rfl, rfl, SqL.of (s4 _ _ hD'), at_int eres (by rw [hS]; exact Nat.mod_lt _ m0), ?_⟩
        refine ⟨_, rfl, _, rfl, x, C, dx, _, _, rfl, sH4 _ _ hx, hc.cl, hc.lp, e1, _, rfl, _, _, rfl, rfl, Or.inr ⟨by omega, by omega⟩, _, _, rfl, rfl, _, rfl, _, _, rfl, rfl, _, rfl, _, _, rfl, rfl, ⟨by omega, by omega⟩, ?_⟩
        refine ⟨_, rfl, .inl ⟨rfl, _, SqL.of (s4 _ _ hF')⟩, _, rfl, _, rfl, _, rfl, _, rfl, _, rfl, _, _, rfl, rfl, Or.inr ⟨by omega, by omega⟩, _, _, rfl, rfl, _, rfl, _, rfl, _, _, rfl, rfl, Or.inr ⟨by omega, by omega⟩, _, _, rfl, rfl, (by show 3 ≤ sizeLine; decide), fun t5 ht5 => ?_⟩
        have er : [V.int (((i : Nat) : Int) % (g : Int)), V.int (S.getD (i % M) 0), V.int (A'.getD i 0 - S.getD (i % M) 0 * a + (((i : Nat) : Int) % (g : Int) + (L : Int) * S.getD (i % M) 0 - ((i : Nat) : Int)) / (M : Int) * b)] = [V.int (((rnr A' a b L M g S i).1 : Nat) : Int), V.int (((rnr A' a b L M g S i).2.1 : Nat) : Int), V.int (rnr A' a b L M g S i).2.2] := by
          unfold rnr
          dsimp only
          rw [est, Int.toNat_natCast]
          rfl
        have s5 := NF.Same.new (o := .tup [V.int (((i : Nat) : Int) % (g : Int)), V.int (S.getD (i % M) 0), V.int (A'.getD i 0 - S.getD (i % M) 0 * a + (((i : Nat) : Int) % (g : Int) + (L : Int) * S.getD (i % M) 0 - ((i : Nat) : Int)) / (M : Int) * b)]) s4 ht5
        have hF5 := s5 _ _ hF'
        have r5 : RnrAt K (upd (upd G' U (.tup [V.int ((i : Nat) : Int), V.int (A'.getD i 0)])) t5 (.tup [V.int (((i : Nat) : Int) % (g : Int)), V.int (S.getD (i % M) 0), V.int (A'.getD i 0 - S.getD (i % M) 0 * a + (((i : Nat) : Int) % (g : Int) + (L : Int) * S.getD (i % M) 0 - ((i : Nat) : Int)) / (M : Int) * b)])) (.ref t5) (rnr A' a b L M g S i) := ⟨t5, rfl, SqT.of (upd_same.trans (congrArg (fun z => some (HO.tup z)) er))⟩
        refine ⟨Fd, _, _, rfl, rfl, hF5, ?_, ?_⟩
        · rw [hR.len, List.length_map, List.length_range]
          exact Nat.lt_of_le_of_lt (show i ≤ 1000 by omega) (by decide)
        · refine ⟨NF.Same.mut (Same.trans sG' s5) hFH, (upd_ne nDF).trans (s5 _ _ hD'), vs ++ [.ref t5], upd_same, ?_, _, _, _, _, _, rfl⟩
          rw [List.range_succ, List.map_append]
          exact Rnrs.put hF5 (Rnrs.snoc r5 (hR.mono s5))
      · rintro σ G' ⟨sG', hD', vs, hF', hR, v7, v9, v10, v11, v12, rfl⟩
        refine ⟨_, rfl, q Fd S _ G' okS ?_ sG' ⟨vs, SqL.of hF', hR⟩⟩
        rw [vI_len, hA]
end
end K09
set_option Elab.async false
set_option linter.all false
set_option maxHeartbeats 4000000
/-! Rows of values that climb and may come to never: their tellings; the values of one table at the values of another one. -/
namespace NT
structure Asc (F : Nat → Option Int) : Prop where
  ge : ∀ n v, 1 ≤ n → F n = some v → 0 ≤ v
  up : ∀ n v, 1 ≤ n → F (n + 1) = some v → ∃ u, F n = some u ∧ u ≤ v
def numF (F : Nat → Option Int) (n : Nat) : Int := (F n).getD 0
def seg (F : Nat → Option Int) (a m : Nat) : List (Option Int) := (List.range m).map fun k => F (a + k + 1)
def segN (F : Nat → Option Int) (a m : Nat) : List Int := (List.range m).map fun k => numF F (a + k + 1)
variable {F : Nat → Option Int}
theorem seg_succ {a m : Nat} : seg F a (m + 1) = seg F a m ++ [F (a + m + 1)] := by
  unfold seg
  rw [List.range_succ, List.map_append]
  rfl
theorem segN_succ {a m : Nat} : segN F a (m + 1) = segN F a m ++ [numF F (a + m + 1)] := by
  unfold segN
  rw [List.range_succ, List.map_append]
  rfl
theorem seg_len {a m : Nat} : (seg F a m).length = m := by unfold seg; rw [List.length_map, List.length_range]
theorem segN_len {a m : Nat} : (segN F a m).length = m := by unfold segN; rw [List.length_map, List.length_range]
theorem segN_get {a m k : Nat} (hk : k < m) : (segN F a m).getD k 0 = numF F (a + k + 1) := by
  unfold segN
  rw [List.getD_eq_getElem?_getD, List.getElem?_map, List.getElem?_range hk]
  rfl
theorem Asc.below (A : Asc F) {m d : Nat} (hm : 1 ≤ m) : ∀ {v : Int}, F (m + d) = some v → ∃ u, F m = some u ∧ u ≤ v := by
  induction d with
  | zero => exact fun {v} h => ⟨v, h, Int.le_refl _⟩
  | succ d ih =>
    intro v h
    obtain ⟨u, hu, le⟩ := A.up (m + d) v (by omega) h
    obtain ⟨u2, h2, le2⟩ := ih hu
    exact ⟨u2, h2, Int.le_trans le2 le⟩
theorem Asc.none_up (A : Asc F) {m n : Nat} (hm : 1 ≤ m) (h : F m = none) (le : m ≤ n) : F n = none := by
  cases e : F n with
  | none => rfl
  | some v =>
    obtain ⟨d, rfl⟩ : ∃ d, n = m + d := ⟨n - m, by omega⟩
    obtain ⟨u, hu, _⟩ := A.below hm e
    rw [h] at hu
    cases hu
theorem numF_some {n : Nat} (h : F n ≠ none) : F n = some (numF F n) := by
  unfold numF
  cases e : F n with
  | none => exact absurd e h
  | some v => rfl
theorem Asc.mono (A : Asc F) {m n : Nat} (hm : 1 ≤ m) (le : m ≤ n) (h : F n ≠ none) : numF F m ≤ numF F n := by
  obtain ⟨d, rfl⟩ : ∃ d, n = m + d := ⟨n - m, by omega⟩
  obtain ⟨u, hu, le2⟩ := A.below hm (numF_some h)
  have : numF F m = u := by unfold numF; rw [hu]; rfl
  rw [this]
  exact le2
theorem Asc.nonneg (A : Asc F) {n : Nat} (hn : 1 ≤ n) (h : F n ≠ none) : 0 ≤ numF F n := A.ge n _ hn (numF_some h)
/-- those that are counts -/
theorem cnt_ex (A : Asc F) (N : Nat) : ∃ M, M ≤ N ∧ (seg F 0 N).filterMap id = segN F 0 M ∧ (∀ n, 1 ≤ n → n ≤ M → F n ≠ none) ∧ (∀ n, M < n → n ≤ N → F n = none) := by
  induction N with
  | zero => exact ⟨0, Nat.le_refl _, rfl, fun n h1 h2 => by omega, fun n h1 h2 => by omega⟩
  | succ N ih =>
    obtain ⟨M, hM, e, s, z⟩ := ih
    cases h : F (N + 1) with
    | none =>
      refine ⟨M, by omega, ?_, s, fun n h1 h2 => ?_⟩
      · rw [seg_succ, List.filterMap_append, e, show 0 + N + 1 = N + 1 by omega, h]
        simp
      · by_cases c : n ≤ N
        · exact z n h1 c
        · rw [show n = N + 1 by omega, h]
    | some v =>
      have hall : M = N := by
        rcases Nat.lt_or_ge M N with c | c
        · have := z (M + 1) (by omega) (by omega)
          have := A.none_up (by omega) this (show M + 1 ≤ N + 1 by omega)
          rw [h] at this
          cases this
        · omega
      subst hall
      refine ⟨M + 1, Nat.le_refl _, ?_, fun n h1 h2 => ?_, fun n h1 h2 => by omega⟩
      · rw [seg_succ, List.filterMap_append, e, segN_succ, show 0 + M + 1 = M + 1 by omega, h]
        unfold numF
        rw [h]
        rfl
      · by_cases c : n ≤ M
        · exact s n h1 c
        · rw [show n = M + 1 by omega, h]
          exact fun y => by cases y
theorem ended (A : Asc F) {M : Nat} (s : ∀ n, 1 ≤ n → n ≤ M → F n ≠ none) : Good (segN F 0 M) [] 0 := by
  refine ⟨climbs_of (fun i hi => ?_) (fun i hi => ?_), trivial, fun _ z => absurd rfl z, Int.le_refl _, fun _ => rfl, fun z => absurd rfl z⟩
  · rw [segN_len] at hi
    rw [segN_get hi]
    exact A.nonneg (by omega) (s _ (by omega) (by omega))
  · rw [segN_len] at hi
    rw [segN_get (by omega), segN_get hi]
    exact A.mono (by omega) (by omega) (s _ (by omega) (by omega))
theorem at_ended {M : Nat} (s : ∀ n, 1 ≤ n → n ≤ M → F n ≠ none) (z : ∀ n, M < n → F n = none) {n : Nat} (hn : 1 ≤ n) : at_ (segN F 0 M) [] 0 n = F n := by
  unfold at_
  rw [segN_len]
  by_cases c : n ≤ M
  · rw [if_pos c, segN_get (by omega), show 0 + (n - 1) + 1 = n by omega]
    exact (numF_some (s n hn c)).symm
  · rw [if_neg c, if_pos rfl]
    exact (z n (by omega)).symm
theorem per_num {N m : Nat} {c : Int} (p : ∀ n, N < n → numF F (n + m) = numF F n + c) (i j : Nat) : numF F (N + 1 + i + m * j) = numF F (N + 1 + i) + c * (j : Int) := by
  induction j with
  | zero => simp
  | succ j ih =>
    have e : N + 1 + i + m * (j + 1) = (N + 1 + i + m * j) + m := by rw [Nat.mul_succ]; omega
    rw [e, p _ (by omega), ih, Int.natCast_succ, Int.mul_add]
    omega
theorem looped (A : Asc F) {N m : Nat} {c : Int} (hm : 0 < m) (s : ∀ n, 1 ≤ n → F n ≠ none) (p : ∀ n, N < n → numF F (n + m) = numF F n + c) :
    Good (segN F 0 N) (segN F N m) c ∧ ∀ n, 1 ≤ n → at_ (segN F 0 N) (segN F N m) c n = F n := by
  have hl : segN F N m ≠ [] := fun z => by
    have := congrArg List.length z
    rw [segN_len] at this
    simp at this
    omega
  refine ⟨⟨climbs_of (fun i hi => ?_) (fun i hi => ?_), climbs_of (fun i hi => ?_) (fun i hi => ?_), fun h1 _ => ?_, ?_, fun z => absurd z hl, fun _ => ?_⟩, fun n hn => ?_⟩
  · rw [segN_len] at hi
    rw [segN_get hi]
    exact A.nonneg (by omega) (s _ (by omega))
  · rw [segN_len] at hi
    rw [segN_get (by omega), segN_get hi]
    exact A.mono (by omega) (by omega) (s _ (by omega))
  · rw [segN_len] at hi
    rw [segN_get hi]
    exact A.nonneg (by omega) (s _ (by omega))
  · rw [segN_len] at hi
    rw [segN_get (by omega), segN_get hi]
    exact A.mono (by omega) (by omega) (s _ (by omega))
  · have : 0 < N := by
      rcases Nat.eq_zero_or_pos N with z | z
      · subst z; exact absurd rfl h1
      · exact z
    rw [segN_len, segN_get (by omega), segN_get hm]
    exact A.mono (by omega) (by omega) (s _ (by omega))
  · have e := p (N + 1) (by omega)
    have := A.mono (m := N + 1) (n := N + 1 + m) (by omega) (by omega) (s _ (by omega))
    omega
  · rw [segN_len, segN_get (by omega), segN_get hm]
    have e := p (N + 0 + 1) (by omega)
    have := A.mono (m := N + (m - 1) + 1) (n := N + 0 + 1 + m) (by omega) (by omega) (s _ (by omega))
    omega
  · by_cases q : n ≤ N
    · unfold at_
      rw [segN_len, if_pos q, segN_get (by omega), show 0 + (n - 1) + 1 = n by omega]
      exact (numF_some (s n hn)).symm
    · rw [at_loop hl (by rw [segN_len]; omega), segN_len, numF_some (s n hn)]
      congr 1
      unfold walk
      rw [segN_len, segN_get (Nat.mod_lt _ hm)]
      have e := per_num p ((n - N - 1) % m) ((n - N - 1) / m)
      have e2 : N + 1 + (n - N - 1) % m + m * ((n - N - 1) / m) = n := by
        have := Nat.mod_add_div (n - N - 1) m
        omega
      rw [e2] at e
      rw [e, show N + (n - N - 1) % m + 1 = N + 1 + (n - N - 1) % m by omega]
/-- how the program tells a table that comes to an end -/
def settled (vs : List (Option Int)) : Option Int → List Int × List Int × Int
  | none => (vs.filterMap id, [], 0)
  | some v => if (vs.filterMap id).length < vs.length then (vs.filterMap id, [], 0) else (vs.filterMap id, [v], 0)
theorem settled_ok (A : Asc F) {N : Nat} {t : Option Int} (ht : ∀ n, N < n → F n = t) :
    Good (settled (seg F 0 N) t).1 (settled (seg F 0 N) t).2.1 (settled (seg F 0 N) t).2.2 ∧ (∀ n, 1 ≤ n → at_ (settled (seg F 0 N) t).1 (settled (seg F 0 N) t).2.1 (settled (seg F 0 N) t).2.2 n = F n) ∧
      (settled (seg F 0 N) t).1.length ≤ N ∧ (settled (seg F 0 N) t).2.1.length ≤ 1 := by
  obtain ⟨M, hM, e, s, z⟩ := cnt_ex A N
  have short : M < N ∨ t = none → Good (segN F 0 M) [] 0 ∧ (∀ n, 1 ≤ n → at_ (segN F 0 M) [] 0 n = F n) ∧ (segN F 0 M).length ≤ N ∧ ([] : List Int).length ≤ 1 := fun h => by
    refine ⟨ended A s, fun n hn => at_ended s (fun k hk => ?_) hn, by rw [segN_len]; exact hM, Nat.zero_le _⟩
    rcases h with h | h
    · exact A.none_up (m := M + 1) (by omega) (z (M + 1) (by omega) (by omega)) (by omega)
    · by_cases c : k ≤ N
      · exact z k hk c
      · rw [ht k (by omega), h]
  unfold settled
  cases t with
  | none =>
    dsimp only
    rw [e]
    exact short (.inr rfl)
  | some v =>
    dsimp only
    rw [e, seg_len, segN_len]
    by_cases c : M < N
    · rw [if_pos c]
      exact short (.inl c)
    · rw [if_neg c]
      have hMN : M = N := by omega
      subst hMN
      have sall : ∀ n, 1 ≤ n → F n ≠ none := fun n hn => by
        by_cases q : n ≤ M
        · exact s n hn q
        · rw [ht n (by omega)]
          exact fun y => by cases y
      have el : segN F M 1 = [v] := by
        unfold segN
        show [numF F (M + 0 + 1)] = [v]
        unfold numF
        rw [ht _ (by omega)]
        rfl
      have g := looped A (N := M) (m := 1) (c := 0) (by decide) sall (fun n hn => by
        unfold numF
        rw [ht n hn, ht (n + 1) (by omega)]
        simp)
      rw [el] at g
      exact ⟨g.1, g.2, by rw [segN_len]; exact Nat.le_refl _, Nat.le_refl _⟩
/-! ### a table's own values -/
section
variable {h l : List Int} {r : Int}
theorem asc_at (g : Good h l r) : Asc (at_ h l r) := by
  have some_of : ∀ n v, at_ h l r n = some v → n ≤ h.length ∨ l ≠ [] := fun n v e => by
    by_cases c : n ≤ h.length
    · exact .inl c
    · refine .inr fun z => ?_
      unfold at_ at e
      rw [if_neg c, if_pos z] at e
      cases e
  refine ⟨fun n v hn e => ?_, fun n v hn e => ?_⟩
  · have := num_ge g n hn
    unfold num at this
    rw [e] at this
    exact this
  · have c := some_of _ _ e
    have e1 := at_some (h := h) (l := l) (r := r) n (c.imp (fun q => by omega) id)
    refine ⟨_, e1, ?_⟩
    have := num_up g n hn c
    have e2 : num h l r (n + 1) = v := by unfold num; rw [e]; rfl
    omega
theorem good_of (A : Asc (at_ h l r)) (r0 : 0 ≤ r) (rl : l = [] → r = 0) : Good h l r := by
  have ah : ∀ i, i < h.length → at_ h l r (i + 1) = some (h.getD i 0) := fun i hi => by
    unfold at_
    rw [if_pos (by omega), Nat.add_sub_cancel]
  have al : ∀ i, i < l.length → at_ h l r (h.length + i + 1) = some (l.getD i 0) := fun i hi => by
    have hl : l ≠ [] := fun z => by rw [z] at hi; simp at hi
    rw [at_loop hl (by omega), show h.length + i + 1 - h.length - 1 = i by omega, walk_lt hi]
  refine ⟨climbs_of (fun i hi => A.ge _ _ (by omega) (ah i hi)) (fun i hi => ?_), climbs_of (fun i hi => A.ge _ _ (by omega) (al i hi)) (fun i hi => ?_), fun h1 h2 => ?_, r0, rl, fun hl => ?_⟩
  · obtain ⟨u, hu, le⟩ := A.up _ _ (by omega) (ah (i + 1) hi)
    rw [ah i (by omega)] at hu
    injection hu with hu
    omega
  · obtain ⟨u, hu, le⟩ := A.up _ _ (by omega) (al (i + 1) hi)
    rw [show h.length + (i + 1) = h.length + i + 1 by omega, al i (by omega)] at hu
    injection hu with hu
    omega
  · have h0 := len_pos h1
    obtain ⟨u, hu, le⟩ := A.up _ _ (by omega) (al 0 (len_pos h2))
    have := ah (h.length - 1) (by omega)
    rw [show h.length - 1 + 1 = h.length by omega] at this
    rw [this] at hu
    injection hu with hu
    omega
  · have l0 := len_pos hl
    have e : at_ h l r (h.length + (l.length - 1) + 1 + 1) = some (l.getD 0 0 + r) := by
      rw [at_loop hl (by omega), show h.length + (l.length - 1) + 1 + 1 - h.length - 1 = 0 + l.length by omega, walk_add l0, walk_lt l0]
    obtain ⟨u, hu, le⟩ := A.up _ _ (by omega) e
    rw [al (l.length - 1) (by omega)] at hu
    injection hu with hu
    omega
theorem at_fin (g : Good h l r) (c : l = [] ∨ r = 0) {n : Nat} (hn : h.length < n) : at_ h l r n = fin_ l r := by
  unfold fin_
  by_cases hl : l = []
  · rw [if_pos (.inl hl)]
    unfold at_
    rw [if_neg (by omega), if_pos hl]
  · have hr := c.resolve_left hl
    rw [if_neg (fun z => z.elim hl fun z => by omega), at_loop hl hn]
    have l0 := len_pos hl
    congr 1
    unfold walk
    rw [hr, Int.zero_mul, Int.add_zero]
    have hi := Nat.mod_lt (n - h.length - 1) l0
    generalize (n - h.length - 1) % l.length = i at hi
    have up : ∀ i d, i + d < l.length → l.getD i 0 ≤ l.getD (i + d) 0 := fun i d => by
      induction d with
      | zero => exact fun _ => Int.le_refl _
      | succ d ih => exact fun q => Int.le_trans (ih (by omega)) (climbs_up g.lp q)
    have e1 := up 0 i (by omega)
    have e2 := up i (l.length - 1 - i) (by omega)
    rw [Nat.zero_add] at e1
    rw [show i + (l.length - 1 - i) = l.length - 1 by omega] at e2
    have := g.last hl
    omega
theorem val_mono (g : Good h l r) {a b : Nat} (le : a ≤ b) {v : Int} (e : val_ h l r (some b) = some v) : ∃ u, val_ h l r (some a) = some u ∧ u ≤ v ∧ 0 ≤ u := by
  have A := asc_at g
  unfold val_ at e ⊢
  dsimp only at e ⊢
  by_cases ha : a = 0
  · rw [if_pos ha]
    refine ⟨0, rfl, ?_, Int.le_refl _⟩
    by_cases hb : b = 0
    · rw [if_pos hb] at e
      injection e with e
      omega
    · rw [if_neg hb] at e
      exact A.ge _ _ (by omega) e
  · rw [if_neg ha]
    rw [if_neg (by omega)] at e
    obtain ⟨d, rfl⟩ : ∃ d, b = a + d := ⟨b - a, by omega⟩
    obtain ⟨u, hu, le2⟩ := A.below (by omega) e
    exact ⟨u, hu, le2, A.ge _ _ (by omega) hu⟩
theorem val_fin (g : Good h l r) {v : Int} (e : fin_ l r = some v) (a : Nat) : ∃ u, val_ h l r (some a) = some u ∧ u ≤ v ∧ 0 ≤ u := by
  have c : l = [] ∨ r = 0 := by
    unfold fin_ at e
    by_cases q : l = [] ∨ 0 < r
    · rw [if_pos q] at e
      cases e
    · have := g.r0
      right
      have : ¬ 0 < r := fun z => q (.inr z)
      omega
  refine val_mono g (b := a + h.length + 1) (by omega) ?_
  unfold val_
  dsimp only
  rw [if_neg (by omega), at_fin g c (by omega), e]
end
/-! ### the values of one table at the values of another one -/
section
variable {h1 l1 h2 l2 : List Int} {r1 r2 : Int}
def beh (h1 l1 : List Int) (r1 : Int) (h2 l2 : List Int) (r2 : Int) (n : Nat) : Option Int := val_ h1 l1 r1 ((at_ h2 l2 r2 n).map Int.toNat)
theorem beh_asc (g1 : Good h1 l1 r1) (g2 : Good h2 l2 r2) : Asc (beh h1 l1 r1 h2 l2 r2) := by
  have A := asc_at g2
  refine ⟨fun n v hn e => ?_, fun n v hn e => ?_⟩
  · unfold beh at e
    cases q : at_ h2 l2 r2 n with
    | none =>
      rw [q] at e
      obtain ⟨u, _, h, h'⟩ := val_fin g1 e 0
      omega
    | some k =>
      rw [q] at e
      obtain ⟨u, h0, _, h⟩ := val_mono g1 (Nat.le_refl _) e
      have : some u = some v := h0.symm.trans e
      injection this with this
      omega
  · unfold beh at e ⊢
    cases q : at_ h2 l2 r2 (n + 1) with
    | none =>
      rw [q] at e
      cases q2 : at_ h2 l2 r2 n with
      | none => exact ⟨v, e, Int.le_refl _⟩
      | some k =>
        obtain ⟨u, h0, h, _⟩ := val_fin g1 e k.toNat
        exact ⟨u, h0, h⟩
    | some k =>
      rw [q] at e
      obtain ⟨j, hj, le⟩ := A.up n k hn q
      rw [hj]
      obtain ⟨u, h0, h, _⟩ := val_mono g1 (show j.toNat ≤ k.toNat by omega) e
      exact ⟨u, h0, h⟩
theorem beh_end (g2 : Good h2 l2 r2) (c : l2 = [] ∨ r2 = 0) {n : Nat} (hn : h2.length < n) : beh h1 l1 r1 h2 l2 r2 n = val_ h1 l1 r1 ((fin_ l2 r2).map Int.toNat) := by
  unfold beh
  rw [at_fin g2 c hn]
theorem beh_far {n : Nat} {v : Int} (e : at_ h2 l2 r2 n = some v) (hv : (h1.length : Int) < v) : beh h1 l1 r1 h2 l2 r2 n = at_ h1 l1 r1 v.toNat := by
  unfold beh
  rw [e]
  show val_ h1 l1 r1 (some v.toNat) = _
  unfold val_
  dsimp only
  rw [if_neg (by omega)]
theorem beh_flat (g1 : Good h1 l1 r1) (c : l1 = [] ∨ r1 = 0) {n : Nat} {v : Int} (e : at_ h2 l2 r2 n = some v) (hv : (h1.length : Int) < v) : beh h1 l1 r1 h2 l2 r2 n = fin_ l1 r1 := by
  rw [beh_far e hv, at_fin g1 c (by omega)]
theorem beh_some (n1 : l1 ≠ []) (n2 : l2 ≠ []) (n : Nat) : beh h1 l1 r1 h2 l2 r2 n ≠ none := by
  unfold beh
  rw [at_some n (.inr n2)]
  show val_ h1 l1 r1 (some _) ≠ none
  unfold val_
  dsimp only
  by_cases c : (num h2 l2 r2 n).toNat = 0
  · rw [if_pos c]
    exact fun z => by cases z
  · rw [if_neg c, at_some _ (.inr n1)]
    exact fun z => by cases z
theorem beh_per (n1 : l1 ≠ []) (n2 : l2 ≠ []) {lead q : Nat} {rq gg : Nat} (hq : l1.length = gg * q) (hr : r2 = ((gg * rq : Nat) : Int)) (hl : h2.length ≤ lead) (far : ∀ n, lead < n → ∃ v, at_ h2 l2 r2 n = some v ∧ (h1.length : Int) < v) (n : Nat) (hn : lead < n) :
    numF (beh h1 l1 r1 h2 l2 r2) (n + l2.length * q) = numF (beh h1 l1 r1 h2 l2 r2) n + r1 * (rq : Int) := by
  obtain ⟨v, hv, lv⟩ := far n hn
  obtain ⟨v', hv', lv'⟩ := far (n + l2.length * q) (by omega)
  have e : v' = v + (l1.length : Int) * (rq : Int) := by
    have a := at_loop n2 (r := r2) (h := h2) (n := n) (by omega)
    have b := at_loop n2 (r := r2) (h := h2) (n := n + l2.length * q) (by omega)
    rw [hv] at a
    rw [hv', show n + l2.length * q - h2.length - 1 = (n - h2.length - 1) + l2.length * q by omega, walk_add_mul (len_pos n2)] at b
    injection a with a
    injection b with b
    rw [b, a, hr, hq, Int.natCast_mul, Int.natCast_mul, Int.mul_assoc, Int.mul_assoc, Int.mul_comm (rq : Int) (q : Int)]
  unfold numF
  rw [beh_far hv lv, beh_far hv' lv', at_loop n1 (by omega), at_loop n1 (by omega)]
  show walk l1 r1 _ = walk l1 r1 _ + _
  have e3 : v'.toNat - h1.length - 1 = (v.toNat - h1.length - 1) + l1.length * rq := by
    have : (l1.length : Int) * (rq : Int) = ((l1.length * rq : Nat) : Int) := (Int.natCast_mul _ _).symm
    omega
  rw [e3, walk_add_mul (len_pos n1)]
end
end NT
namespace NT
section
variable {h l : List Int} {r : Int}
theorem at_bound {B R : Int} (hh : ∀ i, i < h.length → h.getD i 0 ≤ B) (hl : ∀ i, i < l.length → l.getD i 0 ≤ B) (r0 : 0 ≤ r) (hr : r ≤ R) (R0 : 0 ≤ R) {n : Nat} (hn : 1 ≤ n) {v : Int} (e : at_ h l r n = some v) : v ≤ B + R * (n : Int) := by
  have Rn : 0 ≤ R * (n : Int) := Int.mul_nonneg R0 (by omega)
  unfold at_ at e
  by_cases c : n ≤ h.length
  · rw [if_pos c] at e
    injection e with e
    have := hh (n - 1) (by omega)
    omega
  · rw [if_neg c] at e
    by_cases z : l = []
    · rw [if_pos z] at e
      cases e
    · rw [if_neg z] at e
      injection e with e
      unfold walk at e
      have a := hl ((n - h.length - 1) % l.length) (Nat.mod_lt _ (len_pos z))
      have b : (n - h.length - 1) / l.length ≤ n := Nat.le_trans (Nat.div_le_self _ _) (by omega)
      have c1 : r * (((n - h.length - 1) / l.length : Nat) : Int) ≤ R * (n : Int) := Int.mul_le_mul hr (Int.ofNat_le.mpr b) (Int.natCast_nonneg _) R0
      omega
/-- all that a form names is less than a bound -/
structure Few (x : List Int × List Int × Int) (B : Int) : Prop where
  v : ∀ n v, 1 ≤ n → n ≤ x.1.length + x.2.1.length → at_ x.1 x.2.1 x.2.2 n = some v → 0 ≤ v ∧ v < B
  r0 : 0 ≤ x.2.2
  r1 : x.2.2 < B
theorem plain_at {x : List Int × List Int × Int} (p : IsPlain h l r x) (n : Nat) (hn : 1 ≤ n) : at_ x.1 x.2.1 x.2.2 n = at_ h l r n := by
  rcases p with ⟨rfl, rfl⟩ | ⟨_, _, _, _, e⟩
  · rfl
  · exact e n hn
theorem plain_few {x : List Int × List Int × Int} {B : Int} (p : IsPlain h l r x) (f : Few (h, l, r) B) : Few x B := by
  have z := plain_size p
  refine ⟨fun n v hn h2 e => f.v n v hn ?_ ((plain_at p n hn).symm.trans e), (z.2.2.2.2.1 f.r0).1, Int.lt_of_le_of_lt (z.2.2.2.2.1 f.r0).2 f.r1⟩
  have := z.1
  have := z.2.1
  dsimp only
  omega
theorem few_head {x : List Int × List Int × Int} {B : Int} (f : Few x B) {i : Nat} (hi : i < x.1.length) : 0 ≤ x.1.getD i 0 ∧ x.1.getD i 0 < B := by
  refine f.v (i + 1) _ (by omega) (by omega) ?_
  unfold at_
  rw [if_pos (by omega), Nat.add_sub_cancel]
theorem few_loop {x : List Int × List Int × Int} {B : Int} (f : Few x B) {i : Nat} (hi : i < x.2.1.length) : 0 ≤ x.2.1.getD i 0 ∧ x.2.1.getD i 0 < B := by
  refine f.v (x.1.length + i + 1) _ (by omega) (by omega) ?_
  rw [at_loop (fun z => by rw [z] at hi; simp at hi) (by omega), show x.1.length + i + 1 - x.1.length - 1 = i by omega, walk_lt hi]
theorem plain_fin {x : List Int × List Int × Int} (g : Good h l r) (p : IsPlain h l r x) : Good x.1 x.2.1 x.2.2 ∧ fin_ x.2.1 x.2.2 = fin_ l r := by
  have z := plain_size p
  have gx : Good x.1 x.2.1 x.2.2 := by
    refine good_of ?_ (z.2.2.2.2.1 g.r0).1 fun hl => ?_
    · have A := asc_at g
      refine ⟨fun n v hn e => A.ge n v hn ((plain_at p n hn).symm.trans e), fun n v hn e => ?_⟩
      obtain ⟨u, hu, le⟩ := A.up n v hn ((plain_at p (n + 1) (by omega)).symm.trans e)
      exact ⟨u, (plain_at p n hn).trans hu, le⟩
    · by_cases q : l = []
      · rw [z.2.2.2.2.2.2 q]
      · exact absurd hl (z.2.2.1 q)
  refine ⟨gx, ?_⟩
  by_cases q : l = []
  · have hx := z.2.2.2.1 q
    unfold fin_
    rw [if_pos (.inl hx), if_pos (.inl q)]
  · have hx := z.2.2.1 q
    have hr := z.2.2.2.2.2.1 q
    by_cases q2 : 0 < r
    · unfold fin_
      rw [if_pos (.inr (hr.mp q2)), if_pos (.inr q2)]
    · have r0 : r = 0 := by have := g.r0; omega
      have rx : x.2.2 = 0 := by
        have := gx.r0
        have : ¬ 0 < x.2.2 := fun y => q2 (hr.mpr y)
        omega
      rw [← at_fin gx (.inr rx) (n := x.1.length + h.length + 1) (by omega), ← at_fin g (.inr r0) (n := x.1.length + h.length + 1) (by omega)]
      exact plain_at p _ (by omega)
theorem val_plain {x : List Int × List Int × Int} (g : Good h l r) (p : IsPlain h l r x) (n : Option Nat) : val_ x.1 x.2.1 x.2.2 n = val_ h l r n := by
  unfold val_
  cases n with
  | none => exact (plain_fin g p).2
  | some n =>
    dsimp only
    by_cases c : n = 0
    · rw [if_pos c, if_pos c]
    · rw [if_neg c, if_neg c]
      exact plain_at p n (by omega)
end
theorem beh_plain {h1 l1 h2 l2 : List Int} {r1 r2 : Int} {x y : List Int × List Int × Int} (g1 : Good h1 l1 r1) (p1 : IsPlain h1 l1 r1 x) (p2 : IsPlain h2 l2 r2 y) (n : Nat) (hn : 1 ≤ n) : beh x.1 x.2.1 x.2.2 y.1 y.2.1 y.2.2 n = beh h1 l1 r1 h2 l2 r2 n := by
  unfold beh
  rw [plain_at p2 n hn, val_plain g1 p1]
/-- what is not after a place at which a bound is passed -/
theorem far_of {h l : List Int} {r : Int} (g : Good h l r) (hl : l ≠ []) {lead : Nat} {lim : Int} (e : lim < num h l r (lead + 1)) (n : Nat) (hn : lead < n) : ∃ v, at_ h l r n = some v ∧ lim < v := by
  refine ⟨_, at_some n (.inr hl), ?_⟩
  have := (asc_at g).mono (m := lead + 1) (n := n) (by omega) (by omega) (by rw [at_some n (.inr hl)]; exact fun z => by cases z)
  exact Int.lt_of_lt_of_le e this
end NT
set_option Elab.async false
set_option linter.all false
set_option maxRecDepth 100000
set_option maxHeartbeats 4000000
/-! A comprehension with two fors: the outer one, the inner one. -/
namespace NF
open PySem PySem.Spec PyProof.Rows L2
theorem pi_tupK {X : Cx} {K : PySem.W.Frag} {tg l : Expr} {tl : TE} (hl : PE X l tl) (h : X.K = K := by rfl) : PI X tg l (iTup K tl) := h ▸ pi_tup hl
theorem pi_listK {X : Cx} {K : PySem.W.Frag} {tg l : Expr} {tl : TE} (hl : PE X l tl) (h : X.K = K := by rfl) : PI X tg l (iList K tl) := h ▸ pi_list hl
theorem pe_fldK {X : Cx} {K : PySem.W.Frag} {e : Expr} {f : Str} {pos : Pos} {ta : TE} (he : PE X e ta) (hb : attributeBase e f X.env (eval e X.env) = eval e X.env) (h : X.K = K := by rfl) : PE X (.Attribute e f pos) (tFld K ta f) := h ▸ pe_fld he hb
theorem lc2_range {lo : Int} {n : Nat} {g g1 : TG} {tt tt1 : TT} {wi1 : TI} {te : TE} {vs vs1 : List Nat} {σ : L2.St} {H1 : Hp} {D : Addr} {Qd : Hp → Prop} (Pv : Nat → Hp → Prop) (h0 : Pv 0 (upd H1 D (.lst [])))
    (hs : ∀ i H, i < n → Pv i H → g (.int (lo + i)) (wipe σ vs) H fun σ2 H2 => wipe σ2 vs = wipe σ vs ∧ tt σ2 H2 fun b H3 =>
      if b = true then wi1 σ2 H3 fun J1 H4 => ∃ W1 : Nat → Nat → Hp → Prop, (∃ m, W1 0 m H4) ∧ ∀ j k H, W1 j k H →
        (J1.stop j H ∧ Pv (i + 1) H) ∨ (J1.go j H ∧ ∃ Nx1 : Hp → Prop, (∀ H', Nx1 H' → ∃ k', k' < k ∧ W1 (j + 1) k' H') ∧ ∀ x H', J1.yld j H x H' → g1 x (wipe σ2 vs1) H' fun σ3 H5 => wipe σ3 vs1 = wipe σ2 vs1 ∧ tt1 σ3 H5 fun b H6 =>
          if b = true then te σ3 H6 fun y H7 => ∃ acc, H7 D = some (.lst acc) ∧ acc.length < sizeLine ∧ Nx1 (upd H7 D (.lst (acc ++ [y]))) else Nx1 H6)
      else Pv (i + 1) H3) (hd : ∀ H, Pv n H → Qd H) :
    ∃ W : Nat → Nat → Hp → Prop, (∃ m, W 0 m (upd H1 D (.lst []))) ∧ ∀ i m H, W i m H →
      ((Itr lo n).stop i H ∧ Qd H) ∨ ((Itr lo n).go i H ∧ ∃ Nx : Hp → Prop, (∀ H', Nx H' → ∃ m', m' < m ∧ W (i + 1) m' H') ∧ ∀ x H', (Itr lo n).yld i H x H' → g x (wipe σ vs) H' fun σ2 H2 => wipe σ2 vs = wipe σ vs ∧ tt σ2 H2 fun b H3 =>
        if b = true then wi1 σ2 H3 fun J1 H4 => ∃ W1 : Nat → Nat → Hp → Prop, (∃ m, W1 0 m H4) ∧ ∀ j k H, W1 j k H →
          (J1.stop j H ∧ Nx H) ∨ (J1.go j H ∧ ∃ Nx1 : Hp → Prop, (∀ H', Nx1 H' → ∃ k', k' < k ∧ W1 (j + 1) k' H') ∧ ∀ x H', J1.yld j H x H' → g1 x (wipe σ2 vs1) H' fun σ3 H5 => wipe σ3 vs1 = wipe σ2 vs1 ∧ tt1 σ3 H5 fun b H6 =>
            if b = true then te σ3 H6 fun y H7 => ∃ acc, H7 D = some (.lst acc) ∧ acc.length < sizeLine ∧ Nx1 (upd H7 D (.lst (acc ++ [y]))) else Nx1 H6)
        else Nx H3) := by
  refine ⟨fun i m H => m = n - i ∧ i ≤ n ∧ Pv i H, ⟨n, by simp, Nat.zero_le _, h0⟩, ?_⟩
  rintro i m H ⟨rfl, hi, p⟩
  by_cases hlt : i < n
  · refine .inr ⟨hlt, Pv (i + 1), fun H' p' => ⟨n - (i + 1), by omega, rfl, hlt, p'⟩, fun x H' y => ?_⟩
    obtain ⟨e, y⟩ := y
    subst e y
    exact hs i _ hlt p
  · have e : i = n := by omega
    subst e
    exact .inl ⟨Nat.le_refl _, hd H p⟩
theorem in_it {J : It} {n : Nat} {G : Hp → Prop} {Y : Nat → Hp → V → Hp → Prop} (w : Walk J n G Y) {g : TG} {tt : TT} {te : TE} {vs : List Nat} {σ : L2.St} {H4 : Hp} {D : Addr} {Qd : Hp → Prop} (Pv : Nat → Hp → Prop) (h0 : Pv 0 H4) (hG : ∀ i H, i ≤ n → Pv i H → G H)
    (hs : ∀ i x H H', i < n → Pv i H → Y i H x H' → g x (wipe σ vs) H' fun σ2 H2 => wipe σ2 vs = wipe σ vs ∧ tt σ2 H2 fun b H3 =>
      if b = true then te σ2 H3 fun y H4 => ∃ acc, H4 D = some (.lst acc) ∧ acc.length < sizeLine ∧ Pv (i + 1) (upd H4 D (.lst (acc ++ [y]))) else Pv (i + 1) H3) (hd : ∀ H, Pv n H → Qd H) :
    ∃ W : Nat → Nat → Hp → Prop, (∃ m, W 0 m H4) ∧ ∀ i m H, W i m H →
      (J.stop i H ∧ Qd H) ∨ (J.go i H ∧ ∃ Nx : Hp → Prop, (∀ H', Nx H' → ∃ m', m' < m ∧ W (i + 1) m' H') ∧ ∀ x H', J.yld i H x H' → g x (wipe σ vs) H' fun σ2 H2 => wipe σ2 vs = wipe σ vs ∧ tt σ2 H2 fun b H3 =>
        if b = true then te σ2 H3 fun y H4 => ∃ acc, H4 D = some (.lst acc) ∧ acc.length < sizeLine ∧ Nx (upd H4 D (.lst (acc ++ [y]))) else Nx H3) := by
  refine ⟨fun i m H => m = n - i ∧ i ≤ n ∧ Pv i H, ⟨n, by simp, Nat.zero_le _, h0⟩, ?_⟩
  rintro i m H ⟨rfl, hi, p⟩
  have q := hG i H hi p
  by_cases hlt : i < n
  · exact .inr ⟨w.goes i H hlt q, Pv (i + 1), fun H' p' => ⟨n - (i + 1), by omega, rfl, hlt, p'⟩, fun x H' y => hs i x H H' hlt p (w.yields i H x H' hlt q y)⟩
  · have e : i = n := by omega
    subst e
    exact .inl ⟨w.stops H q, hd H p⟩
end NF
set_option Elab.async false
set_option linter.all false
set_option maxRecDepth 100000
set_option maxHeartbeats 4000000
namespace NF
open PySem PySem.Spec PyProof.Rows L2 He RZ NT
theorem cut_nm {xs : List V} {a b : Nat} : cutV xs (some (a : Int)) (some (b : Int)) = (xs.drop a).take (b - a) := by
  unfold cutV
  rw [HT.sIx_nat, HT.sIx_nat]
  by_cases ha : a ≤ xs.length
  · rw [Nat.min_eq_left ha]
    by_cases hb : b ≤ xs.length
    · rw [Nat.min_eq_left hb]
    · rw [Nat.min_eq_right (show xs.length ≤ b by omega), List.take_of_length_le (by rw [List.length_drop]; omega), List.take_of_length_le (by rw [List.length_drop]; omega)]
  · rw [Nat.min_eq_right (show xs.length ≤ a by omega), List.drop_of_length_le (Nat.le_refl _), List.drop_of_length_le (show xs.length ≤ a by omega)]
    simp
end NF
namespace NT
theorem segN_add {F : Nat → Option Int} {s a b : Nat} : segN F s (a + b) = segN F s a ++ segN F (s + a) b := by
  induction b with
  | zero => simp [segN]
  | succ b ih => rw [← Nat.add_assoc, segN_succ, ih, segN_succ, List.append_assoc, show s + (a + b) + 1 = s + a + b + 1 by omega]
theorem seg_head {h l : List Int} {r : Int} {s a : Nat} (le : s + a ≤ h.length) : (h.drop s).take a = segN (at_ h l r) s a := by
  refine List.ext_getElem (by rw [List.length_take, List.length_drop, segN_len]; omega) fun i h1 h2 => ?_
  rw [segN_len] at h2
  have e := segN_get (F := at_ h l r) (a := s) h2
  rw [List.getD_eq_getElem?_getD, List.getElem?_eq_getElem (by rw [segN_len]; exact h2)] at e
  refine Eq.trans ?_ (show _ = (segN (at_ h l r) s a)[i]'(by rw [segN_len]; exact h2) from e.symm)
  rw [List.getElem_take, List.getElem_drop]
  unfold numF at_
  rw [if_pos (by omega), show s + i + 1 - 1 = s + i by omega, List.getD_eq_getElem?_getD, List.getElem?_eq_getElem (show s + i < h.length by omega)]
  rfl
def wlk (l : List Int) (r : Int) (b n : Nat) : List Int := (List.range n).map fun t => walk l r (b + t)
theorem wlk_len {l : List Int} {r : Int} {b n : Nat} : (wlk l r b n).length = n := by unfold wlk; rw [List.length_map, List.length_range]
theorem wlk_succ {l : List Int} {r : Int} {b n : Nat} : wlk l r b (n + 1) = wlk l r b n ++ [walk l r (b + n)] := by
  unfold wlk
  rw [List.range_succ, List.map_append]
  rfl
theorem seg_loop {h l : List Int} {r : Int} {s b : Nat} (hl : l ≠ []) (le : h.length ≤ s) : segN (at_ h l r) s b = wlk l r (s - h.length) b := by
  induction b with
  | zero => rfl
  | succ b ih =>
    rw [segN_succ, wlk_succ, ih]
    congr 2
    unfold numF
    rw [at_loop hl (by omega), show s + b + 1 - h.length - 1 = s - h.length + b by omega]
    rfl
theorem wlk_cut {l : List Int} {r : Int} {b n a m : Nat} (le : a + m ≤ n) : ((wlk l r b n).drop a).take m = wlk l r (b + a) m := by
  refine List.ext_getElem (by rw [List.length_take, List.length_drop, wlk_len, wlk_len]; omega) fun i h1 h2 => ?_
  rw [wlk_len] at h2
  have g : ∀ (b n i : Nat) (hi : i < n), (wlk l r b n)[i]'(by rw [wlk_len]; exact hi) = walk l r (b + i) := fun b n i hi => by simp [wlk]
  rw [List.getElem_take, List.getElem_drop, g _ _ _ (by omega), g _ _ _ h2, Nat.add_assoc]
end NT
namespace K09
open PySem PySem.Spec PyProof.Rows L2 He NF RZ NT
/-- the values of a table with a loop, from a place on -/
def spFrom (K : PySem.W.Frag) (C : Addr) : Sp := fun vs H Q _ => ∃ (x : Addr) (y : List Int × List Int × Int) (s m : Nat), vs = [.ref x, .int ((s + 1 : Nat) : Int), .int (m : Int)] ∧ TabAt K C H x y ∧ (y.2.1 ≠ [] ∨ s + m ≤ y.1.length) ∧ 0 ≤ y.2.2 ∧ y.2.2 ≤ 1000000 ∧ y.1.length ≤ 1000 ∧ y.2.1.length ≤ 1000 ∧ s ≤ 1000 ∧ m ≤ 1000 ∧
  ∀ q H', Same H H' → H' q = some (.lst (vI (segN (at_ y.1 y.2.1 y.2.2) s m))) → Q (.ref q) H'
theorem sc_values_from : FnScope ["table", "start", "many", "found", "rest", "laps", "turned", "lap", "at", "k", "entry"] ["table", "start", "many"] (defScope s_values_from) := ⟨rfl, rfl, rfl, by decide +kernel, rfl, by decide +kernel, by decide +kernel⟩
section
variable {P : Program} {w : World} {K : PySem.W.Frag} {mg : Str → Option Value} {base : Heap} {gs fs : List Str} {C : Addr}
theorem ok_values_from {f : Addr} {fd : FuncData} (F : FunD K "values_from" "values_from" (defArgs s_values_from) (defBody s_values_from) (defScope s_values_from) [] [] f fd) (T : Txt K mg gs FS) (tc : TabC K C) : FnOk P w K mg base CX0 2 f fd ["table", "start", "many"] (spFrom K C) := by
  refine F.ok sc_values_from (fun vs H Q E h => ?_) (fun cdv A outer s H vs Q E hr h => ?_)
  · obtain ⟨x, y, s, m, rfl, _⟩ := h
    rfl
  · obtain ⟨x, ⟨h, l, r⟩, s0, m, rfl, ⟨dx, a, b, hx, ha, hb⟩, hlm, r0, r1, lh, ll, ls, lm, q⟩ := h
    dsimp only at hx ha hb hlm r0 r1 lh ll q
    refine ⟨_, PSs.nox (pss_cons (ps_set (i := 3) sc_values_from.nd rfl (Or.inl rfl) (pe_callTy call_list_of rfl (T.fr _ (by decide +kernel)) (by decide +kernel) (pa_cons (pe_slice sl_tupA (pe_fld (pv 0) rfl) (po_some (pe_op op_sub (pv 1) pe_int)) (po_some (pe_op op_add (pe_op op_sub (pv 1) pe_int) (pv 2)))) pa_nil))) (pss_cons (ps_set (i := 4) sc_values_from.nd rfl (Or.inl rfl) (pe_op op_sub (pv 2) (pe_callB call_len_seq rfl (T.fr _ (by decide +kernel)) boot_len (pa_cons (pv 3) pa_nil)))) (pss_cons (ps_if (pt_cmpR op_eq (pv 4) pe_int (nomark _)) (pss_one (ps_ret (pv 3))) pss_nil) (pss_cons (ps_if (pt_not (pt_truth (pe_fld (pv 0) rfl) (fun _ => rfl))) (pss_one (ps_ret (pe_op op_cat (pv 3) (pe_op op_rep (pe_lst (pa_cons pe_non pa_nil)) (pv 4))))) pss_nil) (pss_cons (ps_asg (pe_callB call_divmod rfl (T.fr _ (by decide +kernel)) (by decide +kernel) (pa_cons (pe_op op_sub (pe_op op_sub (pe_op op_add (pv 1) (pe_callB call_len_seq rfl (T.fr _ (by decide +kernel)) boot_len (pa_cons (pv 3) pa_nil))) (pe_callB call_len_seq rfl (T.fr _ (by decide +kernel)) boot_len (pa_cons (pe_fld (pv 0) rfl) pa_nil))) pe_int) (pa_cons (pe_callB call_len_seq rfl (T.fr _ (by decide +kernel)) boot_len (pa_cons (pe_fld (pv 0) rfl) pa_nil)) pa_nil))) (pgt (K := K) (n := 2) rfl rfl (pgs_cons (pg_name (i := 7) sc_values_from.nd rfl (Or.inl rfl)) (pgs_cons (pg_name (i := 8) sc_values_from.nd rfl (Or.inl rfl)) pgs_nil)))) (pss_cons (ps_set (i := 5) sc_values_from.nd rfl (Or.inl rfl) (pe_op op_add (pe_op op_fdiv (pe_op op_sub (pe_op op_add (pv 8) (pv 4)) pe_int) (pe_callB call_len_seq rfl (T.fr _ (by decide +kernel)) boot_len (pa_cons (pe_fld (pv 0) rfl) pa_nil))) pe_int)) (pss_cons (ps_setLc2 (i := 6) (own := [("k", 9), ("entry", 10)]) (vs1 := [10]) rfl sc_values_from.nd rfl rfl (sw_true rfl rfl rfl (by decide +kernel)) (pi_range2 rfl (T.fr _ (by decide +kernel)) (pa_cons (pv 7) (pa_cons (pe_op op_add (pv 7) (pv 5)) pa_nil))) (blkOk_by (N := ["table", "start", "many", "found", "rest", "laps", "turned", "lap", "at", "k", "entry"]) (sc := defScope s_values_from) (by decide +kernel)) (by decide) (fun _ _ _ _ _ => by exact (pg_name (i := 9) sc_values_from.nd rfl (Or.inl rfl))) (fun _ _ _ _ _ => by exact pts_nil) (fun _ _ _ _ _ => by exact (pi_tupK (K := K) (pe_fldK (K := K) (pv 0) rfl))) (fun _ _ _ _ _ => by exact (pg_name (i := 10) sc_values_from.nd rfl (Or.inl rfl))) (fun _ _ _ _ _ => by exact pts_nil) (fun _ _ _ _ _ => by exact (pe_op op_add (pv 10) (pe_op op_mul (pv 9) (pe_fldK (K := K) (pv 0) rfl))))) (pss_one (ps_ret (pe_op op_cat (pv 3) (pe_slice sl_list (pv 6) (po_some (pv 8)) (po_some (pe_op op_add (pv 8) (pv 4)))))))))))))), ?_⟩
    refine ⟨_, rfl, x, C, dx, _, _, rfl, hx, tc.cl, tc.hd, rfl, _, rfl, _, _, rfl, rfl, _, rfl, _, rfl, _, _, rfl, rfl, _, rfl, _, _, rfl, rfl, _, rfl, ?_⟩
    refine slA_done (K := K) ha fun p1 H1 s1 t1 => ?_
    have e1 : ((s0 + 1 : Nat) : Int) - 1 = (s0 : Int) := by omega
    have e2 : (s0 : Int) + (m : Int) = ((s0 + m : Nat) : Int) := by omega
    rw [e1, e2, cut_nm, vI_drop, vI_take, show s0 + m - s0 = m by omega] at t1
    obtain ⟨u, hu⟩ : ∃ u, u = min m (h.length - s0) := ⟨_, rfl⟩
    have ef : (h.drop s0).take m = segN (at_ h l r) s0 u := by
      by_cases c : s0 ≤ h.length
      · rw [← seg_head (show s0 + u ≤ h.length by omega)]
        rw [List.take_eq_take_iff.mpr]
        rw [List.length_drop]
        omega
      · rw [List.drop_of_length_le (by omega), show u = 0 by omega]
        simp [segN]
    rw [ef] at t1
    refine ⟨p1, _, rfl, Or.inr t1, fun q1 hq1 => ?_⟩
    have s2 : Same H (upd H1 q1 (.lst (vI (segN (at_ h l r) s0 u)))) := Same.trans s1 (NF.Same.new (Same.refl H1) hq1)
    have hq2 : (upd H1 q1 (.lst (vI (segN (at_ h l r) s0 u)))) q1 = some (.lst (vI (segN (at_ h l r) s0 u))) := upd_same
    generalize upd H1 q1 (.lst (vI (segN (at_ h l r) s0 u))) = H2 at s2 hq2
    have hx2 := s2 _ _ hx
    have ha2 := NF.Same.tup s2 ha
    have hb2 := NF.Same.tup s2 hb
    refine ⟨_, rfl, _, rfl, q1, _, rfl, Or.inl (SqL.of hq2), ?_⟩
    rw [vI_len, segN_len]
    refine ⟨_, _, rfl, rfl, ?_⟩
    obtain ⟨rest, hrest⟩ : ∃ rest, rest = m - u := ⟨_, rfl⟩
    have erest : (m : Int) - (u : Int) = (rest : Int) := by omega
    show gName 4 (V.int ((m : Int) - (u : Int))) _ _ _
    rw [erest]
    refine ⟨_, rfl, rfl, _, rfl, ite2 (fun h1 => ?_) (fun h1 => ?_)⟩
    · have h2 : u = m := by
        have := of_decide_eq_true h1
        injection this with this
        omega
      subst h2
      exact ⟨_, rfl, q q1 H2 s2 hq2⟩
    have hum : u < m := by
      have : rest ≠ 0 := fun z => h1 (decide_eq_true (by rw [z]; rfl))
      omega
    have hs0 : h.length ≤ s0 + u := by omega
    have hl : l ≠ [] := hlm.resolve_right (by omega)
    have l0 := len_pos hl
    refine ⟨_, rfl, x, C, dx, _, _, rfl, hx2, tc.cl, tc.lp, rfl, _, tru_tup hb2, ?_⟩
    rw [ne_nil hl]
    refine iteF ?_
    refine ⟨_, rfl, _, rfl, q1, _, rfl, Or.inl (SqL.of hq2), _, _, rfl, rfl, ?_⟩
    rw [vI_len, segN_len]
    refine ⟨_, rfl, x, C, dx, _, _, rfl, hx2, tc.cl, tc.hd, rfl, a, _, rfl, Or.inr ha2, _, _, rfl, rfl, _, _, rfl, rfl, ?_⟩
    refine ⟨_, rfl, x, C, dx, _, _, rfl, hx2, tc.cl, tc.lp, rfl, b, _, rfl, Or.inr hb2, ?_⟩
    rw [vI_len, vI_len]
    obtain ⟨d, hd⟩ : ∃ d, d = s0 + u - h.length := ⟨_, rfl⟩
    have ed : ((s0 + 1 : Nat) : Int) + (u : Int) - (h.length : Int) - 1 = (d : Int) := by omega
    refine ⟨_, _, rfl, ⟨by omega, by omega⟩, fun p hpn => ?_⟩
    have s3 := Same.trans s2 (NF.Same.new (o := .tup [V.int ((((s0 + 1 : Nat) : Int) + (u : Int) - (h.length : Int) - 1) / (l.length : Int)), V.int ((((s0 + 1 : Nat) : Int) + (u : Int) - (h.length : Int) - 1) % (l.length : Int))]) (Same.refl H2) hpn)
    have hx3 := s3 _ _ hx
    have hb3 := NF.Same.tup s3 hb
    have hq3 := (NF.Same.new (o := .tup [V.int ((((s0 + 1 : Nat) : Int) + (u : Int) - (h.length : Int) - 1) / (l.length : Int)), V.int ((((s0 + 1 : Nat) : Int) + (u : Int) - (h.length : Int) - 1) % (l.length : Int))]) (Same.refl H2) hpn) _ _ hq2
    refine ⟨p, _, rfl, SqT.of upd_same, rfl, _, _, rfl, ?_⟩
    refine ⟨_, _, rfl, ?_⟩
    refine ⟨rfl, ?_⟩
    rw [ed] at s3 hq3 hx3 hb3 ⊢
    generalize upd H2 p (.tup [V.int ((d : Int) / (l.length : Int)), V.int ((d : Int) % (l.length : Int))]) = G0 at s3 hq3 hx3 hb3
    have ea : (d : Int) % (l.length : Int) = ((d % l.length : Nat) : Int) := rfl
    have el : (d : Int) / (l.length : Int) = ((d / l.length : Nat) : Int) := rfl
    rw [ea, el]
    have at_lt := Nat.mod_lt d l0
    have dle : d / l.length ≤ d := Nat.div_le_self _ _
    have dme := Nat.mod_add_div d l.length
    generalize hat : d % l.length = at' at *
    generalize hlap : d / l.length = lap at *
    obtain ⟨laps, hlaps⟩ : ∃ laps, laps = (at' + rest - 1) / l.length + 1 := ⟨_, rfl⟩
    have lapsle : laps ≤ 3000 := by
      have : (at' + rest - 1) / l.length ≤ at' + rest - 1 := Nat.div_le_self _ _
      omega
    have elaps : ((at' : Int) + (rest : Int) - 1) / (l.length : Int) + 1 = (laps : Int) := by
      have : (at' : Int) + (rest : Int) - 1 = ((at' + rest - 1 : Nat) : Int) := by omega
      rw [this, hlaps]
      rfl
    have enough : at' + rest ≤ laps * l.length := by
      have e := Nat.mod_add_div (at' + rest - 1) l.length
      have lt := Nat.mod_lt (at' + rest - 1) l0
      have : laps * l.length = l.length * ((at' + rest - 1) / l.length) + l.length := by rw [hlaps, Nat.add_mul, Nat.mul_comm, Nat.one_mul]
      omega
    refine ⟨_, rfl, _, rfl, _, _, rfl, rfl, _, _, rfl, rfl, _, rfl, x, C, dx, _, _, rfl, hx3, tc.cl, tc.lp, rfl, b, _, rfl, Or.inr hb3, ?_⟩
    rw [vI_len]
    refine ⟨_, _, rfl, rfl, ⟨by omega, by omega⟩, _, _, rfl, rfl, ?_⟩
    show gName 5 (V.int (((at' : Int) + (rest : Int) - 1) / (l.length : Int) + 1)) _ _ _
    rw [elaps]
    refine ⟨_, rfl, _, rfl, _, rfl, _, _, rfl, rfl, _, _, rfl, ⟨by omega, by omega, by omega, by omega⟩, fun D hD => ?_⟩
    have en : ((lap : Int) + (laps : Int) - (lap : Int)).toNat = laps := by omega
    rw [en]
    refine lc2_range (lo := (lap : Int)) (n := laps) (fun i G => Same G0 G ∧ G D = some (.lst (vI (wlk l r (lap * l.length) (i * l.length))))) ⟨NF.Same.new (Same.refl _) hD, by rw [upd_same, Nat.zero_mul]; rfl⟩ ?_ ?_
    · rintro i G hi ⟨hG, hD2⟩
      refine ⟨rfl, _, rfl, x, C, dx, _, _, rfl, hG _ _ hx3, tc.cl, tc.lp, rfl, b, rfl, ⟨_, NF.Same.tup hG hb3⟩, ?_⟩
      refine in_it (walk_tup (xs := vI l)) (fun j G' => Same G0 G' ∧ G' D = some (.lst (vI (wlk l r (lap * l.length) (i * l.length + j))))) ⟨hG, hD2⟩ (fun j G' _ z => NF.Same.tup z.1 hb3) ?_ ?_
      · rintro j v G' G'' hj ⟨hG', hD'⟩ ⟨rfl, hv⟩
        rw [vI_len] at hj
        obtain rfl : v = V.int (l.getD j 0) := by
          rw [List.getElem?_map, List.getElem?_eq_getElem hj] at hv
          rw [List.getD_eq_getElem?_getD, List.getElem?_eq_getElem hj]
          exact (Option.some.inj hv).symm
        refine ⟨rfl, _, rfl, _, rfl, _, rfl, x, C, dx, _, _, rfl, hG' _ _ hx3, tc.cl, tc.ri, rfl, _, _, rfl, rfl, Or.inr ⟨by omega, by omega⟩, _, _, rfl, rfl, _, hD', ?_, NF.Same.mut hG' hD, ?_⟩
        · rw [vI_len, wlk_len]
          have : i * l.length ≤ 3000 * 1000 := Nat.mul_le_mul (by omega) ll
          exact Nat.lt_of_le_of_lt (show i * l.length + j ≤ 3001000 by omega) (by decide)
        · have ev : l.getD j 0 + ((lap : Int) + (i : Int)) * r = walk l r (lap * l.length + (i * l.length + j)) := by
            have : lap * l.length + (i * l.length + j) = j + l.length * (lap + i) := by rw [Nat.mul_add, Nat.mul_comm lap, Nat.mul_comm i]; omega
            rw [this, walk_add_mul l0, walk_lt hj, Int.natCast_add, Int.mul_comm r]
          rw [upd_same, ← Nat.add_assoc, wlk_succ, ← vI_app, ← ev]
          rfl
      · rintro G' ⟨hG', hD'⟩
        rw [vI_len] at hD'
        exact ⟨hG', by rw [hD', Nat.add_mul, Nat.one_mul]⟩
    · rintro G ⟨hG, hD2⟩
      refine ⟨_, rfl, _, rfl, _, rfl, _, rfl, _, rfl, _, rfl, _, _, rfl, rfl, _, rfl, D, _, rfl, SqL.of hD2, fun p2 hp2 => ?_⟩
      have e3 : (at' : Int) + (rest : Int) = ((at' + rest : Nat) : Int) := by omega
      rw [e3, cut_nm, vI_drop, vI_take, show at' + rest - at' = rest by omega, wlk_cut enough]
      have s5 : Same G0 (upd G p2 (.lst (vI (wlk l r (lap * l.length + at') rest)))) := Same.trans hG (NF.Same.new (Same.refl G) hp2)
      refine ⟨q1, p2, _, _, rfl, rfl, s5 _ _ hq3, upd_same, ?_, fun q2 hq2' => ?_⟩
      · rw [vI_len, vI_len, segN_len, wlk_len]
        exact Nat.le_trans (show u + rest ≤ 2000 by omega) (by decide)
      · refine q q2 _ (Same.trans s3 (Same.trans s5 (NF.Same.new (Same.refl _) hq2'))) ?_
        rw [upd_same, vI_app, show m = u + rest by omega, segN_add, seg_loop hl hs0, ← hd, ← dme, Nat.mul_comm l.length lap, Nat.add_comm at']
end
end K09
set_option Elab.async false
set_option linter.all false
set_option maxRecDepth 100000
set_option maxHeartbeats 4000000
namespace NF
open PySem PySem.Spec PyProof.Rows L2 He RZ NT
theorem SqL.put {K : PySem.W.Frag} {H : Hp} {a D : Addr} {o : HO} {xs acc : List V} (h : SqL K H a xs) (hD : H D = some (.lst acc)) (n : xs ≠ acc) : SqL K (upd H D o) a xs := by
  rcases h with h | h
  · by_cases e : a = D
    · subst e
      rcases h with h | ⟨z, h⟩
      · rw [h] at hD
        injection hD with hD
        injection hD with hD
        exact absurd hD n
      · rw [h] at hD
        injection hD with hD
        cases hD
    · refine .inl ?_
      rcases h with h | ⟨z, h⟩
      · exact .inl ((upd_ne e).trans h)
      · exact .inr ⟨z, (upd_ne e).trans h⟩
  · exact .inr h
theorem LadAt.put {K : PySem.W.Frag} {H : Hp} {p D : Addr} {o : HO} {L : List (Nat × List Int)} {acc : List V} (h : LadAt K H p L) (hD : H D = some (.lst acc)) (hp : ∀ vs, SqL K H p vs → SqL K (upd H D o) p vs) (ho : match o with | .lst _ => True | _ => False) (hm : ∀ r ∈ L, r.2 ≠ []) (ha : ∀ v ∈ acc, ∃ q, v = .ref q) : LadAt K (upd H D o) p L := by
  obtain ⟨vs, h1, h2⟩ := h
  refine ⟨vs, hp vs h1, ?_⟩
  clear h1
  induction h2 with
  | nil => exact .nil
  | @cons v r vs L hv _ ih =>
    obtain ⟨t, q, e, ht, hq⟩ := hv
    refine .cons ⟨t, q, e, ?_, SqL.put hq hD fun z => ?_⟩ (ih fun r hr => hm r (List.mem_cons_of_mem _ hr))
    · cases o with
      | lst ys => exact NF.SqT.put ht hD trivial
      | _ => exact ho.elim
    · have hne := hm r (List.mem_cons_self ..)
      cases hr : r.2 with
      | nil => exact hne hr
      | cons x xs =>
        rw [hr] at z
        obtain ⟨q', e'⟩ := ha (.int x) (by rw [← z]; exact List.mem_cons_self ..)
        cases e'
end NF
namespace NT
theorem Lad.rows {f : Nat → Int} {n w : Nat} {L : List (Nat × List Int)} (h : Lad f n w L) : ∀ r ∈ L, r.2 ≠ [] := by
  have one : ∀ {w : Nat} {m : List Int}, Rung f n w m → m ≠ [] := fun {w m} h z => by
    have hl := h.len
    have hw := h.wn
    rw [z] at hl
    have hl : 0 = n + 1 - w := hl
    omega
  induction h with
  | one h =>
    intro r hr
    rw [List.mem_singleton.mp hr]
    exact one h
  | two h _ ih =>
    intro r hr
    rcases List.mem_cons.mp hr with rfl | hr
    · exact one h
    · exact ih r hr
end NT
namespace NF
open PySem PySem.Spec PyProof.Rows L2 He RZ NT
theorem SqL.putI {K : PySem.W.Frag} {H : Hp} {a x C dx : Addr} {o : HO} {xs : List V} {fs : List (Str × V)} (h : SqL K H a xs) (hx : H x = some (.ins C dx fs)) : SqL K (upd H x o) a xs := by
  rcases h with h | h
  · by_cases e : a = x
    · subst e
      rcases h with h | ⟨z, h⟩ <;> (rw [h] at hx; injection hx with hx; cases hx)
    · refine .inl ?_
      rcases h with h | ⟨z, h⟩
      · exact .inl ((upd_ne e).trans h)
      · exact .inr ⟨z, (upd_ne e).trans h⟩
  · exact .inr h
theorem SqL.upd_ne {K : PySem.W.Frag} {H : Hp} {a D : Addr} {o : HO} {xs : List V} (h : SqL K H a xs) (n : a ≠ D) : SqL K (upd H D o) a xs := by
  rcases h with h | h
  · refine .inl ?_
    rcases h with h | ⟨z, h⟩
    · exact .inl ((L2.upd_ne n).trans h)
    · exact .inr ⟨z, (L2.upd_ne n).trans h⟩
  · exact .inr h
theorem Rungs.putI {K : PySem.W.Frag} {H : Hp} {x C dx : Addr} {fs fs' : List (Str × V)} {dx' : Addr} (hx : H x = some (.ins C dx fs)) : ∀ {vs : List V} {L : List (Nat × List Int)}, Rungs K H vs L → Rungs K (upd H x (.ins C dx' fs')) vs L
  | _, _, .nil => .nil
  | _, _, .cons ⟨t, q, e, ht, hq⟩ r => .cons ⟨t, q, e, NF.SqT.put ht hx trivial, SqL.putI hq hx⟩ (Rungs.putI hx r)
theorem LadAt.putI {K : PySem.W.Frag} {H : Hp} {p x C dx : Addr} {fs fs' : List (Str × V)} {dx' : Addr} {L : List (Nat × List Int)} (h : LadAt K H p L) (hx : H x = some (.ins C dx fs)) : LadAt K (upd H x (.ins C dx' fs')) p L := by
  obtain ⟨vs, h1, h2⟩ := h
  exact ⟨vs, SqL.putI h1 hx, h2.putI hx⟩
theorem Rnrs.putI {K : PySem.W.Frag} {H : Hp} {x C dx : Addr} {fs fs' : List (Str × V)} {dx' : Addr} (hx : H x = some (.ins C dx fs)) : ∀ {vs : List V} {R : List (Nat × Nat × Int)}, Rnrs K H vs R → Rnrs K (upd H x (.ins C dx' fs')) vs R
  | _, _, .nil => .nil
  | _, _, .cons ⟨t, e, ht⟩ r => .cons ⟨t, e, NF.SqT.put ht hx trivial⟩ (Rnrs.putI hx r)
theorem RunAt.putI {K : PySem.W.Frag} {H : Hp} {p x C dx : Addr} {fs fs' : List (Str × V)} {dx' : Addr} {R : List (Nat × Nat × Int)} (h : RunAt K H p R) (hx : H x = some (.ins C dx fs)) : RunAt K (upd H x (.ins C dx' fs')) p R := by
  obtain ⟨vs, h1, h2⟩ := h
  exact ⟨vs, SqL.putI h1 hx, h2.putI hx⟩
theorem both7 {X : Prop} {R : List Int → List Int → Int → Int → Addr → Addr → Hp → Prop} (P : List Int → List Int → Int → Int → Addr → Addr → Hp → Prop) (h1 : (∀ A B a b qa qb G, P A B a b qa qb G → R A B a b qa qb G) → X) (h2 : ∀ A B a b qa qb G, P A B a b qa qb G → R A B a b qa qb G) : X := h1 h2
end NF
namespace K09
open PySem PySem.Spec PyProof.Rows L2 He NF RZ NT
/-- which rows a chase compares -/
def Cond (l1 l2 : List Int) (r1 r2 : Int) (A1 A2 : List Int) (A B : List Int) (a b : Int) : Prop :=
  (l2.length ≤ l1.length ∧ A = A1 ∧ B = A2 ∧ a = r1 ∧ b = r2) ∨ (l1.length < l2.length ∧ A = A2.map (- ·) ∧ B = A1.map (- ·) ∧ a = -r2 ∧ b = -r1)
def ChAt (K : PySem.W.Frag) (C : Addr) (H : Hp) (x : Addr) (st : Nat) (A : List Int) (a : Int) (B : List Int) (b : Int) : Prop :=
  ∃ (dx lp rp : Addr) (lvs : List V) (g W V_ : Nat) (S : List Int), H x = some (.ins C dx [("start", .int (st : Int)), ("lap", .int (A.length : Int)), ("window", .int (W : Int)), ("drift", .int (a * (W : Int) - b * (V_ : Int))), ("ladders", .ref lp), ("runners", .ref rp)]) ∧
    Ln A.length B.length g W V_ ∧ SqL K H lp lvs ∧ lvs.length = g ∧ (∀ lane v, lvs[lane]? = some v → ∃ p L w, v = .ref p ∧ LadAt K H p L ∧ Lad (rowR B b A.length a lane) (2 * W) w L ∧ w ≤ W ∧ W < 2 * w) ∧
    (∀ r, r < B.length → OkAt A.length B.length g W r (S.getD r 0)) ∧ RunAt K H rp ((List.range A.length).map (rnr A a b A.length B.length g S))
def spChase (K : PySem.W.Frag) (CT C : Addr) : Sp := fun vs H Q _ => ∃ (x dx x1 x2 : Addr) (y1 y2 : List Int × List Int × Int) (st : Nat), vs = [.ref x, .ref x1, .ref x2, .int (st : Int)] ∧ H x = some (.ins C dx []) ∧ TabAt K CT H x1 y1 ∧ TabAt K CT H x2 y2 ∧ y1.2.1 ≠ [] ∧ y2.2.1 ≠ [] ∧ 0 ≤ y1.2.2 ∧ y1.2.2 ≤ 100000 ∧ 0 ≤ y2.2.2 ∧ y2.2.2 ≤ 100000 ∧
  y1.1.length ≤ 1000 ∧ y1.2.1.length ≤ 400 ∧ y2.1.length ≤ 1000 ∧ y2.2.1.length ≤ 400 ∧ st ≤ 1000 ∧
  ∀ A a B b H', Cond y1.2.1 y2.2.1 y1.2.2 y2.2.2 (segN (at_ y1.1 y1.2.1 y1.2.2) st y1.2.1.length) (segN (at_ y2.1 y2.2.1 y2.2.2) st y2.2.1.length) A B a b → Same (NF.wo H x) H' → ChAt K C H' x st A a B b → Q .non H'
theorem sc_Chase___init__ : FnScope ["self", "first", "second", "start", "ahead", "other", "lanes", "climb", "climb_other", "lane", "value"] ["self", "first", "second", "start"] (defScope s_Chase_init) := ⟨rfl, rfl, rfl, by decide +kernel, rfl, by decide +kernel, by decide +kernel⟩
section
variable {P : Program} {w : World} {K : PySem.W.Frag} {mg : Str → Option Value} {base : Heap} {gs fs : List Str} {C CT : Addr}
theorem ok_Chase_init {f : Addr} {fd : FuncData} (F : FunD K "__init__" "Chase.__init__" (defArgs s_Chase_init) (defBody s_Chase_init) (defScope s_Chase_init) [] [] f fd) (T : Txt K mg gs FS) (h_gcd : mg "gcd" = some (.builtin "math.gcd")) (tc : TabC K CT) (hc : ChC K C) (c_values_from : Cal P w K mg base 2 "values_from" (spFrom K CT)) (o_ladder_from : MetC P w K mg base 2 C "ladder_from" (spLadFrom K C)) (o_runners_of : MetC P w K mg base 1 C "runners_of" (spRunners K C)) : FnOk P w K mg base CX0 3 f fd ["self", "first", "second", "start"] (spChase K CT C) := by
  refine F.ok sc_Chase___init__ (fun vs H Q E h => ?_) (fun cdv A outer s H vs Q E hr h => ?_)
  · obtain ⟨x, dx, x1, x2, y1, y2, st, rfl, _⟩ := h
    rfl
  · obtain ⟨x, dx, x1, x2, ⟨h1, l1, r1⟩, ⟨h2, l2, r2⟩, st, rfl, hx, tb1, tb2, n1, n2, r10, r11, r20, r21, b1, b2, b3, b4, st1, q⟩ := h
    dsimp only at n1 n2 r10 r11 r20 r21 b1 b2 b3 b4 q
    obtain ⟨dx1, ta1, la1, hx1, hta1, hla1⟩ := id tb1
    obtain ⟨dx2, ta2, la2, hx2, hta2, hla2⟩ := id tb2
    dsimp only at hx1 hta1 hla1 hx2 hta2 hla2
    have l10 := len_pos n1
    have l20 := len_pos n2
    refine ⟨_, PSs.nox (pss_cons (ps_set (i := 4) sc_Chase___init__.nd rfl (Or.inl rfl) (pe_c c_values_from hr (by decide) rfl (pa_cons (pv 1) (pa_cons (pe_op op_add (pv 3) pe_int) (pa_cons (pe_callB call_len_seq rfl (T.fr _ (by decide +kernel)) boot_len (pa_cons (pe_fld (pv 1) rfl) pa_nil)) pa_nil))))) (pss_cons (ps_set (i := 5) sc_Chase___init__.nd rfl (Or.inr rfl) (pe_c c_values_from hr (by decide) rfl (pa_cons (pv 2) (pa_cons (pe_op op_add (pv 3) pe_int) (pa_cons (pe_callB call_len_seq rfl (T.fr _ (by decide +kernel)) boot_len (pa_cons (pe_fld (pv 2) rfl) pa_nil)) pa_nil))))) (pss_cons (ps_asg (pe_tup (pa_cons (pe_fld (pv 1) rfl) (pa_cons (pe_fld (pv 2) rfl) pa_nil))) (pgt (K := K) (n := 2) rfl rfl (pgs_cons (pg_name (i := 7) sc_Chase___init__.nd rfl (Or.inr rfl)) (pgs_cons (pg_name (i := 8) sc_Chase___init__.nd rfl (Or.inr rfl)) pgs_nil)))) (pss_cons (ps_if (pt_cmpR op_lt (pe_callB call_len_seq rfl (T.fr _ (by decide +kernel)) boot_len (pa_cons (pv 4) pa_nil)) (pe_callB call_len_seq rfl (T.fr _ (by decide +kernel)) boot_len (pa_cons (pv 5) pa_nil)) (nomark _)) (pss_cons (ps_asg (pe_tup (pa_cons (pe_lc (own := [("value", 10)]) rfl sc_Chase___init__.nd (pi_list (pv 5)) (blkOk_by (N := ["self", "first", "second", "start", "ahead", "other", "lanes", "climb", "climb_other", "lane", "value"]) (sc := defScope s_Chase_init) (by decide +kernel)) (fun _ _ _ _ _ => by exact (pg_name (i := 10) sc_Chase___init__.nd rfl (Or.inl rfl))) (fun _ _ _ _ _ => by exact pts_nil) (fun _ _ _ _ _ => by exact (pe_un un_neg (pv 10)))) (pa_cons (pe_lc (own := [("value", 10)]) rfl sc_Chase___init__.nd (pi_list (pv 4)) (blkOk_by (N := ["self", "first", "second", "start", "ahead", "other", "lanes", "climb", "climb_other", "lane", "value"]) (sc := defScope s_Chase_init) (by decide +kernel)) (fun _ _ _ _ _ => by exact (pg_name (i := 10) sc_Chase___init__.nd rfl (Or.inl rfl))) (fun _ _ _ _ _ => by exact pts_nil) (fun _ _ _ _ _ => by exact (pe_un un_neg (pv 10)))) pa_nil))) (pgt (K := K) (n := 2) rfl rfl (pgs_cons (pg_name (i := 4) sc_Chase___init__.nd rfl (Or.inl rfl)) (pgs_cons (pg_name (i := 5) sc_Chase___init__.nd rfl (Or.inr rfl)) pgs_nil)))) (pss_one (ps_asg (pe_tup (pa_cons (pe_un un_neg (pe_fld (pv 2) rfl)) (pa_cons (pe_un un_neg (pe_fld (pv 1) rfl)) pa_nil))) (pgt (K := K) (n := 2) rfl rfl (pgs_cons (pg_name (i := 7) sc_Chase___init__.nd rfl (Or.inr rfl)) (pgs_cons (pg_name (i := 8) sc_Chase___init__.nd rfl (Or.inr rfl)) pgs_nil)))))) pss_nil) (pss_cons (ps_set (i := 6) sc_Chase___init__.nd rfl (Or.inl rfl) (pe_callBfun cr_gcd rfl h_gcd (pa_cons (pe_callB call_len_seq rfl (T.fr _ (by decide +kernel)) boot_len (pa_cons (pv 4) pa_nil)) (pa_cons (pe_callB call_len_seq rfl (T.fr _ (by decide +kernel)) boot_len (pa_cons (pv 5) pa_nil)) pa_nil)))) (pss_cons (ps_fld (pv 0) (pv 3) rfl) (pss_cons (ps_fld (pv 0) (pe_callB call_len_seq rfl (T.fr _ (by decide +kernel)) boot_len (pa_cons (pv 4) pa_nil)) rfl) (pss_cons (ps_fld (pv 0) (pe_op op_fdiv (pe_callB call_len_seq rfl (T.fr _ (by decide +kernel)) boot_len (pa_cons (pv 5) pa_nil)) (pv 6)) rfl) (pss_cons (ps_fld (pv 0) (pe_op op_fdiv (pe_op op_sub (pe_op op_mul (pv 7) (pe_callB call_len_seq rfl (T.fr _ (by decide +kernel)) boot_len (pa_cons (pv 5) pa_nil))) (pe_op op_mul (pv 8) (pe_callB call_len_seq rfl (T.fr _ (by decide +kernel)) boot_len (pa_cons (pv 4) pa_nil)))) (pv 6)) rfl) (pss_cons (ps_fld (pv 0) (pe_lc (own := [("lane", 9)]) rfl sc_Chase___init__.nd (pi_range1 rfl (T.fr _ (by decide +kernel)) (pa_cons (pv 6) pa_nil)) (blkOk_by (N := ["self", "first", "second", "start", "ahead", "other", "lanes", "climb", "climb_other", "lane", "value"]) (sc := defScope s_Chase_init) (by decide +kernel)) (fun _ _ _ _ _ => by exact (pg_name (i := 9) sc_Chase___init__.nd rfl (Or.inl rfl))) (fun _ _ _ _ _ => by exact pts_nil) (fun _ _ _ _ _ => by exact (pe_mt (pv 0) o_ladder_from hr (by decide) (pa_cons (pv 9) (pa_cons (pv 5) (pa_cons (pv 7) (pa_cons (pv 8) pa_nil))))))) rfl) (pss_one (ps_fld (pv 0) (pe_mt (pv 0) o_runners_of hr (by decide) (pa_cons (pv 4) (pa_cons (pv 7) (pa_cons (pe_callB call_len_seq rfl (T.fr _ (by decide +kernel)) boot_len (pa_cons (pv 5) pa_nil)) (pa_cons (pv 8) pa_nil))))) rfl)))))))))))), ?_⟩
    refine ⟨_, rfl, _, rfl, _, _, rfl, rfl, _, rfl, x1, CT, dx1, _, _, rfl, hx1, tc.cl, tc.lp, rfl, la1, _, rfl, Or.inr hla1, ?_⟩
    rw [vI_len]
    refine ⟨x1, _, st, l1.length, rfl, tb1, .inl n1, r10, by dsimp only; omega, b1, by dsimp only; omega, by omega, by omega, fun q1 H1 s1 hq1 => ?_⟩
    have hx21 := s1 _ _ hx2
    have hla21 := NF.Same.tup s1 hla2
    refine ⟨_, rfl, _, rfl, _, _, rfl, rfl, _, rfl, x2, CT, dx2, _, _, rfl, hx21, tc.cl, tc.lp, rfl, la2, _, rfl, Or.inr hla21, ?_⟩
    rw [vI_len]
    refine ⟨x2, _, st, l2.length, rfl, tb2.mono s1, .inl n2, r20, by dsimp only; omega, b3, by dsimp only; omega, by omega, by omega, fun q2 H2 s2 hq2 => ?_⟩
    have s12 := Same.trans s1 s2
    have hq1' := s2 _ _ hq1
    refine ⟨_, rfl, x1, CT, dx1, _, _, rfl, s12 _ _ hx1, tc.cl, tc.ri, rfl, _, rfl, x2, CT, dx2, _, _, rfl, s12 _ _ hx2, tc.cl, tc.ri, rfl, (by show 2 ≤ sizeLine; decide), fun p3 hp3 => ?_⟩
    have s3 := NF.Same.new (o := .tup [V.int r1, V.int r2]) (Same.refl H2) hp3
    refine ⟨p3, _, rfl, SqT.of upd_same, rfl, _, _, rfl, ?_⟩
    refine ⟨_, _, rfl, ?_⟩
    refine ⟨rfl, ?_⟩
    dsimp only at hq1' hq2
    have hq13 := s3 _ _ hq1'
    have hq23 := s3 _ _ hq2
    have s13 := Same.trans s12 s3
    generalize upd H2 p3 (.tup [V.int r1, V.int r2]) = H3 at s3 s13 hq13 hq23
    refine' both7 (fun A B a b qa qb G => Same H G ∧ G qa = some (.lst (vI A)) ∧ G qb = some (.lst (vI B)) ∧ Cond l1 l2 r1 r2 (segN (at_ h1 l1 r1) st l1.length) (segN (at_ h2 l2 r2) st l2.length) A B a b) (fun kk => ?A1) (fun A B a b qa qb G hP => ?B1)
    case A1 =>
      refine ⟨_, rfl, q1, _, rfl, Or.inl (SqL.of hq13), _, rfl, q2, _, rfl, Or.inl (SqL.of hq23), ?_⟩
      rw [vI_len, vI_len, segN_len, segN_len]
      refine ⟨_, _, rfl, rfl, _, rfl, ite2 (fun c => ?T1) (fun c => ?F1)⟩
      case F1 =>
        have le : l2.length ≤ l1.length := by
          have : ¬ ((l1.length : Int) < (l2.length : Int)) := fun z => c (decide_eq_true z)
          omega
        obtain ⟨A, hA⟩ : ∃ A, A = segN (at_ h1 l1 r1) st l1.length := ⟨_, rfl⟩
        obtain ⟨B, hB⟩ : ∃ B, B = segN (at_ h2 l2 r2) st l2.length := ⟨_, rfl⟩
        dsimp only [List.set, L2.start]
        generalize ea : r1 = a
        generalize eb : r2 = b
        generalize eqa : q1 = qa
        generalize eqb : q2 = qb
        generalize eG : H3 = G
        refine kk A B a b qa qb G ⟨?_, ?_, ?_, .inl ⟨le, hA, hB, ea.symm, eb.symm⟩⟩
        · rw [← eG]; exact s13
        · rw [← eG, ← eqa, hA]; exact hq13
        · rw [← eG, ← eqb, hB]; exact hq23
      case T1 =>
        have lt : l1.length < l2.length := by
          have := of_decide_eq_true c
          omega
        -- the rows with their signs turned
        refine ⟨_, rfl, q2, rfl, ⟨_, SqL.of hq23⟩, fun D1 hD1 => ?_⟩
        refine lc_list (xs := vI (segN (at_ h2 l2 r2) st l2.length)) (fun j G => Same H3 G ∧ G D1 = some (.lst (vI (((segN (at_ h2 l2 r2) st l2.length).take j).map (- ·))))) ⟨NF.Same.new (Same.refl H3) hD1, upd_same⟩ (fun i G _ z => SqL.of (z.1 _ _ hq23)) ?_ ?_
        · rintro j v G hv ⟨sG, hG⟩
          have hj := (List.getElem?_eq_some_iff.mp hv).1
          rw [vI_len] at hj
          obtain rfl : V.int ((segN (at_ h2 l2 r2) st l2.length)[j]) = v := by
            rw [List.getElem?_map, List.getElem?_eq_getElem hj] at hv
            exact Option.some.inj hv
          refine ⟨rfl, _, rfl, _, rfl, _, hG, ?_, NF.Same.mut sG hD1, ?_⟩
          · rw [vI_len, List.length_map, List.length_take, segN_len]
            exact Nat.lt_of_le_of_lt (show min j l2.length ≤ 400 by omega) (by decide)
          · rw [upd_same, List.take_add_one, List.getElem?_eq_getElem hj, List.map_append, ← vI_app]
            rfl
        · rintro G4 ⟨s4, h4⟩
          rw [vI_len, List.take_length] at h4
          have hq14 := s4 _ _ hq13
          refine ⟨_, rfl, q1, rfl, ⟨_, SqL.of hq14⟩, fun D2 hD2 => ?_⟩
          refine lc_list (xs := vI (segN (at_ h1 l1 r1) st l1.length)) (fun j G => Same G4 G ∧ G D2 = some (.lst (vI (((segN (at_ h1 l1 r1) st l1.length).take j).map (- ·))))) ⟨NF.Same.new (Same.refl G4) hD2, upd_same⟩ (fun i G _ z => SqL.of (z.1 _ _ hq14)) ?_ ?_
          · rintro j v G hv ⟨sG, hG⟩
            have hj := (List.getElem?_eq_some_iff.mp hv).1
            rw [vI_len] at hj
            obtain rfl : V.int ((segN (at_ h1 l1 r1) st l1.length)[j]) = v := by
              rw [List.getElem?_map, List.getElem?_eq_getElem hj] at hv
              exact Option.some.inj hv
            refine ⟨rfl, _, rfl, _, rfl, _, hG, ?_, NF.Same.mut sG hD2, ?_⟩
            · rw [vI_len, List.length_map, List.length_take, segN_len]
              exact Nat.lt_of_le_of_lt (show min j l1.length ≤ 400 by omega) (by decide)
            · rw [upd_same, List.take_add_one, List.getElem?_eq_getElem hj, List.map_append, ← vI_app]
              rfl
          · rintro G5 ⟨s5, h5⟩
            rw [vI_len, List.take_length] at h5
            refine ⟨(by show 2 ≤ sizeLine; decide), fun p5 hp5 => ?_⟩
            have s6 := NF.Same.new (o := .tup [V.ref D1, V.ref D2]) (Same.refl G5) hp5
            refine ⟨p5, _, rfl, SqT.of upd_same, rfl, _, _, rfl, ?_⟩
            refine ⟨_, _, rfl, ?_⟩
            refine ⟨rfl, ?_⟩
            have s36 : Same H3 (upd G5 p5 (.tup [V.ref D1, V.ref D2])) := Same.trans s4 (Same.trans s5 s6)
            have h46 := s6 _ _ (s5 _ _ h4)
            have h56 := s6 _ _ h5
            generalize upd G5 p5 (.tup [V.ref D1, V.ref D2]) = G6 at s6 s36 h46 h56
            have sH6 := Same.trans s13 s36
            refine ⟨_, rfl, x2, CT, dx2, _, _, rfl, sH6 _ _ hx2, tc.cl, tc.ri, rfl, _, rfl, _, rfl, x1, CT, dx1, _, _, rfl, sH6 _ _ hx1, tc.cl, tc.ri, rfl, _, rfl, (by show 2 ≤ sizeLine; decide), fun p7 hp7 => ?_⟩
            have s7 := NF.Same.new (o := .tup [V.int (-r2), V.int (-r1)]) (Same.refl G6) hp7
            refine ⟨p7, _, rfl, SqT.of upd_same, rfl, _, _, rfl, ?_⟩
            refine ⟨_, _, rfl, ?_⟩
            refine ⟨rfl, ?_⟩
            have h47 := s7 _ _ h46
            have h57 := s7 _ _ h56
            have sH7 := Same.trans sH6 s7
            generalize upd G6 p7 (.tup [V.int (-r2), V.int (-r1)]) = G7 at s7 h47 h57 sH7
            obtain ⟨A, hA⟩ : ∃ A, A = (segN (at_ h2 l2 r2) st l2.length).map (- ·) := ⟨_, rfl⟩
            obtain ⟨B, hB⟩ : ∃ B, B = (segN (at_ h1 l1 r1) st l1.length).map (- ·) := ⟨_, rfl⟩
            dsimp only [List.set, L2.start]
            generalize ea : -r2 = a
            generalize eb : -r1 = b
            refine kk A B a b D1 D2 G7 ⟨sH7, ?_, ?_, .inr ⟨lt, hA, hB, ea.symm, eb.symm⟩⟩
            · rw [hA]; exact h47
            · rw [hB]; exact h57
    case B1 =>
      obtain ⟨sG, hqa, hqb, hcond⟩ := hP
      have bnd : A.length ≤ 400 ∧ B.length ≤ 400 ∧ 0 < B.length ∧ 0 < A.length ∧ -100000 ≤ a ∧ a ≤ 100000 ∧ -100000 ≤ b ∧ b ≤ 100000 := by
        rcases hcond with ⟨_, rfl, rfl, rfl, rfl⟩ | ⟨_, rfl, rfl, rfl, rfl⟩
        · rw [segN_len, segN_len]
          omega
        · rw [List.length_map, List.length_map, segN_len, segN_len]
          omega
      obtain ⟨bA, bB, B0, A0, ba0, ba1, bb0, bb1⟩ := bnd
      have ln := ln_of A0 B0
      obtain ⟨g, hg⟩ : ∃ g, g = Nat.gcd A.length B.length := ⟨_, rfl⟩
      obtain ⟨W, hW⟩ : ∃ W, W = B.length / g := ⟨_, rfl⟩
      obtain ⟨V_, hV⟩ : ∃ V_, V_ = A.length / g := ⟨_, rfl⟩
      rw [← hg, ← hW, ← hV] at ln
      have g0 := ln.g0
      have w0 := ln.w0
      have gB : g ≤ B.length := by rw [ln.eM]; exact Nat.le_mul_of_pos_right _ w0
      have WB : W ≤ B.length := by rw [ln.eM]; exact Nat.le_mul_of_pos_left _ g0
      have nx0 : (NF.wo H x) x = none := wo_none
      refine ⟨_, rfl, qa, _, rfl, Or.inl (SqL.of hqa), _, rfl, qb, _, rfl, Or.inl (SqL.of hqb), ?_⟩
      rw [vI_len, vI_len]
      refine ⟨_, _, rfl, ?_⟩
      have eg : ((Nat.gcd ((A.length : Nat) : Int).natAbs ((B.length : Nat) : Int).natAbs : Nat) : Int) = (g : Int) := by rw [hg, Int.natAbs_natCast, Int.natAbs_natCast]
      show gName 6 (V.int ((Nat.gcd ((A.length : Nat) : Int).natAbs ((B.length : Nat) : Int).natAbs : Nat) : Int)) _ _ _
      rw [eg]
      have hxG := sG _ _ hx
      have w1 : Same (NF.wo H x) G := Same.trans wo_same' sG
      -- the four numbers
      refine ⟨_, rfl, _, rfl, x, C, dx, _, rfl, hxG, hc.cl, hc.st, (by show 0 < 1000; decide), ?_⟩
      have ha1 : SqL K (upd G x (.ins C dx [("start", .int (st : Int))])) qa (vI A) := SqL.putI (SqL.of hqa) hxG
      have hb1 : SqL K (upd G x (.ins C dx [("start", .int (st : Int))])) qb (vI B) := SqL.putI (SqL.of hqb) hxG
      have hx1' : (upd G x (.ins C dx [("start", .int (st : Int))])) x = some (.ins C dx [("start", .int (st : Int))]) := upd_same
      have w2 := NF.Same.mut (o := .ins C dx [("start", .int (st : Int))]) w1 nx0
      refine ⟨_, rfl, qa, _, rfl, Or.inl ha1, ?_⟩
      rw [vI_len]
      refine ⟨_, rfl, x, C, dx, _, rfl, hx1', hc.cl, hc.lp, (by show 1 < 1000; decide), ?_⟩
      have hb2 : SqL K (upd (upd G x (.ins C dx [("start", .int (st : Int))])) x (.ins C dx [("start", .int (st : Int)), ("lap", .int (A.length : Int))])) qb (vI B) := SqL.putI hb1 hx1'
      have ha2 : SqL K (upd (upd G x (.ins C dx [("start", .int (st : Int))])) x (.ins C dx [("start", .int (st : Int)), ("lap", .int (A.length : Int))])) qa (vI A) := SqL.putI ha1 hx1'
      have hx2' : (upd (upd G x (.ins C dx [("start", .int (st : Int))])) x (.ins C dx [("start", .int (st : Int)), ("lap", .int (A.length : Int))])) x = some (.ins C dx [("start", .int (st : Int)), ("lap", .int (A.length : Int))]) := upd_same
      have w3 := NF.Same.mut (o := .ins C dx [("start", .int (st : Int)), ("lap", .int (A.length : Int))]) w2 nx0
      refine ⟨_, rfl, qb, _, rfl, Or.inl hb2, ?_⟩
      rw [vI_len]
      refine ⟨_, rfl, _, _, rfl, rfl, ⟨by omega, by omega⟩, _, rfl, x, C, dx, _, rfl, hx2', hc.cl, hc.wi, (by show 2 < 1000; decide), ?_⟩
      have hb3 : SqL K (upd (upd (upd G x (.ins C dx [("start", .int (st : Int))])) x (.ins C dx [("start", .int (st : Int)), ("lap", .int (A.length : Int))])) x (.ins C dx [("start", .int (st : Int)), ("lap", .int (A.length : Int)), ("window", .int ((B.length : Int) / (g : Int)))])) qb (vI B) := SqL.putI hb2 hx2'
      have ha3 : SqL K (upd (upd (upd G x (.ins C dx [("start", .int (st : Int))])) x (.ins C dx [("start", .int (st : Int)), ("lap", .int (A.length : Int))])) x (.ins C dx [("start", .int (st : Int)), ("lap", .int (A.length : Int)), ("window", .int ((B.length : Int) / (g : Int)))])) qa (vI A) := SqL.putI ha2 hx2'
      have hx3 : (upd (upd (upd G x (.ins C dx [("start", .int (st : Int))])) x (.ins C dx [("start", .int (st : Int)), ("lap", .int (A.length : Int))])) x (.ins C dx [("start", .int (st : Int)), ("lap", .int (A.length : Int)), ("window", .int ((B.length : Int) / (g : Int)))])) x = some (.ins C dx [("start", .int (st : Int)), ("lap", .int (A.length : Int)), ("window", .int ((B.length : Int) / (g : Int)))]) := upd_same
      have w4 := NF.Same.mut (o := .ins C dx [("start", .int (st : Int)), ("lap", .int (A.length : Int)), ("window", .int ((B.length : Int) / (g : Int)))]) w3 nx0
      refine ⟨_, rfl, _, rfl, qb, _, rfl, Or.inl hb3, ?_⟩
      rw [vI_len]
      refine ⟨_, _, rfl, rfl, Or.inr ⟨by omega, by omega⟩, _, rfl, _, rfl, qa, _, rfl, Or.inl ha3, ?_⟩
      rw [vI_len]
      refine ⟨_, _, rfl, rfl, Or.inr ⟨by omega, by omega⟩, _, _, rfl, rfl, _, rfl, _, _, rfl, rfl, ⟨by omega, by omega⟩, _, rfl, x, C, dx, _, rfl, hx3, hc.cl, hc.dr, (by show 3 < 1000; decide), ?_⟩
      have hb4 : SqL K (upd (upd (upd (upd G x (.ins C dx [("start", .int (st : Int))])) x (.ins C dx [("start", .int (st : Int)), ("lap", .int (A.length : Int))])) x (.ins C dx [("start", .int (st : Int)), ("lap", .int (A.length : Int)), ("window", .int ((B.length : Int) / (g : Int)))])) x (.ins C dx [("start", .int (st : Int)), ("lap", .int (A.length : Int)), ("window", .int ((B.length : Int) / (g : Int))), ("drift", .int ((a * (B.length : Int) - b * (A.length : Int)) / (g : Int)))])) qb (vI B) := SqL.putI hb3 hx3
      have ha4 : SqL K (upd (upd (upd (upd G x (.ins C dx [("start", .int (st : Int))])) x (.ins C dx [("start", .int (st : Int)), ("lap", .int (A.length : Int))])) x (.ins C dx [("start", .int (st : Int)), ("lap", .int (A.length : Int)), ("window", .int ((B.length : Int) / (g : Int)))])) x (.ins C dx [("start", .int (st : Int)), ("lap", .int (A.length : Int)), ("window", .int ((B.length : Int) / (g : Int))), ("drift", .int ((a * (B.length : Int) - b * (A.length : Int)) / (g : Int)))])) qa (vI A) := SqL.putI ha3 hx3
      have hx4 : (upd (upd (upd (upd G x (.ins C dx [("start", .int (st : Int))])) x (.ins C dx [("start", .int (st : Int)), ("lap", .int (A.length : Int))])) x (.ins C dx [("start", .int (st : Int)), ("lap", .int (A.length : Int)), ("window", .int ((B.length : Int) / (g : Int)))])) x (.ins C dx [("start", .int (st : Int)), ("lap", .int (A.length : Int)), ("window", .int ((B.length : Int) / (g : Int))), ("drift", .int ((a * (B.length : Int) - b * (A.length : Int)) / (g : Int)))])) x = some (.ins C dx [("start", .int (st : Int)), ("lap", .int (A.length : Int)), ("window", .int ((B.length : Int) / (g : Int))), ("drift", .int ((a * (B.length : Int) - b * (A.length : Int)) / (g : Int)))]) := upd_same
      have w5 := NF.Same.mut (o := .ins C dx [("start", .int (st : Int)), ("lap", .int (A.length : Int)), ("window", .int ((B.length : Int) / (g : Int))), ("drift", .int ((a * (B.length : Int) - b * (A.length : Int)) / (g : Int)))]) w4 nx0
      rw [show putF ("start" : Str) (V.int (st : Int)) [] = ([("start", .int (st : Int))] : List (Str × V)) from rfl, show putF ("lap" : Str) (V.int (A.length : Int)) ([("start", .int (st : Int))] : List (Str × V)) = ([("start", .int (st : Int)), ("lap", .int (A.length : Int))] : List (Str × V)) from rfl, show putF ("window" : Str) (V.int ((B.length : Int) / (g : Int))) ([("start", .int (st : Int)), ("lap", .int (A.length : Int))] : List (Str × V)) = ([("start", .int (st : Int)), ("lap", .int (A.length : Int)), ("window", .int ((B.length : Int) / (g : Int)))] : List (Str × V)) from rfl, show putF ("drift" : Str) (V.int ((a * (B.length : Int) - b * (A.length : Int)) / (g : Int))) ([("start", .int (st : Int)), ("lap", .int (A.length : Int)), ("window", .int ((B.length : Int) / (g : Int)))] : List (Str × V)) = ([("start", .int (st : Int)), ("lap", .int (A.length : Int)), ("window", .int ((B.length : Int) / (g : Int))), ("drift", .int ((a * (B.length : Int) - b * (A.length : Int)) / (g : Int)))] : List (Str × V)) from rfl]
      generalize hG4 : (upd (upd (upd (upd G x (.ins C dx [("start", .int (st : Int))])) x (.ins C dx [("start", .int (st : Int)), ("lap", .int (A.length : Int))])) x (.ins C dx [("start", .int (st : Int)), ("lap", .int (A.length : Int)), ("window", .int ((B.length : Int) / (g : Int)))])) x (.ins C dx [("start", .int (st : Int)), ("lap", .int (A.length : Int)), ("window", .int ((B.length : Int) / (g : Int))), ("drift", .int ((a * (B.length : Int) - b * (A.length : Int)) / (g : Int)))])) = G4 at hb4 ha4 hx4 w5
      have eW : (B.length : Int) / (g : Int) = (W : Int) := by rw [hW]; rfl
      have hD0 := fun (D : Addr) (hD : G4 D = none) => (L2.Same.free w5 hD : (NF.wo H x) D = none)
      refine ⟨_, rfl, (g : Int), rfl, by omega, by omega, fun D hD => ?_⟩
      refine lc_range (lo := 0) (n := g) (fun j G' => Same G4 G' ∧ ∃ acc : List V, G' D = some (.lst acc) ∧ acc.length = j ∧ ∀ lane v, acc[lane]? = some v → ∃ p L w, v = .ref p ∧ p ≠ D ∧ LadAt K G' p L ∧ Lad (rowR B b A.length a lane) (2 * W) w L ∧ w ≤ W ∧ W < 2 * w) ⟨NF.Same.new (Same.refl G4) hD, [], upd_same, rfl, fun lane v hv => by simp at hv⟩ ?_ ?_
      · rintro j G' hj ⟨sG', acc, hacc, hal, hok⟩
        rw [Int.zero_add]
        refine ⟨rfl, _, rfl, x, dx, _, rfl, sG' _ _ hx4, rfl, _, rfl, _, rfl, _, rfl, _, rfl, ?_⟩
        refine ⟨x, dx, qb, _, j, A.length, W, B, a, b, rfl, sG' _ _ hx4, rfl, (congrArg (fun z => some (V.int z)) eW), L2.Same.seq sG' hb4, (fun z => by rw [z] at B0; simp at B0), w0, by omega, by omega, by omega, by omega, by omega, by omega, by omega, by omega, fun p L wd H' hL w1' w2' s' np la => ?_⟩
        have hacc' := s' _ _ hacc
        have npD : p ≠ D := fun z => by
          rw [z] at np
          rw [np] at hacc
          cases hacc
        have href : ∀ v ∈ acc, ∃ q, v = .ref q := fun v hv => by
          obtain ⟨i, hi, e⟩ := List.getElem_of_mem hv
          obtain ⟨p', _, _, e', _⟩ := hok i v (by rw [List.getElem?_eq_getElem hi, e])
          exact ⟨p', e'⟩
        refine ⟨acc, hacc', ?_, NF.Same.mut (Same.trans sG' s') hD, acc ++ [.ref p], upd_same, by rw [List.length_append, hal]; rfl, fun lane v hv => ?_⟩
        · rw [hal]
          exact Nat.lt_of_le_of_lt (show j ≤ 400 by omega) (by decide)
        · rcases Nat.lt_or_ge lane acc.length with c | c
          · rw [List.getElem?_append_left c] at hv
            obtain ⟨p', L', w', e', n', la', r'⟩ := hok lane v hv
            exact ⟨p', L', w', e', n', (la'.mono s').put hacc' (fun vs h => SqL.upd_ne h n') trivial r'.1.rows href, r'⟩
          · rw [List.getElem?_append_right c] at hv
            have e0 : lane = acc.length := by
              have := (List.getElem?_eq_some_iff.mp hv).1
              simp at this
              omega
            subst e0
            simp at hv
            subst hv
            rw [hal]
            exact ⟨p, L, wd, rfl, npD, la.put hacc' (fun vs h => SqL.upd_ne h npD) trivial hL.rows href, hL, w1', w2'⟩
      · rintro G5 ⟨s5, acc, hacc, hal, hok⟩
        have hx5 := s5 _ _ hx4
        have nDx : D ≠ x := fun z => by rw [z, hx4] at hD; cases hD
        refine ⟨_, rfl, x, C, dx, _, rfl, hx5, hc.cl, hc.ls, (by show 4 < 1000; decide), ?_⟩
        have hx6 : (upd G5 x (.ins C dx [("start", .int (st : Int)), ("lap", .int (A.length : Int)), ("window", .int ((B.length : Int) / (g : Int))), ("drift", .int ((a * (B.length : Int) - b * (A.length : Int)) / (g : Int))), ("ladders", .ref D)])) x = some (.ins C dx [("start", .int (st : Int)), ("lap", .int (A.length : Int)), ("window", .int ((B.length : Int) / (g : Int))), ("drift", .int ((a * (B.length : Int) - b * (A.length : Int)) / (g : Int))), ("ladders", .ref D)]) := upd_same
        have hD6 : (upd G5 x (.ins C dx [("start", .int (st : Int)), ("lap", .int (A.length : Int)), ("window", .int ((B.length : Int) / (g : Int))), ("drift", .int ((a * (B.length : Int) - b * (A.length : Int)) / (g : Int))), ("ladders", .ref D)])) D = some (.lst acc) := (upd_ne nDx).trans hacc
        have hb6 : SqL K (upd G5 x (.ins C dx [("start", .int (st : Int)), ("lap", .int (A.length : Int)), ("window", .int ((B.length : Int) / (g : Int))), ("drift", .int ((a * (B.length : Int) - b * (A.length : Int)) / (g : Int))), ("ladders", .ref D)])) qb (vI B) := SqL.putI (L2.Same.seq s5 hb4) hx5
        have ha6 : SqL K (upd G5 x (.ins C dx [("start", .int (st : Int)), ("lap", .int (A.length : Int)), ("window", .int ((B.length : Int) / (g : Int))), ("drift", .int ((a * (B.length : Int) - b * (A.length : Int)) / (g : Int))), ("ladders", .ref D)])) qa (vI A) := SqL.putI (L2.Same.seq s5 ha4) hx5
        have hok6 : ∀ lane v, acc[lane]? = some v → ∃ p L w, v = .ref p ∧ LadAt K (upd G5 x (.ins C dx [("start", .int (st : Int)), ("lap", .int (A.length : Int)), ("window", .int ((B.length : Int) / (g : Int))), ("drift", .int ((a * (B.length : Int) - b * (A.length : Int)) / (g : Int))), ("ladders", .ref D)])) p L ∧ Lad (rowR B b A.length a lane) (2 * W) w L ∧ w ≤ W ∧ W < 2 * w := fun lane v hv => by
          obtain ⟨p', L', w', e', _, la', r'⟩ := hok lane v hv
          exact ⟨p', L', w', e', la'.putI hx5, r'⟩
        have w6 := NF.Same.mut (o := .ins C dx [("start", .int (st : Int)), ("lap", .int (A.length : Int)), ("window", .int ((B.length : Int) / (g : Int))), ("drift", .int ((a * (B.length : Int) - b * (A.length : Int)) / (g : Int))), ("ladders", .ref D)]) (Same.trans w5 s5) nx0
        refine ⟨_, rfl, x, dx, _, rfl, hx6, rfl, _, rfl, _, rfl, _, rfl, qb, _, rfl, Or.inl hb6, ?_⟩
        rw [vI_len]
        refine ⟨_, rfl, ?_⟩
        refine ⟨x, dx, qa, D, _, acc, A.length, B.length, g, W, V_, A, a, b, rfl, hx6, rfl, (congrArg (fun z => some (V.int z)) eW), rfl, SqL.of hD6, hal, ha6, rfl, ln, by omega, by omega, by omega, by omega, by omega, by omega, fun p6 S R H7 okS hR s7 hrun => ?_⟩
        have hx7 := s7 _ _ hx6
        refine ⟨_, rfl, x, C, dx, _, rfl, hx7, hc.cl, hc.ru, (by show 5 < 1000; decide), ?_⟩
        have nd : a * (W : Int) - b * (V_ : Int) = ((a * (B.length : Int) - b * (A.length : Int)) / (g : Int)) := (drift_is ln).symm
        refine q A a B b _ hcond (NF.Same.mut (Same.trans w6 s7) nx0) ⟨dx, D, p6, acc, g, W, V_, S, ?_, ln, SqL.putI (SqL.of (s7 _ _ hD6)) hx7, hal, fun lane v hv => ?_, okS, ?_⟩
        · rw [nd, ← eW]
          exact upd_same
        · obtain ⟨p', L', w', e', la', r'⟩ := hok6 lane v hv
          exact ⟨p', L', w', e', (la'.mono s7).putI hx7, r'⟩
        · rw [← hR]
          exact hrun.putI hx7
end
end K09
set_option linter.all false
set_option maxHeartbeats 4000000
/-! The last lead: of a row that repeats with a drift upwards, the last step under a limit. -/
namespace NT
section
variable {f : Nat → Int} {W : Nat} {dr lim v : Int} {i : Nat}
theorem last_ex (lo : IsLo f i W v) (h : v < lim) : ∃ t, Last f lim i (i + W) (i + t) ∧ t < W := by
  obtain ⟨j, j1, j2, j3⟩ := lo.at_
  obtain ⟨m, ⟨m1, m2⟩, _, m4⟩ := least_of (p := fun m => m < W ∧ f (i + (W - 1 - m)) < lim) (W - 1 - (j - i)) ⟨by omega, by
    rw [show i + (W - 1 - (W - 1 - (j - i))) = j by omega, j3]
    exact h⟩
  refine ⟨W - 1 - m, ⟨by omega, by omega, m2, fun k k1 k2 => ?_⟩, by omega⟩
  refine Int.le_of_not_gt fun z => ?_
  have := m4 (W - 1 - (k - i)) ⟨by omega, by
    rw [show i + (W - 1 - (W - 1 - (k - i))) = k by omega]
    exact z⟩
  omega
theorem last_later (hw : 0 < W) (hp : ∀ s, f (s + W) = f s - dr) (lo : IsLo f i W v) (hv : v < lim) (hd : dr < 0) {t n : Nat} (hn : (n : Int) = (lim - v - 1) / -dr) (F : Last f (lim + (n : Int) * dr) i (i + W) (i + t)) :
    f (i + (t + W * n)) < lim ∧ ∀ s', t + W * n < s' → lim ≤ f (i + s') := by
  refine ⟨?_, fun s' hs => ?_⟩
  · rw [← Nat.add_assoc, per_drift hp]
    have := F.at_
    rw [Int.mul_comm (n : Int) dr] at this
    omega
  · obtain ⟨o, u, rfl, ho⟩ := lapOf hw s'
    rw [← Nat.add_assoc, per_drift hp]
    have h1 := lo.le (i + o) (by omega) (by omega)
    by_cases hu : n < u
    · have h2 : -dr * ((n : Int) + 1) ≤ -dr * (u : Int) := Int.mul_le_mul_of_nonneg_left (by omega) (by omega)
      have h3 : lim - v - 1 < -dr * ((lim - v - 1) / -dr) + -dr := Int.lt_mul_ediv_self_add (by omega)
      rw [← hn] at h3
      rw [Int.mul_add, Int.mul_one] at h2
      rw [Int.neg_mul, Int.neg_mul] at h2
      rw [Int.neg_mul] at h3
      omega
    · have hu2 : u = n := by
        refine Nat.le_antisymm (by omega) (Nat.le_of_not_lt fun z => ?_)
        have : W * (u + 1) ≤ W * n := Nat.mul_le_mul_left _ z
        rw [Nat.mul_succ] at this
        have := F.ge
        omega
      subst hu2
      have := F.no (i + o) (by omega) (by omega)
      rw [Int.mul_comm (u : Int) dr] at this
      omega
/-- no step is under the limit -/
theorem last_never (hw : 0 < W) (hp : ∀ s, f (s + W) = f s - dr) (lo : IsLo f i W v) (hv : lim ≤ v) (hd : dr ≤ 0) (s' : Nat) : lim ≤ f (i + s') := lead_never hw hp lo hv hd s'
end
/-- the greatest number with P, or none -/
def GreatP (P : Nat → Prop) : Option Nat → Prop
  | some s => P s ∧ ∀ s', s < s' → ¬ P s'
  | none => ∀ s, ¬ P s
theorem great_runner {P : Nat → Prop} {L : Nat} (hL : 0 < L) {st : Nat → Option Nat} (h : ∀ at_, at_ < L → GreatP (fun s => P (at_ + L * s)) (st at_)) :
    (∀ r, (∃ at_ s, at_ < L ∧ st at_ = some s ∧ r = at_ + L * s) → (∀ at_ s, at_ < L → st at_ = some s → at_ + L * s ≤ r) → GreatP P (some r)) ∧ ((∀ at_, at_ < L → st at_ = none) → GreatP P none) := by
  refine ⟨fun r ⟨at_, s, h1, h2, h3⟩ hmax => ⟨?_, fun k hk hP => ?_⟩, fun hn k hP => ?_⟩
  · have := h at_ h1
    rw [h2] at this
    rw [h3]
    exact this.1
  · obtain ⟨o, u, rfl, ho⟩ := lapOf hL k
    have := h o ho
    cases e : st o with
    | none =>
      rw [e] at this
      exact this u hP
    | some s2 =>
      rw [e] at this
      have h4 := hmax o s2 ho e
      have h5 : s2 < u := Nat.lt_of_mul_lt_mul_left (a := L) (by omega)
      exact this.2 u h5 hP
  · obtain ⟨o, u, rfl, ho⟩ := lapOf hL k
    have := h o ho
    rw [hn o ho] at this
    exact this u hP
end NT
set_option linter.all false
set_option maxHeartbeats 4000000
/-! The least and the greatest place with a lead, gathered from the runners' own. Plain Lean. -/
namespace NT
theorem first_all {P : Nat → Prop} {L st : Nat} (hL : 0 < L) {ps : List Int} (h1 : ∀ y ∈ ps, ∃ o s, o < L ∧ P (o + L * s) ∧ y = ((st + 1 + (o + L * s) : Nat) : Int)) (h2 : ∀ o, o < L → (∀ s, ¬ P (o + L * s)) ∨ ∃ s, (∀ s', s' < s → ¬ P (o + L * s')) ∧ ((st + 1 + (o + L * s) : Nat) : Int) ∈ ps) :
    (ps = [] → LeastP P none) ∧ ∀ m ∈ ps, (∀ y ∈ ps, m ≤ y) → ∃ s, LeastP P (some s) ∧ m = ((st + 1 + s : Nat) : Int) := by
  refine ⟨fun e k hP => ?_, fun m hm hmin => ?_⟩
  · obtain ⟨o, u, rfl, ho⟩ := lapOf hL k
    rcases h2 o ho with h | ⟨s, _, h⟩
    · exact h u hP
    · rw [e] at h
      cases h
  · obtain ⟨o, s, ho, hP, rfl⟩ := h1 m hm
    refine ⟨_, ⟨hP, fun k hk hk2 => ?_⟩, rfl⟩
    obtain ⟨o2, u, rfl, ho2⟩ := lapOf hL k
    rcases h2 o2 ho2 with h | ⟨s2, h3, h4⟩
    · exact h u hk2
    · have h5 := hmin _ h4
      refine h3 u (Nat.lt_of_mul_lt_mul_left (a := L) ?_) hk2
      omega
theorem last_all {P : Nat → Prop} {L st : Nat} (hL : 0 < L) {ps : List Int} (h1 : ∀ y ∈ ps, ∃ o s, o < L ∧ P (o + L * s) ∧ y = ((st + 1 + (o + L * s) : Nat) : Int)) (h2 : ∀ o, o < L → (∀ s, ¬ P (o + L * s)) ∨ ∃ s, (∀ s', s < s' → ¬ P (o + L * s')) ∧ ((st + 1 + (o + L * s) : Nat) : Int) ∈ ps) :
    (ps = [] → GreatP P none) ∧ ∀ m ∈ ps, (∀ y ∈ ps, y ≤ m) → ∃ s, GreatP P (some s) ∧ m = ((st + 1 + s : Nat) : Int) := by
  refine ⟨fun e k hP => ?_, fun m hm hmin => ?_⟩
  · obtain ⟨o, u, rfl, ho⟩ := lapOf hL k
    rcases h2 o ho with h | ⟨s, _, h⟩
    · exact h u hP
    · rw [e] at h
      cases h
  · obtain ⟨o, s, ho, hP, rfl⟩ := h1 m hm
    refine ⟨_, ⟨hP, fun k hk hk2 => ?_⟩, rfl⟩
    obtain ⟨o2, u, rfl, ho2⟩ := lapOf hL k
    rcases h2 o2 ho2 with h | ⟨s2, h3, h4⟩
    · exact h u hk2
    · have h5 := hmin _ h4
      refine h3 u (Nat.lt_of_mul_lt_mul_left (a := L) ?_) hk2
      omega
/-- what the runners so far have: their own best steps -/
structure Got (R : Nat → Nat → Prop) (P : Nat → Prop) (L st j : Nat) (ps : List Int) : Prop where
  len : ps.length ≤ j
  some : ∀ y ∈ ps, ∃ o s, o < j ∧ P (o + L * s) ∧ y = ((st + 1 + (o + L * s) : Nat) : Int)
  all : ∀ o, o < j → (∀ s, ¬ P (o + L * s)) ∨ ∃ s, (∀ s', R s' s → ¬ P (o + L * s')) ∧ ((st + 1 + (o + L * s) : Nat) : Int) ∈ ps
section
variable {R : Nat → Nat → Prop} {P : Nat → Prop} {L st j : Nat} {ps : List Int}
theorem Got.nil : Got R P L st 0 [] := ⟨Nat.le_refl _, (fun y hy => nomatch hy), fun o ho => absurd ho (Nat.not_lt_zero _)⟩
theorem Got.skip (h : Got R P L st j ps) (n : ∀ s, ¬ P (j + L * s)) : Got R P L st (j + 1) ps := by
  refine ⟨by have := h.len; omega, fun y hy => ?_, fun o ho => ?_⟩
  · obtain ⟨o, s, h1, h2⟩ := h.some y hy
    exact ⟨o, s, by omega, h2⟩
  · by_cases c : o < j
    · exact h.all o c
    · rw [show o = j by omega]
      exact .inl n
theorem Got.add (h : Got R P L st j ps) {s : Nat} {y : Int} (hP : P (j + L * s)) (n : ∀ s', R s' s → ¬ P (j + L * s')) (e : y = ((st + 1 + (j + L * s) : Nat) : Int)) : Got R P L st (j + 1) (ps ++ [y]) := by
  subst e
  refine ⟨by rw [List.length_append]; exact Nat.succ_le_succ h.len, fun y hy => ?_, fun o ho => ?_⟩
  · rcases List.mem_append.mp hy with hy | hy
    · obtain ⟨o, s, h1, h2⟩ := h.some y hy
      exact ⟨o, s, by omega, h2⟩
    · rw [List.mem_singleton.mp hy]
      exact ⟨j, s, by omega, hP, rfl⟩
  · by_cases c : o < j
    · rcases h.all o c with h | ⟨s2, h1, h2⟩
      · exact .inl h
      · exact .inr ⟨s2, h1, List.mem_append.mpr (.inl h2)⟩
    · rw [show o = j by omega]
      exact .inr ⟨s, n, List.mem_append.mpr (.inr (List.mem_singleton.mpr rfl))⟩
end
end NT
set_option Elab.async false
set_option linter.all false
set_option maxRecDepth 100000
set_option maxHeartbeats 4000000
/-! min(xs, default=None), max(xs, default=None) of a list of ints. -/
namespace NF
open PySem PySem.Spec PySem.W PyProof.Rows L2 He RZ
theorem reads_ints {h : Heap} : ∀ {ns : List Int} {its : List Value}, Vals (ns.map V.int) its → ReadsAll h its (ns.map PyData.int) []
  | [], _, .nil => .nil
  | n :: ns, _, .cons ⟨t, e⟩ r => by
    subst e
    exact ReadsAll.cons (as := []) (bs := []) (.int n t) (reads_ints r)
theorem alike_ints (ns : List Int) : AlikeAll (ns.map PyData.int) := by
  refine ⟨fun x hx y hy => ?_, fun x hx => ?_⟩
  · obtain ⟨a, _, rfl⟩ := List.mem_map.mp hx
    obtain ⟨b, _, rfl⟩ := List.mem_map.mp hy
    rfl
  · obtain ⟨a, _, rfl⟩ := List.mem_map.mp hx
    exact fun z => by cases z
theorem int_at {ns : List Int} {its : List Value} (r : Vals (ns.map V.int) its) {i : Nat} {v : Value} (h : its[i]? = some v) : ∃ k t, ns[i]? = some k ∧ v = .int k t := by
  induction i generalizing ns its with
  | zero =>
    cases ns with
    | nil => cases r; simp at h
    | cons n ns =>
      cases r with
      | cons e r =>
        obtain ⟨t, rfl⟩ := e
        exact ⟨n, t, rfl, (Option.some.inj h).symm⟩
  | succ i ih =>
    cases ns with
    | nil => cases r; simp at h
    | cons n ns =>
      cases r with
      | cons e r => exact ih r h
theorem fold_min : ∀ (ns : List Int) (n : Int), ns.foldl min n ∈ n :: ns ∧ ∀ y ∈ n :: ns, ns.foldl min n ≤ y
  | [], n => ⟨List.mem_cons_self .., fun y hy => by rw [List.mem_singleton.mp hy]; exact Int.le_refl _⟩
  | k :: ns, n => by
    obtain ⟨h1, h2⟩ := fold_min ns (min n k)
    have hm : (k :: ns).foldl min n = ns.foldl min (min n k) := rfl
    rw [hm]
    refine ⟨?_, fun y hy => ?_⟩
    · rcases List.mem_cons.mp h1 with e | e
      · rw [e]
        rcases Int.le_total n k with c | c
        · rw [Int.min_eq_left c]
          exact List.mem_cons_self ..
        · rw [Int.min_eq_right c]
          exact List.mem_cons_of_mem _ (List.mem_cons_self ..)
      · exact List.mem_cons_of_mem _ (List.mem_cons_of_mem _ e)
    · have h0 := h2 (min n k) (List.mem_cons_self ..)
      rcases List.mem_cons.mp hy with rfl | hy
      · exact Int.le_trans h0 (Int.min_le_left _ _)
      · rcases List.mem_cons.mp hy with rfl | hy
        · exact Int.le_trans h0 (Int.min_le_right _ _)
        · exact h2 y (List.mem_cons_of_mem _ hy)
theorem fold_max : ∀ (ns : List Int) (n : Int), ns.foldl max n ∈ n :: ns ∧ ∀ y ∈ n :: ns, y ≤ ns.foldl max n
  | [], n => ⟨List.mem_cons_self .., fun y hy => by rw [List.mem_singleton.mp hy]; exact Int.le_refl _⟩
  | k :: ns, n => by
    obtain ⟨h1, h2⟩ := fold_max ns (max n k)
    have hm : (k :: ns).foldl max n = ns.foldl max (max n k) := rfl
    rw [hm]
    refine ⟨?_, fun y hy => ?_⟩
    · rcases List.mem_cons.mp h1 with e | e
      · rw [e]
        rcases Int.le_total n k with c | c
        · rw [Int.max_eq_right c]
          exact List.mem_cons_of_mem _ (List.mem_cons_self ..)
        · rw [Int.max_eq_left c]
          exact List.mem_cons_self ..
      · exact List.mem_cons_of_mem _ (List.mem_cons_of_mem _ e)
    · have h0 := h2 (max n k) (List.mem_cons_self ..)
      rcases List.mem_cons.mp hy with rfl | hy
      · exact Int.le_trans (Int.le_max_left _ _) h0
      · rcases List.mem_cons.mp hy with rfl | hy
        · exact Int.le_trans (Int.le_max_right _ _) h0
        · exact h2 y (List.mem_cons_of_mem _ hy)
def rMinD (K : PySem.W.Frag) : List V → List V → Hp → VK → Prop := fun vs zs H Q => ∃ (a : Addr) (ns : List Int), vs = [V.ref a] ∧ zs = [.non] ∧ SqL K H a (ns.map V.int) ∧ (ns = [] → Q .non H) ∧ ∀ m, m ∈ ns → (∀ y, y ∈ ns → m ≤ y) → Q (.int m) H
def rMaxD (K : PySem.W.Frag) : List V → List V → Hp → VK → Prop := fun vs zs H Q => ∃ (a : Addr) (ns : List Int), vs = [V.ref a] ∧ zs = [.non] ∧ SqL K H a (ns.map V.int) ∧ (ns = [] → Q .non H) ∧ ∀ m, m ∈ ns → (∀ y, y ∈ ns → y ≤ m) → Q (.int m) H
section
variable {X : Cx}
theorem cr_minD (hc : X.calm = true) (hu : X.A.units + 64 < cLine) : CallRK X (.builtin "min") [Str.ofString "default"] (rMinD X.K) := by
  intro pins s σ H vs zs us ws Q I r rz h
  obtain ⟨a, ns, rfl, rfl, hs, q0, q⟩ := h
  obtain rfl := Vals.ref1 r
  obtain ⟨w1, rfl, e1⟩ := vals1 rz
  obtain rfl : w1 = Value.none := e1
  obtain ⟨its, rv, hl, _⟩ := I.list hs
  refine min_list_default (xs := ns.map PyData.int) (as := []) (I.ok.hd hc) hl.isList (reads_ints rv) (alike_ints ns) ?_ (fun e h' tk hk => ?_) fun y ys i v h' tk bs e hv hr hk => ?_
  · rw [depth_ints]
    omega
  · exact ⟨.non, H, I.kept hk, rfl, q0 (List.map_eq_nil_iff.mp e)⟩
  · cases ns with
    | nil => cases e
    | cons n ns =>
      injection e with e1 e2
      subst e1 e2
      rw [minD_ints] at hr
      obtain ⟨k, t, _, rfl⟩ := int_at rv (by simpa using hv)
      have ek : k = ns.foldl min n := by cases hr; rfl
      subst ek
      obtain ⟨m1, m2⟩ := fold_min ns n
      exact ⟨.int _, H, I.kept hk, ⟨_, rfl⟩, q _ m1 fun y hy => m2 y hy⟩
theorem cr_maxD (hc : X.calm = true) (hu : X.A.units + 64 < cLine) : CallRK X (.builtin "max") [Str.ofString "default"] (rMaxD X.K) := by
  intro pins s σ H vs zs us ws Q I r rz h
  obtain ⟨a, ns, rfl, rfl, hs, q0, q⟩ := h
  obtain rfl := Vals.ref1 r
  obtain ⟨w1, rfl, e1⟩ := vals1 rz
  obtain rfl : w1 = Value.none := e1
  obtain ⟨its, rv, hl, _⟩ := I.list hs
  refine max_list_default (xs := ns.map PyData.int) (as := []) (I.ok.hd hc) hl.isList (reads_ints rv) (alike_ints ns) ?_ (fun e h' tk hk => ?_) fun y ys i v h' tk bs e hv hr hk => ?_
  · rw [depth_ints]
    omega
  · exact ⟨.non, H, I.kept hk, rfl, q0 (List.map_eq_nil_iff.mp e)⟩
  · cases ns with
    | nil => cases e
    | cons n ns =>
      injection e with e1 e2
      subst e1 e2
      rw [maxD_ints] at hr
      obtain ⟨k, t, _, rfl⟩ := int_at rv (by simpa using hv)
      have ek : k = ns.foldl max n := by cases hr; rfl
      subst ek
      obtain ⟨m1, m2⟩ := fold_max ns n
      exact ⟨.int _, H, I.kept hk, ⟨_, rfl⟩, q _ m1 fun y hy => m2 y hy⟩
end
end NF
set_option Elab.async false
set_option linter.all false
set_option maxRecDepth 100000
set_option maxHeartbeats 4000000
namespace NT
theorem rnr_lead {A B : List Int} {a b : Int} {g W V : Nat} {S : List Int} (h : Ln A.length B.length g W V) {i : Nat} (hi : i < A.length) (ok : OkAt A.length B.length g W (i % B.length) (S.getD (i % B.length) 0)) :
    (rnr A a b A.length B.length g S i).1 < g ∧ (rnr A a b A.length B.length g S i).2.1 < W ∧ ∀ s, leadD A a B b (i + A.length * s) = (rnr A a b A.length B.length g S i).2.2 - rowR B b A.length a (rnr A a b A.length B.length g S i).1 ((rnr A a b A.length B.length g S i).2.1 + s) := by
  obtain ⟨s0, e, hs, hr⟩ := ok
  have dv : g ∣ B.length := ⟨W, h.eM⟩
  rw [Nat.mod_mod_of_dvd _ dv] at hr
  unfold rnr
  dsimp only
  rw [e, Int.toNat_natCast]
  refine ⟨Nat.mod_lt _ h.g0, hs, fun s => ?_⟩
  have t := turns_of h.m0 hr
  have ek : ((i % g + A.length * s0 : Nat) : Int) = ((i % g : Nat) : Int) + (A.length : Int) * (s0 : Int) := by rw [Int.natCast_add, Int.natCast_mul]
  rw [lead_at h hi t, ek]
end NT
namespace K09
open PySem PySem.Spec PyProof.Rows L2 He NF RZ NT
def spFirst (K : PySem.W.Frag) (C : Addr) : Sp := fun vs H Q _ => ∃ (x : Addr) (st : Nat) (A B : List Int) (a b k : Int), vs = [.ref x, .int k] ∧ ChAt K C H x st A a B b ∧ A.length ≤ 400 ∧ B.length ≤ 400 ∧ -100000 ≤ a ∧ a ≤ 100000 ∧ -100000 ≤ b ∧ b ≤ 100000 ∧
  ∀ o H', LeastP (fun s => k < leadD A a B b s) o → Same H H' → Q (vN (o.map fun s => st + 1 + s)) H'
theorem sc_Chase_first_lead : FnScope ["self", "k", "places", "at", "ladder", "limit", "least", "lane", "step", "reach", "turns", "found"] ["self", "k"] (defScope s_Chase_first_lead) := ⟨rfl, rfl, rfl, by decide +kernel, rfl, by decide +kernel, by decide +kernel⟩
section
variable {P : Program} {w : World} {K : PySem.W.Frag} {mg : Str → Option Value} {base : Heap} {gs fs : List Str} {C : Addr}
theorem ok_Chase_first_lead {f : Addr} {fd : FuncData} (F : FunD K "first_lead" "Chase.first_lead" (defArgs s_Chase_first_lead) (defBody s_Chase_first_lead) (defScope s_Chase_first_lead) [] [] f fd) (T : Txt K mg gs FS) (hc : ChC K C) (o_place_of : MetC P w K mg base 1 C "place_of" (spPlaceOf K C)) (c_least_in : Cal P w K mg base 1 "least_in" (spLeast K)) (c_first_under : Cal P w K mg base 1 "first_under" (spFirstU K)) : FnOk P w K mg base CX0 2 f fd ["self", "k"] (spFirst K C) := by
  refine F.ok sc_Chase_first_lead (fun vs H Q E h => ?_) (fun cdv A outer s H vs Q E hr h => ?_)
  · obtain ⟨x, st, A, B, a, b, k, rfl, _⟩ := h
    rfl
  · obtain ⟨x, st, A', B, a, b, k, rfl, ch, bA, bB, ba0, ba1, bb0, bb1, q⟩ := h
    obtain ⟨dx, lp, rp, lvs, g, W, V_, S, hx, ln, hlp, hlen, hlad, okS, vs, hrp, hR⟩ := ch
    have hu := hr.units
    refine ⟨_, PSs.nox (pss_cons (ps_set (i := 2) sc_Chase_first_lead.nd rfl (Or.inl rfl) (pe_lst pa_nil)) (pss_cons (ps_for PassesOwn.never rfl (pi_enum rfl (T.fr _ (by decide +kernel)) (pa_cons (pe_fld (pv 0) rfl) pa_nil)) (pgt (K := K) (n := 2) rfl rfl (pgs_cons (pg_name (i := 3) sc_Chase_first_lead.nd rfl (Or.inl rfl)) (pgs_cons (pgt (K := K) (n := 3) rfl rfl (pgs_cons (pg_name (i := 7) sc_Chase_first_lead.nd rfl (Or.inl rfl)) (pgs_cons (pg_name (i := 8) sc_Chase_first_lead.nd rfl (Or.inl rfl)) (pgs_cons (pg_name (i := 9) sc_Chase_first_lead.nd rfl (Or.inl rfl)) pgs_nil)))) pgs_nil))) (pss_cons (ps_set (i := 4) sc_Chase_first_lead.nd rfl (Or.inl rfl) (pe_ix (ixl (K := K)) (pe_fld (pv 0) rfl) (pv 7) fun _ _ => rfl)) (pss_cons (ps_set (i := 5) sc_Chase_first_lead.nd rfl (Or.inl rfl) (pe_op op_sub (pv 9) (pv 1))) (pss_cons (ps_set (i := 6) sc_Chase_first_lead.nd rfl (Or.inl rfl) (pe_c c_least_in hr (by decide) rfl (pa_cons (pv 4) (pa_cons (pv 8) (pa_cons (pe_fld (pv 0) rfl) pa_nil))))) (pss_one (ps_if (pt_cmpR op_lt (pv 6) (pv 5) (nomark _)) (pss_one (ps_expr (pe_bm PySem.F.plainAttrs_list PySem.F.slot_list_append PySem.F.type_list_append mt_append (pv 2) (pa_cons (pe_mt (pv 0) o_place_of hr (by decide) (pa_cons (pv 3) (pa_cons (pe_op op_sub (pe_c c_first_under hr (by decide) rfl (pa_cons (pv 4) (pa_cons (pv 8) (pa_cons (pv 5) pa_nil)))) (pv 8)) pa_nil))) pa_nil)))) (pss_one (ps_if (pt_cmpR op_gt (pe_fld (pv 0) rfl) pe_int (nomark _)) (pss_cons (ps_set (i := 10) sc_Chase_first_lead.nd rfl (Or.inl rfl) (pe_op op_add (pe_op op_fdiv (pe_op op_sub (pv 6) (pv 5)) (pe_fld (pv 0) rfl)) pe_int)) (pss_cons (ps_set (i := 11) sc_Chase_first_lead.nd rfl (Or.inl rfl) (pe_c c_first_under hr (by decide) rfl (pa_cons (pv 4) (pa_cons (pv 8) (pa_cons (pe_op op_add (pv 5) (pe_op op_mul (pv 10) (pe_fld (pv 0) rfl))) pa_nil))))) (pss_one (ps_expr (pe_bm PySem.F.plainAttrs_list PySem.F.slot_list_append PySem.F.type_list_append mt_append (pv 2) (pa_cons (pe_mt (pv 0) o_place_of hr (by decide) (pa_cons (pv 3) (pa_cons (pe_op op_add (pe_op op_sub (pv 11) (pv 8)) (pe_op op_mul (pv 10) (pe_fld (pv 0) rfl))) pa_nil))) pa_nil)))))) pss_nil)))))))) (pss_one (ps_ret (pe_callBK (cr_minD rfl hu) rfl (T.fr _ (by decide +kernel)) (by decide +kernel) (pa_cons (pv 2) pa_nil) (pk_cons pe_non pk_nil)))))), ?_⟩
    refine ⟨(by show 0 ≤ sizeLine; decide), fun D hD => ?_⟩
    have s1 := NF.Same.new (o := .lst []) (Same.refl H) hD
    have g0 := ln.g0
    have m0 := ln.m0
    have w0 := ln.w0
    have l0 := ln.l0
    refine ⟨_, rfl, x, C, dx, _, _, rfl, s1 _ _ hx, hc.cl, hc.ru, rfl, rp, _, rfl, L2.Same.seq s1 hrp, ?_⟩
    obtain ⟨P, hP⟩ : ∃ P : Nat → Prop, P = fun s => k < leadD A' a B b s := ⟨_, rfl⟩
    rw [← hP] at q
    refine for_it (walk_enum (xs := vs)) (fun i σ G => Same H G ∧ ∃ ps : List Int, G D = some (.lst (vI ps)) ∧ Got (fun s' s => s' < s) P A'.length st i ps ∧ ∃ v3 v4 v5 v6 v7 v8 v9 v10 v11, σ = [some (.ref x), some (.int k), some (.ref D), v3, v4, v5, v6, v7, v8, v9, v10, v11])
      ⟨s1, [], upd_same, Got.nil, none, none, none, none, none, none, none, none, none, rfl⟩ (fun i σ G _ z => L2.Same.seq z.1 hrp) ?_ ?_
    · rintro i y σ G G' hi ⟨sG, ps, hG, got, v3, v4, v5, v6, v7, v8, v9, v10, v11, rfl⟩ ⟨U, x1, y1, rfl, hU, rfl, hx1, hy1⟩
      obtain rfl : V.int ((i : Nat) : Int) = x1 := Option.some.inj hx1
      obtain ⟨r, hr1, t, rfl, ht⟩ := hR.get hy1
      have hiL : i < A'.length := by
        have := hR.len
        rw [List.length_map, List.length_range] at this
        omega
      rw [List.getElem?_map, List.getElem?_range hiL] at hr1
      obtain rfl : rnr A' a b A'.length B.length g S i = r := Option.some.inj hr1
      obtain ⟨rg, rW, hlead⟩ := rnr_lead (a := a) (b := b) ln hiL (okS _ (Nat.mod_lt i m0))
      generalize rnr A' a b A'.length B.length g S i = r at rg rW hlead ht
      obtain ⟨lane, step, reach⟩ := r
      dsimp only at rg rW hlead ht
      have elv : lvs[lane]? = some lvs[lane] := List.getElem?_eq_getElem (by omega)
      obtain ⟨p, L, wd, epv, la, lad, wd1, wd2⟩ := hlad lane _ elv
      rw [epv] at elv
      have s2 := NF.Same.new (o := .tup [V.int ((i : Nat) : Int), V.ref t]) sG hU
      have hx2 := s2 _ _ hx
      refine ⟨U, _, rfl, SqT.of upd_same, rfl, _, _, rfl, ?_⟩
      refine ⟨_, _, rfl, ?_⟩
      refine ⟨t, _, rfl, NF.Same.tup s2 ht, rfl, _, _, rfl, ?_⟩
      refine ⟨_, _, rfl, ?_⟩
      refine ⟨_, _, rfl, ?_⟩
      refine ⟨rfl, ?_⟩
      refine ⟨rfl, ?_⟩
      refine ⟨_, rfl, x, C, dx, _, _, rfl, hx2, hc.cl, hc.ls, rfl, _, rfl, lp, _, _, _, rfl, rfl, L2.Same.seq s2 hlp, atI_nat elv, ?_⟩
      refine ⟨_, rfl, _, rfl, _, _, rfl, rfl, ?_⟩
      obtain ⟨m, L', rfl, m1, m2, lo⟩ := lad.least (i := step) wd1 wd2 (by omega)
      refine ⟨_, rfl, _, rfl, _, rfl, x, C, dx, _, _, rfl, hx2, hc.cl, hc.wi, rfl, ?_⟩
      refine ⟨p, wd, m, L', step, W, rfl, la.mono s2, m1, wd1, m2, ?_⟩
      generalize mn (m.getD step 0) (m.getD (step + (W - wd)) 0) = v at lo
      have hp := rowR_per (a := a) (b := b) ln lane
      have eP : ∀ s, P (i + A'.length * s) ↔ rowR B b A'.length a lane (step + s) < reach - k := fun s => by
        rw [hP]
        show k < leadD A' a B b (i + A'.length * s) ↔ _
        rw [hlead s]
        omega
      generalize hf : rowR B b A'.length a lane = f at lo lad hp eP
      generalize hdr : a * (W : Int) - b * (V_ : Int) = dr at hp hx hx2
      have hGU : (upd G U (.tup [V.int ((i : Nat) : Int), V.ref t])) D = some (.lst (vI ps)) := (upd_ne (ne_of_none hG hU)).trans hG
      generalize upd G U (.tup [V.int ((i : Nat) : Int), V.ref t]) = G2 at s2 hx2 hGU
      have pl := got.len
      have dr0 : -100000000 ≤ dr ∧ dr ≤ 100000000 := by
        have WB : W ≤ 400 := by
          have : W ≤ B.length := by rw [ln.eM]; exact Nat.le_mul_of_pos_left _ g0
          omega
        have VB : V_ ≤ 400 := by
          have : V_ ≤ A'.length := by rw [ln.eL]; exact Nat.le_mul_of_pos_left _ g0
          omega
        have c1 : -100000 * (W : Int) ≤ a * (W : Int) ∧ a * (W : Int) ≤ 100000 * (W : Int) := ⟨Int.mul_le_mul_of_nonneg_right ba0 (by omega), Int.mul_le_mul_of_nonneg_right ba1 (by omega)⟩
        have c2 : -100000 * (V_ : Int) ≤ b * (V_ : Int) ∧ b * (V_ : Int) ≤ 100000 * (V_ : Int) := ⟨Int.mul_le_mul_of_nonneg_right bb0 (by omega), Int.mul_le_mul_of_nonneg_right bb1 (by omega)⟩
        omega
      refine ⟨_, rfl, _, rfl, _, _, rfl, rfl, _, rfl, ite2 (fun c1 => ?T) (fun c1 => ?F)⟩
      case T =>
        have c : v < reach - k := of_decide_eq_true c1
        obtain ⟨t2, F2, t3⟩ := first_ex lo c
        have eu := under_ok lad F2 (by omega) (by omega)
        obtain ⟨s3, rfl⟩ : ∃ s3, t2 = step + s3 := ⟨t2 - step, by have := F2.le; omega⟩
        obtain ⟨d1, d2⟩ := lead_now F2
        refine ⟨_, rfl, .inl ⟨rfl, _, SqL.of hGU⟩, _, rfl, x, dx, _, rfl, hx2, rfl, _, rfl, _, rfl, _, rfl, _, rfl, ?_⟩
        refine ⟨p, _, step, reach - k, rfl, la.mono s2, ?_⟩
        rw [eu]
        refine ⟨_, rfl, _, _, rfl, rfl, ?_⟩
        refine ⟨x, dx, _, (st : Int), (i : Int), _, (A'.length : Int), rfl, hx2, rfl, rfl, by omega, by omega, ?_⟩
        have ey : (st : Int) + 1 + (i : Int) + (((step + s3 : Nat) : Int) - (step : Int)) * (A'.length : Int) = ((st + 1 + (i + A'.length * s3) : Nat) : Int) := by
          rw [show ((step + s3 : Nat) : Int) - (step : Int) = (s3 : Int) by omega, Int.mul_comm]
          simp only [Int.natCast_add, Int.natCast_mul]
          omega
        refine ⟨D, _, _, rfl, rfl, hGU, ?_, ?_⟩
        · rw [vI_len]
          exact Nat.lt_of_le_of_lt (show ps.length ≤ 400 by omega) (by decide)
        · refine ⟨NF.Same.mut s2 hD, ps ++ [((st : Int) + 1 + (i : Int) + (((step + s3 : Nat) : Int) - (step : Int)) * (A'.length : Int))], ?_, got.add ((eP s3).mpr d1) (fun s' h z => ?_) ey, _, _, _, _, _, _, _, _, _, rfl⟩
          · rw [upd_same, ← vI_app]
            rfl
          · have := d2 s' h
            have := (eP s').mp z
            omega
      case F =>
        have c : ¬ v < reach - k := fun z => c1 (decide_eq_true z)
        refine ⟨_, rfl, x, C, dx, _, _, rfl, hx2, hc.cl, hc.dr, rfl, _, _, rfl, rfl, _, rfl, ite2 (fun c2 => ?T2) (fun c2 => ?F2)⟩
        case F2 =>
          have d : ¬ 0 < dr := fun z => c2 (decide_eq_true z)
          refine ⟨s2, ps, hGU, got.skip fun s' z => ?_, _, _, _, _, _, _, _, _, _, rfl⟩
          have := lead_never w0 hp lo (show reach - k ≤ v by omega) (show dr ≤ 0 by omega) s'
          have := (eP s').mp z
          omega
        case T2 =>
          have d : 0 < dr := of_decide_eq_true c2
          have q0 : 0 ≤ (v - (reach - k)) / dr := Int.ediv_nonneg (by omega) (by omega)
          obtain ⟨n, hn⟩ : ∃ n : Nat, (n : Int) = (v - (reach - k)) / dr + 1 := ⟨((v - (reach - k)) / dr + 1).toNat, by omega⟩
          have nd : v < reach - k + (n : Int) * dr := by
            have h3 : v - (reach - k) < dr * ((v - (reach - k)) / dr) + dr := Int.lt_mul_ediv_self_add d
            rw [hn, Int.add_mul, Int.one_mul, Int.mul_comm _ dr]
            omega
          obtain ⟨t2, F2, t3⟩ := first_ex lo nd
          have eu := under_ok lad F2 (by omega) (by omega)
          obtain ⟨s3, rfl⟩ : ∃ s3, t2 = step + s3 := ⟨t2 - step, by have := F2.le; omega⟩
          obtain ⟨d1, d2⟩ := lead_later w0 hp lo (show reach - k ≤ v by omega) d hn F2 (by omega)
          refine ⟨_, rfl, _, rfl, _, _, rfl, rfl, _, rfl, x, C, dx, _, _, rfl, hx2, hc.cl, hc.dr, rfl, _, _, rfl, rfl, ⟨d, by omega⟩, _, _, rfl, rfl, ?_⟩
          show gName 10 (V.int ((v - (reach - k)) / dr + 1)) _ _ _
          rw [← hn]
          refine ⟨_, rfl, _, rfl, _, rfl, _, rfl, _, rfl, x, C, dx, _, _, rfl, hx2, hc.cl, hc.dr, rfl, _, _, rfl, rfl, Or.inr ⟨by omega, by omega⟩, _, _, rfl, rfl, ?_⟩
          refine ⟨p, _, step, _, rfl, la.mono s2, ?_⟩
          rw [eu]
          have WB : W ≤ 400 := by
            have : W ≤ B.length := by rw [ln.eM]; exact Nat.le_mul_of_pos_left _ g0
            omega
          refine ⟨_, rfl, .inl ⟨rfl, _, SqL.of hGU⟩, _, rfl, x, dx, _, rfl, hx2, rfl, _, rfl, _, rfl, _, rfl, _, _, rfl, rfl, _, rfl, _, rfl, x, C, dx, _, _, rfl, hx2, hc.cl, hc.wi, rfl, _, _, rfl, rfl, Or.inr ⟨by omega, by omega⟩, _, _, rfl, rfl, ?_⟩
          refine ⟨x, dx, _, (st : Int), (i : Int), _, (A'.length : Int), rfl, hx2, rfl, rfl, by omega, by omega, ?_⟩
          have ey : (st : Int) + 1 + (i : Int) + (((step + s3 : Nat) : Int) - (step : Int) + (n : Int) * (W : Int)) * (A'.length : Int) = ((st + 1 + (i + A'.length * (s3 + W * n)) : Nat) : Int) := by
            rw [show ((step + s3 : Nat) : Int) - (step : Int) = (s3 : Int) by omega, Int.mul_comm _ (A'.length : Int), Int.mul_comm (n : Int)]
            simp only [Int.natCast_add, Int.natCast_mul]
            omega
          refine ⟨D, _, _, rfl, rfl, hGU, ?_, ?_⟩
          · rw [vI_len]
            exact Nat.lt_of_le_of_lt (show ps.length ≤ 400 by omega) (by decide)
          · refine ⟨NF.Same.mut s2 hD, ps ++ [((st : Int) + 1 + (i : Int) + (((step + s3 : Nat) : Int) - (step : Int) + (n : Int) * (W : Int)) * (A'.length : Int))], ?_, got.add ((eP (s3 + W * n)).mpr d1) (fun s' h z => ?_) ey, _, _, _, _, _, _, _, _, _, rfl⟩
            · rw [upd_same, ← vI_app]
              rfl
            · have := d2 s' h
              have := (eP s').mp z
              omega
    · rintro σ G ⟨sG, ps, hG, got, v3, v4, v5, v6, v7, v8, v9, v10, v11, rfl⟩
      have eL : vs.length = A'.length := by
        have := hR.len
        rw [List.length_map, List.length_range] at this
        exact this
      rw [eL] at got
      obtain ⟨e1, e2⟩ := first_all l0 got.some got.all
      refine ⟨_, rfl, D, ps, rfl, rfl, SqL.of hG, fun e => q none G (e1 e) sG, fun m hm hmin => ?_⟩
      obtain ⟨s3, f1, rfl⟩ := e2 m hm hmin
      exact q (some s3) G f1 sG
end
end K09
set_option linter.all false
set_option maxHeartbeats 4000000
/-! The greatest lead, gathered from the runners' own. Plain Lean. -/
namespace NT
/-- m is the greatest of the leads -/
def GreatL (D : Nat → Int) (m : Int) : Prop := (∀ s, D s ≤ m) ∧ ∃ s, D s = m
/-- each runner's own greatest lead so far -/
def GotL (D : Nat → Int) (L : Nat) (ps : List Int) : Prop := ∀ o, o < ps.length → (∀ s, D (o + L * s) ≤ ps.getD o 0) ∧ ∃ s, D (o + L * s) = ps.getD o 0
theorem gotL_nil {D : Nat → Int} {L : Nat} : GotL D L [] := fun o ho => absurd ho (Nat.not_lt_zero _)
theorem gotL_add {D : Nat → Int} {L : Nat} {ps : List Int} {v : Int} (h : GotL D L ps) (h1 : ∀ s, D (ps.length + L * s) ≤ v) (h2 : ∃ s, D (ps.length + L * s) = v) : GotL D L (ps ++ [v]) := by
  intro o ho
  rw [List.length_append, List.length_singleton] at ho
  by_cases c : o < ps.length
  · rw [getD_app1 c]
    exact h o c
  · have e : o = ps.length := by omega
    subst e
    have e2 : (ps ++ [v]).getD ps.length 0 = v := by
      rw [List.getD_eq_getElem?_getD, List.getElem?_append_right (Nat.le_refl _), Nat.sub_self]
      rfl
    rw [e2]
    exact ⟨h1, h2⟩
theorem great_all {D : Nat → Int} {L : Nat} {ps : List Int} (hL : 0 < L) (e : ps.length = L) (h : GotL D L ps) {m : Int} (hm : m ∈ ps) (hl : ∀ y ∈ ps, y ≤ m) : GreatL D m := by
  refine ⟨fun s => ?_, ?_⟩
  · obtain ⟨o, u, rfl, ho⟩ := lapOf hL s
    have := (h o (by omega)).1 u
    have h2 := hl (ps.getD o 0) (by
      rw [List.getD_eq_getElem?_getD, List.getElem?_eq_getElem (show o < ps.length by omega)]
      exact List.getElem_mem _)
    omega
  · obtain ⟨i, hi, rfl⟩ := List.mem_iff_getElem.mp hm
    obtain ⟨s, hs⟩ := (h i hi).2
    exact ⟨i + L * s, by rw [hs, List.getD_eq_getElem?_getD, List.getElem?_eq_getElem hi]; rfl⟩
/-- a runner's own: what is left of the reach -/
theorem runner_great {f : Nat → Int} {W step : Nat} {dr v reach : Int} {D : Nat → Int} {o L : Nat} (hw : 0 < W) (hp : ∀ s, f (s + W) = f s - dr) (lo : IsLo f step W v) (hd : dr ≤ 0) (e : ∀ s, D (o + L * s) = reach - f (step + s)) : (∀ s, D (o + L * s) ≤ reach - v) ∧ ∃ s, D (o + L * s) = reach - v := by
  refine ⟨fun s => ?_, ?_⟩
  · have := lead_never hw hp lo (Int.le_refl v) hd s
    have := e s
    omega
  · obtain ⟨j, j1, j2, j3⟩ := lo.at_
    refine ⟨j - step, ?_⟩
    rw [e, show step + (j - step) = j by omega, j3]
end NT
set_option Elab.async false
set_option linter.all false
set_option maxRecDepth 100000
set_option maxHeartbeats 4000000
namespace K09
open PySem PySem.Spec PyProof.Rows L2 He NF RZ NT
def spGreatL (K : PySem.W.Frag) (C : Addr) : Sp := fun vs H Q _ => ∃ (x : Addr) (st : Nat) (A B : List Int) (a b : Int), vs = [.ref x] ∧ ChAt K C H x st A a B b ∧ A.length ≤ 400 ∧ B.length ≤ 400 ∧ a * (B.length : Int) - b * (A.length : Int) ≤ 0 ∧
  ∀ m H', GreatL (leadD A a B b) m → Same H H' → Q (.int m) H'
theorem sc_Chase_greatest_lead : FnScope ["self", "lane", "step", "reach"] ["self"] (defScope s_Chase_greatest_lead) := ⟨rfl, rfl, rfl, by decide +kernel, rfl, by decide +kernel, by decide +kernel⟩
section
variable {P : Program} {w : World} {K : PySem.W.Frag} {mg : Str → Option Value} {base : Heap} {gs fs : List Str} {C : Addr}
theorem ok_Chase_greatest_lead {f : Addr} {fd : FuncData} (F : FunD K "greatest_lead" "Chase.greatest_lead" (defArgs s_Chase_greatest_lead) (defBody s_Chase_greatest_lead) (defScope s_Chase_greatest_lead) [] [] f fd) (T : Txt K mg gs FS) (hc : ChC K C) (c_least_in : Cal P w K mg base 1 "least_in" (spLeast K)) : FnOk P w K mg base CX0 2 f fd ["self"] (spGreatL K C) := by
  refine F.ok sc_Chase_greatest_lead (fun vs H Q E h => ?_) (fun cdv A outer s H vs Q E hr h => ?_)
  · obtain ⟨x, st, A, B, a, b, rfl, _⟩ := h
    rfl
  · obtain ⟨x, st, A', B, a, b, rfl, ch, bA, bB, hd, q⟩ := h
    obtain ⟨dx, lp, rp, lvs, g, W, V_, S, hx, ln, hlp, hlen, hlad, okS, vs, hrp, hR⟩ := ch
    refine ⟨_, PSs.nox (pss_one (ps_ret (pe_callB (cr_max rfl) rfl (T.fr _ (by decide +kernel)) (by decide +kernel) (pa_cons (pe_lc (own := [("lane", 1), ("step", 2), ("reach", 3)]) rfl sc_Chase_greatest_lead.nd (pi_list (pe_fld (pv 0) rfl)) (blkOk_by (N := ["self", "lane", "step", "reach"]) (sc := defScope s_Chase_greatest_lead) (by decide +kernel)) (fun _ _ _ _ _ => by exact (pgt (K := K) (n := 3) rfl rfl (pgs_cons (pg_name (i := 1) sc_Chase_greatest_lead.nd rfl (Or.inl rfl)) (pgs_cons (pg_name (i := 2) sc_Chase_greatest_lead.nd rfl (Or.inl rfl)) (pgs_cons (pg_name (i := 3) sc_Chase_greatest_lead.nd rfl (Or.inl rfl)) pgs_nil))))) (fun _ _ _ _ _ => by exact pts_nil) (fun _ _ _ _ _ => by exact (pe_op op_sub (pv 3) (pe_c c_least_in hr (by decide) rfl (pa_cons (pe_ix (ixl (K := K)) (pe_fldK (K := K) (pv 0) rfl) (pv 1) fun _ _ => rfl) (pa_cons (pv 2) (pa_cons (pe_fldK (K := K) (pv 0) rfl) pa_nil))))))) pa_nil)))), ?_⟩
    have g0 := ln.g0
    have m0 := ln.m0
    have w0 := ln.w0
    have l0 := ln.l0
    have hdr : a * (W : Int) - b * (V_ : Int) ≤ 0 := by
      rw [← drift_is ln]
      exact Int.ediv_nonpos_of_nonpos_of_neg hd (by omega)
    have eL : vs.length = A'.length := by
      have := hR.len
      rw [List.length_map, List.length_range] at this
      exact this
    refine ⟨_, rfl, x, C, dx, _, _, rfl, hx, hc.cl, hc.ru, rfl, rp, rfl, ⟨_, hrp⟩, fun D hD => ?_⟩
    refine lc_list (xs := vs) (fun j G => Same H G ∧ ∃ ps : List Int, G D = some (.lst (vI ps)) ∧ ps.length = j ∧ GotL (leadD A' a B b) A'.length ps) ⟨NF.Same.new (Same.refl H) hD, [], upd_same, rfl, gotL_nil⟩ (fun i G _ z => L2.Same.seq z.1 hrp) ?_ ?_
    · rintro i y G hy ⟨sG, ps, hG, pl, got⟩
      obtain ⟨r, hr1, t, rfl, ht⟩ := hR.get hy
      have hiL : i < A'.length := by
        have := (List.getElem?_eq_some_iff.mp hy).1
        omega
      rw [List.getElem?_map, List.getElem?_range hiL] at hr1
      obtain rfl : rnr A' a b A'.length B.length g S i = r := Option.some.inj hr1
      obtain ⟨rg, rW, hlead⟩ := rnr_lead (a := a) (b := b) ln hiL (okS _ (Nat.mod_lt i m0))
      generalize rnr A' a b A'.length B.length g S i = r at rg rW hlead ht
      obtain ⟨lane, step, reach⟩ := r
      dsimp only at rg rW hlead ht
      have elv : lvs[lane]? = some lvs[lane] := List.getElem?_eq_getElem (by omega)
      obtain ⟨p, L, wd, epv, la, lad, wd1, wd2⟩ := hlad lane _ elv
      rw [epv] at elv
      have hx2 := sG _ _ hx
      obtain ⟨m, L', rfl, m1, m2, lo⟩ := lad.least (i := step) wd1 wd2 (by omega)
      refine ⟨t, _, rfl, NF.Same.tup sG ht, rfl, _, _, rfl, ?_⟩
      refine ⟨_, _, rfl, ?_⟩
      refine ⟨_, _, rfl, ?_⟩
      refine ⟨rfl, rfl, ?_⟩
      refine ⟨_, rfl, _, rfl, x, C, dx, _, _, rfl, hx2, hc.cl, hc.ls, rfl, _, rfl, lp, _, _, _, rfl, rfl, L2.Same.seq sG hlp, atI_nat elv, _, rfl, _, rfl, x, C, dx, _, _, rfl, hx2, hc.cl, hc.wi, rfl, ?_⟩
      refine ⟨p, wd, m, L', step, W, rfl, la.mono sG, m1, wd1, m2, ?_⟩
      generalize mn (m.getD step 0) (m.getD (step + (W - wd)) 0) = v at lo
      have hp := rowR_per (a := a) (b := b) ln lane
      have gr := runner_great (D := leadD A' a B b) w0 hp lo hdr hlead
      refine ⟨_, _, rfl, rfl, _, hG, ?_, NF.Same.mut sG hD, ps ++ [reach - v], ?_, by rw [List.length_append, pl]; rfl, gotL_add got (by rw [pl]; exact gr.1) (by rw [pl]; exact gr.2)⟩
      · rw [vI_len]
        exact Nat.lt_of_le_of_lt (show ps.length ≤ 400 by omega) (by decide)
      · rw [upd_same, ← vI_app]
        rfl
    · rintro G ⟨sG, ps, hG, pl, got⟩
      refine ⟨D, ps, rfl, SqL.of hG, by omega, fun m hm hl => q m G (great_all l0 (by omega) got hm hl) sG⟩
end
end K09
set_option Elab.async false
set_option linter.all false
set_option maxRecDepth 100000
set_option maxHeartbeats 4000000
namespace NT
def segO (F : Nat → Option Int) (s m : Nat) : List (Option Int) := (List.range m).map fun i => F (s + i + 1)
theorem segO_len {F : Nat → Option Int} {s m : Nat} : (segO F s m).length = m := by unfold segO; rw [List.length_map, List.length_range]
theorem segO_get {F : Nat → Option Int} {s m i : Nat} (h : i < m) : (segO F s m)[i]? = some (F (s + i + 1)) := by
  unfold segO
  rw [List.getElem?_map, List.getElem?_range h]
  rfl
theorem segO_add {F : Nat → Option Int} {s a b : Nat} : segO F s (a + b) = segO F s a ++ segO F (s + a) b := by
  refine List.ext_getElem? fun i => ?_
  by_cases h1 : i < a
  · rw [segO_get (by omega), List.getElem?_append_left (by rw [segO_len]; exact h1), segO_get h1]
  · rw [List.getElem?_append_right (by rw [segO_len]; omega), segO_len]
    by_cases h2 : i < a + b
    · rw [segO_get h2, segO_get (by omega), show s + a + (i - a) + 1 = s + i + 1 by omega]
    · rw [List.getElem?_eq_none (by rw [segO_len]; omega), List.getElem?_eq_none (by rw [segO_len]; omega)]
theorem segO_none {F : Nat → Option Int} {s m : Nat} (h : ∀ i, i < m → F (s + i + 1) = none) : segO F s m = List.replicate m none := by
  refine List.ext_getElem? fun i => ?_
  by_cases h1 : i < m
  · rw [segO_get h1, h i h1, List.getElem?_replicate, if_pos h1]
  · rw [List.getElem?_eq_none (by rw [segO_len]; omega), List.getElem?_eq_none (by rw [List.length_replicate]; omega)]
end NT
namespace NF
open PySem PySem.Spec PyProof.Rows L2 He RZ NT
theorem rep_non {M : Nat} : (List.replicate M [V.non]).flatten = List.replicate M V.non := by
  induction M with
  | zero => rfl
  | succ M ih => rw [List.replicate_succ, List.flatten_cons, ih, List.replicate_succ]; rfl
def vOs (xs : List (Option Int)) : List V := xs.map vO
theorem vOs_len {xs : List (Option Int)} : (vOs xs).length = xs.length := by unfold vOs; rw [List.length_map]
theorem vI_segN {F : Nat → Option Int} {s m : Nat} (h : ∀ i, i < m → F (s + i + 1) ≠ none) : vI (segN F s m) = vOs (segO F s m) := by
  unfold vI vOs segN segO
  rw [List.map_map, List.map_map]
  refine List.map_congr_left fun i hi => ?_
  have hi := List.mem_range.mp hi
  show V.int (numF F (s + i + 1)) = vO (F (s + i + 1))
  unfold numF
  cases e : F (s + i + 1) with
  | none => exact absurd e (h i hi)
  | some v => rfl
end NF
namespace K09
open PySem PySem.Spec PyProof.Rows L2 He NF RZ NT
/-- the values of any table, from a place on -/
def spFromO (K : PySem.W.Frag) (C : Addr) : Sp := fun vs H Q _ => ∃ (x : Addr) (y : List Int × List Int × Int) (s m : Nat), vs = [.ref x, .int ((s + 1 : Nat) : Int), .int (m : Int)] ∧ TabAt K C H x y ∧ 0 ≤ y.2.2 ∧ y.2.2 ≤ 1000000 ∧ y.1.length ≤ 1000 ∧ y.2.1.length ≤ 1000 ∧ s ≤ y.1.length ∧ m ≤ 1000 ∧
  ∀ q H', Same H H' → H' q = some (.lst (vOs (segO (at_ y.1 y.2.1 y.2.2) s m))) → Q (.ref q) H'
/-- .. of a table without a loop, further than its head -/
def spFromL (K : PySem.W.Frag) (C : Addr) : Sp := fun vs H Q _ => ∃ (x : Addr) (y : List Int × List Int × Int) (s m : Nat), vs = [.ref x, .int ((s + 1 : Nat) : Int), .int (m : Int)] ∧ TabAt K C H x y ∧ y.2.1 = [] ∧ (y.1.length < s + m ∧ s ≤ y.1.length) ∧ y.1.length ≤ 1000 ∧ s ≤ 1000 ∧ m ≤ 1000 ∧
  ∀ q H', Same H H' → H' q = some (.lst (vOs (segO (at_ y.1 y.2.1 y.2.2) s m))) → Q (.ref q) H'
section
variable {P : Program} {w : World} {K : PySem.W.Frag} {mg : Str → Option Value} {base : Heap} {gs fs : List Str} {C : Addr}
theorem ok_values_fromL {f : Addr} {fd : FuncData} (F : FunD K "values_from" "values_from" (defArgs s_values_from) (defBody s_values_from) (defScope s_values_from) [] [] f fd) (T : Txt K mg gs FS) (tc : TabC K C) : FnOk P w K mg base CX0 2 f fd ["table", "start", "many"] (spFromL K C) := by
  refine F.ok sc_values_from (fun vs H Q E h => ?_) (fun cdv A outer s H vs Q E hr h => ?_)
  · obtain ⟨x, y, s, m, rfl, _⟩ := h
    rfl
  · obtain ⟨x, ⟨h, l, r⟩, s0, m, rfl, ⟨dx, a, b, hx, ha, hb⟩, hn, ⟨hlm, hsl⟩, lh, ls, lm, q⟩ := h
    dsimp only at hx ha hb hlm lh hn hsl q
    subst hn
    refine ⟨_, PSs.nox (pss_cons (ps_set (i := 3) sc_values_from.nd rfl (Or.inl rfl) (pe_callTy call_list_of rfl (T.fr _ (by decide +kernel)) (by decide +kernel) (pa_cons (pe_slice sl_tupA (pe_fld (pv 0) rfl) (po_some (pe_op op_sub (pv 1) pe_int)) (po_some (pe_op op_add (pe_op op_sub (pv 1) pe_int) (pv 2)))) pa_nil))) (pss_cons (ps_set (i := 4) sc_values_from.nd rfl (Or.inl rfl) (pe_op op_sub (pv 2) (pe_callB call_len_seq rfl (T.fr _ (by decide +kernel)) boot_len (pa_cons (pv 3) pa_nil)))) (pss_cons (ps_if (pt_cmpR op_eq (pv 4) pe_int (nomark _)) (pss_one (ps_ret (pv 3))) pss_nil) (pss_cons (ps_if (pt_not (pt_truth (pe_fld (pv 0) rfl) (fun _ => rfl))) (pss_one (ps_ret (pe_op op_cat (pv 3) (pe_op op_rep (pe_lst (pa_cons pe_non pa_nil)) (pv 4))))) pss_nil) (pss_cons (ps_asg (pe_callB call_divmod rfl (T.fr _ (by decide +kernel)) (by decide +kernel) (pa_cons (pe_op op_sub (pe_op op_sub (pe_op op_add (pv 1) (pe_callB call_len_seq rfl (T.fr _ (by decide +kernel)) boot_len (pa_cons (pv 3) pa_nil))) (pe_callB call_len_seq rfl (T.fr _ (by decide +kernel)) boot_len (pa_cons (pe_fld (pv 0) rfl) pa_nil))) pe_int) (pa_cons (pe_callB call_len_seq rfl (T.fr _ (by decide +kernel)) boot_len (pa_cons (pe_fld (pv 0) rfl) pa_nil)) pa_nil))) (pgt (K := K) (n := 2) rfl rfl (pgs_cons (pg_name (i := 7) sc_values_from.nd rfl (Or.inl rfl)) (pgs_cons (pg_name (i := 8) sc_values_from.nd rfl (Or.inl rfl)) pgs_nil)))) (pss_cons (ps_set (i := 5) sc_values_from.nd rfl (Or.inl rfl) (pe_op op_add (pe_op op_fdiv (pe_op op_sub (pe_op op_add (pv 8) (pv 4)) pe_int) (pe_callB call_len_seq rfl (T.fr _ (by decide +kernel)) boot_len (pa_cons (pe_fld (pv 0) rfl) pa_nil))) pe_int)) (pss_cons (ps_setLc2 (i := 6) (own := [("k", 9), ("entry", 10)]) (vs1 := [10]) rfl sc_values_from.nd rfl rfl (sw_true rfl rfl rfl (by decide +kernel)) (pi_range2 rfl (T.fr _ (by decide +kernel)) (pa_cons (pv 7) (pa_cons (pe_op op_add (pv 7) (pv 5)) pa_nil))) (blkOk_by (N := ["table", "start", "many", "found", "rest", "laps", "turned", "lap", "at", "k", "entry"]) (sc := defScope s_values_from) (by decide +kernel)) (by decide) (fun _ _ _ _ _ => by exact (pg_name (i := 9) sc_values_from.nd rfl (Or.inl rfl))) (fun _ _ _ _ _ => by exact pts_nil) (fun _ _ _ _ _ => by exact (pi_tupK (K := K) (pe_fldK (K := K) (pv 0) rfl))) (fun _ _ _ _ _ => by exact (pg_name (i := 10) sc_values_from.nd rfl (Or.inl rfl))) (fun _ _ _ _ _ => by exact pts_nil) (fun _ _ _ _ _ => by exact (pe_op op_add (pv 10) (pe_op op_mul (pv 9) (pe_fldK (K := K) (pv 0) rfl))))) (pss_one (ps_ret (pe_op op_cat (pv 3) (pe_slice sl_list (pv 6) (po_some (pv 8)) (po_some (pe_op op_add (pv 8) (pv 4)))))))))))))), ?_⟩
    refine ⟨_, rfl, x, C, dx, _, _, rfl, hx, tc.cl, tc.hd, rfl, _, rfl, _, _, rfl, rfl, _, rfl, _, rfl, _, _, rfl, rfl, _, rfl, _, _, rfl, rfl, _, rfl, ?_⟩
    refine slA_done (K := K) ha fun p1 H1 s1 t1 => ?_
    have e1 : ((s0 + 1 : Nat) : Int) - 1 = (s0 : Int) := by omega
    have e2 : (s0 : Int) + (m : Int) = ((s0 + m : Nat) : Int) := by omega
    rw [e1, e2, cut_nm, vI_drop, vI_take, show s0 + m - s0 = m by omega] at t1
    obtain ⟨u, hu⟩ : ∃ u, u = min m (h.length - s0) := ⟨_, rfl⟩
    have ef : (h.drop s0).take m = segN (at_ h [] r) s0 u := by
      by_cases c : s0 ≤ h.length
      · rw [← seg_head (show s0 + u ≤ h.length by omega)]
        rw [List.take_eq_take_iff.mpr]
        rw [List.length_drop]
        omega
      · rw [List.drop_of_length_le (by omega), show u = 0 by omega]
        simp [segN]
    rw [ef] at t1
    refine ⟨p1, _, rfl, Or.inr t1, fun q1 hq1 => ?_⟩
    have s2 : Same H (upd H1 q1 (.lst (vI (segN (at_ h [] r) s0 u)))) := Same.trans s1 (NF.Same.new (Same.refl H1) hq1)
    have hq2 : (upd H1 q1 (.lst (vI (segN (at_ h [] r) s0 u)))) q1 = some (.lst (vI (segN (at_ h [] r) s0 u))) := upd_same
    generalize upd H1 q1 (.lst (vI (segN (at_ h [] r) s0 u))) = H2 at s2 hq2
    have hx2 := s2 _ _ hx
    have ha2 := NF.Same.tup s2 ha
    have hb2 := NF.Same.tup s2 hb
    refine ⟨_, rfl, _, rfl, q1, _, rfl, Or.inl (SqL.of hq2), ?_⟩
    rw [vI_len, segN_len]
    refine ⟨_, _, rfl, rfl, ?_⟩
    obtain ⟨rest, hrest⟩ : ∃ rest, rest = m - u := ⟨_, rfl⟩
    have erest : (m : Int) - (u : Int) = (rest : Int) := by omega
    show gName 4 (V.int ((m : Int) - (u : Int))) _ _ _
    rw [erest]
    refine ⟨_, rfl, rfl, _, rfl, ite2 (fun h1 => ?_) (fun h1 => ?_)⟩
    · refine absurd (of_decide_eq_true h1) fun z => ?_
      injection z with z
      omega
    have hs0 : h.length ≤ s0 + u := by omega
    refine ⟨_, rfl, x, C, dx, _, _, rfl, hx2, tc.cl, tc.lp, rfl, _, tru_tup hb2, ?_⟩
    rw [is_nil rfl]
    refine iteT ?_
    refine ⟨_, rfl, ?_⟩
    refine ⟨(by show 1 ≤ sizeLine; decide), fun D hD => ?_⟩
    refine ⟨_, rfl, ?_⟩
    refine ⟨D, _, _, rfl, rfl, upd_same, by omega, by omega, ?_, fun D2 hD2 => ?_⟩
    · rw [Int.toNat_natCast]
      exact Nat.le_trans (show 1 * rest ≤ 1000 by omega) (by decide)
    have s3 := NF.Same.new (o := .lst [V.non]) s2 hD
    have hq3 := (NF.Same.new (o := .lst [V.non]) (Same.refl H2) hD) _ _ hq2
    generalize upd H2 D (.lst [V.non]) = H3 at s3 hq3 hD2
    rw [Int.toNat_natCast]
    have s4 := NF.Same.new (o := .lst (List.replicate rest [V.non]).flatten) s3 hD2
    have hq4 := (NF.Same.new (o := .lst (List.replicate rest [V.non]).flatten) (Same.refl H3) hD2) _ _ hq3
    refine ⟨q1, D2, _, _, rfl, rfl, hq4, upd_same, ?_, fun q2 hq5 => ?_⟩
    · rw [vI_len, segN_len, rep_non, List.length_replicate]
      exact Nat.le_trans (show u + rest ≤ 1000 by omega) (by decide)
    · refine q q2 _ (NF.Same.new s4 hq5) ?_
      rw [upd_same, rep_non]
      congr 2
      rw [show m = u + rest by omega, segO_add, vI_segN fun i hi => ?_, segO_none (s := s0 + u) fun i hi => ?_]
      · unfold vOs
        rw [List.map_append, List.map_replicate]
        rfl
      · unfold at_
        rw [if_neg (by omega), if_pos rfl]
      · rw [at_some _ (.inl (by omega))]
        exact fun z => nomatch z
end
section
variable {P : Program} {w : World} {K : PySem.W.Frag} {mg : Str → Option Value} {base : Heap} {C : Addr}
theorem from_or {f : Addr} {fd : FuncData} {k : Nat} {ps : List Str} (F1 : FnOk P w K mg base CX0 k f fd ps (spFrom K C)) (F2 : FnOk P w K mg base CX0 k f fd ps (spFromL K C)) : FnOk P w K mg base CX0 k f fd ps (spFromO K C) := by
  have up : ∀ vs H Q E, spFromO K C vs H Q E → spFrom K C vs H Q E ∨ spFromL K C vs H Q E := by
    rintro vs H Q E ⟨x, ⟨h, l, r⟩, s, m, rfl, t, r0, r1, lh, ll, ls, lm, q⟩
    dsimp only at r0 r1 lh ll q
    by_cases e : l ≠ [] ∨ s + m ≤ h.length
    · refine .inl ⟨x, (h, l, r), s, m, rfl, t, e, r0, r1, lh, ll, Nat.le_trans ls lh, lm, fun p H' s1 e1 => q p H' s1 ?_⟩
      rw [e1, vI_segN fun i hi => ?_]
      show at_ h l r (s + i + 1) ≠ none
      rw [at_some _ (e.symm.imp (fun z => by omega) id)]
      exact fun z => nomatch z
    · have e1 : l = [] := Classical.byContradiction fun z => e (.inl z)
      exact .inr ⟨x, (h, l, r), s, m, rfl, t, e1, ⟨Nat.lt_of_not_le fun z => e (.inr z), ls⟩, lh, Nat.le_trans ls lh, lm, q⟩
  refine ⟨fun vs H Q E h => (up _ _ _ _ h).elim (F1.len _ _ _ _) (F2.len _ _ _ _), fun A outer s H args us vs Q E hr he hb hv h => ?_⟩
  rcases up _ _ _ _ h with h | h
  · exact F1.run A outer s H args us vs Q E hr he hb hv h
  · exact F2.run A outer s H args us vs Q E hr he hb hv h
theorem ok_values_fromO {gs : List Str} {f : Addr} {fd : FuncData} (F : FunD K "values_from" "values_from" (defArgs s_values_from) (defBody s_values_from) (defScope s_values_from) [] [] f fd) (T : Txt K mg gs FS) (tc : TabC K C) : FnOk P w K mg base CX0 2 f fd ["table", "start", "many"] (spFromO K C) := by
  exact from_or (ok_values_from F T tc) (ok_values_fromL F T tc)
end
end K09
set_option Elab.async false
set_option linter.all false
set_option maxRecDepth 100000
set_option maxHeartbeats 4000000
/-! list(zip(xs, ys)) of two lists: a list of new pairs. -/
namespace PySem
namespace F
theorem zip_no_len : typeLookup (.type "zip") "__len__" = pure none := am_miss_of_fast (by decide +kernel)
theorem zip_no_hint : typeLookup (.type "zip") "__length_hint__" = pure none := am_miss_of_fast (by decide +kernel)
end F
end PySem
namespace NF
open PySem PySem.Spec PyProof.Rows L2 He RZ
/-- how a zip of two lists stands whose pairs are kept, while the list at S grows -/
def LzAt (z TI TO i1 i2 a b S : Addr) (i : Nat) (h : Heap) : Prop := IsPair h TI (.ref i1) (.ref i2) ∧ h.IsListIter i1 a i ∧ h.IsListIter i2 b i ∧ (∃ oO, h.get? TO = some oO) ∧
  ((IsZip h z TI TO .none ∧ ∃ x y, IsPair h TO x y) ∨ ∃ T f oT, IsZipHeld h z TI TO T f ∧ h.get? T = some oT ∧ T ≠ z ∧ T ≠ i1 ∧ T ≠ i2 ∧ T ≠ S)
/-- the pairs made so far -/
def LzP (H : Hp) (us vs ts : List V) : Prop := ∀ i, i < ts.length → ∃ T x y, ts[i]? = some (.ref T) ∧ us[i]? = some x ∧ vs[i]? = some y ∧ H T = some (.tup [x, y])
theorem LzAt.at {z TI TO i1 i2 a b S : Addr} {i : Nat} {h h' : Heap} (q : LzAt z TI TO i1 i2 a b S i h) (nS : S ∉ [z, TI, TO, i1, i2]) (k : ∀ c o, c ≠ S → h.get? c = some o → h'.get? c = some o) : LzAt z TI TO i1 i2 a b S i h' := by
  obtain ⟨hI, h1, h2, ⟨oO, hoO⟩, hz⟩ := q
  simp only [List.mem_cons, List.not_mem_nil, or_false, not_or] at nS
  obtain ⟨n1, n2, n3, n4, n5⟩ := nS
  refine ⟨k _ _ (Ne.symm n2) hI, h1.at fun o e => k _ o (Ne.symm n4) e, h2.at fun o e => k _ o (Ne.symm n5) e, ⟨oO, k _ _ (Ne.symm n3) hoO⟩, ?_⟩
  rcases hz with ⟨hz, x, y, hO⟩ | ⟨T, f, oT, hz, hT, r1, r2, r3, r4⟩
  · exact .inl ⟨k _ _ (Ne.symm n1) hz, x, y, k _ _ (Ne.symm n3) hO⟩
  · exact .inr ⟨T, f, oT, k _ _ (Ne.symm n1) hz, k _ _ r4 hT, r1, r2, r3, r4⟩
theorem LzP.push {H : Hp} {us vs ts : List V} {T : Addr} {x y : V} (h : LzP H us vs ts) (hT : H T = none) (hx : us[ts.length]? = some x) (hy : vs[ts.length]? = some y) : LzP (upd H T (.tup [x, y])) us vs (ts ++ [.ref T]) := fun i hi => by
  rw [List.length_append, List.length_singleton] at hi
  by_cases e : i = ts.length
  · subst e
    exact ⟨T, x, y, by simp, hx, hy, upd_same⟩
  · have hi' : i < ts.length := by omega
    obtain ⟨T', x', y', e1, e2, e3, e4⟩ := h i hi'
    exact ⟨T', x', y', by rw [List.getElem?_append_left hi']; exact e1, e2, e3, by rw [upd_ne (ne_of_none e4 hT)]; exact e4⟩
section
variable {X : Cx} {pins : List (Addr × Obj)} {σ : L2.St}
theorem lz_loop {A : Around} {R : Result → Shared → Prop} {z TI TO i1 i2 a b S : Addr} {us vs : List V} {G0 : Hp} {res : Value} (hh : A.handled = none) (D : ZipApart z TI TO i1 i2 a b) (nS : S ∉ [z, TI, TO, i1, i2]) (hl : us.length = vs.length) (ha : SqL X.K G0 a us) (hb : SqL X.K G0 b vs)
    (hR : ∀ s' acc c G ts, Inv X pins σ G s' → Same G0 G → s'.heap.get? S = some (lstObj acc c) → Vals ts acc.toList → LzP G us vs ts → ts.length = us.length → FpOk X pins G S → R (.ok (.ret res)) s') :
    ∀ (k : Nat) (s : Shared) (acc : Array Value) (c : Nat) (G : Hp) (ts : List V), us.length - ts.length = k → ts.length ≤ us.length → Inv X pins σ G s → Same G0 G → LzAt z TI TO i1 i2 a b S ts.length s.heap → s.heap.get? S = some (lstObj acc c) → Vals ts acc.toList → LzP G us vs ts →
      (∀ c ∈ [z, TI, TO, i1, i2, S], FpOk X pins G c) → codeAny (model X.prog X.w) A (.builtin "list.extend.loop" ⟨[.ref S, .ref z, res], []⟩) R s := by
  have inO : ∀ c, c ∈ [z, TI, TO, i1, i2] → c ∈ [z, TI, TO, i1, i2, S] := fun c h => by
    simp only [List.mem_cons, List.not_mem_nil, or_false] at h ⊢
    rcases h with h | h | h | h | h <;> simp [h]
  intro k
  induction k with
  | zero =>
    intro s acc c G ts hk hi I sm st hS hv hP hf
    have hin : ts.length = us.length := by omega
    obtain ⟨as, ra, pa, _⟩ := I.list (L2.Same.seq sm ha)
    have la := ra.length
    refine codeAny_builtin F.entry_extend_loop ?_
    rw [Around.under_plainId F.plain_extend_loop _]
    show wpAny _ A.in1 (pyNext (.ref z) >>= _) _ _ s
    obtain ⟨bs, rb, pb, _⟩ := I.list (L2.Same.seq sm hb)
    obtain ⟨hI, h1, h2, ⟨oO, hoO⟩, hz⟩ := st
    have hend : as.toArray[ts.length]? = none ∨ bs.toArray[ts.length]? = none := .inl (by simp; omega)
    have common : ∀ h', (∀ c o, c ∉ [z, TI, TO, i1, i2] → s.heap.get? c = some o → h'.get? c = some o) → R (.ok (.ret res)) { s with heap := h' } := fun h' hk => by
      refine hR _ acc c G ts (I.turnedL (t' := s.toks) (ch := [z, TI, TO, i1, i2]) hk fun c hc => hf c (inO c hc)) sm (hk S _ nS hS) hv hP hin (hf S (by simp))
    rcases hz with ⟨hz, x, y, hO⟩ | ⟨T, f, oT, hz, hT, r1, r2, r3, r4⟩
    · refine wpAny_bind (wpAny_pyNext_zip_end hh D hz hI hO h1 h2 pa.isList pb.isList hend fun h' hk => ?_)
      exact wpAny_pure (common h' fun c o hc e => hk c o (fun x => hc (by simp [x])) (fun x => hc (by simp [x])) (fun x => hc (by simp [x])) (fun x => hc (by simp [x])) e)
    · refine wpAny_bind (wpAny_pyNext_zip_end_held hh D hz hT hI h1 h2 pa.isList pb.isList hend fun h' hk => ?_)
      exact wpAny_pure (common h' fun c o hc e => hk c o (fun x => hc (by simp [x])) (fun x => hc (by simp [x])) (fun x => hc (by simp [x])) e)
  | succ k ih =>
    intro s acc c G ts hk hi I sm st hS hv hP hf
    have lt : ts.length < us.length := by omega
    obtain ⟨as, ra, pa, zu⟩ := I.list (L2.Same.seq sm ha)
    obtain ⟨bs, rb, pb, _⟩ := I.list (L2.Same.seq sm hb)
    have la := ra.length
    have lb := rb.length
    have lv := hv.length
    have la' : acc.size = ts.length := by rw [lv, Array.length_toList]
    refine codeAny_builtin F.entry_extend_loop ?_
    rw [Around.under_plainId F.plain_extend_loop _]
    show wpAny _ A.in1 (pyNext (.ref z) >>= _) _ _ s
    have st0 := st
    obtain ⟨hI, h1, h2, ⟨oO, hoO⟩, hz⟩ := st
    obtain ⟨x, hx⟩ : ∃ x, us[ts.length]? = some x := ⟨_, List.getElem?_eq_getElem lt⟩
    obtain ⟨y, hy⟩ : ∃ y, vs[ts.length]? = some y := ⟨_, List.getElem?_eq_getElem (by omega)⟩
    obtain ⟨u1, hu1, q1⟩ := ra.get hx
    obtain ⟨u2, hu2, q2⟩ := rb.get hy
    have ex : as.toArray[ts.length]? = some u1 := by simpa using hu1
    have ey : bs.toArray[ts.length]? = some u2 := by simpa using hu2
    have lS : S < s.heap.objs.size := Heap.lt_size hS
    have nN : s.heap.objs.size ≠ S := Nat.ne_of_gt lS
    have free : G s.heap.objs.size = none := I.hok.fresh (Nat.le_refl _)
    have big : ∀ c ∈ [z, TI, TO, i1, i2, S], c < s.heap.objs.size := fun c hc => by
      simp only [List.mem_cons, List.not_mem_nil, or_false] at hc
      obtain ⟨o1, e1, _⟩ := id h1
      obtain ⟨o2, e2, _⟩ := id h2
      rcases hz with ⟨hz, x, y, hO⟩ | ⟨T, f, oT, hz, hT, r1, r2, r3, r4⟩
      · rcases hc with rfl | rfl | rfl | rfl | rfl | rfl
        · exact Heap.lt_size hz
        · exact Heap.lt_size hI
        · exact Heap.lt_size hO
        · exact Heap.lt_size e1
        · exact Heap.lt_size e2
        · exact lS
      · rcases hc with rfl | rfl | rfl | rfl | rfl | rfl
        · exact Heap.lt_size hz
        · exact Heap.lt_size hI
        · exact Heap.lt_size hoO
        · exact Heap.lt_size e1
        · exact Heap.lt_size e2
        · exact lS
    have common : ∀ h', LzAt z TI TO i1 i2 a b S (ts.length + 1) h' → IsPair h' s.heap.objs.size u1 u2 → (∀ c o, c ∉ [z, TI, TO, i1, i2] → s.heap.get? c = some o → h'.get? c = some o) →
        wpAny (model X.prog X.w) A.in1 (updateSeq S (·.push (.ref s.heap.objs.size)) >>= fun _ => again (.builtin "list.extend.loop" ⟨[.ref S, .ref z, res], []⟩))
          (fun fin s' => match fin with | .done f => R (.ok f) s' | .again c' => c'.quiet = true ∧ codeAny (model X.prog X.w) A c' R s') (fun e s' => R (.error e) s') { s with heap := h' } := fun h' st' hp hk => by
      have hS' : h'.get? S = some (lstObj acc c) := hk S _ nS hS
      refine wpAny_bind ?_
      refine wpAny_updateSeq hS' rfl (wpAny_pure ⟨plainId_quiet F.plain_extend_loop _, ?_⟩) (by rw [la']; omega) (by show (acc.push _).size ≤ sizeLine + 1; rw [Array.size_push, la']; omega)
      have up : ∀ c o, c ≠ S → h'.get? c = some o → (h'.update S (Obj.mapSeq (·.push (.ref s.heap.objs.size)))).get? c = some o := fun c o n e => (Heap.get?_update_other _ _ (Ne.symm n)).trans e
      have ob : ObjOk X.prog X.w (upd G s.heap.objs.size (.tup [x, y])) (h'.update S (Obj.mapSeq (·.push (.ref s.heap.objs.size)))) s.heap.objs.size (.tup [x, y]) :=
        ⟨(by decide : 2 ≤ sizeLine), [u1, u2], .cons q1 (.cons q2 .nil), _, up _ _ nN hp, rfl, _, rfl⟩
      have I' : Inv X pins σ (upd G s.heap.objs.size (.tup [x, y])) { s with heap := h'.update S (Obj.mapSeq (·.push (.ref s.heap.objs.size))), toks := s.toks } :=
        I.turnedNew (t' := s.toks) (ch := [z, TI, TO, i1, i2, S]) (fun c o nc e => up c o (fun q => nc (by simp [q])) (hk c o (fun q => nc (inO c q)) e)) hf (Nat.le_refl _) ob
      have lts : (ts ++ [V.ref s.heap.objs.size]).length = ts.length + 1 := by simp
      refine ih _ (acc.push (.ref s.heap.objs.size)) _ _ (ts ++ [.ref s.heap.objs.size]) (by rw [lts]; omega) (by rw [lts]; omega) I' (NF.Same.new sm free) ?_ (Heap.get?_update_self _ hS' rfl) ?_ (hP.push free hx hy) fun c hc => ?_
      · rw [lts]
        exact st'.at nS up
      · rw [Array.toList_push]
        exact hv.append (.cons rfl .nil)
      · refine ⟨?_, (hf c hc).2⟩
        rw [upd_ne (Nat.ne_of_lt (big c hc))]
        exact (hf c hc).1
    rcases hz with ⟨hz, x0, y0, hO⟩ | ⟨T, f, oT, hz, hT, r1, r2, r3, r4⟩
    · refine wpAny_bind (wpAny_pyNext_zip_item D hz hI hO h1 h2 pa.isList pb.isList ex ey fun h' a1 a2 a3 a4 a5 a6 hk => ?_)
      exact common h' ⟨hk _ _ D.TIz D.TITO D.TIi1 D.TIi2 hI, a3, a4, ⟨_, a2⟩, .inr ⟨s.heap.objs.size, false, _, a1, a5, Nat.ne_of_gt (big _ (by simp)), Nat.ne_of_gt (big _ (by simp)), Nat.ne_of_gt (big _ (by simp)), nN⟩⟩ a5
        fun c o hc e => hk c o (fun x => hc (by simp [x])) (fun x => hc (by simp [x])) (fun x => hc (by simp [x])) (fun x => hc (by simp [x])) e
    · refine wpAny_bind (wpAny_pyNext_zip_item_held D hz hT hI h1 h2 pa.isList pb.isList ex ey fun h' a1 a3 a4 a5 a6 hk => ?_)
      exact common h' ⟨hk _ _ D.TIz D.TIi1 D.TIi2 hI, a3, a4, ⟨oO, hk _ _ D.TOz D.TOi1 D.TOi2 hoO⟩, .inr ⟨T, true, oT, a1, hk _ _ r1 r2 r3 hT, r1, r2, r3, r4⟩⟩ a5
        fun c o hc e => hk c o (fun x => hc (by simp [x])) (fun x => hc (by simp [x])) (fun x => hc (by simp [x])) e
/-- list(z) of such a zip that has not begun -/
theorem call_lz {A : Around} {s : Shared} {z TI TO i1 i2 a b : Addr} {us vs : List V} {G : Hp} {Q : Value → Shared → Prop} {E : Value → Shared → Prop} (hh : A.handled = none) (D : ZipApart z TI TO i1 i2 a b) (hl : us.length = vs.length) (ha : SqL X.K G a us) (hb : SqL X.K G b vs)
    (I : Inv X pins σ G s) (hz : IsZip s.heap z TI TO .none) (hI : IsPair s.heap TI (.ref i1) (.ref i2)) (hO : ∃ x y, IsPair s.heap TO x y) (h1 : s.heap.IsListIter i1 a 0) (h2 : s.heap.IsListIter i2 b 0) (hf : ∀ c ∈ [z, TI, TO, i1, i2], FpOk X pins G c)
    (hQ : ∀ p ts G' s', Same G G' → G' p = none → LzP G' us vs ts → ts.length = us.length → Inv X pins σ (upd G' p (.lst ts)) s' → Q (.ref p) s') :
    wpAny (model X.prog X.w) A (call (.type "list") [.ref z]) Q E s := by
  obtain ⟨x0, y0, hO⟩ := hO
  have hSz : s.heap.objs.size ≠ z := Nat.ne_of_gt (Heap.lt_size hz)
  have nS : s.heap.objs.size ∉ [z, TI, TO, i1, i2] := fun hc => by
    obtain ⟨o1, e1, _⟩ := id h1
    obtain ⟨o2, e2, _⟩ := id h2
    refine absurd ?_ (Nat.lt_irrefl s.heap.objs.size)
    simp only [List.mem_cons, List.not_mem_nil, or_false] at hc
    rcases hc with q | q | q | q | q
    · exact Nat.lt_of_le_of_lt (Nat.le_of_eq q) (Heap.lt_size hz)
    · exact Nat.lt_of_le_of_lt (Nat.le_of_eq q) (Heap.lt_size hI)
    · exact Nat.lt_of_le_of_lt (Nat.le_of_eq q) (Heap.lt_size hO)
    · exact Nat.lt_of_le_of_lt (Nat.le_of_eq q) (Heap.lt_size e1)
    · exact Nat.lt_of_le_of_lt (Nat.le_of_eq q) (Heap.lt_size e2)
  refine callType_codes (Q₁ := fun obj s₁ => obj = .ref s.heap.objs.size ∧ s₁ = { s with heap := s.heap.push { cls := .type "list", data := .seq #[] } }) F.called_list (F.typeCall_list_1 _) F.entry_list_init
    (code_list_new _ ⟨rfl, rfl⟩) fun obj s₁ h₁ => ?_
  obtain ⟨rfl, rfl⟩ := h₁
  have hS : (s.heap.push { cls := .type "list", data := .seq #[] }).get? s.heap.objs.size = some { cls := .type "list", data := .seq #[] } := Heap.get?_push_size _ rfl
  refine ⟨⟨_, hS, rfl⟩, F.args_list_init_2 _ _, ?_⟩
  show wpAny _ A.in1.in1 (do let old ← Builtin.List.listItems (.ref s.heap.objs.size); Builtin.List.listUpdate (.ref s.heap.objs.size) (fun _ => #[]); letGo old.toList.reverse; Builtin.List.listExtendWith (.ref s.heap.objs.size) (.ref z) .none) _ _ _
  refine wpAny_bind ?_
  unfold Builtin.List.listItems
  refine wpAny_bind (wpAny_seqItems hS rfl (wpAny_pure ?_))
  show wpAny _ A.in1.in1 (updateSeq s.heap.objs.size (fun _ => #[]) >>= fun _ => letGo (#[] : Array Value).toList.reverse >>= fun _ => Builtin.List.listExtendWith (.ref s.heap.objs.size) (.ref z) .none) _ _ _
  refine wpAny_bind (wpAny_updateSeq hS rfl ?_)
  have hS2 := Heap.get?_update_self (Obj.mapSeq (fun _ => (#[] : Array Value))) hS rfl
  refine wpAny_bind (wpAny_letGo ?_)
  unfold Builtin.List.listExtendWith
  have up : ∀ (h : Heap) (f : Obj → Obj), (∀ b o, s.heap.get? b = some o → h.get? b = some o) → ∀ b o, s.heap.get? b = some o → (h.update s.heap.objs.size f).get? b = some o := fun h f q b o e =>
    (Heap.get?_update_other _ _ (Ne.symm (Nat.ne_of_lt (Heap.lt_size e)))).trans (q b o e)
  have k1 : ∀ b o, s.heap.get? b = some o → (s.heap.push { cls := .type "list", data := .seq #[] }).get? b = some o := fun b o e => Heap.get?_push_of_some _ e
  have k2 := up _ (Obj.mapSeq (fun _ => (#[] : Array Value))) k1
  have ty : ∀ {h : Heap}, (∀ b o, s.heap.get? b = some o → h.get? b = some o) → ({ s with heap := h } : Shared).TypeIs (.ref z) "zip" := fun {h} q => ⟨_, q _ _ hz, rfl⟩
  refine wpAny_bind (wpAny_typeOf (ty k2) ?_)
  have e1 : Builtin.List.listSameRef (.ref s.heap.objs.size) (.ref z) = false := by simp [Builtin.List.listSameRef, hSz]
  have e2 : (Value.type "zip" == Value.type "list") = false := by decide
  have e3 : (Value.type "zip" == Value.type "tuple") = false := by decide
  simp only [e1, e2, e3, Bool.or_false, Bool.false_eq_true, if_false]
  refine wpAny_bind (wpAny_pyIter_zip (s := { s with heap := _ }) (k2 _ _ hz) ?_)
  refine wpAny_bind (wpAny_holding ?_)
  unfold Builtin.List.listLengthHint
  refine wpAny_bind (wpAny_specialOf (ty k2) F.zip_no_len ?_)
  show wpAny _ A.in1.in1 (specialOf (Value.ref z) (Str.ofString "__length_hint__") >>= _) _ _ _
  refine wpAny_bind (wpAny_specialOf (ty k2) F.zip_no_hint ?_)
  refine wpAny_pure ?_
  show wpAny _ A.in1.in1 (rule "list.extend.makes-room" >>= fun _ => Builtin.List.listTouch (.ref s.heap.objs.size) >>= fun _ =>
    again (.builtin "list.extend.loop" ⟨[.ref s.heap.objs.size, .ref z, .none], []⟩)) _ _ _
  refine wpAny_bind (wpAny_rule ?_)
  refine wpAny_bind ?_
  show wpAny _ A.in1.in1 (updateSeq s.heap.objs.size (·.push .none) >>= fun _ => updateSeq s.heap.objs.size (·.pop)) _ _ _
  refine wpAny_bind (wpAny_updateSeq hS2 rfl ?_)
  have hS3 := Heap.get?_update_self (Obj.mapSeq (·.push Value.none)) hS2 rfl
  refine wpAny_updateSeq (hz := by seq_fits) hS3 rfl ?_
  have hS4 := Heap.get?_update_self (Obj.mapSeq (·.pop)) hS3 rfl
  have k4 := up _ (Obj.mapSeq (·.pop)) (up _ (Obj.mapSeq (·.push Value.none)) k2)
  refine wpAny_pure ⟨plainId_quiet F.plain_extend_loop _, ?_⟩
  have hfS : FpOk X pins G s.heap.objs.size := I.fpOk (Nat.le_refl _) (I.hok.fresh (Nat.le_refl _))
  refine lz_loop (X := X) (pins := pins) (σ := σ) (A := A.in1) (G0 := G) (us := us) (vs := vs) hh D nS hl ha hb (fun s' acc c G' ts I' sm e hv hP hlen fp => ⟨rfl, hQ _ ts G' s' sm fp.1 hP hlen ?_⟩) us.length _ #[] _ G [] (by simp) (Nat.zero_le _) (I.kept (t' := s.toks) k4) (L2.Same.refl G) ?_ hS4 .nil (fun i hi => absurd hi (Nat.not_lt_zero i)) fun c hc => ?_
  · exact ⟨k4 _ _ hI, h1.at fun o e => k4 _ o e, h2.at fun o e => k4 _ o e, ⟨_, k4 _ _ hO⟩, .inl ⟨k4 _ _ hz, _, _, k4 _ _ hO⟩⟩
  · simp only [List.mem_cons, List.not_mem_nil, or_false] at hc
    rcases hc with rfl | rfl | rfl | rfl | rfl | rfl
    · exact hf _ (by simp)
    · exact hf _ (by simp)
    · exact hf _ (by simp)
    · exact hf _ (by simp)
    · exact hf _ (by simp)
    · exact hfS
  · obtain ⟨_, _, _, zu⟩ := I.list ha
    exact I'.take (t' := s'.toks) (h' := s'.heap) (fun _ _ _ q => q) fp ⟨by rw [hlen]; exact zu, acc.toList, c, hv, by rw [e]⟩
end
/-- list(zip(e, e2)) of two lists of one length -/
def tLz (K : PySem.W.Frag) (ta : TA) : TE := fun σ H Q => ta σ H fun ws G => ∃ a b us vs, ws = [.ref a, .ref b] ∧ SqL K G a us ∧ SqL K G b vs ∧ us.length = vs.length ∧ ∀ p ts G', Same G G' → G' p = none → LzP G' us vs ts → ts.length = us.length → Q (.ref p) (upd G' p (.lst ts))
theorem pe_listZip {X : Cx} {k : Nat} {e e2 : Expr} {ta : TA} {p p2 pos pos2 : Pos} (hr : Room k X.A) (gl : Gl X "list") (nl : X.mg "list" = none) (gz : Gl X "zip") (nz : X.mg "zip" = none) (ha : PA X [e, e2] ta)
    (hs : starEach [e, e2] X.env = (false, eval e X.env) :: starEach [e2] X.env := by rfl) (hpl : (backTo pos2 (starEach [e2] X.env)).any (·.1) = false := by rfl)
    (he : starEach [.Call (.Name "zip" p2) [e, e2] [] pos2] X.env = (false, eval (.Call (.Name "zip" p2) [e, e2] [] pos2) X.env) :: starEach [] X.env := by rfl) :
    PE X (.Call (.Name "list" p) [.Call (.Name "zip" p2) [e, e2] [] pos2] [] pos) (tLz X.K ta) := by
  constructor
  intro pins s σ H Q I h
  refine wpAny_Call_Name_kw (ld_blt I gl nl boot_list ?_)
  refine PyProof.Rows.callWith_type1 ?_ he rfl
  rw [he]
  show wpAny _ _ (spliced ((false, eval (.Call (.Name "zip" p2) [e, e2] [] pos2) X.env) :: backTo pos (starEach [] X.env))) _ _ s
  refine Calls.spliced_cons ?_
  refine Call_ (ld_blt I gz nz PyProof.Rows.boot_zip (PyProof.Rows.callWith_type1 (thn (ha.run pos2 pins s σ H _ I h) ?_) hs hpl))
  rintro ws t ⟨xs, G, J, rw', a, b, us, vs, rfl, sa, sb, hl, q⟩
  obtain ⟨u1, u2, rfl, e1, e2⟩ : ∃ u1 u2, ws = [u1, u2] ∧ u1 = .ref a ∧ u2 = .ref b := by
    cases rw' with
    | cons r rr =>
      cases rr with
      | cons r' rr =>
        cases rr
        exact ⟨_, _, rfl, r, r'⟩
  subst e1 e2
  obtain ⟨as, ra, pa, _⟩ := J.list sa
  obtain ⟨bs, rb, pb, _⟩ := J.list sb
  refine call_zip_2 pa.isList pb.isList fun h' hz hI hO h1 h2 _ hk => Calls.spliced_nil ?_
  have new : ∀ c, c ∈ [t.heap.objs.size + 4, t.heap.objs.size + 2, t.heap.objs.size + 3, t.heap.objs.size, t.heap.objs.size + 1] → FpOk X pins G c := fun c hc => by
    have le : t.heap.objs.size ≤ c := by
      simp only [List.mem_cons, List.not_mem_nil, or_false] at hc
      rcases hc with rfl | rfl | rfl | rfl | rfl <;> first | exact Nat.le_refl _ | exact Nat.le_add_right _ _
    exact J.fpOk le (J.hok.fresh le)
  refine call_lz hr.hd (PySem.W.ktu_apart t.heap.objs.size a b pa.lt pb.lt) hl sa sb (J.kept (t' := t.toks) hk) hz hI ⟨_, _, hO⟩ h1 h2 new fun S ts G' s' sm n hP hlen I' => ?_
  exact ⟨.ref S, _, I', rfl, q S ts G' sm n hP hlen⟩
end NF
set_option Elab.async false
set_option linter.all false
set_option maxRecDepth 100000
set_option maxHeartbeats 4000000
/-! enumerate(xs, start=k) of a list. -/
namespace NF
open PySem PySem.Spec PyProof.Rows L2 He RZ
section
variable {M : Model} {A : Around} {E : Value → Shared → Prop} {s : Shared} {env : Env}
theorem callWith_typeK {pos : Pos} {T : String} {first : List Value} {args : List (Bool × Sem Value)} {keywords : List (Option Str × Sem Value)} {Q : Value → Shared → Prop}
    (hplain : args.any (·.1) = false) (hkw : keywords.any (·.1.isNone) = false)
    (h : wpAny M A (evalArgs (.type T) true args keywords) (fun a s₁ => wpAny M A (call (.type T) (first ++ a.pos) a.kw) Q E s₁) E s) :
    wpAny M A (callWith pos (.type T) first args keywords) Q E s := by
  unfold callWith
  refine wpAny_bind (wpAny_holding (wpAny_mono h (fun a s₁ h₁ => wpAny_bind (wpAny_standAt ?_)) fun _ _ x => x))
  simp only [hplain, hkw, Bool.or_false]
  refine wpAny_bind (wpAny_pure ?_)
  exact wpAny_bind (wpAny_mono h₁ (fun r s₂ hr => wpAny_bind (wpAny_holding (wpAny_point (wpAny_pure hr)))) fun _ _ x => x)
theorem callWith_kwT {pos : Pos} {T : String} {e : Expr} {rest : List Expr} {kws : List Keyword} {Q : Value → Shared → Prop}
    (h : wpAny M A (spliced (backTo pos (starEach (e :: rest) env))) (fun vs s₁ => wpAny M A (evalAll ((backToKw pos (keywordEach kws env)).map (·.2)))
      (fun kvs s₂ => wpAny M A (call (.type T) vs (((backToKw pos (keywordEach kws env)).filterMap (·.1)).zip kvs)) Q E s₂) E s₁) E s)
    (he : backTo pos (starEach (e :: rest) env) = (false, eval e env) :: backTo pos (starEach rest env) := by rfl)
    (hplain : (backTo pos (starEach (e :: rest) env)).any (·.1) = false := by rfl)
    (hall : (backToKw pos (keywordEach kws env)).all (·.1.isSome) = true := by rfl)
    (hkw : (backToKw pos (keywordEach kws env)).any (·.1.isNone) = false := by rfl) :
    wpAny M A (callWith pos (.type T) [] (backTo pos (starEach (e :: rest) env)) (backToKw pos (keywordEach kws env))) Q E s := by
  refine callWith_typeK hplain hkw ?_
  rw [he] at h ⊢
  exact evalArgs_kwB hall h
end
/-- the list at a as it stands at each turn, each item in a new pair behind its number, from k on -/
def Its (K : PySem.W.Frag) (k : Int) (a : Addr) : It :=
  ⟨fun i H => ∃ (xs : List V) (x : V), SqL K H a xs ∧ xs[i]? = some x, fun i H v H' => ∃ T x, v = .ref T ∧ H T = none ∧ H' = upd H T (.tup [.int (k + (i : Nat)), x]) ∧ ∀ xs, SqL K H a xs → xs[i]? = some x, fun i H => ∃ xs : List V, SqL K H a xs ∧ xs.length = i⟩
theorem turn_enumS {P : Program} {w : World} {K : PySem.W.Frag} {elts : List Expr} {kk : Nat} {tpos : Pos} {k : Int} (a e it : Addr) (hne : e ≠ it) (hae : e ≠ a) (hai : a ≠ it) :
    Turn P w K (.Tuple elts kk tpos) (Its K k a) [e, it] e (fun i h => (∃ old, IsEnum h e it (k + (i : Nat)) old) ∧ h.IsListIter it a i) where
  mem := by simp
  obj := fun i h st b hb => by
    obtain ⟨⟨old, he⟩, ⟨o, ho, hc, hd⟩⟩ := st
    have e' : b = e ∨ b = it := by simpa using hb
    rcases e' with z | z
    · rw [z]; exact ⟨_, he, fun v q => nomatch q⟩
    · rw [z]; exact ⟨o, ho, fun v q => by rw [hd] at q; cases q⟩
  keep := fun i h h' st k => let ⟨⟨old, he⟩, hi⟩ := st; ⟨⟨old, k e (by simp) _ he⟩, hi.at fun o q => k it (by simp) o q⟩
  item := by
    intro X hP hw hK hc i pins s σ H E I hf st hg
    subst hP hw hK
    obtain ⟨⟨old, he⟩, hit⟩ := st
    obtain ⟨xs, x, hq, hx⟩ := hg
    obtain ⟨its, rv, p, hz⟩ := I.list hq
    obtain ⟨u, hu, ru⟩ := rv.get hx
    have hel : e < s.heap.objs.size := Heap.lt_size he
    have hil : it < s.heap.objs.size := by obtain ⟨_, q, _⟩ := hit; exact Heap.lt_size q
    have li : i < its.toArray.size := by
      have := (List.getElem?_eq_some_iff.mp hu).1
      simpa using this
    have hd : X.A.in1.handled = none := I.ok.hd hc
    refine wpAny_pyNext_enum_itemC (i := i) (Draws.list hd it a hai its.toArray) he ⟨hit, p.isList⟩ li hne (by simp [hne, hae]) fun x' h' tk hP ho st2 hT hsz hk => ?_
    obtain rfl : u = x' := by
      have : its[i]? = some x' := by simpa using hP
      exact Option.some.inj (hu.symm.trans this)
    refine ⟨_, rfl, wpAny_letOwnedTupleGo_enum (s := { s with heap := h', toks := tk + 1 }) ho fun h'' he' sb => ?_⟩
    have hT2 : h''.get? s.heap.objs.size = some { cls := .type "tuple", data := .seq #[.int (k + (i : Nat)) tk, u] } := (sb.2 _ (Nat.ne_of_gt hel)).trans hT
    have new : ObjOk X.prog X.w (upd H s.heap.objs.size (.tup [.int (k + (i : Nat)), x])) h'' s.heap.objs.size (.tup [.int (k + (i : Nat)), x]) :=
      ⟨by show 2 ≤ sizeLine; decide, [.int (k + (i : Nat)) tk, u], .cons ⟨_, rfl⟩ (.cons ru .nil), ⟨_, hT2, rfl, _, rfl⟩⟩
    have I1 : Inv X pins σ (upd H s.heap.objs.size (.tup [.int (k + (i : Nat)), x])) { s with heap := h'', toks := tk + 1 } :=
      I.turnedNew (ch := [e, it]) (fun b ob hb q => (sb.2 b (fun z => hb (by simp [z]))).trans (hk b ob (fun z => hb (by simp [z])) (fun z => hb (by simp [z])) q)) hf (Nat.le_refl _) new
    refine ⟨.ref s.heap.objs.size, _, I1, rfl, ⟨_, x, rfl, I.hok.fresh (Nat.le_refl _), rfl, fun ys hy => by rw [I.list_inj hy hq]; exact hx⟩, ⟨⟨u, ?_⟩, st2.1.at fun o q => (sb.2 it (Ne.symm hne)).trans q⟩, fun b hb => ?_⟩
    · have e1 : k + ((i + 1 : Nat) : Int) = k + (i : Int) + 1 := by omega
      rw [e1]; exact he'
    · have hb' : b < s.heap.objs.size := by
        have e' : b = e ∨ b = it := by simpa using hb
        rcases e' with z | z
        · rw [z]; exact hel
        · rw [z]; exact hil
      rw [upd_ne (Nat.ne_of_lt hb')]
      exact (hf b hb).1
  done := by
    intro X hP hw hK hc i pins s σ H E I hf st hg
    subst hP hw hK
    obtain ⟨⟨old, he⟩, hit⟩ := st
    obtain ⟨xs, hq, hx⟩ := hg
    obtain ⟨its, rv, p, hz⟩ := I.list hq
    obtain ⟨f0, f1, f2, f3, f4, f5⟩ := hf it (by simp)
    have hl := rv.length
    have hd : X.A.in1.handled = none := I.ok.hd hc
    have en : its.toArray.size = i := by simp; omega
    subst en
    exact wpAny_pyNext_enum_endD (Draws.list hd it a hai its.toArray) he ⟨hit, p.isList⟩ fun h' eb => ⟨rfl, I.turned (t' := s.toks) (fun b o hb q => eb b o hb q) f0 f1 f3 f4 f5⟩
  self := fun A i s Q E st h => let ⟨⟨_, he⟩, _⟩ := st; wpAny_pyIter_enum he h
def iEnumS (K : PySem.W.Frag) (ta tk : TA) : TI := fun σ H R => ta σ H fun vs H1 => tk σ H1 fun zs H2 => ∃ a xs k, vs = [.ref a] ∧ zs = [.int k] ∧ 0 ≤ k ∧ k < 1000000 ∧ SqL K H2 a xs ∧ R (Its K k a) H2
theorem pi_enumS {X : Cx} {e : Expr} {ta tk : TA} {p pos tpos : Pos} {elts : List Expr} {kk : Nat} {kws : List Keyword} (hg : Gl X "enumerate") (hm : X.mg "enumerate" = none) (ha : PA X [e] ta) (hk : PK X kws tk)
    (he : backTo pos (starEach [e] X.env) = (false, eval e X.env) :: backTo pos (starEach [] X.env) := by rfl) (hpl : (backTo pos (starEach [e] X.env)).any (·.1) = false := by rfl)
    (hall : (backToKw pos (keywordEach kws X.env)).all (·.1.isSome) = true := by rfl) (hnone : (backToKw pos (keywordEach kws X.env)).any (·.1.isNone) = false := by rfl) (hks : (backToKw pos (keywordEach kws X.env)).filterMap (·.1) = [Str.ofString "start"] := by rfl) :
    PI X (.Tuple elts kk tpos) (.Call (.Name "enumerate" p) [e] kws pos) (iEnumS X.K ta tk) := by
  refine ⟨fun pins s σ H R I h => ?_⟩
  refine wpAny_Call_Name_kw (ld_blt I hg hm boot_enumerate ?_)
  refine callWith_kwT (thn (ha.run pos pins s σ H _ I h) fun us s1 ⟨vs, H1, I1, r1, q1⟩ => thn (hk.run pos pins s1 σ H1 _ I1 q1) fun ws s2 ⟨zs, H2, I2, r2, a, xs, k, ex, ez, k0, k1, hq, q⟩ => ?_) he hpl hall hnone
  rw [hks]
  subst ex ez
  obtain rfl := Vals.ref1 r1
  obtain ⟨w1, rfl, t, rfl⟩ : ∃ w1, ws = [w1] ∧ ∃ t, w1 = Value.int k t := by
    cases r2 with
    | cons r rr =>
      cases rr
      obtain ⟨t, e⟩ := r
      exact ⟨_, rfl, t, e⟩
  obtain ⟨its, rv, p', hz⟩ := I2.list hq
  show wpAny _ _ (call (.type "enumerate") [.ref a] [(Str.ofString "start", .int k t)]) _ _ s2
  refine enum_begins_start (begins_list a its.toArray) p'.isList (by omega) (by omega) fun h' he' hit hsz hkp => wpAny_pyIter_enum he' ?_
  have I3 : Inv X pins σ H2 { s2 with heap := h' } := I2.kept (t' := s2.toks) hkp
  have la : a < s2.heap.objs.size := p'.lt
  refine ⟨s2.heap.objs.size + 1, [s2.heap.objs.size + 1, s2.heap.objs.size], _, _, H2, rfl, I3, turn_enumS (k := k) a (s2.heap.objs.size + 1) s2.heap.objs.size (Nat.succ_ne_self _) (Nat.ne_of_gt (Nat.lt_succ_of_lt la)) (Nat.ne_of_lt la), ⟨⟨.none, by rw [Int.ofNat_zero, Int.add_zero]; exact he'⟩, ⟨_, hit, rfl, rfl⟩⟩, fun b hb => ?_, q⟩
  have e' : b = s2.heap.objs.size + 1 ∨ b = s2.heap.objs.size := by simpa using hb
  have hle : s2.heap.objs.size ≤ b := by
    rcases e' with z | z
    · rw [z]; exact Nat.le_add_right _ _
    · rw [z]; exact Nat.le_refl _
  exact I2.fpOk hle (I2.hok.fresh hle)
theorem walk_enumS {K : PySem.W.Frag} {k : Int} {a : Addr} {xs : List V} : Walk (Its K k a) xs.length (fun H => SqL K H a xs) (YPair (fun i => some (.int (k + (i : Nat)))) (fun i => xs[i]?)) := by
  refine ⟨fun i _ hi q => ⟨xs, xs[i], q, by simp [hi]⟩, fun _ q => ⟨xs, q, rfl⟩, fun i H v H' _ q y => ?_⟩
  obtain ⟨T, x, h1, h2, h3, h4⟩ := y
  exact ⟨T, .int (k + (i : Nat)), x, h1, h2, h3, rfl, h4 xs q⟩
end NF
set_option Elab.async false
set_option linter.all false
set_option maxRecDepth 100000
set_option maxHeartbeats 4000000
namespace NT
/-- the least one from 1 on, up to a bound -/
def LeastTo (P : Nat → Prop) (N : Nat) : Option Nat → Prop
  | none => ∀ n, 1 ≤ n → n ≤ N → ¬ P n
  | some n => 1 ≤ n ∧ n ≤ N ∧ P n ∧ ∀ m, 1 ≤ m → m < n → ¬ P m
/-- .. of all -/
def Least1 (P : Nat → Prop) : Option Nat → Prop
  | none => ∀ n, 1 ≤ n → ¬ P n
  | some n => 1 ≤ n ∧ P n ∧ ∀ m, 1 ≤ m → m < n → ¬ P m
theorem LeastTo.all {P : Nat → Prop} {N : Nat} {o : Option Nat} (h : LeastTo P N o) (q : ∀ n, N < n → ¬ P n) : Least1 P o := by
  cases o with
  | none => exact fun n h1 => if c : n ≤ N then h n h1 c else q n (by omega)
  | some n => exact ⟨h.1, h.2.2.1, h.2.2.2⟩
/-- the first value is greater than the second one and k, or never -/
def Exc (F G : Nat → Option Int) (k : Int) (n : Nat) : Prop := ∃ b, G n = some b ∧ match F n with
  | none => True
  | some a => b + k < a
theorem exc_none {F G : Nat → Option Int} {k b : Int} {n : Nat} (hG : G n = some b) (hF : F n = none) : Exc F G k n := ⟨b, hG, by rw [hF]; trivial⟩
theorem exc_some {F G : Nat → Option Int} {k a b : Int} {n : Nat} (hG : G n = some b) (hF : F n = some a) : Exc F G k n ↔ b + k < a := by
  constructor
  · rintro ⟨b', e, h⟩
    rw [hG] at e
    obtain rfl := Option.some.inj e
    rw [hF] at h
    exact h
  · intro h
    exact ⟨b, hG, by rw [hF]; exact h⟩
theorem exc_never {F G : Nat → Option Int} {k : Int} {n : Nat} (hG : G n = none) : ¬ Exc F G k n := by
  rintro ⟨b, e, _⟩
  rw [hG] at e
  cases e
end NT
namespace K09
open PySem PySem.Spec PyProof.Rows L2 He NF RZ NT
def spExcIn (K : PySem.W.Frag) (C : Addr) : Sp := fun vs H Q _ => ∃ (x1 x2 : Addr) (y1 y2 : List Int × List Int × Int) (lead : Nat) (k : Int), vs = [.ref x1, .ref x2, .int (lead : Int), .int k] ∧ TabAt K C H x1 y1 ∧ TabAt K C H x2 y2 ∧ 0 ≤ y1.2.2 ∧ y1.2.2 ≤ 1000000 ∧ y1.1.length ≤ 1000 ∧ y1.2.1.length ≤ 1000 ∧ 0 ≤ y2.2.2 ∧ y2.2.2 ≤ 1000000 ∧ y2.1.length ≤ 1000 ∧ y2.2.1.length ≤ 1000 ∧ lead ≤ 1000 ∧
  (y2.2.1 = [] → lead ≤ y2.1.length) ∧ ∀ o H', LeastTo (Exc (at_ y1.1 y1.2.1 y1.2.2) (at_ y2.1 y2.2.1 y2.2.2) k) lead o → Same H H' → Q (vN o) H'
theorem sc_first_excess_in : FnScope ["first", "second", "lead", "k", "pairs", "n", "one", "other"] ["first", "second", "lead", "k"] (defScope s_first_excess_in) := ⟨rfl, rfl, rfl, by decide +kernel, rfl, by decide +kernel, by decide +kernel⟩
section
variable {P : Program} {w : World} {K : PySem.W.Frag} {mg : Str → Option Value} {base : Heap} {gs fs : List Str} {C : Addr}
theorem ok_first_excess_in {f : Addr} {fd : FuncData} (F : FunD K "first_excess_in" "first_excess_in" (defArgs s_first_excess_in) (defBody s_first_excess_in) (defScope s_first_excess_in) [] [] f fd) (T : Txt K mg gs FS) (c_values_from : Cal P w K mg base 2 "values_from" (spFromO K C)) : FnOk P w K mg base CX0 3 f fd ["first", "second", "lead", "k"] (spExcIn K C) := by
  refine F.ok sc_first_excess_in (fun vs H Q E h => ?_) (fun cdv A outer s H vs Q E hr h => ?_)
  · obtain ⟨x1, x2, y1, y2, lead, k, rfl, _⟩ := h
    rfl
  · obtain ⟨x1, x2, y1, y2, lead, k, rfl, tb1, tb2, r10, r11, h1, l1, r20, r21, h2, l2, hlead, hy2, q⟩ := h
    refine ⟨_, PSs.nox (pss_cons (ps_set (i := 4) sc_first_excess_in.nd rfl (Or.inl rfl) (pe_listZip hr rfl (T.fr _ (by decide +kernel)) rfl (T.fr _ (by decide +kernel)) (pa_cons (pe_c c_values_from hr (by decide) rfl (pa_cons (pv 0) (pa_cons pe_int (pa_cons (pv 2) pa_nil)))) (pa_cons (pe_c c_values_from hr (by decide) rfl (pa_cons (pv 1) (pa_cons pe_int (pa_cons (pv 2) pa_nil)))) pa_nil)))) (pss_cons (ps_for PassesOwn.never rfl (pi_enumS rfl (T.fr _ (by decide +kernel)) (pa_cons (pv 4) pa_nil) (pk_cons pe_int pk_nil)) (pgt (K := K) (n := 2) rfl rfl (pgs_cons (pg_name (i := 5) sc_first_excess_in.nd rfl (Or.inl rfl)) (pgs_cons (pgt (K := K) (n := 2) rfl rfl (pgs_cons (pg_name (i := 6) sc_first_excess_in.nd rfl (Or.inl rfl)) (pgs_cons (pg_name (i := 7) sc_first_excess_in.nd rfl (Or.inl rfl)) pgs_nil))) pgs_nil))) (pss_one (ps_if (PW.pt (pw_or (pt_cmpR op_isN (pv 6) pe_non (nomark _)) (pw_or1 (pt_cmpR op_gt (pv 6) (pe_op op_add (pv 7) (pv 3)) (nomark _))))) (pss_one (ps_ret (pv 5))) pss_nil))) (pss_one (ps_ret pe_non)))), ?_⟩
    refine ⟨_, rfl, _, rfl, x1, y1, 0, lead, rfl, tb1, r10, r11, h1, l1, Nat.zero_le _, hlead, fun qa H1 s1 ea => ?_⟩
    refine ⟨_, rfl, _, rfl, x2, y2, 0, lead, rfl, tb2.mono s1, r20, r21, h2, l2, Nat.zero_le _, hlead, fun qb H2 s2 eb => ?_⟩
    refine ⟨qa, qb, _, _, rfl, SqL.of (s2 _ _ ea), SqL.of eb, ?_, fun p ts G sG np hP hlen => ?_⟩
    · rw [vOs_len, vOs_len, segO_len, segO_len]
    rw [vOs_len, segO_len] at hlen
    have s3 : Same H (upd G p (.lst ts)) := Same.trans s1 (Same.trans s2 (NF.Same.new sG np))
    have s4 : Same G (upd G p (.lst ts)) := NF.Same.new (Same.refl G) np
    have hp : SqL K (upd G p (.lst ts)) p ts := SqL.of upd_same
    generalize upd G p (.lst ts) = G0 at s3 s4 hp
    refine ⟨_, rfl, p, ts, 1, rfl, rfl, by decide, by decide, hp, ?_⟩
    refine for_it (walk_enumS (xs := ts)) (fun i σ G' => Same G0 G' ∧ (∀ n, 1 ≤ n → n ≤ i → ¬ Exc (at_ y1.1 y1.2.1 y1.2.2) (at_ y2.1 y2.2.1 y2.2.2) k n) ∧ ∃ v5 v6 v7, σ = [some (.ref x1), some (.ref x2), some (.int (lead : Int)), some (.int k), some (.ref p), v5, v6, v7])
      ⟨Same.refl G0, fun n a b => by omega, none, none, none, rfl⟩ (fun i σ G _ z => L2.Same.seq z.1 hp) ?_ ?_
    · rintro i y σ G1 G2 hi ⟨sG1, no, v5, v6, v7, rfl⟩ ⟨U, a1, b1, rfl, hU, rfl, ha1, hb1⟩
      obtain rfl : V.int ((i + 1 : Nat) : Int) = a1 := by
        rw [← Option.some.inj ha1]
        congr 1
        omega
      rw [hlen] at hi
      obtain ⟨t, u1, u2, e1, e2, e3, e4⟩ := hP i (by omega)
      obtain rfl : b1 = .ref t := Option.some.inj (hb1.symm.trans e1)
      unfold vOs at e2 e3
      rw [List.getElem?_map, segO_get hi] at e2 e3
      have e2 : vO (at_ y1.1 y1.2.1 y1.2.2 (0 + i + 1)) = u1 := Option.some.inj e2
      have e3 : vO (at_ y2.1 y2.2.1 y2.2.2 (0 + i + 1)) = u2 := Option.some.inj e3
      rw [show 0 + i + 1 = i + 1 by omega] at e2 e3
      obtain ⟨b, hb⟩ : ∃ b, at_ y2.1 y2.2.1 y2.2.2 (i + 1) = some b := ⟨_, at_some _ (by
        by_cases e : y2.2.1 = []
        · exact .inl (by have := hy2 e; omega)
        · exact .inr e)⟩
      rw [hb] at e3
      obtain rfl : V.int b = u2 := e3
      have ht := SqT.of (K := K) e4
      have s5 := NF.Same.new (o := .tup [V.int ((i + 1 : Nat) : Int), V.ref t]) (Same.trans s4 sG1) hU
      have s6 := NF.Same.new (o := .tup [V.int ((i + 1 : Nat) : Int), V.ref t]) sG1 hU
      have go : Exc (at_ y1.1 y1.2.1 y1.2.2) (at_ y2.1 y2.2.1 y2.2.2) k (i + 1) → Q (.int ((i + 1 : Nat) : Int)) (upd G1 U (.tup [V.int ((i + 1 : Nat) : Int), V.ref t])) := fun hc =>
        q (some (i + 1)) _ ⟨by omega, by omega, hc, fun m h1 h2 => no m h1 (by omega)⟩ (Same.trans s3 s6)
      refine ⟨U, _, rfl, SqT.of upd_same, rfl, _, _, rfl, ?_⟩
      refine ⟨_, _, rfl, ?_⟩
      refine ⟨t, _, rfl, NF.Same.tup s5 ht, rfl, _, _, rfl, ?_⟩
      refine ⟨_, _, rfl, ?_⟩
      refine ⟨rfl, ?_⟩
      refine ⟨rfl, ?_⟩
      cases ha : at_ y1.1 y1.2.1 y1.2.2 (i + 1) with
      | none =>
        rw [ha] at e2
        obtain rfl : V.non = u1 := e2
        refine ⟨_, rfl, rfl, ?_⟩
        exact ⟨_, rfl, iteT' rfl (iteT' rfl ⟨_, rfl, go (exc_none hb ha)⟩)⟩
      | some a =>
        rw [ha] at e2
        obtain rfl : V.int a = u1 := e2
        refine ⟨_, rfl, rfl, _, rfl, iteF' rfl ?_⟩
        refine ⟨_, rfl, _, rfl, _, rfl, _, _, rfl, rfl, _, _, rfl, rfl, _, rfl, ite2 (fun c => ?_) (fun c => ?_)⟩
        · exact ⟨_, rfl, go ((exc_some hb ha).mpr (of_decide_eq_true c))⟩
        · refine ⟨s6, fun n n1 n2 => ?_, _, _, _, rfl⟩
          by_cases e : n = i + 1
          · subst e
            exact fun z => c (decide_eq_true ((exc_some hb ha).mp z))
          · exact no n n1 (by omega)
    · rintro σ G ⟨sG1, no, v5, v6, v7, rfl⟩
      rw [hlen] at no
      exact q none G no (Same.trans s3 sG1)
end
end K09
set_option Elab.async false
set_option linter.all false
set_option maxRecDepth 100000
set_option maxHeartbeats 4000000
namespace NT
theorem climbs_snoc : ∀ {l : List Int} {lo v : Int}, climbs lo l → (if l.length = 0 then lo else l.getD (l.length - 1) 0) ≤ v → climbs lo (l ++ [v])
  | [], lo, v, _, h => ⟨by simpa using h, trivial⟩
  | x :: l, lo, v, c, h => by
    refine ⟨c.1, climbs_snoc c.2 ?_⟩
    rw [if_neg (by simp)] at h
    by_cases z : l.length = 0
    · rw [if_pos z]
      have : l = [] := List.eq_nil_of_length_eq_zero z
      subst this
      simpa using h
    · rw [if_neg z]
      obtain ⟨j, hj⟩ : ∃ j, l.length = j + 1 := ⟨l.length - 1, by omega⟩
      rw [List.length_cons, hj] at h
      rw [hj]
      simpa using h
theorem climbs_low : ∀ {l : List Int} {lo : Int} {i : Nat}, climbs lo l → i < l.length → lo ≤ l.getD i 0
  | [], _, _, _, h => by simp at h
  | x :: l, lo, 0, c, _ => c.1
  | x :: l, lo, i + 1, c, h => by
    have := climbs_low (i := i) c.2 (by simpa using h)
    have := c.1
    show lo ≤ l.getD i 0
    omega
theorem climbs_le {l : List Int} {lo lo' : Int} (h : climbs lo l) (e : lo' ≤ lo) : climbs lo' l := by
  cases l with
  | nil => trivial
  | cons x l => exact ⟨Int.le_trans e h.1, h.2⟩
structure RawOk (x : List Int × List Int × Int) : Prop where
  g : Good x.1 x.2.1 x.2.2
  h : x.1.length ≤ 400
  l : x.2.1.length ≤ 400
  r : x.2.2 ≤ 100000
/-- as it is drawn -/
structure Raw0 (x : List Int × List Int × Int) : Prop where
  g : Good x.1 x.2.1 x.2.2
  h : x.1.length ≤ 4
  l : x.2.1.length ≤ 4
  r : x.2.2 ≤ 10
  f : (x.1 ++ x.2.1 ++ [5]).getD 0 0 ≤ 1000
  bh : ∀ i, i < x.1.length → x.1.getD i 0 ≤ 8
  bl : ∀ i, i < x.2.1.length → x.2.1.getD i 0 ≤ 16
theorem Raw0.ok {x : List Int × List Int × Int} (a : Raw0 x) : RawOk x := ⟨a.g, Nat.le_trans a.h (by decide), Nat.le_trans a.l (by decide), Int.le_trans a.r (by decide)⟩
theorem first_le {h l : List Int} (h1 : h ≠ [] → h.getD 0 0 ≤ 1000) (h2 : h = [] → l ≠ [] → l.getD 0 0 ≤ 1000) : (h ++ l ++ [5]).getD 0 0 ≤ 1000 := by
  cases h with
  | cons x h => exact h1 (by simp)
  | nil => cases l with
    | cons y l => exact h2 rfl (by simp)
    | nil => decide
end NT
namespace K09
open PySem PySem.Spec PyProof.Rows L2 He NF RZ NT
def spRising : Sp := fun vs H Q _ => ∃ (H0 : Hp) (p : Addr) (m : Nat) (lo st : Int), vs = [.ref p, .int (m : Int), .int lo, .int st] ∧ Same H0 H ∧ H0 p = none ∧ Src H p ∧ m ≤ 200 ∧ 0 ≤ lo ∧ 0 < st ∧ st < 1073741824 ∧
  ∀ q l H', Same H0 H' → Src H' p → H' q = some (.lst (vI l)) → H0 q = none → q ≠ p → l.length = m → climbs lo l → (∀ i, i < m → l.getD i 0 ≤ lo + (st - 1) * ((i : Int) + 1) ∧ l.getD i 0 ≤ l.getD 0 0 + (st - 1) * (i : Int)) → Q (.ref q) H'
def spRaw (K : PySem.W.Frag) : Sp := fun vs H Q _ => ∃ (H0 : Hp) (p : Addr), vs = [.ref p, .bl false] ∧ Same H0 H ∧ H0 p = none ∧ Src H p ∧
  ∀ q x H', Same H0 H' → Src H' p → Raw0 x → FormAt K H' q x → Q (.ref q) H'
theorem sc__law_rising : FnScope ["_law_source_here", "_law_many", "_law_low", "_law_steps", "_law_told", "_law_value", "_law_k"] ["_law_source_here", "_law_many", "_law_low", "_law_steps"] (defScope s__law_rising) := ⟨rfl, rfl, rfl, by decide +kernel, rfl, by decide +kernel, by decide +kernel⟩
theorem sc__law_raw : FnScope ["_law_source_here", "_law_steady", "_law_head", "_law_low", "_law_many", "_law_loop", "_law_more", "_law_rise"] ["_law_source_here", "_law_steady"] (defScope s__law_raw) := ⟨rfl, rfl, rfl, by decide +kernel, rfl, by decide +kernel, by decide +kernel⟩
theorem getD_snoc {l : List Int} {v : Int} {i : Nat} : (l ++ [v]).getD i 0 = if i < l.length then l.getD i 0 else if i = l.length then v else 0 := by
  by_cases h : i < l.length
  · rw [if_pos h, getD_app1 h]
  · rw [if_neg h, getD_app2 (by omega)]
    by_cases z : i = l.length
    · rw [if_pos z, z, Nat.sub_self]; rfl
    · rw [if_neg z]
      obtain ⟨j, hj⟩ : ∃ j, i - l.length = j + 1 := ⟨i - l.length - 1, by omega⟩
      rw [hj]; rfl
theorem last_snoc {l : List Int} {lo v : Int} : (if (l ++ [v]).length = 0 then lo else (l ++ [v]).getD ((l ++ [v]).length - 1) 0) = v := by
  have e : (l ++ [v]).length = l.length + 1 := by simp
  rw [e, if_neg (Nat.succ_ne_zero _), Nat.add_sub_cancel, getD_snoc, if_neg (Nat.lt_irrefl _), if_pos rfl]
theorem src_ne {H : Hp} {p q : Addr} {o : HO} (hs : Src H p) (hq : H q = none) : q ≠ p := fun z => by
  obtain ⟨_, _, _, h⟩ := hs
  rw [z, h] at hq
  cases hq
theorem src_put {H : Hp} {p q : Addr} {o : HO} (hs : Src H p) (n : q ≠ p) : Src (upd H q o) p := by
  obtain ⟨a, b, c, h⟩ := hs
  exact ⟨a, b, c, by rw [upd_ne (Ne.symm n)]; exact h⟩
theorem same_none {H0 H : Hp} {q : Addr} (s : Same H0 H) (h : H q = none) : H0 q = none := L2.Same.free s h
section
variable {P : Program} {w : World} {K : PySem.W.Frag} {mg : Str → Option Value} {base : Heap} {gs : List Str}
theorem ok__law_rising {f : Addr} {fd : FuncData} (F : FunD K "_law_rising" "_law_rising" (defArgs s__law_rising) (defBody s__law_rising) (defScope s__law_rising) [] [] f fd) (T : Txt K mg gs FS) (c__law_pick : Cal P w K mg base 1 "_law_pick" spPick) : FnOk P w K mg base CX0 2 f fd ["_law_source_here", "_law_many", "_law_low", "_law_steps"] spRising := by
  refine F.ok sc__law_rising (fun vs H Q E h => ?_) (fun cdv A outer s H vs Q E hr h => ?_)
  · obtain ⟨H0, p, m, lo, st, rfl, _⟩ := h
    rfl
  · obtain ⟨H0, p, m, lo, st, rfl, s0, n0, hs, hm, hlo, hst, hst2, q⟩ := h
    refine ⟨_, PSs.nox (pss_cons (ps_set (i := 4) sc__law_rising.nd rfl (Or.inl rfl) (pe_lst pa_nil)) (pss_cons (ps_set (i := 5) sc__law_rising.nd rfl (Or.inl rfl) (pv 2)) (pss_cons (ps_for PassesOwn.never rfl (pi_range1 rfl (T.fr _ (by decide +kernel)) (pa_cons (pv 1) pa_nil)) (pg_name (i := 6) sc__law_rising.nd rfl (Or.inl rfl)) (pss_cons (ps_set (i := 5) sc__law_rising.nd rfl (Or.inl rfl) (pe_op op_add (pv 5) (pe_c c__law_pick hr (by decide) rfl (pa_cons (pv 0) (pa_cons (pv 3) pa_nil))))) (pss_one (ps_expr (pe_bm PySem.F.plainAttrs_list PySem.F.slot_list_append PySem.F.type_list_append mt_append (pv 4) (pa_cons (pv 5) pa_nil)))))) (pss_one (ps_ret (pv 4)))))), ?_⟩
    refine ⟨(by show 0 ≤ sizeLine; decide), fun t ht => ?_⟩
    have htp : t ≠ p := src_ne (o := .lst []) hs ht
    have h0t := same_none s0 ht
    refine ⟨_, rfl, ?_⟩
    refine ⟨_, rfl, (m : Int), rfl, by omega, by omega, ?_⟩
    refine for_range (lo := 0) (n := m) (fun i σ G => Same H0 G ∧ Src G p ∧ ∃ l : List Int, G t = some (.lst (vI l)) ∧ l.length = i ∧ climbs lo l ∧ (∀ j, j < i → l.getD j 0 ≤ lo + (st - 1) * ((j : Int) + 1) ∧ l.getD j 0 ≤ l.getD 0 0 + (st - 1) * (j : Int)) ∧
      ∃ k : Option V, σ = [some (.ref p), some (.int (m : Int)), some (.int lo), some (.int st), some (.ref t), some (.int (if l.length = 0 then lo else l.getD (l.length - 1) 0)), k])
      ⟨NF.Same.put s0 h0t, src_put hs htp, [], upd_same, rfl, trivial, fun j hj => by omega, none, rfl⟩ ?_ ?_
    · rintro i σ G hi ⟨s1, hs1, l, hl, hlen, hc, hb, k, rfl⟩
      refine ⟨_, rfl, _, rfl, _, rfl, wo G p, p, st, rfl, wo_same', wo_none, hs1, hst, hst2, fun d G' d0 d1 s2 hs2 => ?_⟩
      refine ⟨_, _, rfl, rfl, ?_⟩
      have hl2 : G' t = some (.lst (vI l)) := s2 _ _ ((wo_ne htp).trans hl)
      refine ⟨_, rfl, Or.inl ⟨rfl, _, SqL.of hl2⟩, _, rfl, t, _, _, rfl, rfl, hl2, ?_, ?_⟩
      · rw [vI_len, hlen]
        exact Nat.lt_of_le_of_lt (show i ≤ 200 by omega) (by decide)
      have hlast : (if l.length = 0 then lo else l.getD (l.length - 1) 0) ≤ lo + (st - 1) * (i : Int) := by
        by_cases z : l.length = 0
        · rw [if_pos z, ← hlen, z]
          simp
        · rw [if_neg z]
          have := (hb (l.length - 1) (by omega)).1
          have e : ((l.length - 1 : Nat) : Int) + 1 = (i : Int) := by omega
          rw [e] at this
          exact this
      have hlast2 : l.length ≠ 0 → (if l.length = 0 then lo else l.getD (l.length - 1) 0) ≤ l.getD 0 0 + (st - 1) * ((i : Int) - 1) := fun z => by
        rw [if_neg z]
        have := (hb (l.length - 1) (by omega)).2
        have e : ((l.length - 1 : Nat) : Int) = (i : Int) - 1 := by omega
        rw [e] at this
        exact this
      refine ⟨NF.Same.put (wo_same s1 n0 s2) h0t, src_put hs2 htp, l ++ [(if l.length = 0 then lo else l.getD (l.length - 1) 0) + d], ?_, ?_, climbs_snoc hc (by omega), fun j hj => ?_, some (.int ((0 : Int) + (i : Int))), ?_⟩
      · rw [upd_same, ← vI_app]
        rfl
      · rw [List.length_append, hlen]; rfl
      · have dc : d ≤ st - 1 := by omega
        generalize st - 1 = c at *
        by_cases z : j < l.length
        · rw [getD_snoc, if_pos z, getD_snoc, if_pos (by omega)]
          exact hb j (by omega)
        · have ej : j = i := by omega
          subst ej
          generalize hv : (if l.length = 0 then lo else l.getD (l.length - 1) 0) = v at hlast hlast2 ⊢
          rw [getD_snoc, if_neg z, if_pos (by omega)]
          refine ⟨?_, ?_⟩
          · rw [Int.mul_add, Int.mul_one]
            omega
          · by_cases z0 : l.length = 0
            · rw [getD_snoc, if_neg (by omega), if_pos z0.symm, show ((j : Nat) : Int) = 0 by omega, Int.mul_zero]
              omega
            · have := hlast2 z0
              rw [Int.mul_sub, Int.mul_one] at this
              rw [getD_snoc, if_pos (by omega)]
              omega
      · rw [last_snoc]
        rfl
    · rintro σ G ⟨s1, hs1, l, hl, hlen, hc, hb, k, rfl⟩
      exact ⟨_, rfl, q t l G s1 hs1 hl h0t htp hlen hc hb⟩
theorem idx_k {l : List Int} {d lo hi : Int} {n : Nat} (h0 : 0 ≤ d) (h1 : d < (n : Int)) (hl : l.length = n) (hb : ∀ k, k < n → lo ≤ l.getD k 0 ∧ l.getD k 0 ≤ hi) : ∃ v : Int, atI (vI l) d = some (.int v) ∧ lo ≤ v ∧ v ≤ hi :=
  ⟨l.getD d.toNat 0, at_int (by omega) (by omega), hb _ (by omega)⟩
theorem more_le {m : Int} (h0 : 1 ≤ m) (h1 : m ≤ 4) : ∀ k, k < 8 → 0 ≤ ([1, 2, 1, 0, 3, m, 2, 1] : List Int).getD k 0 ∧ ([1, 2, 1, 0, 3, m, 2, 1] : List Int).getD k 0 ≤ 4
  | 0, _ => by simp
  | 1, _ => by simp
  | 2, _ => by simp
  | 3, _ => by simp
  | 4, _ => by simp
  | 5, _ => ⟨by show 0 ≤ m; omega, by show m ≤ 4; omega⟩
  | 6, _ => by simp
  | 7, _ => by simp
  | n + 8, h => by omega
theorem climbs_last : ∀ {l : List Int} {lo : Int}, climbs lo l → l ≠ [] → l.getD 0 0 ≤ l.getD (l.length - 1) 0
  | [], _, _, h => absurd rfl h
  | [x], _, _, _ => Int.le_refl _
  | x :: y :: l, lo, c, _ => climbs_low (l := y :: l) (i := l.length) c.2 (by simp)
theorem ok__law_raw {f : Addr} {fd : FuncData} (F : FunD K "_law_raw" "_law_raw" (defArgs s__law_raw) (defBody s__law_raw) (defScope s__law_raw) [] [] f fd) (T : Txt K mg gs FS) (c__law_pick : Cal P w K mg base 1 "_law_pick" spPick) (c__law_rising : Cal P w K mg base 2 "_law_rising" spRising) : FnOk P w K mg base CX0 3 f fd ["_law_source_here", "_law_steady"] (spRaw K) := by
  refine F.ok sc__law_raw (fun vs H Q E h => ?_) (fun cdv A outer s H vs Q E hr h => ?_)
  · obtain ⟨H0, p, rfl, _⟩ := h
    rfl
  · obtain ⟨H0, p, rfl, s0, n0, hs, q⟩ := h
    refine ⟨_, PSs.nox (pss_cons (ps_set (i := 2) sc__law_raw.nd rfl (Or.inl rfl) (pe_c c__law_rising hr (by decide) rfl (pa_cons (pv 0) (pa_cons (pe_ix (ixl (K := K)) (pe_lst (pa_cons pe_int (pa_cons pe_int (pa_cons pe_int (pa_cons pe_int (pa_cons pe_int (pa_cons pe_int (pa_cons pe_int (pa_cons pe_int pa_nil))))))))) (pe_c c__law_pick hr (by decide) rfl (pa_cons (pv 0) (pa_cons pe_int pa_nil))) fun _ _ => rfl) (pa_cons pe_int (pa_cons pe_int pa_nil)))))) (pss_cons (ps_set (i := 3) sc__law_raw.nd rfl (Or.inl rfl) (pe_ifExp (pt_cmpR op_gt (pe_callB call_len_seq rfl (T.fr _ (by decide +kernel)) boot_len (pa_cons (pv 2) pa_nil)) pe_int (nomark _)) (pe_ix (ixl (K := K)) (pv 2) (pe_un un_neg pe_int) fun _ _ => rfl) pe_int)) (pss_cons (ps_if (PW.pt (pw_and (pt_not (pt_val (pv 1))) (pw_and1 (pt_cmpR op_eq (pe_c c__law_pick hr (by decide) rfl (pa_cons (pv 0) (pa_cons pe_int pa_nil))) pe_int (nomark _))))) (pss_one (ps_ret (pe_tup (pa_cons (pe_callTy cr_tup rfl (T.fr _ (by decide +kernel)) (by decide +kernel) (pa_cons (pv 2) pa_nil)) (pa_cons (pe_tup pa_nil) (pa_cons pe_int pa_nil)))))) pss_nil) (pss_cons (ps_set (i := 4) sc__law_raw.nd rfl (Or.inl rfl) (pe_ix (ixl (K := K)) (pe_lst (pa_cons pe_int (pa_cons pe_int (pa_cons pe_int (pa_cons pe_int (pa_cons pe_int (pa_cons pe_int (pa_cons pe_int (pa_cons pe_int pa_nil))))))))) (pe_c c__law_pick hr (by decide) rfl (pa_cons (pv 0) (pa_cons pe_int pa_nil))) fun _ _ => rfl)) (pss_cons (ps_set (i := 5) sc__law_raw.nd rfl (Or.inl rfl) (pe_c c__law_rising hr (by decide) rfl (pa_cons (pv 0) (pa_cons (pv 4) (pa_cons (pv 3) (pa_cons pe_int pa_nil)))))) (pss_cons (ps_set (i := 6) sc__law_raw.nd rfl (Or.inl rfl) (pe_ix (ixl (K := K)) (pe_lst (pa_cons pe_int (pa_cons pe_int (pa_cons pe_int (pa_cons pe_int (pa_cons pe_int (pa_cons (pv 4) (pa_cons pe_int (pa_cons pe_int pa_nil))))))))) (pe_c c__law_pick hr (by decide) rfl (pa_cons (pv 0) (pa_cons pe_int pa_nil))) fun _ _ => rfl)) (pss_cons (ps_set (i := 7) sc__law_raw.nd rfl (Or.inl rfl) (pe_op op_add (pe_op op_sub (pe_ix (ixl (K := K)) (pv 5) (pe_un un_neg pe_int) fun _ _ => rfl) (pe_ix (ixl (K := K)) (pv 5) pe_int fun _ _ => rfl)) (pv 6))) (pss_cons (ps_if (PW.pt (pw_and (pt_val (pv 1)) (pw_and1 (pt_cmpR op_eq (pv 7) pe_int (nomark _))))) (pss_one (ps_set (i := 7) sc__law_raw.nd rfl (Or.inl rfl) pe_int)) pss_nil) (pss_one (ps_ret (pe_tup (pa_cons (pe_callTy cr_tup rfl (T.fr _ (by decide +kernel)) (by decide +kernel) (pa_cons (pv 2) pa_nil)) (pa_cons (pe_callTy cr_tup rfl (T.fr _ (by decide +kernel)) (by decide +kernel) (pa_cons (pv 5) pa_nil)) (pa_cons (pv 7) pa_nil)))))))))))))), ?_⟩
    -- the head
    refine ⟨_, rfl, (by show 8 ≤ sizeLine; decide), fun t ht => ?_⟩
    have htp : t ≠ p := src_ne (o := .lst []) hs ht
    have hs1 : Src (upd H t (.lst (vI [0, 1, 2, 0, 3, 1, 4, 2]))) p := src_put hs htp
    have s1 : Same H0 (upd H t (.lst (vI [0, 1, 2, 0, 3, 1, 4, 2]))) := NF.Same.put s0 (same_none s0 ht)
    have ht1 : upd H t (.lst (vI [0, 1, 2, 0, 3, 1, 4, 2])) t = some (.lst (vI [0, 1, 2, 0, 3, 1, 4, 2])) := upd_same
    refine ⟨_, rfl, wo _ p, p, 8, rfl, wo_same', wo_none, hs1, by decide, by decide, fun d G2 d0 d1 s2 hs2 => ?_⟩
    obtain ⟨v, hv, v0, v1⟩ := idx_k (l := [0, 1, 2, 0, 3, 1, 4, 2]) (n := 8) (lo := 0) (hi := 4) d0 d1 rfl (by decide)
    have s02 := wo_same s1 n0 s2
    refine ⟨t, _, _, _, rfl, rfl, SqL.of (s2 _ _ ((wo_ne htp).trans ht1)), hv, ?_⟩
    refine ⟨wo G2 p, p, v.toNat, 0, 3, by rw [Int.toNat_of_nonneg v0]; rfl, wo_same', wo_none, hs2, by omega, by decide, by decide, by decide, fun th h G3 s3 hs3 hh hh0 hhp hlen hc hb => ?_⟩
    have s03 := wo_same s02 n0 s3
    -- the low
    have hlow : ∀ {W : VK}, (∀ lo : Int, 0 ≤ lo → (h ≠ [] → lo = h.getD (h.length - 1) 0) → (h = [] → lo = 0) → W (.int lo) G3) →
        (tIf (tTest (tOp (rI0 fun i j => .bl (decide (j < i))) (tCB (fun xs H Q => ∃ a ys, xs = [.ref a] ∧ (SqL K H a ys ∨ SqT K H a ys) ∧ Q (.int (ys.length : Int)) H) (tCons (tVar 2) tNil)) (tC (.int 0)))) (tOp (rIxL K) (tVar 2) (tUn (rU fun i => .int (-i)) (tC (.int 1)))) (tC (.int 0))) [some (V.ref p), some (V.bl false), some (V.ref th), none, none, none, none, none] G3 W := by
      intro W hW
      refine ⟨_, rfl, th, _, rfl, Or.inl (SqL.of hh), _, _, rfl, rfl, _, rfl, ite2 (fun h1 => ?_) (fun h1 => ?_)⟩
      · have h2 : 0 < h.length := by
          have := of_decide_eq_true h1
          rw [vI_len] at this
          omega
        have hne : h ≠ [] := fun z => by rw [z] at h2; simp at h2
        exact ⟨_, rfl, _, rfl, th, _, _, _, rfl, rfl, SqL.of hh, at_last h2, hW _ (climbs_low hc (by omega)) (fun _ => rfl) fun z => absurd z hne⟩
      · have h2 : h = [] := by
          have : ¬ (0 : Int) < ((vI h).length : Int) := fun z => h1 (decide_eq_true z)
          rw [vI_len] at this
          exact List.eq_nil_of_length_eq_zero (by omega)
        exact hW 0 (Int.le_refl _) (fun z => absurd h2 z) fun _ => rfl
    refine hlow fun lo lo0 hlo hlo2 => ?_
    have lo12 : lo ≤ 8 := by
      by_cases z : h = []
      · rw [hlo2 z]; decide
      · rw [hlo z]
        have := hb (h.length - 1) (by have := len_pos z; omega)
        omega
    have hf1 : h ≠ [] → h.getD 0 0 ≤ 1000 := fun z => by
      have := hb 0 (by have := len_pos z; omega)
      omega
    -- ended
    refine ⟨_, rfl, false, rfl, iteT ?_⟩
    refine ⟨_, rfl, wo G3 p, p, 7, rfl, wo_same', wo_none, hs3, by decide, by decide, fun d G4 _ _ s4 hs4 => ?_⟩
    have s04 := wo_same s03 n0 s4
    have hh4 : G4 th = some (.lst (vI h)) := s4 _ _ ((wo_ne hhp).trans hh)
    have hh100 : h.length ≤ 4 := by omega
    have hbh : ∀ i, i < h.length → h.getD i 0 ≤ 8 := fun i hi => by
      have := hb i (by omega)
      omega
    refine ⟨rfl, _, rfl, ite2 (fun _ => ?_) (fun _ => ?_)⟩
    · refine ⟨_, rfl, th, _, rfl, Or.inl (SqL.of hh4), fun p1 G5 s5 t5 => ?_⟩
      refine ⟨(by show 0 ≤ sizeLine; decide), fun p2 hp2 => ?_⟩
      refine ⟨(by show 3 ≤ sizeLine; decide), fun p3 hp3 => ?_⟩
      have s6 := NF.Same.new (o := .tup []) (Same.refl G5) hp2
      have s7 := NF.Same.new (o := .tup [V.ref p1, V.ref p2, V.int 0]) s6 hp3
      refine q p3 (h, [], 0) _ (Same.trans s04 (Same.trans s5 s7)) (Src.mono hs4 (Same.trans s5 s7)) ⟨⟨hc, trivial, fun _ z => absurd rfl z, Int.le_refl _, fun _ => rfl, fun z => absurd rfl z⟩, hh100, by simp, by simp, first_le hf1 fun _ z => absurd rfl z, hbh, fun i hi => absurd hi (by simp)⟩ ⟨p1, p2, SqT.of upd_same, NF.Same.tup s7 t5, ?_⟩
      exact SqT.of (by rw [upd_ne (ne_of_none upd_same hp3)]; exact upd_same)
    -- the loop
    refine ⟨(by show 8 ≤ sizeLine; decide), fun u hu => ?_⟩
    have hup : u ≠ p := src_ne (o := .lst []) hs4 hu
    have hs5 : Src (upd G4 u (.lst (vI [1, 2, 1, 3, 2, 1, 4, 3]))) p := src_put hs4 hup
    have s45 : Same G4 (upd G4 u (.lst (vI [1, 2, 1, 3, 2, 1, 4, 3]))) := NF.Same.new (Same.refl _) hu
    have ht5 : upd G4 u (.lst (vI [1, 2, 1, 3, 2, 1, 4, 3])) u = some (.lst (vI [1, 2, 1, 3, 2, 1, 4, 3])) := upd_same
    refine ⟨_, rfl, wo _ p, p, 8, rfl, wo_same', wo_none, hs5, by decide, by decide, fun d G6 d0 d1 s6 hs6 => ?_⟩
    obtain ⟨m, hm, m0, m1⟩ := idx_k (l := [1, 2, 1, 3, 2, 1, 4, 3]) (n := 8) (lo := 1) (hi := 4) d0 d1 rfl (by decide)
    have s06 := wo_same (Same.trans s04 s45) n0 s6
    have hh6 : G6 th = some (.lst (vI h)) := s6 _ _ ((wo_ne hhp).trans (s45 _ _ hh4))
    refine ⟨u, _, _, _, rfl, rfl, SqL.of (s6 _ _ ((wo_ne hup).trans ht5)), hm, ?_⟩
    refine ⟨_, rfl, _, rfl, _, rfl, wo G6 p, p, m.toNat, lo, 3, by rw [Int.toNat_of_nonneg (by omega)]; rfl, wo_same', wo_none, hs6, by omega, lo0, by decide, by decide, fun tl l G7 s7 hs7 hl7 hl0 hlp hllen hlc hlb => ?_⟩
    have s07 := wo_same s06 n0 s7
    have hh7 : G7 th = some (.lst (vI h)) := s7 _ _ ((wo_ne hhp).trans hh6)
    have hl0' : 0 < l.length := by omega
    have hlne : l ≠ [] := fun z => by rw [z] at hl0'; simp at hl0'
    -- more
    refine ⟨_, rfl, (by show 8 ≤ sizeLine; decide), fun u2 hu2 => ?_⟩
    have hup2 : u2 ≠ p := src_ne (o := .lst []) hs7 hu2
    have hs8 : Src (upd G7 u2 (.lst (vI [1, 2, 1, 0, 3, m, 2, 1]))) p := src_put hs7 hup2
    have s78 : Same G7 (upd G7 u2 (.lst (vI [1, 2, 1, 0, 3, m, 2, 1]))) := NF.Same.new (Same.refl _) hu2
    have ht8 : upd G7 u2 (.lst (vI [1, 2, 1, 0, 3, m, 2, 1])) u2 = some (.lst (vI [1, 2, 1, 0, 3, m, 2, 1])) := upd_same
    refine ⟨_, rfl, wo _ p, p, 8, rfl, wo_same', wo_none, hs8, by decide, by decide, fun d G9 d0 d1 s9 hs9 => ?_⟩
    obtain ⟨e, he, e0, e1⟩ := idx_k (l := [1, 2, 1, 0, 3, m, 2, 1]) (n := 8) (lo := 0) (hi := 4) d0 d1 rfl (more_le m0 m1)
    have s09 := wo_same (Same.trans s07 s78) n0 s9
    have hh9 : G9 th = some (.lst (vI h)) := s9 _ _ ((wo_ne hhp).trans (s78 _ _ hh7))
    have hl9 : G9 tl = some (.lst (vI l)) := s9 _ _ ((wo_ne hlp).trans (s78 _ _ hl7))
    refine ⟨u2, _, _, _, rfl, rfl, SqL.of (s9 _ _ ((wo_ne hup2).trans ht8)), he, ?_⟩
    -- the rise
    refine ⟨_, rfl, _, rfl, tl, _, _, _, rfl, rfl, SqL.of hl9, at_last hl0', ?_⟩
    refine ⟨_, rfl, tl, _, _, _, rfl, rfl, SqL.of hl9, at_int (k := 0) rfl hl0', _, _, rfl, rfl, _, rfl, _, _, rfl, rfl, ?_⟩
    refine ⟨_, rfl, false, rfl, iteF (iteF ?_)⟩
    have f1 := climbs_last hlc hlne
    have f2 := hlb (l.length - 1) (by omega)
    have f3 := climbs_low hlc hl0'
    refine ⟨_, rfl, th, _, rfl, Or.inl (SqL.of hh9), fun p1 G10 s10 t10 => ?_⟩
    refine ⟨_, rfl, tl, _, rfl, Or.inl (SqL.of (s10 _ _ hl9)), fun p2 G11 s11 t11 => ?_⟩
    refine ⟨_, rfl, (by show 3 ≤ sizeLine; decide), fun p3 hp3 => ?_⟩
    have s12 := NF.Same.new (o := .tup [V.ref p1, V.ref p2, V.int (l.getD (l.length - 1) 0 - l.getD 0 0 + e)]) (Same.refl G11) hp3
    refine q p3 (h, l, l.getD (l.length - 1) 0 - l.getD 0 0 + e) _ (Same.trans s09 (Same.trans s10 (Same.trans s11 s12))) (Src.mono hs9 (Same.trans s10 (Same.trans s11 s12))) ⟨⟨hc, climbs_le hlc lo0, fun z _ => ?_, by dsimp only; omega, fun z => absurd z hlne, fun _ => by dsimp only; omega⟩, hh100, by show l.length ≤ 4; omega, by dsimp only; omega, first_le hf1 fun z _ => by have := hlo2 z; have := hlb 0 (by omega); dsimp only; omega, hbh, fun i hi => by have := hlb i (by dsimp only at hi; omega); dsimp only at hi ⊢; omega⟩ ⟨p1, p2, SqT.of upd_same, NF.Same.tup (Same.trans s11 s12) t10, NF.Same.tup s12 t11⟩
    rw [← hlo z]
    exact f3
end
end K09
set_option Elab.async false
set_option linter.all false
set_option maxRecDepth 100000
set_option maxHeartbeats 4000000
namespace K09
open PySem PySem.Spec PyProof.Rows L2 He NF RZ NT
def Counts (y : List Int × List Int × Int) : Prop := (∀ i, i ∈ y.1 ++ y.2.1 → 0 ≤ i) ∧ 0 ≤ y.2.2
def spLTable (K : PySem.W.Frag) (C : Addr) : Sp := fun vs H Q _ => ∃ p y, vs = [.ref p] ∧ FormAt K H p y ∧ RawOk y ∧ ∀ x z H', IsPlain y.1 y.2.1 y.2.2 z → Same H H' → TabAt K C H' x z → Q (.ref x) H'
theorem sc__law_table : FnScope ["_law_raw_here"] ["_law_raw_here"] (defScope s__law_table) := ⟨rfl, rfl, rfl, by decide +kernel, rfl, by decide +kernel, by decide +kernel⟩
theorem same_made {H H' : Hp} {x dx : Addr} {o o' : HO} (nx : H x = none) (nd : H dx = none) (s : Same (wo (upd (upd H dx o) x o') x) H') : Same H H' := fun b u e =>
  s b u (by rw [wo_ne (ne_of_none e nx), upd_ne (ne_of_none e nx), upd_ne (ne_of_none e nd)]; exact e)
theorem row_made {K : PySem.W.Frag} {H : Hp} {x dx a : Addr} {o o' : HO} {xs : List V} (nx : H x = none) (nd : H dx = none) (h : Row K H a xs) : Row K (upd (upd H dx o) x o') a xs := h.mono fun b u e => by
  rw [upd_ne (ne_of_none e nx), upd_ne (ne_of_none e nd)]
  exact e
section
variable {P : Program} {w : World} {K : PySem.W.Frag} {mg : Str → Option Value} {base : Heap} {gs : List Str} {C : Addr}
theorem ok__law_table {f : Addr} {fd : FuncData} (F : FunD K "_law_table" "_law_table" (defArgs s__law_table) (defBody s__law_table) (defScope s__law_table) [] [] f fd) (T : Txt K mg gs FS) (m_Table : Mak P w K mg base 4 0 "Table" C (spInit K C) []) : FnOk P w K mg base CX0 6 f fd ["_law_raw_here"] (spLTable K C) := by
  refine F.ok sc__law_table (fun vs H Q E h => ?_) (fun cdv A outer s H vs Q E hr h => ?_)
  · obtain ⟨p, y, rfl, _⟩ := h
    rfl
  · obtain ⟨p, ⟨h, l, r⟩, rfl, ⟨a, b, hp, ha, hb⟩, ok, q⟩ := h
    refine ⟨_, PSs.nox (pss_one (ps_ret (pe_mk m_Table hr (by decide) rfl (pa_cons (pe_ix (ixt (K := K)) (pv 0) pe_int fun _ _ => rfl) (pa_cons (pe_ix (ixt (K := K)) (pv 0) pe_int fun _ _ => rfl) (pa_cons (pe_ix (ixt (K := K)) (pv 0) pe_int fun _ _ => rfl) pa_nil)))))), ?_⟩
    refine ⟨_, rfl, p, _, _, _, rfl, rfl, hp, at0, _, rfl, p, _, _, _, rfl, rfl, hp, at1, _, rfl, p, _, _, _, rfl, rfl, hp, at2, ?_⟩
    intro x dx nx nd ne
    have o1 := ok.h
    have o2 := ok.l
    dsimp only at o1 o2 ha hb q
    exact ⟨x, dx, a, b, h, l, r, rfl, upd_same, row_made nx nd (.inr ha), row_made nx nd (.inr hb), ok.g, by omega, fun z H' hz s tb => ⟨rfl, q x z H' hz (same_made nx nd s) tb⟩⟩
end
end K09
set_option linter.all false
set_option maxHeartbeats 4000000
/-! The greater and the lesser one of two rows of values, never on top. Plain Lean. -/
namespace NT
/-- the greater, or the lesser, of two -/
def cho (g : Bool) (x y : Int) : Int := if g then (if x < y then y else x) else (if x < y then x else y)
def chO : Bool → Option Int → Option Int → Option Int
  | true, some x, some y => some (cho true x y)
  | true, _, _ => none
  | false, some x, some y => some (cho false x y)
  | false, some x, none => some x
  | false, none, o => o
def leO (a b : Option Int) : Prop := b = none ∨ ∃ x y, a = some x ∧ b = some y ∧ x ≤ y
theorem leO.refl (a : Option Int) : leO a a := by
  cases a with
  | none => exact .inl rfl
  | some x => exact .inr ⟨x, x, rfl, rfl, Int.le_refl _⟩
theorem leO.trans {a b c : Option Int} (h : leO a b) (k : leO b c) : leO a c := by
  rcases k with rfl | ⟨x, y, rfl, rfl, k⟩
  · exact .inl rfl
  · rcases h with h | ⟨u, v, rfl, e, h⟩
    · cases h
    · injection e with e
      exact .inr ⟨u, y, rfl, rfl, by omega⟩
theorem leO.total (a b : Option Int) : leO a b ∨ leO b a := by
  cases b with
  | none => exact .inl (.inl rfl)
  | some y =>
    cases a with
    | none => exact .inr (.inl rfl)
    | some x =>
      rcases Int.le_total x y with h | h
      · exact .inl (.inr ⟨x, y, rfl, rfl, h⟩)
      · exact .inr (.inr ⟨y, x, rfl, rfl, h⟩)
theorem cho_le {x y : Int} (h : x ≤ y) : cho true x y = y ∧ cho false x y = x := by
  show (if x < y then y else x) = y ∧ (if x < y then x else y) = x
  split <;> exact ⟨by omega, by omega⟩
theorem cho_comm (g : Bool) (x y : Int) : cho g x y = cho g y x := by
  cases g
  · show (if x < y then x else y) = (if y < x then y else x)
    split <;> split <;> omega
  · show (if x < y then y else x) = (if y < x then x else y)
    split <;> split <;> omega
theorem chO_le {a b : Option Int} (h : leO a b) : chO true a b = b ∧ chO false a b = a := by
  rcases h with rfl | ⟨x, y, rfl, rfl, h⟩
  · cases a <;> exact ⟨rfl, rfl⟩
  · exact ⟨congrArg some (cho_le h).1, congrArg some (cho_le h).2⟩
theorem chO_comm (g : Bool) (a b : Option Int) : chO g a b = chO g b a := by
  cases g <;> cases a <;> cases b <;> first | rfl | exact congrArg some (cho_comm ..)
theorem chO_ge {a b : Option Int} (h : leO b a) : chO true a b = a ∧ chO false a b = b := by
  rw [chO_comm, chO_comm false]
  exact chO_le h
theorem chO_some {g : Bool} {x y : Int} : chO g (some x) (some y) = some (cho g x y) := by cases g <;> rfl
theorem cho_add {g : Bool} {x y c : Int} : cho g (x + c) (y + c) = cho g x y + c := by
  cases g
  · show (if x + c < y + c then x + c else y + c) = (if x < y then x else y) + c
    split <;> split <;> omega
  · show (if x + c < y + c then y + c else x + c) = (if x < y then y else x) + c
    split <;> split <;> omega
theorem asc_cho {F G : Nat → Option Int} (A : Asc F) (B : Asc G) (g : Bool) : Asc fun n => chO g (F n) (G n) := by
  have lw : ∀ {x y : Int}, cho true x y = x ∧ y ≤ x ∧ cho false x y = y ∨ cho true x y = y ∧ x ≤ y ∧ cho false x y = x := fun {x y} => by
    rcases Int.le_total x y with h | h
    · exact .inr ⟨(cho_le h).1, h, (cho_le h).2⟩
    · have := cho_le h
      rw [cho_comm true, cho_comm false]
      exact .inl ⟨this.1, h, this.2⟩
  refine ⟨fun n v hn e => ?_, fun n v hn e => ?_⟩
  · cases ef : F n with
    | none =>
      rw [ef] at e
      cases eg : G n with
      | none => rw [eg] at e; cases g <;> cases e
      | some y =>
        rw [eg] at e
        cases g
        · injection e with e
          exact e ▸ B.ge n y hn eg
        · cases e
    | some x =>
      rw [ef] at e
      have x0 := A.ge n x hn ef
      cases eg : G n with
      | none =>
        rw [eg] at e
        cases g
        · injection e with e
          omega
        · cases e
      | some y =>
        rw [eg, chO_some] at e
        injection e with e
        have y0 := B.ge n y hn eg
        cases g <;> rcases @lw x y with ⟨h1, _, h2⟩ | ⟨h1, _, h2⟩ <;> omega
  · have up := fun (u : Int) (h : F (n + 1) = some u) => A.up n u hn h
    have vp := fun (u : Int) (h : G (n + 1) = some u) => B.up n u hn h
    show ∃ u, chO g (F n) (G n) = some u ∧ u ≤ v
    have e : chO g (F (n + 1)) (G (n + 1)) = some v := e
    cases ef : F (n + 1) with
    | none =>
      rw [ef] at e
      cases eg : G (n + 1) with
      | none => rw [eg] at e; cases g <;> cases e
      | some y =>
        rw [eg] at e
        obtain ⟨w, hw, le⟩ := vp y eg
        rw [hw]
        cases g
        · injection e with e
          subst e
          cases F n with
          | none => exact ⟨w, rfl, le⟩
          | some z =>
            refine ⟨_, rfl, ?_⟩
            rcases @lw z w with ⟨h1, _, h2⟩ | ⟨h1, _, h2⟩ <;> omega
        · cases e
    | some x =>
      rw [ef] at e
      obtain ⟨u, hu, lx⟩ := up x ef
      rw [hu]
      cases eg : G (n + 1) with
      | none =>
        rw [eg] at e
        cases g
        · injection e with e
          subst e
          cases G n with
          | none => exact ⟨u, rfl, lx⟩
          | some z =>
            refine ⟨_, rfl, ?_⟩
            rcases @lw u z with ⟨h1, _, h2⟩ | ⟨h1, _, h2⟩ <;> omega
        · cases e
      | some y =>
        rw [eg, chO_some] at e
        obtain ⟨w, hw, ly⟩ := vp y eg
        rw [hw, chO_some]
        injection e with e
        subst e
        refine ⟨_, rfl, ?_⟩
        cases g <;> rcases @lw x y with ⟨h1, _, h2⟩ | ⟨h1, _, h2⟩ <;> rcases @lw u w with ⟨k1, _, k2⟩ | ⟨k1, _, k2⟩ <;> omega
/-- behind N one of two rows is nowhere above the other one, or they go side by side -/
def Dom (F G : Nat → Option Int) (N : Nat) : Prop := (∀ n, N < n → leO (F n) (G n)) ∨ (∀ n, N < n → leO (G n) (F n)) ∨
  ∃ (m : Nat) (c : Int), 0 < m ∧ ∀ n, N < n → ∃ u v, F n = some u ∧ G n = some v ∧ F (n + m) = some (u + c) ∧ G (n + m) = some (v + c)
theorem Dom.symm {F G : Nat → Option Int} {N : Nat} (h : Dom F G N) : Dom G F N := by
  rcases h with h | h | ⟨m, c, hm, h⟩
  · exact .inr (.inl h)
  · exact .inl h
  · exact .inr (.inr ⟨m, c, hm, fun n hn => by obtain ⟨u, v, a, b, d, e⟩ := h n hn; exact ⟨v, u, b, a, e, d⟩⟩)
theorem Dom.self (F : Nat → Option Int) (N : Nat) : Dom F F N := .inl fun n _ => leO.refl _
theorem Dom.congr {F G F' : Nat → Option Int} {N : Nat} (h : Dom F G N) (e : ∀ n, N < n → F' n = F n) : Dom F' G N := by
  rcases h with h | h | ⟨m, c, hm, h⟩
  · exact .inl fun n hn => by rw [e n hn]; exact h n hn
  · exact .inr (.inl fun n hn => by rw [e n hn]; exact h n hn)
  · exact .inr (.inr ⟨m, c, hm, fun n hn => by rw [e n hn, e (n + m) (by omega)]; exact h n hn⟩)
theorem par_mul {F : Nat → Option Int} {N m : Nat} {c : Int} (h : ∀ n, N < n → ∃ u, F n = some u ∧ F (n + m) = some (u + c)) (j : Nat) : ∀ n, N < n → ∃ u, F n = some u ∧ F (n + m * j) = some (u + c * (j : Int)) := by
  induction j with
  | zero =>
    intro n hn
    obtain ⟨u, a, _⟩ := h n hn
    exact ⟨u, a, by simpa using a⟩
  | succ j ih =>
    intro n hn
    obtain ⟨u, a, b⟩ := ih n hn
    obtain ⟨v, a2, b2⟩ := h (n + m * j) (by omega)
    rw [b] at a2
    injection a2 with a2
    refine ⟨u, a, ?_⟩
    rw [Nat.mul_succ, ← Nat.add_assoc, b2, ← a2, Int.natCast_succ, Int.mul_add]
    congr 1
    omega
/-- side by side with one that goes side by side with a third one -/
theorem par_three {F G H : Nat → Option Int} {N m m' : Nat} {c c' : Int} (hm : 0 < m) (hm' : 0 < m') (h : ∀ n, N < n → ∃ u v, F n = some u ∧ G n = some v ∧ F (n + m) = some (u + c) ∧ G (n + m) = some (v + c)) (h' : ∀ n, N < n → ∃ u v, G n = some u ∧ H n = some v ∧ G (n + m') = some (u + c') ∧ H (n + m') = some (v + c')) :
    ∃ (k : Nat) (d : Int), 0 < k ∧ ∀ n, N < n → ∃ u v w, F n = some u ∧ G n = some v ∧ H n = some w ∧ F (n + k) = some (u + d) ∧ G (n + k) = some (v + d) ∧ H (n + k) = some (w + d) := by
  have pF := par_mul (F := F) (N := N) (m := m) (c := c) (fun n hn => by obtain ⟨u, v, a, b, x, y⟩ := h n hn; exact ⟨u, a, x⟩) m'
  have pG := par_mul (F := G) (N := N) (m := m) (c := c) (fun n hn => by obtain ⟨u, v, a, b, x, y⟩ := h n hn; exact ⟨v, b, y⟩) m'
  have pG' := par_mul (F := G) (N := N) (m := m') (c := c') (fun n hn => by obtain ⟨u, v, a, b, x, y⟩ := h' n hn; exact ⟨u, a, x⟩) m
  have pH := par_mul (F := H) (N := N) (m := m') (c := c') (fun n hn => by obtain ⟨u, v, a, b, x, y⟩ := h' n hn; exact ⟨v, b, y⟩) m
  refine ⟨m * m', c * (m' : Int), Nat.mul_pos hm hm', fun n hn => ?_⟩
  obtain ⟨u, a1, a2⟩ := pF n hn
  obtain ⟨v, b1, b2⟩ := pG n hn
  obtain ⟨v', b1', b2'⟩ := pG' n hn
  obtain ⟨w, d1, d2⟩ := pH n hn
  rw [b1] at b1'
  injection b1' with b1'
  subst b1'
  rw [Nat.mul_comm m' m] at b2' d2
  rw [b2] at b2'
  injection b2' with b2'
  have e : c' * (m : Int) = c * (m' : Int) := by omega
  rw [e] at d2
  exact ⟨u, v, w, a1, b1, d1, a2, b2, d2⟩
theorem dom_cho {F G H : Nat → Option Int} {N : Nat} (g : Bool) (fg : Dom F G N) (fh : Dom F H N) (gh : Dom G H N) : Dom (fun n => chO g (F n) (G n)) H N := by
  rcases fg with h | h | ⟨m, c, hm, h⟩
  · cases g
    · exact fh.congr fun n hn => (chO_le (h n hn)).2
    · exact gh.congr fun n hn => (chO_le (h n hn)).1
  · cases g
    · exact gh.congr fun n hn => (chO_ge (h n hn)).2
    · exact fh.congr fun n hn => (chO_ge (h n hn)).1
  · -- side by side
    have side : ∀ {m' : Nat} {c' : Int}, 0 < m' → (∀ n, N < n → ∃ u v, G n = some u ∧ H n = some v ∧ G (n + m') = some (u + c') ∧ H (n + m') = some (v + c')) → Dom (fun n => chO g (F n) (G n)) H N := fun {m' c'} hm' h' => by
      obtain ⟨k, d, hk, p⟩ := par_three hm hm' h h'
      refine .inr (.inr ⟨k, d, hk, fun n hn => ?_⟩)
      obtain ⟨u, v, w, a1, a2, a3, b1, b2, b3⟩ := p n hn
      refine ⟨cho g u v, w, ?_, a3, ?_, b3⟩
      · show chO g (F n) (G n) = _
        rw [a1, a2, chO_some]
      · show chO g (F (n + k)) (G (n + k)) = _
        rw [b1, b2, chO_some, cho_add]
    have side2 : ∀ {m' : Nat} {c' : Int}, 0 < m' → (∀ n, N < n → ∃ u v, F n = some u ∧ H n = some v ∧ F (n + m') = some (u + c') ∧ H (n + m') = some (v + c')) → Dom (fun n => chO g (F n) (G n)) H N := fun {m' c'} hm' h' => by
      obtain ⟨k, d, hk, p⟩ := par_three (F := G) (G := F) hm hm' (fun n hn => by obtain ⟨u, v, a, b, x, y⟩ := h n hn; exact ⟨v, u, b, a, y, x⟩) h'
      refine .inr (.inr ⟨k, d, hk, fun n hn => ?_⟩)
      obtain ⟨u, v, w, a1, a2, a3, b1, b2, b3⟩ := p n hn
      refine ⟨cho g v u, w, ?_, a3, ?_, b3⟩
      · show chO g (F n) (G n) = _
        rw [a1, a2, chO_some]
      · show chO g (F (n + k)) (G (n + k)) = _
        rw [b1, b2, chO_some, cho_add]
    rcases gh with gh | gh | ⟨m', c', hm', gh⟩
    · rcases fh with fh | fh | ⟨m', c', hm', fh⟩
      · -- both below H
        refine .inl fun n hn => ?_
        show leO (chO _ (F n) (G n)) (H n)
        rcases leO.total (F n) (G n) with q | q
        · cases g
          · rw [(chO_le q).2]; exact fh n hn
          · rw [(chO_le q).1]; exact gh n hn
        · cases g
          · rw [(chO_ge q).2]; exact gh n hn
          · rw [(chO_ge q).1]; exact fh n hn
      · cases g
        · -- the lesser one is below H
          refine .inl fun n hn => ?_
          show leO (chO _ (F n) (G n)) (H n)
          rcases leO.total (F n) (G n) with q | q
          · rw [(chO_le q).2]; exact q.trans (gh n hn)
          · rw [(chO_ge q).2]; exact gh n hn
        · refine .inr (.inl fun n hn => ?_)
          show leO (H n) (chO _ (F n) (G n))
          rcases leO.total (F n) (G n) with q | q
          · rw [(chO_le q).1]; exact (fh n hn).trans q
          · rw [(chO_ge q).1]; exact fh n hn
      · exact side2 hm' fh
    · rcases fh with fh | fh | ⟨m', c', hm', fh⟩
      · cases g
        · refine .inl fun n hn => ?_
          show leO (chO _ (F n) (G n)) (H n)
          rcases leO.total (F n) (G n) with q | q
          · rw [(chO_le q).2]; exact fh n hn
          · rw [(chO_ge q).2]; exact q.trans (fh n hn)
        · refine .inr (.inl fun n hn => ?_)
          show leO (H n) (chO _ (F n) (G n))
          rcases leO.total (F n) (G n) with q | q
          · rw [(chO_le q).1]; exact gh n hn
          · rw [(chO_ge q).1]; exact (gh n hn).trans q
      · refine .inr (.inl fun n hn => ?_)
        show leO (H n) (chO _ (F n) (G n))
        rcases leO.total (F n) (G n) with q | q
        · cases g
          · rw [(chO_le q).2]; exact fh n hn
          · rw [(chO_le q).1]; exact gh n hn
        · cases g
          · rw [(chO_ge q).2]; exact gh n hn
          · rw [(chO_ge q).1]; exact fh n hn
      · exact side2 hm' fh
    · exact side hm' gh
end NT
set_option linter.all false
set_option maxHeartbeats 4000000
/-! Which of two loops climbs faster; the tellings of the greater and of the lesser one. Plain Lean. -/
namespace NT
/-- the shared rest of two ways -/
theorem shr {X R : Prop} (h1 : R → X) (h2 : R) : X := h1 h2
section
variable {h l h1 l1 h2 l2 : List Int} {r r1 r2 : Int}
theorem num_walk (hl : l ≠ []) {n : Nat} (hn : h.length < n) : num h l r n = walk l r (n - h.length - 1) := by
  unfold num
  rw [at_loop hl hn]
  rfl
theorem num_per (hl : l ≠ []) {n : Nat} (hn : h.length < n) (j : Nat) : num h l r (n + l.length * j) = num h l r n + r * (j : Int) := by
  rw [num_walk hl hn, num_walk hl (by omega), show n + l.length * j - h.length - 1 = (n - h.length - 1) + l.length * j by omega, walk_add_mul (len_pos hl)]
theorem walk_seg (hl : l ≠ []) {st : Nat} (hs : h.length ≤ st) (s : Nat) : walk (segN (at_ h l r) st l.length) r s = num h l r (st + 1 + s) := by
  have l0 := len_pos hl
  have e : st + 1 + s = (st + s % l.length + 1) + l.length * (s / l.length) := by
    have := Nat.mod_add_div s l.length
    omega
  rw [e, num_per hl (by omega)]
  unfold walk
  rw [segN_len, segN_get (Nat.mod_lt _ l0)]
  rfl
theorem leO_num (n1 : l1 ≠ []) (n2 : l2 ≠ []) (n : Nat) : leO (at_ h1 l1 r1 n) (at_ h2 l2 r2 n) ↔ num h1 l1 r1 n ≤ num h2 l2 r2 n := by
  rw [at_some n (.inr n1), at_some n (.inr n2)]
  constructor
  · intro h
    rcases h with h | ⟨x, y, e1, e2, h⟩
    · cases h
    · injection e1 with e1
      injection e2 with e2
      omega
  · intro h
    exact .inr ⟨_, _, rfl, rfl, h⟩
theorem two_laps (n1 : l1 ≠ []) (n2 : l2 ≠ []) {n : Nat} (b1 : h1.length < n) (b2 : h2.length < n) (t : Nat) :
    num h1 l1 r1 (n + l1.length * l2.length * t) - num h2 l2 r2 (n + l1.length * l2.length * t) = num h1 l1 r1 n - num h2 l2 r2 n + (r1 * (l2.length : Int) - r2 * (l1.length : Int)) * (t : Int) := by
  have e1 := num_per (h := h1) (r := r1) n1 b1 (l2.length * t)
  have e2 := num_per (h := h2) (r := r2) n2 b2 (l1.length * t)
  rw [← Nat.mul_assoc] at e1 e2
  rw [Nat.mul_comm l2.length l1.length] at e2
  rw [e1, e2, Int.natCast_mul, Int.natCast_mul, ← Int.mul_assoc, ← Int.mul_assoc, Int.sub_mul]
  omega
theorem dom_drift (n1 : l1 ≠ []) (n2 : l2 ≠ []) {N : Nat} (b1 : h1.length ≤ N) (b2 : h2.length ≤ N) (d : Dom (at_ h1 l1 r1) (at_ h2 l2 r2) N) (hd : 0 < r1 * (l2.length : Int) - r2 * (l1.length : Int)) {n : Nat} (hn : N < n) : num h2 l2 r2 n ≤ num h1 l1 r1 n := by
  rcases d with d | d | ⟨m, c, hm, d⟩
  · exfalso
    have e := two_laps (h1 := h1) (h2 := h2) (r1 := r1) (r2 := r2) (n := n) n1 n2 (by omega) (by omega) ((num h2 l2 r2 n - num h1 l1 r1 n).toNat + 1)
    have k := (leO_num n1 n2 _).mp (d (n + l1.length * l2.length * ((num h2 l2 r2 n - num h1 l1 r1 n).toNat + 1)) (by omega))
    have k0 := (leO_num n1 n2 _).mp (d n hn)
    generalize r1 * (l2.length : Int) - r2 * (l1.length : Int) = D at e hd
    generalize ht : (num h2 l2 r2 n - num h1 l1 r1 n).toNat + 1 = t at e k
    have h3 : 1 * (t : Int) ≤ D * (t : Int) := Int.mul_le_mul_of_nonneg_right (by omega) (by omega)
    omega
  · exact (leO_num n2 n1 _).mp (d n hn)
  · exfalso
    have p1 := par_mul (F := at_ h1 l1 r1) (N := N) (m := m) (c := c) (fun n hn => by obtain ⟨u, v, a, b, x, y⟩ := d n hn; exact ⟨u, a, x⟩) (l1.length * l2.length) n hn
    have p2 := par_mul (F := at_ h2 l2 r2) (N := N) (m := m) (c := c) (fun n hn => by obtain ⟨u, v, a, b, x, y⟩ := d n hn; exact ⟨v, b, y⟩) (l1.length * l2.length) n hn
    obtain ⟨u, a1, a2⟩ := p1
    obtain ⟨v, c1, c2⟩ := p2
    rw [at_some _ (.inr n1)] at a1 a2
    rw [at_some _ (.inr n2)] at c1 c2
    injection a1 with a1
    injection a2 with a2
    injection c1 with c1
    injection c2 with c2
    have e := two_laps (h1 := h1) (h2 := h2) (r1 := r1) (r2 := r2) (n := n) n1 n2 (by omega) (by omega) m
    rw [show l1.length * l2.length * m = m * (l1.length * l2.length) by rw [Nat.mul_comm]] at e
    generalize r1 * (l2.length : Int) - r2 * (l1.length : Int) = D at e hd
    have h3 : 0 < D * (m : Int) := Int.mul_pos hd (by omega)
    omega
/-! ### tellings of both, of either -/
theorem zip_seg {F G : Nat → Option Int} {g : Bool} {a m : Nat} (hF : ∀ n, a < n → n ≤ a + m → F n ≠ none) (hG : ∀ n, a < n → n ≤ a + m → G n ≠ none) : List.zipWith (cho g) (segN F a m) (segN G a m) = segN (fun n => chO g (F n) (G n)) a m := by
  induction m with
  | zero => rfl
  | succ m ih =>
    rw [segN_succ, segN_succ, segN_succ, List.zipWith_append (by rw [segN_len, segN_len]), ih (fun n h k => hF n h (by omega)) fun n h k => hG n h (by omega)]
    congr 1
    show [cho g (numF F (a + m + 1)) (numF G (a + m + 1))] = [numF (fun n => chO g (F n) (G n)) (a + m + 1)]
    have e : chO g (F (a + m + 1)) (G (a + m + 1)) = some (cho g (numF F (a + m + 1)) (numF G (a + m + 1))) := by
      rw [numF_some (hF (a + m + 1) (by omega) (by omega)), numF_some (hG (a + m + 1) (by omega) (by omega)), chO_some]
    congr 1
    show _ = (chO g (F (a + m + 1)) (G (a + m + 1))).getD 0
    rw [e]
    rfl
/-- a row that goes on as a loop goes on -/
theorem tail_form {F : Nat → Option Int} (A : Asc F) (hl : l ≠ []) {N : Nat} (hN : h.length ≤ N) (s : ∀ n, 1 ≤ n → F n ≠ none) (e : ∀ n, N < n → F n = at_ h l r n) :
    Good (segN F 0 N) (segN (at_ h l r) N l.length) r ∧ ∀ n, 1 ≤ n → at_ (segN F 0 N) (segN (at_ h l r) N l.length) r n = F n := by
  have es : segN (at_ h l r) N l.length = segN F N l.length := by
    unfold segN
    refine List.map_congr_left fun k hk => ?_
    unfold numF
    rw [e (N + k + 1) (by omega)]
  rw [es]
  refine looped A (len_pos hl) s fun n hn => ?_
  unfold numF
  rw [e n hn, e (n + l.length) (by omega)]
  have := num_per (h := h) (r := r) hl (show h.length < n by omega) 1
  rw [Nat.mul_one] at this
  unfold num at this
  rw [this]
  omega
theorem lcm_laps (n1 : l1 ≠ []) (n2 : l2 ≠ []) (e : r1 * (l2.length : Int) = r2 * (l1.length : Int)) {n : Nat} (b1 : h1.length < n) (b2 : h2.length < n) :
    num h1 l1 r1 (n + Nat.lcm l1.length l2.length) = num h1 l1 r1 n + r1 * ((Nat.lcm l1.length l2.length : Nat) : Int) / (l1.length : Int) ∧ num h2 l2 r2 (n + Nat.lcm l1.length l2.length) = num h2 l2 r2 n + r1 * ((Nat.lcm l1.length l2.length : Nat) : Int) / (l1.length : Int) := by
  obtain ⟨p, hp⟩ := Nat.dvd_lcm_left l1.length l2.length
  obtain ⟨q, hq⟩ := Nat.dvd_lcm_right l1.length l2.length
  have l10 := len_pos n1
  have l20 := len_pos n2
  have c1 : r1 * ((Nat.lcm l1.length l2.length : Nat) : Int) / (l1.length : Int) = r1 * (p : Int) := by
    rw [hp, Int.natCast_mul, Int.mul_left_comm]
    exact Int.mul_ediv_cancel_left _ (by omega)
  have c2 : r1 * (p : Int) = r2 * (q : Int) := by
    have h3 : (l1.length : Int) * (p : Int) = (l2.length : Int) * (q : Int) := by rw [← Int.natCast_mul, ← Int.natCast_mul, ← hp, ← hq]
    refine Int.eq_of_mul_eq_mul_left (a := (l1.length : Int)) (by omega) ?_
    calc (l1.length : Int) * (r1 * (p : Int)) = r1 * ((l1.length : Int) * (p : Int)) := Int.mul_left_comm ..
      _ = r1 * ((l2.length : Int) * (q : Int)) := by rw [h3]
      _ = r1 * (l2.length : Int) * (q : Int) := (Int.mul_assoc ..).symm
      _ = r2 * (l1.length : Int) * (q : Int) := by rw [e]
      _ = (l1.length : Int) * (r2 * (q : Int)) := by rw [Int.mul_comm r2, Int.mul_assoc]
  refine ⟨?_, ?_⟩
  · rw [c1, hp, num_per n1 b1]
  · rw [c1, c2]
    conv => lhs; rw [hq]
    rw [num_per n2 b2]
/-- two rows side by side: the lap is the least common one -/
theorem side_form {g : Bool} (g1 : Good h1 l1 r1) (g2 : Good h2 l2 r2) (n1 : l1 ≠ []) (n2 : l2 ≠ []) (e : r1 * (l2.length : Int) = r2 * (l1.length : Int)) {N : Nat} (b1 : h1.length ≤ N) (b2 : h2.length ≤ N) :
    Good (segN (fun n => chO g (at_ h1 l1 r1 n) (at_ h2 l2 r2 n)) 0 N) (segN (fun n => chO g (at_ h1 l1 r1 n) (at_ h2 l2 r2 n)) N (Nat.lcm l1.length l2.length)) (r1 * ((Nat.lcm l1.length l2.length : Nat) : Int) / (l1.length : Int)) ∧
    ∀ n, 1 ≤ n → at_ (segN (fun n => chO g (at_ h1 l1 r1 n) (at_ h2 l2 r2 n)) 0 N) (segN (fun n => chO g (at_ h1 l1 r1 n) (at_ h2 l2 r2 n)) N (Nat.lcm l1.length l2.length)) (r1 * ((Nat.lcm l1.length l2.length : Nat) : Int) / (l1.length : Int)) n = chO g (at_ h1 l1 r1 n) (at_ h2 l2 r2 n) := by
  have A := asc_cho (asc_at g1) (asc_at g2) g
  have eq : ∀ n, chO g (at_ h1 l1 r1 n) (at_ h2 l2 r2 n) = some (cho g (num h1 l1 r1 n) (num h2 l2 r2 n)) := fun n => by rw [at_some n (.inr n1), at_some n (.inr n2), chO_some]
  refine looped A (Nat.lcm_pos (len_pos n1) (len_pos n2)) (fun n _ => by show chO g _ _ ≠ none; rw [eq]; exact fun z => by cases z) fun n hn => ?_
  unfold numF
  dsimp only
  rw [eq, eq]
  obtain ⟨x1, x2⟩ := lcm_laps (h1 := h1) (h2 := h2) n1 n2 e (n := n) (by omega) (by omega)
  show cho g _ _ = cho g _ _ + _
  rw [x1, x2, cho_add]
end
end NT
set_option Elab.async false
set_option linter.all false
set_option maxRecDepth 100000
set_option maxHeartbeats 4000000
namespace NT
theorem GreatP.congr {P P' : Nat → Prop} {o : Option Nat} (h : GreatP P o) (e : ∀ s, P' s = P s) : GreatP P' o := by
  rw [show P' = P from funext e]
  exact h
theorem LeastP.congr {P P' : Nat → Prop} {o : Option Nat} (h : LeastP P o) (e : ∀ s, P' s = P s) : LeastP P' o := by
  rw [show P' = P from funext e]
  exact h
end NT
namespace K09
open PySem PySem.Spec PyProof.Rows L2 He NF RZ NT
abbrev Y := List Int × List Int × Int
/-- a table whose loop can be chased -/
structure Fit (y : Y) : Prop where
  g : Good y.1 y.2.1 y.2.2
  h : y.1.length ≤ 1000
  l : y.2.1.length ≤ 400
  r : y.2.2 ≤ 100000
abbrev atY (y : Y) (n : Nat) : Option Int := at_ y.1 y.2.1 y.2.2 n
abbrev numY (y : Y) (n : Nat) : Int := num y.1 y.2.1 y.2.2 n
theorem lead_is {y1 y2 : Y} {A B : List Int} {a b : Int} {st : Nat} (n1 : y1.2.1 ≠ []) (n2 : y2.2.1 ≠ []) (b1 : y1.1.length ≤ st) (b2 : y2.1.length ≤ st) (c : Cond y1.2.1 y2.2.1 y1.2.2 y2.2.2 (segN (atY y1) st y1.2.1.length) (segN (atY y2) st y2.2.1.length) A B a b) (s : Nat) :
    leadD A a B b s = numY y1 (st + 1 + s) - numY y2 (st + 1 + s) := by
  have w1 := walk_seg (r := y1.2.2) n1 b1 s
  have w2 := walk_seg (r := y2.2.2) n2 b2 s
  have ng : ∀ (l : List Int) (r : Int), walk (l.map (- ·)) (-r) s = - walk l r s := fun l r => by
    unfold walk
    rw [List.length_map, List.getD_eq_getElem?_getD, List.getD_eq_getElem?_getD, List.getElem?_map]
    cases l[s % l.length]? with
    | none => show 0 + -r * _ = -(0 + r * _); rw [Int.neg_mul]; omega
    | some v => show -v + -r * _ = -(v + r * _); rw [Int.neg_mul]; omega
  unfold leadD numY
  rcases c with ⟨_, rfl, rfl, rfl, rfl⟩ | ⟨_, rfl, rfl, rfl, rfl⟩
  · rw [w1, w2]
  · rw [ng, ng, w1, w2]
    omega
theorem cond_len {y1 y2 : Y} {A B : List Int} {a b : Int} {st : Nat} (f1 : Fit y1) (f2 : Fit y2) (c : Cond y1.2.1 y2.2.1 y1.2.2 y2.2.2 (segN (atY y1) st y1.2.1.length) (segN (atY y2) st y2.2.1.length) A B a b) :
    A.length ≤ 400 ∧ B.length ≤ 400 ∧ -100000 ≤ a ∧ a ≤ 100000 ∧ -100000 ≤ b ∧ b ≤ 100000 ∧ a * (B.length : Int) - b * (A.length : Int) = y1.2.2 * (y2.2.1.length : Int) - y2.2.2 * (y1.2.1.length : Int) := by
  have r1 := f1.g.r0
  have r2 := f2.g.r0
  have q1 := f1.r
  have q2 := f2.r
  have m1 := f1.l
  have m2 := f2.l
  rcases c with ⟨_, rfl, rfl, rfl, rfl⟩ | ⟨_, rfl, rfl, rfl, rfl⟩
  · rw [segN_len, segN_len]
    exact ⟨m1, m2, by omega, by omega, by omega, by omega, rfl⟩
  · rw [List.length_map, List.length_map, segN_len, segN_len]
    exact ⟨m2, m1, by omega, by omega, by omega, by omega, by rw [Int.neg_mul, Int.neg_mul]; omega⟩
theorem made_same {H : Hp} {x dx : Addr} {o o' : HO} (nx : H x = none) (nd : H dx = none) : Same H (upd (upd H dx o) x o') := fun b u e => by
  rw [upd_ne (ne_of_none e nx), upd_ne (ne_of_none e nd)]
  exact e
def spLongest (K : PySem.W.Frag) (C : Addr) : Sp := fun vs H Q _ => ∃ x1 x2 y1 y2, vs = [.ref x1, .ref x2] ∧ TabAt K C H x1 y1 ∧ TabAt K C H x2 y2 ∧ Q (.int ((max y1.1.length y2.1.length : Nat) : Int)) H
theorem sc_longest_head : FnScope ["first", "second"] ["first", "second"] (defScope s_longest_head) := ⟨rfl, rfl, rfl, by decide +kernel, rfl, by decide +kernel, by decide +kernel⟩
section
variable {P : Program} {w : World} {K : PySem.W.Frag} {mg : Str → Option Value} {base : Heap} {gs fs : List Str} {C : Addr}
theorem ok_longest_head {f : Addr} {fd : FuncData} (F : FunD K "longest_head" "longest_head" (defArgs s_longest_head) (defBody s_longest_head) (defScope s_longest_head) [] [] f fd) (T : Txt K mg gs FS) (tc : TabC K C) : FnOk P w K mg base CX0 1 f fd ["first", "second"] (spLongest K C) := by
  refine F.ok sc_longest_head (fun vs H Q E h => ?_) (fun cdv A outer s H vs Q E hr h => ?_)
  · obtain ⟨x1, x2, y1, y2, rfl, _⟩ := h
    rfl
  · obtain ⟨x1, x2, ⟨h1, l1, r1⟩, ⟨h2, l2, r2⟩, rfl, ⟨dx1, a1, b1, hx1, ha1, hb1⟩, ⟨dx2, a2, b2, hx2, ha2, hb2⟩, q⟩ := h
    dsimp only at hx1 ha1 hb1 hx2 ha2 hb2 q
    refine ⟨_, PSs.nox (pss_one (ps_ret (pe_callB (call_max2 rfl) rfl (T.fr _ (by decide +kernel)) (by decide +kernel) (pa_cons (pe_callB call_len_seq rfl (T.fr _ (by decide +kernel)) boot_len (pa_cons (pe_fld (pv 0) rfl) pa_nil)) (pa_cons (pe_callB call_len_seq rfl (T.fr _ (by decide +kernel)) boot_len (pa_cons (pe_fld (pv 1) rfl) pa_nil)) pa_nil))))), ?_⟩
    refine ⟨_, rfl, x1, C, dx1, _, _, rfl, hx1, tc.cl, tc.hd, rfl, a1, _, rfl, Or.inr ha1, _, rfl, x2, C, dx2, _, _, rfl, hx2, tc.cl, tc.hd, rfl, a2, _, rfl, Or.inr ha2, ?_⟩
    rw [vI_len, vI_len]
    refine ⟨_, _, rfl, ?_⟩
    have e : (if (h2.length : Int) > (h1.length : Int) then (h2.length : Int) else (h1.length : Int)) = ((max h1.length h2.length : Nat) : Int) := by
      by_cases c : (h2.length : Int) > (h1.length : Int)
      · rw [if_pos c]; omega
      · rw [if_neg c]; omega
    show Q (V.int (if (h2.length : Int) > (h1.length : Int) then (h2.length : Int) else (h1.length : Int))) H
    rw [e]
    exact q
end
/-- the least place at which the first table is more than k greater -/
def spExc (K : PySem.W.Frag) (C : Addr) : Sp := fun vs H Q _ => ∃ (x1 x2 : Addr) (y1 y2 : Y) (k : Int), vs = [.ref x1, .ref x2, .int k] ∧ TabAt K C H x1 y1 ∧ TabAt K C H x2 y2 ∧ Fit y1 ∧ Fit y2 ∧ y1.1.length ≤ 900 ∧
  ∀ o H', Least1 (Exc (atY y1) (atY y2) k) o → Same H H' → Q (vN o) H'
theorem sc_first_excess : FnScope ["first", "second", "k", "lead", "found"] ["first", "second", "k"] (defScope s_first_excess) := ⟨rfl, rfl, rfl, by decide +kernel, rfl, by decide +kernel, by decide +kernel⟩
section
variable {P : Program} {w : World} {K : PySem.W.Frag} {mg : Str → Option Value} {base : Heap} {gs fs : List Str} {C CC : Addr}
theorem ok_first_excess {f : Addr} {fd : FuncData} (F : FunD K "first_excess" "first_excess" (defArgs s_first_excess) (defBody s_first_excess) (defScope s_first_excess) [] [] f fd) (T : Txt K mg gs FS) (tc : TabC K C) (c_first_excess_in : Cal P w K mg base 3 "first_excess_in" (spExcIn K C)) (c_longest_head : Cal P w K mg base 1 "longest_head" (spLongest K C)) (m_Chase : Mak P w K mg base 3 0 "Chase" CC (spChase K C CC) []) (o_first_lead : MetC P w K mg base 2 CC "first_lead" (spFirst K CC)) : FnOk P w K mg base CX0 5 f fd ["first", "second", "k"] (spExc K C) := by
  refine F.ok sc_first_excess (fun vs H Q E h => ?_) (fun cdv A outer s H vs Q E hr h => ?_)
  · obtain ⟨x1, x2, y1, y2, k, rfl, _⟩ := h
    rfl
  · obtain ⟨x1, x2, y1, y2, k, rfl, tb1, tb2, f1, f2, h9, q⟩ := h
    have l1 := f1.l
    have l2 := f2.l
    have k1 := f1.h
    have k2 := f2.h
    have r1 := f1.r
    have r2 := f2.r
    have r10 := f1.g.r0
    have r20 := f2.g.r0
    obtain ⟨dx1, a1, b1, hx1, ha1, hb1⟩ := id tb1
    obtain ⟨dx2, a2, b2, hx2, ha2, hb2⟩ := id tb2
    have never : ∀ (y : Y) n, y.2.1 = [] → y.1.length < n → atY y n = none := fun y n e h => by
      show at_ _ _ _ _ = _
      unfold at_
      rw [if_neg (by omega), if_pos e]
    refine ⟨_, PSs.nox (pss_cons (ps_if (pt_not (pt_truth (pe_fld (pv 1) rfl) (fun _ => rfl))) (pss_one (ps_ret (pe_c c_first_excess_in hr (by decide) rfl (pa_cons (pv 0) (pa_cons (pv 1) (pa_cons (pe_callB call_len_seq rfl (T.fr _ (by decide +kernel)) boot_len (pa_cons (pe_fld (pv 1) rfl) pa_nil)) (pa_cons (pv 2) pa_nil))))))) pss_nil) (pss_cons (ps_if (pt_not (pt_truth (pe_fld (pv 0) rfl) (fun _ => rfl))) (pss_one (ps_ret (pe_c c_first_excess_in hr (by decide) rfl (pa_cons (pv 0) (pa_cons (pv 1) (pa_cons (pe_op op_add (pe_callB call_len_seq rfl (T.fr _ (by decide +kernel)) boot_len (pa_cons (pe_fld (pv 0) rfl) pa_nil)) pe_int) (pa_cons (pv 2) pa_nil))))))) pss_nil) (pss_cons (ps_set (i := 3) sc_first_excess.nd rfl (Or.inl rfl) (pe_c c_longest_head hr (by decide) rfl (pa_cons (pv 0) (pa_cons (pv 1) pa_nil)))) (pss_cons (ps_set (i := 4) sc_first_excess.nd rfl (Or.inl rfl) (pe_c c_first_excess_in hr (by decide) rfl (pa_cons (pv 0) (pa_cons (pv 1) (pa_cons (pv 3) (pa_cons (pv 2) pa_nil)))))) (pss_cons (ps_if (pt_cmpR op_isN (pv 4) pe_non (nomark _)) (pss_one (ps_set (i := 4) sc_first_excess.nd rfl (Or.inl rfl) (pe_mt (pe_mk m_Chase hr (by decide) rfl (pa_cons (pv 0) (pa_cons (pv 1) (pa_cons (pv 3) pa_nil)))) o_first_lead hr (by decide) (pa_cons (pv 2) pa_nil)))) pss_nil) (pss_one (ps_ret (pv 4)))))))), ?_⟩
    refine ⟨_, rfl, x2, C, dx2, _, _, rfl, hx2, tc.cl, tc.lp, rfl, _, tru_tup hb2, ?_⟩
    by_cases e2 : y2.2.1 = []
    · rw [is_nil e2]
      refine iteT ⟨_, rfl, _, rfl, _, rfl, x2, C, dx2, _, _, rfl, hx2, tc.cl, tc.hd, rfl, a2, _, rfl, Or.inr ha2, _, rfl, ?_⟩
      rw [vI_len]
      refine ⟨x1, x2, y1, y2, y2.1.length, k, rfl, tb1, tb2, r10, by omega, k1, by omega, r20, by omega, k2, by omega, k2, fun _ => Nat.le_refl _, fun o H' ho s1 => q o H' (ho.all fun n hn => exc_never (never y2 n e2 hn)) s1⟩
    rw [ne_nil e2]
    refine iteF ?_
    refine ⟨_, rfl, x1, C, dx1, _, _, rfl, hx1, tc.cl, tc.lp, rfl, _, tru_tup hb1, ?_⟩
    by_cases e1 : y1.2.1 = []
    · rw [is_nil e1]
      refine iteT ⟨_, rfl, _, rfl, _, rfl, x1, C, dx1, _, _, rfl, hx1, tc.cl, tc.hd, rfl, a1, _, rfl, Or.inr ha1, _, _, rfl, rfl, _, rfl, ?_⟩
      rw [vI_len]
      refine ⟨x1, x2, y1, y2, y1.1.length + 1, k, rfl, tb1, tb2, r10, by omega, k1, by omega, r20, by omega, k2, by omega, by omega, fun z => absurd z e2, fun o H' ho s1 => q o H' ?_ s1⟩
      have far : Exc (atY y1) (atY y2) k (y1.1.length + 1) := exc_none (at_some _ (.inr e2)) (never y1 _ e1 (Nat.lt_succ_self _))
      cases o with
      | none => exact absurd far (ho _ (by omega) (Nat.le_refl _))
      | some n => exact ⟨ho.1, ho.2.2.1, ho.2.2.2⟩
    rw [ne_nil e1]
    refine iteF ?_
    refine ⟨_, rfl, _, rfl, x1, x2, y1, y2, rfl, tb1, tb2, ?_⟩
    obtain ⟨lead, hlead⟩ : ∃ lead, lead = max y1.1.length y2.1.length := ⟨_, rfl⟩
    rw [← hlead]
    refine ⟨_, rfl, _, rfl, _, rfl, _, rfl, x1, x2, y1, y2, lead, k, rfl, tb1, tb2, r10, by omega, k1, by omega, r20, by omega, k2, by omega, by omega, fun z => absurd z e2, fun o H1 ho s1 => ?_⟩
    have one : ∀ n, atY y1 n = some (numY y1 n) := fun n => at_some n (.inr e1)
    have two : ∀ n, atY y2 n = some (numY y2 n) := fun n => at_some n (.inr e2)
    cases o with
    | some n =>
      refine ⟨_, rfl, rfl, _, rfl, iteF' rfl ?_⟩
      exact ⟨_, rfl, q (some n) H1 ⟨ho.1, ho.2.2.1, ho.2.2.2⟩ s1⟩
    | none =>
      refine ⟨_, rfl, rfl, _, rfl, iteT' rfl ?_⟩
      refine ⟨_, rfl, _, rfl, _, rfl, fun x dx nx nd ne => ?_⟩
      have s1m := Same.trans s1 (made_same (o := .own x) (o' := .ins CC dx []) nx nd)
      refine ⟨x, dx, x1, x2, y1, y2, lead, rfl, upd_same, tb1.mono s1m, tb2.mono s1m, e1, e2, r10, r1, r20, r2, k1, l1, k2, l2, by omega, fun A' a B b H2 cond s2 ch => ⟨rfl, ?_⟩⟩
      have s2' := Same.trans s1 (same_made nx nd s2)
      obtain ⟨cA, cB, ca0, ca1, cb0, cb1, cd⟩ := cond_len f1 f2 cond
      have ls := lead_is e1 e2 (by omega) (by omega) cond
      obtain ⟨dx3, lp, rp, lvs, g, W, V_, S, hx, _⟩ := id ch
      refine ⟨x, dx3, _, rfl, hx, rfl, ?_⟩
      refine ⟨_, rfl, x, lead, A', B, a, b, k, rfl, ch, cA, cB, ca0, ca1, cb0, cb1, fun o H3 gp s3 => ?_⟩
      have ex : ∀ s4, (k < leadD A' a B b s4) ↔ Exc (atY y1) (atY y2) k (lead + 1 + s4) := fun s4 => by
        rw [exc_some (two _) (one _), ls s4]
        constructor <;> intro z <;> omega
      refine ⟨_, rfl, q (o.map fun s => lead + 1 + s) H3 ?_ (Same.trans s2' s3)⟩
      cases o with
      | none =>
        intro n n1 z
        by_cases c : n ≤ lead
        · exact ho n n1 c z
        · refine gp (n - (lead + 1)) ((ex _).mpr ?_)
          rw [show lead + 1 + (n - (lead + 1)) = n by omega]
          exact z
      | some s4 =>
        refine ⟨by show 1 ≤ lead + 1 + s4; omega, (ex s4).mp gp.1, fun m m1 m2 z => ?_⟩
        have m2 : m < lead + 1 + s4 := m2
        by_cases c : m ≤ lead
        · exact ho m m1 c z
        · refine gp.2 (m - (lead + 1)) (by omega) ((ex _).mpr ?_)
          rw [show lead + 1 + (m - (lead + 1)) = m by omega]
          exact z
end
end K09
set_option Elab.async false
set_option linter.all false
set_option maxRecDepth 100000
set_option maxHeartbeats 4000000
namespace NT
theorem val_at {h l : List Int} {r : Int} {n : Nat} (hn : 1 ≤ n) : val_ h l r (some n) = at_ h l r n := by
  unfold val_
  dsimp only
  rw [if_neg (by omega)]
/-- the greatest excess of the first row over the second one, over all places, or that there is none -/
def GreatX (F G : Nat → Option Int) : Option Int → Prop
  | none => ∀ k : Int, ∃ n, 1 ≤ n ∧ Exc F G k n
  | some m => 0 ≤ m ∧ (∀ n, 1 ≤ n → ¬ Exc F G m n) ∧ (m = 0 ∨ ∃ n, 1 ≤ n ∧ Exc F G (m - 1) n)
theorem exc_le {F G : Nat → Option Int} {k k' : Int} {n : Nat} (h : k' ≤ k) (e : Exc F G k n) : Exc F G k' n := by
  obtain ⟨b, hb, z⟩ := e
  refine ⟨b, hb, ?_⟩
  cases hF : F n with
  | none => trivial
  | some a =>
    rw [hF] at z
    have : b + k < a := z
    show b + k' < a
    omega
theorem greatX_one {F G : Nat → Option Int} {o o' : Option Int} (h : GreatX F G o) (h' : GreatX F G o') : o = o' := by
  cases o with
  | none =>
    cases o' with
    | none => rfl
    | some m =>
      obtain ⟨n, h1, e⟩ := h m
      exact absurd e (h'.2.1 n h1)
  | some m =>
    cases o' with
    | none =>
      obtain ⟨n, h1, e⟩ := h' m
      exact absurd e (h.2.1 n h1)
    | some m' =>
      congr 1
      have a0 := h.1
      have b0 := h'.1
      rcases Int.lt_trichotomy m m' with c | c | c
      · rcases h'.2.2 with z | ⟨n, n1, e⟩
        · omega
        · exact absurd (exc_le (by omega) e) (h.2.1 n n1)
      · exact c
      · rcases h.2.2 with z | ⟨n, n1, e⟩
        · omega
        · exact absurd (exc_le (by omega) e) (h'.2.1 n n1)
/-- .. up to a place, from 0 on -/
def GreatTo (F G : Nat → Option Int) (N : Nat) (m : Int) : Prop := 0 ≤ m ∧ (∀ n, 1 ≤ n → n ≤ N → ¬ Exc F G m n) ∧ (m = 0 ∨ ∃ n, 1 ≤ n ∧ n ≤ N ∧ Exc F G (m - 1) n)
end NT
namespace K09
open PySem PySem.Spec PyProof.Rows L2 He NF RZ NT
def spDrift (K : PySem.W.Frag) (C : Addr) : Sp := fun vs H Q _ => ∃ x1 x2 y1 y2, vs = [.ref x1, .ref x2] ∧ TabAt K C H x1 y1 ∧ TabAt K C H x2 y2 ∧ Small y1 ∧ Small y2 ∧ Q (.int (y1.2.2 * (y2.2.1.length : Int) - y2.2.2 * (y1.2.1.length : Int))) H
def spGxIn (K : PySem.W.Frag) (C : Addr) : Sp := fun vs H Q _ => ∃ (x1 x2 : Addr) (y1 y2 : Y) (lead : Nat), vs = [.ref x1, .ref x2, .int (lead : Int)] ∧ TabAt K C H x1 y1 ∧ TabAt K C H x2 y2 ∧ Fit y1 ∧ Fit y2 ∧ lead ≤ 1000 ∧ (y1.2.1 = [] → lead ≤ y1.1.length) ∧ (y2.2.1 = [] → lead ≤ y2.1.length) ∧
  ∀ m H', GreatTo (atY y1) (atY y2) lead m → Same H H' → Q (.int m) H'
theorem sc_drift_of : FnScope ["first", "second"] ["first", "second"] (defScope s_drift_of) := ⟨rfl, rfl, rfl, by decide +kernel, rfl, by decide +kernel, by decide +kernel⟩
theorem sc_greatest_excess_in : FnScope ["first", "second", "lead", "leads", "one", "other"] ["first", "second", "lead"] (defScope s_greatest_excess_in) := ⟨rfl, rfl, rfl, by decide +kernel, rfl, by decide +kernel, by decide +kernel⟩
section
variable {P : Program} {w : World} {K : PySem.W.Frag} {mg : Str → Option Value} {base : Heap} {gs fs : List Str} {C CC : Addr}
theorem ok_drift_of {f : Addr} {fd : FuncData} (F : FunD K "drift_of" "drift_of" (defArgs s_drift_of) (defBody s_drift_of) (defScope s_drift_of) [] [] f fd) (T : Txt K mg gs FS) (tc : TabC K C) : FnOk P w K mg base CX0 1 f fd ["first", "second"] (spDrift K C) := by
  refine F.ok sc_drift_of (fun vs H Q E h => ?_) (fun cdv A outer s H vs Q E hr h => ?_)
  · obtain ⟨x1, x2, y1, y2, rfl, _⟩ := h
    rfl
  · obtain ⟨x1, x2, ⟨h1, l1, r1⟩, ⟨h2, l2, r2⟩, rfl, ⟨dx1, a1, b1, hx1, ha1, hb1⟩, ⟨dx2, a2, b2, hx2, ha2, hb2⟩, sm1, sm2, q⟩ := h
    have m1 := sm1.l
    have m2 := sm2.l
    dsimp only at hx1 ha1 hb1 hx2 ha2 hb2 q m1 m2
    refine ⟨_, PSs.nox (pss_one (ps_ret (pe_op op_sub (pe_op op_mul (pe_fld (pv 0) rfl) (pe_callB call_len_seq rfl (T.fr _ (by decide +kernel)) boot_len (pa_cons (pe_fld (pv 1) rfl) pa_nil))) (pe_op op_mul (pe_fld (pv 1) rfl) (pe_callB call_len_seq rfl (T.fr _ (by decide +kernel)) boot_len (pa_cons (pe_fld (pv 0) rfl) pa_nil)))))), ?_⟩
    refine ⟨_, rfl, x1, C, dx1, _, _, rfl, hx1, tc.cl, tc.ri, rfl, _, rfl, x2, C, dx2, _, _, rfl, hx2, tc.cl, tc.lp, rfl, b2, _, rfl, Or.inr hb2, ?_⟩
    rw [vI_len]
    refine ⟨_, _, rfl, rfl, Or.inr ⟨by omega, by omega⟩, _, rfl, x2, C, dx2, _, _, rfl, hx2, tc.cl, tc.ri, rfl, _, rfl, x1, C, dx1, _, _, rfl, hx1, tc.cl, tc.lp, rfl, b1, _, rfl, Or.inr hb1, ?_⟩
    rw [vI_len]
    exact ⟨_, _, rfl, rfl, Or.inr ⟨by omega, by omega⟩, _, _, rfl, rfl, q⟩
theorem ok_greatest_excess_in {f : Addr} {fd : FuncData} (F : FunD K "greatest_excess_in" "greatest_excess_in" (defArgs s_greatest_excess_in) (defBody s_greatest_excess_in) (defScope s_greatest_excess_in) [] [] f fd) (T : Txt K mg gs FS) (c_values_from : Cal P w K mg base 2 "values_from" (spFromO K C)) : FnOk P w K mg base CX0 3 f fd ["first", "second", "lead"] (spGxIn K C) := by
  refine F.ok sc_greatest_excess_in (fun vs H Q E h => ?_) (fun cdv A outer s H vs Q E hr h => ?_)
  · obtain ⟨x1, x2, y1, y2, lead, rfl, _⟩ := h
    rfl
  · obtain ⟨x1, x2, y1, y2, lead, rfl, tb1, tb2, f1, f2, hlead, e1, e2, q⟩ := h
    have l1 := f1.l
    have l2 := f2.l
    have k1 := f1.h
    have k2 := f2.h
    have r1 := f1.r
    have r2 := f2.r
    have r10 := f1.g.r0
    have r20 := f2.g.r0
    have one : ∀ n, 1 ≤ n → n ≤ lead → atY y1 n = some (numY y1 n) := fun n _ hn => at_some n (by
      by_cases c : y1.2.1 = []
      · exact .inl (Nat.le_trans hn (e1 c))
      · exact .inr c)
    have two : ∀ n, 1 ≤ n → n ≤ lead → atY y2 n = some (numY y2 n) := fun n _ hn => at_some n (by
      by_cases c : y2.2.1 = []
      · exact .inl (Nat.le_trans hn (e2 c))
      · exact .inr c)
    refine ⟨_, PSs.nox (pss_cons (ps_setLc (i := 3) (own := [("one", 4), ("other", 5)]) rfl sc_greatest_excess_in.nd rfl rfl (sw_true rfl rfl rfl (by decide +kernel)) (pi_zipA rfl (T.fr _ (by decide +kernel)) (pa_cons (pe_c c_values_from hr (by decide) rfl (pa_cons (pv 0) (pa_cons pe_int (pa_cons (pv 2) pa_nil)))) (pa_cons (pe_c c_values_from hr (by decide) rfl (pa_cons (pv 1) (pa_cons pe_int (pa_cons (pv 2) pa_nil)))) pa_nil))) (blkOk_by (N := ["first", "second", "lead", "leads", "one", "other"]) (sc := defScope s_greatest_excess_in) (by decide +kernel)) (fun _ _ _ _ _ => by exact (pgt (K := K) (n := 2) rfl rfl (pgs_cons (pg_name (i := 4) sc_greatest_excess_in.nd rfl (Or.inl rfl)) (pgs_cons (pg_name (i := 5) sc_greatest_excess_in.nd rfl (Or.inl rfl)) pgs_nil)))) (fun _ _ _ _ _ => by exact pts_nil) (fun _ _ _ _ _ => by exact (pe_op op_sub (pv 4) (pv 5)))) (pss_one (ps_ret (pe_callB (cr_max rfl) rfl (T.fr _ (by decide +kernel)) (by decide +kernel) (pa_cons (pe_op op_cat (pe_lst (pa_cons pe_int pa_nil)) (pv 3)) pa_nil))))), ?_⟩
    refine ⟨_, rfl, _, rfl, x1, y1, 0, lead, rfl, tb1, r10, by omega, k1, by omega, Nat.zero_le _, hlead, fun qa H1 s1 ea => ?_⟩
    refine ⟨_, rfl, _, rfl, x2, y2, 0, lead, rfl, tb2.mono s1, r20, by omega, k2, by omega, Nat.zero_le _, hlead, fun qb H2 s2 eb => ?_⟩
    obtain ⟨D0, hD0⟩ : ∃ D0 : Nat → Int, D0 = fun n => numY y1 (n + 1) - numY y2 (n + 1) := ⟨_, rfl⟩
    have item : ∀ (y : Y), (∀ n, 1 ≤ n → n ≤ lead → atY y n = some (numY y n)) → ∀ i, i < lead → ∀ {v : V}, (vOs (segO (at_ y.1 y.2.1 y.2.2) 0 lead))[i]? = some v → v = V.int (numY y (i + 1)) := fun y hy i hi v hv => by
      unfold vOs at hv
      rw [List.getElem?_map, segO_get hi] at hv
      have := Option.some.inj hv
      rw [show 0 + i + 1 = i + 1 by omega, show at_ y.1 y.2.1 y.2.2 (i + 1) = some (numY y (i + 1)) from hy _ (by omega) (by omega)] at this
      exact this.symm
    refine ⟨qa, qb, _, _, rfl, .inl ⟨SqL.of (s2 _ _ ea), SqL.of eb, fun D hD => ?_⟩⟩
    refine lc_it (walk_zip (xs := vOs (segO (at_ y1.1 y1.2.1 y1.2.2) 0 lead)) (ys := vOs (segO (at_ y2.1 y2.2.1 y2.2.2) 0 lead)) (n := lead) (by rw [vOs_len, vOs_len, segO_len, segO_len]; omega)) (fun j G => Same H2 G ∧ G D = some (.lst (vI ((List.range j).map D0)))) ⟨NF.Same.new (Same.refl H2) hD, upd_same⟩ (fun j G _ z => ⟨L2.Same.seq z.1 (SqL.of (s2 _ _ ea)), L2.Same.seq z.1 (SqL.of eb)⟩) ?_ ?_
    · rintro j x G G' hj ⟨sG, hG⟩ ⟨U, a1, b1, rfl, hU, rfl, hx, hy⟩
      obtain rfl := item y1 one j hj hx
      obtain rfl := item y2 two j hj hy
      refine ⟨U, _, rfl, SqT.of upd_same, rfl, _, _, rfl, _, _, rfl, rfl, rfl, ?_⟩
      refine ⟨_, rfl, _, rfl, _, _, rfl, rfl, _, (upd_ne (ne_of_none hG hU)).trans hG, ?_, NF.Same.mut (NF.Same.new sG hU) hD, ?_⟩
      · rw [vI_len, List.length_map, List.length_range]
        exact Nat.lt_of_le_of_lt (show j ≤ 1000 by omega) (by decide)
      · rw [upd_same, List.range_succ, List.map_append, ← vI_app, hD0]
        rfl
    · rintro G ⟨sG, hG⟩
      refine ⟨(by show 1 ≤ sizeLine; decide), fun u hu => ?_⟩
      have hDu : D ≠ u := ne_of_none hG hu
      refine ⟨_, rfl, u, D, [V.int 0], _, rfl, rfl, upd_same, (upd_ne hDu).trans hG, ?_, fun w hw => ?_⟩
      · rw [vI_len, List.length_map, List.length_range]
        exact Nat.le_trans (show 1 + lead ≤ 1001 by omega) (by decide)
      refine ⟨w, 0 :: (List.range lead).map D0, rfl, SqL.of upd_same, Nat.succ_pos _, fun m hm hl => ?_⟩
      refine q m _ ?_ (Same.trans s1 (Same.trans s2 (Same.trans sG (NF.Same.new (NF.Same.new (Same.refl G) hu) hw))))
      have m0 : 0 ≤ m := hl 0 (List.mem_cons_self ..)
      have ex : ∀ n k, 1 ≤ n → n ≤ lead → (Exc (atY y1) (atY y2) k n ↔ k < D0 (n - 1)) := fun n k h1 h2 => by
        rw [exc_some (two n h1 h2) (one n h1 h2), hD0]
        dsimp only
        rw [Nat.sub_add_cancel h1]
        constructor <;> intro z <;> omega
      refine ⟨m0, fun n h1 h2 z => ?_, ?_⟩
      · have := hl (D0 (n - 1)) (List.mem_cons_of_mem _ (List.mem_map.mpr ⟨n - 1, List.mem_range.mpr (by omega), rfl⟩))
        have := (ex n m h1 h2).mp z
        omega
      · rcases List.mem_cons.mp hm with rfl | hm
        · exact .inl rfl
        · obtain ⟨i, hi, rfl⟩ := List.mem_map.mp hm
          have hi := List.mem_range.mp hi
          refine .inr ⟨i + 1, by omega, by omega, (ex (i + 1) _ (by omega) (by omega)).mpr ?_⟩
          rw [Nat.add_sub_cancel]
          omega
def spGx (K : PySem.W.Frag) (C : Addr) : Sp := fun vs H Q _ => ∃ (x1 x2 : Addr) (y1 y2 : Y), vs = [.ref x1, .ref x2] ∧ TabAt K C H x1 y1 ∧ TabAt K C H x2 y2 ∧ Fit y1 ∧ Fit y2 ∧ y1.1.length ≤ 900 ∧
  ∀ o H', GreatX (atY y1) (atY y2) o → Same H H' → Q (vO o) H'
theorem sc_greatest_excess : FnScope ["first", "second", "lead"] ["first", "second"] (defScope s_greatest_excess) := ⟨rfl, rfl, rfl, by decide +kernel, rfl, by decide +kernel, by decide +kernel⟩
theorem ok_greatest_excess {f : Addr} {fd : FuncData} (F : FunD K "greatest_excess" "greatest_excess" (defArgs s_greatest_excess) (defBody s_greatest_excess) (defScope s_greatest_excess) [] [] f fd) (T : Txt K mg gs FS) (tc : TabC K C) (c_value_at : Cal P w K mg base 2 "value_at" (spAt K C)) (c_greatest_excess_in : Cal P w K mg base 3 "greatest_excess_in" (spGxIn K C)) (c_drift_of : Cal P w K mg base 1 "drift_of" (spDrift K C)) (c_longest_head : Cal P w K mg base 1 "longest_head" (spLongest K C)) (m_Chase : Mak P w K mg base 3 0 "Chase" CC (spChase K C CC) []) (o_greatest_lead : MetC P w K mg base 2 CC "greatest_lead" (spGreatL K CC)) : FnOk P w K mg base CX0 5 f fd ["first", "second"] (spGx K C) := by
  refine F.ok sc_greatest_excess (fun vs H Q E h => ?_) (fun cdv A outer s H vs Q E hr h => ?_)
  · obtain ⟨x1, x2, y1, y2, rfl, _⟩ := h
    rfl
  · obtain ⟨x1, x2, y1, y2, rfl, tb1, tb2, f1, f2, h9, q⟩ := h
    have l1 := f1.l
    have l2 := f2.l
    have k1 := f1.h
    have k2 := f2.h
    have r1 := f1.r
    have r2 := f2.r
    have r10 := f1.g.r0
    have r20 := f2.g.r0
    have sm1 : Small y1 := ⟨k1, by omega, r10, by omega⟩
    have sm2 : Small y2 := ⟨k2, by omega, r20, by omega⟩
    obtain ⟨dx1, a1, b1, hx1, ha1, hb1⟩ := id tb1
    obtain ⟨dx2, a2, b2, hx2, ha2, hb2⟩ := id tb2
    have never : ∀ (y : Y) n, y.2.1 = [] → y.1.length < n → atY y n = none := fun y n e h => by
      show at_ _ _ _ _ = _
      unfold at_
      rw [if_neg (by omega), if_pos e]
    refine ⟨_, PSs.nox (pss_cons (ps_if (pt_not (pt_truth (pe_fld (pv 1) rfl) (fun _ => rfl))) (pss_cons (ps_if (pt_cmpR op_isN (pe_c c_value_at hr (by decide) rfl (pa_cons (pv 0) (pa_cons (pe_callB call_len_seq rfl (T.fr _ (by decide +kernel)) boot_len (pa_cons (pe_fld (pv 1) rfl) pa_nil)) pa_nil))) pe_non (nomark _)) (pss_one (ps_ret pe_non)) pss_nil) (pss_one (ps_ret (pe_c c_greatest_excess_in hr (by decide) rfl (pa_cons (pv 0) (pa_cons (pv 1) (pa_cons (pe_callB call_len_seq rfl (T.fr _ (by decide +kernel)) boot_len (pa_cons (pe_fld (pv 1) rfl) pa_nil)) pa_nil))))))) pss_nil) (pss_cons (ps_if (PW.pt (pw_or (pt_not (pt_truth (pe_fld (pv 0) rfl) (fun _ => rfl))) (pw_or1 (pt_cmpR op_gt (pe_c c_drift_of hr (by decide) rfl (pa_cons (pv 0) (pa_cons (pv 1) pa_nil))) pe_int (nomark _))))) (pss_one (ps_ret pe_non)) pss_nil) (pss_cons (ps_set (i := 2) sc_greatest_excess.nd rfl (Or.inl rfl) (pe_c c_longest_head hr (by decide) rfl (pa_cons (pv 0) (pa_cons (pv 1) pa_nil)))) (pss_one (ps_ret (pe_callB (call_max2 rfl) rfl (T.fr _ (by decide +kernel)) (by decide +kernel) (pa_cons (pe_c c_greatest_excess_in hr (by decide) rfl (pa_cons (pv 0) (pa_cons (pv 1) (pa_cons (pv 2) pa_nil)))) (pa_cons (pe_mt0 (pe_mk m_Chase hr (by decide) rfl (pa_cons (pv 0) (pa_cons (pv 1) (pa_cons (pv 2) pa_nil)))) o_greatest_lead hr (by decide)) pa_nil)))))))), ?_⟩
    refine ⟨_, rfl, x2, C, dx2, _, _, rfl, hx2, tc.cl, tc.lp, rfl, _, tru_tup hb2, ?_⟩
    by_cases e2 : y2.2.1 = []
    · rw [is_nil e2]
      refine iteT ⟨_, rfl, _, rfl, x2, C, dx2, _, _, rfl, hx2, tc.cl, tc.hd, rfl, a2, _, rfl, Or.inr ha2, ?_⟩
      rw [vI_len]
      refine ⟨x1, y1, some y2.1.length, rfl, tb1, sm1, fun H1 s1 => ?_⟩
      have far : ∀ k n, y2.1.length < n → ¬ Exc (atY y1) (atY y2) k n := fun k n hn => exc_never (never y2 n e2 hn)
      cases ev : val_ y1.1 y1.2.1 y1.2.2 (some y2.1.length) with
      | none =>
        refine ⟨rfl, _, rfl, iteT' rfl ?_⟩
        refine q none H1 (fun k => ⟨y2.1.length, ?_, ?_⟩) s1
        · rcases Nat.eq_zero_or_pos y2.1.length with z | z
          · rw [z] at ev
            cases ev
          · exact z
        · have n0 : y2.1.length ≠ 0 := fun z => by rw [z] at ev; cases ev
          exact exc_none (at_some _ (.inl (Nat.le_refl _))) ((val_at (by omega)).symm.trans ev)
      | some v =>
        refine ⟨rfl, _, rfl, iteF' (decide_eq_false fun z => by cases z) ?_⟩
        refine ⟨_, rfl, _, rfl, _, rfl, x2, C, dx2, _, _, rfl, s1 _ _ hx2, tc.cl, tc.hd, rfl, a2, _, rfl, Or.inr (NF.Same.tup s1 ha2), ?_⟩
        rw [vI_len]
        refine ⟨x1, x2, y1, y2, y2.1.length, rfl, tb1.mono s1, tb2.mono s1, f1, f2, k2, fun z => ?_, fun _ => Nat.le_refl _, fun m H2 gt s2 => q (some m) H2 ⟨gt.1, fun n h1 e => ?_, ?_⟩ (Same.trans s1 s2)⟩
        · refine Nat.le_of_not_lt fun c => ?_
          have n0 : 1 ≤ y2.1.length := by omega
          exact absurd (ev.symm.trans ((val_at n0).trans (never y1 _ z c))) (fun z => by cases z)
        · by_cases c : n ≤ y2.1.length
          · exact gt.2.1 n h1 c e
          · exact far _ n (by omega) e
        · rcases gt.2.2 with z | ⟨n, n1, n2, e⟩
          · exact .inl z
          · exact .inr ⟨n, n1, e⟩
    rw [ne_nil e2]
    refine iteF ?_
    refine ⟨_, rfl, x1, C, dx1, _, _, rfl, hx1, tc.cl, tc.lp, rfl, _, tru_tup hb1, ?_⟩
    by_cases e1 : y1.2.1 = []
    · rw [is_nil e1]
      refine iteT (iteT ?_)
      exact q none H (fun k => ⟨y1.1.length + 1, by omega, exc_none (at_some _ (.inr e2)) (never y1 _ e1 (Nat.lt_succ_self _))⟩) (Same.refl H)
    rw [ne_nil e1]
    refine iteF ?_
    have one : ∀ n, atY y1 n = some (numY y1 n) := fun n => at_some n (.inr e1)
    have two : ∀ n, atY y2 n = some (numY y2 n) := fun n => at_some n (.inr e2)
    have ex : ∀ n k, (Exc (atY y1) (atY y2) k n ↔ k < numY y1 n - numY y2 n) := fun n k => by
      rw [exc_some (two n) (one n)]
      constructor <;> intro z <;> omega
    have l10 := len_pos e1
    have l20 := len_pos e2
    refine ⟨_, rfl, _, rfl, x1, x2, y1, y2, rfl, tb1, tb2, sm1, sm2, ?_⟩
    refine ⟨_, _, rfl, rfl, _, rfl, ite2 (fun c => ?_) (fun c => ?_)⟩
    · have c : 0 < y1.2.2 * (y2.2.1.length : Int) - y2.2.2 * (y1.2.1.length : Int) := of_decide_eq_true c
      refine q none H (fun k => ?_) (Same.refl H)
      obtain ⟨n0, hn0⟩ : ∃ n0, n0 = y1.1.length + y2.1.length + 1 := ⟨_, rfl⟩
      obtain ⟨j, hj⟩ : ∃ j : Nat, j = (k - (numY y1 n0 - numY y2 n0)).toNat + 1 := ⟨_, rfl⟩
      refine ⟨n0 + y1.2.1.length * (y2.2.1.length * j), by omega, (ex _ _).mpr ?_⟩
      have i1 := num_per (h := y1.1) (r := y1.2.2) e1 (show y1.1.length < n0 by omega) (y2.2.1.length * j)
      have i2 := num_per (h := y2.1) (r := y2.2.2) e2 (show y2.1.length < n0 by omega) (y1.2.1.length * j)
      have em : y1.2.1.length * (y2.2.1.length * j) = y2.2.1.length * (y1.2.1.length * j) := Nat.mul_left_comm ..
      show k < num _ _ _ _ - num _ _ _ _
      rw [i1, em, i2, Int.natCast_mul, Int.natCast_mul, ← Int.mul_assoc, ← Int.mul_assoc]
      have e3 : y1.2.2 * (y2.2.1.length : Int) * (j : Int) - y2.2.2 * (y1.2.1.length : Int) * (j : Int) = (y1.2.2 * (y2.2.1.length : Int) - y2.2.2 * (y1.2.1.length : Int)) * (j : Int) := by rw [Int.sub_mul]
      have e4 : 1 * (j : Int) ≤ (y1.2.2 * (y2.2.1.length : Int) - y2.2.2 * (y1.2.1.length : Int)) * (j : Int) := Int.mul_le_mul_of_nonneg_right (by omega) (by omega)
      have : numY y1 n0 = num y1.1 y1.2.1 y1.2.2 n0 := rfl
      have : numY y2 n0 = num y2.1 y2.2.1 y2.2.2 n0 := rfl
      omega
    · have c : ¬ 0 < y1.2.2 * (y2.2.1.length : Int) - y2.2.2 * (y1.2.1.length : Int) := fun z => c (decide_eq_true z)
      refine ⟨_, rfl, _, rfl, x1, x2, y1, y2, rfl, tb1, tb2, ?_⟩
      obtain ⟨lead, hlead⟩ : ∃ lead, lead = max y1.1.length y2.1.length := ⟨_, rfl⟩
      rw [← hlead]
      refine ⟨_, rfl, _, rfl, _, rfl, x1, x2, y1, y2, lead, rfl, tb1, tb2, f1, f2, by omega, fun z => absurd z e1, fun z => absurd z e2, fun m1 H1 gt s1 => ?_⟩
      refine ⟨_, rfl, _, rfl, _, rfl, fun x dx nx nd ne => ?_⟩
      have s1m := Same.trans s1 (made_same (o := .own x) (o' := .ins CC dx []) nx nd)
      refine ⟨x, dx, x1, x2, y1, y2, lead, rfl, upd_same, tb1.mono s1m, tb2.mono s1m, e1, e2, r10, r1, r20, r2, k1, l1, k2, l2, by omega, fun A' a B b H2 cond s2 ch => ⟨rfl, ?_⟩⟩
      have s2' := Same.trans s1 (same_made nx nd s2)
      obtain ⟨cA, cB, ca0, ca1, cb0, cb1, cd⟩ := cond_len f1 f2 cond
      have ls := lead_is e1 e2 (by omega) (by omega) cond
      obtain ⟨dx3, lp, rp, lvs, g, W, V_, S, hx, _⟩ := id ch
      refine ⟨x, dx3, _, rfl, hx, rfl, ?_⟩
      refine ⟨x, lead, A', B, a, b, rfl, ch, cA, cB, by omega, fun m2 H3 gl s3 => ?_⟩
      refine ⟨_, _, rfl, ?_⟩
      show Q (V.int (if m2 > m1 then m2 else m1)) H3
      refine q (some (if m2 > m1 then m2 else m1)) H3 ?_ (Same.trans s2' s3)
      have m10 := gt.1
      have top : ∀ n, 1 ≤ n → ¬ Exc (atY y1) (atY y2) (if m2 > m1 then m2 else m1) n := fun n h1 e => by
        by_cases cn : n ≤ lead
        · refine gt.2.1 n h1 cn (exc_le ?_ e)
          split <;> omega
        · have := gl.1 (n - (lead + 1))
          rw [ls, show lead + 1 + (n - (lead + 1)) = n by omega] at this
          have := (ex n _).mp e
          split at this <;> omega
      refine ⟨by split <;> omega, top, ?_⟩
      by_cases cm : m2 > m1
      · rw [if_pos cm]
        obtain ⟨s4, h4⟩ := gl.2
        refine .inr ⟨lead + 1 + s4, by omega, (ex _ _).mpr ?_⟩
        rw [ls] at h4
        omega
      · rw [if_neg cm]
        rcases gt.2.2 with z | ⟨n, n1, n2, e⟩
        · exact .inl z
        · exact .inr ⟨n, n1, e⟩
end
end K09
set_option Elab.async false
set_option linter.all false
set_option maxRecDepth 100000
set_option maxHeartbeats 4000000
namespace K09
open PySem PySem.Spec PyProof.Rows L2 He NF RZ NT
/-- things that may stand where a number is wanted -/
inductive ThK (K : PySem.W.Frag) (H : Hp) : V → Prop
  | int (i : Int) : ThK K H (.int i)
  | bl (b : Bool) : ThK K H (.bl b)
  | str (x : Str) : ThK K H (.str x)
  | non : ThK K H .non
  | ref {a : Addr} {t : String} (h : TyX K H (.ref a) (.type t)) (ht : t = "tuple" ∨ t = "list" ∨ t = "dict") : ThK K H (.ref a)
def isInt : V → Bool
  | .int _ => true
  | _ => false
def isCnt : V → Bool
  | .int i => decide (0 ≤ i)
  | _ => false
def spIsIntT (K : PySem.W.Frag) : Sp := fun vs H Q _ => ∃ v, vs = [v] ∧ ThK K H v ∧ Q (.bl (isInt v)) H
def spIsCountT (K : PySem.W.Frag) : Sp := fun vs H Q _ => ∃ v, vs = [v] ∧ ThK K H v ∧ Q (.bl (isCnt v)) H
theorem kit0 (K : PySem.W.Frag) {t : String} (ht : t = "tuple" ∨ t = "list" ∨ t = "dict") : PySem.W.kitOne K (.type t) (.type "int") = some false := by
  rcases ht with rfl | rfl | rfl <;> kernel_rfl
theorem tyx_mono {K : PySem.W.Frag} {H H' : Hp} {a : Addr} {t : String} (s : Same H H') (h : TyX K H (.ref a) (.type t)) : TyX K H' (.ref a) (.type t) := by
  cases h with
  | base b =>
    cases b with
    | lst e => exact .base (.lst (s _ _ e))
    | frz e => exact .base (.frz (s _ _ e))
    | tup e => exact .base (.tup (s _ _ e))
    | dK e => exact .base (.dK (s _ _ e))
    | dT e => exact .base (.dT (s _ _ e))
  | set e => exact .set (s _ _ e)
  | kList e c => exact .kList e c
  | kTuple e c => exact .kTuple e c
  | kDict e c => exact .kDict e c
  | fTuple e => exact .fTuple (s _ _ e)
  | fDict e => exact .fDict (s _ _ e)
theorem ThK.mono {K : PySem.W.Frag} {H H' : Hp} {v : V} (h : ThK K H v) (s : Same H H') : ThK K H' v := by
  cases h with
  | int i => exact .int i
  | bl b => exact .bl b
  | str x => exact .str x
  | non => exact .non
  | ref h ht => exact .ref (tyx_mono s h) ht
structure GapC (K : PySem.W.Frag) (C : Addr) : Prop where
  cl : Cls K C
  fi : NoAttr K C "first"
  se : NoAttr K C "second"
  mo : NoAttr K C "most"
  pl : NoAttr K C "place"
def gpf (x1 x2 : Addr) (o : Option Int) (p : Option Nat) : List (Str × V) := [("first", .ref x1), ("second", .ref x2), ("most", vO o), ("place", vN p)]
/-- where the greatest excess is first -/
def PlaceOk (F G : Nat → Option Int) : Option Int → Option Nat → Prop
  | none, p => p = none
  | some m, p => (m = 0 ∧ p = some 0) ∨ (0 < m ∧ Least1 (Exc F G (m - 1)) p)
def GapAt (K : PySem.W.Frag) (CT C : Addr) (H : Hp) (x x1 x2 : Addr) (y1 y2 : Y) (o : Option Int) (p : Option Nat) : Prop := ∃ dx, H x = some (.ins C dx (gpf x1 x2 o p)) ∧ TabAt K CT H x1 y1 ∧ TabAt K CT H x2 y2
theorem GapAt.mono {K : PySem.W.Frag} {CT C : Addr} {H H' : Hp} {x x1 x2 : Addr} {y1 y2 : Y} {o : Option Int} {p : Option Nat} (h : GapAt K CT C H x x1 x2 y1 y2 o p) (s : Same H H') : GapAt K CT C H' x x1 x2 y1 y2 o p := by
  obtain ⟨dx, h1, h2, h3⟩ := h
  exact ⟨dx, s _ _ h1, h2.mono s, h3.mono s⟩
def spGInit (K : PySem.W.Frag) (CT C : Addr) : Sp := fun vs H Q _ => ∃ (x dx x1 x2 : Addr) (y1 y2 : Y), vs = [.ref x, .ref x1, .ref x2] ∧ H x = some (.ins C dx []) ∧ TabAt K CT (NF.wo H x) x1 y1 ∧ TabAt K CT (NF.wo H x) x2 y2 ∧ Fit y1 ∧ Fit y2 ∧ y1.1.length ≤ 900 ∧
  ∀ o p H', GreatX (atY y1) (atY y2) o → PlaceOk (atY y1) (atY y2) o p → Same (NF.wo H x) H' → H' x = some (.ins C dx (gpf x1 x2 o p)) → Q .non H'
def spGap (K : PySem.W.Frag) (CT C : Addr) : Sp := fun vs H Q _ => ∃ (x1 x2 : Addr) (y1 y2 : Y), vs = [.ref x1, .ref x2] ∧ TabAt K CT H x1 y1 ∧ TabAt K CT H x2 y2 ∧ Fit y1 ∧ Fit y2 ∧ y1.1.length ≤ 900 ∧
  ∀ x o p H', GreatX (atY y1) (atY y2) o → PlaceOk (atY y1) (atY y2) o p → Same H H' → GapAt K CT C H' x x1 x2 y1 y2 o p → Q (.ref x) H'
def spBeyond (K : PySem.W.Frag) (CT C : Addr) : Sp := fun vs H Q E => ∃ (x x1 x2 : Addr) (y1 y2 : Y) (o : Option Int) (p : Option Nat) (v : V), vs = [.ref x, v] ∧ GapAt K CT C H x x1 x2 y1 y2 o p ∧ Fit y1 ∧ Fit y2 ∧ y1.1.length ≤ 900 ∧ ThK K H v ∧
  (∀ k o' H', v = .int k → 0 ≤ k → Least1 (Exc (atY y1) (atY y2) k) o' → Same H H' → Q (vN o') H') ∧
  (isCnt v = false → ∀ d H', Same H H' → H d = none → H' d = some (.xd [("thing", v)]) → E (.ref (ga K "BadCount")) (some d) H')
theorem sc_Gap___init__ : FnScope ["self", "first", "second"] ["self", "first", "second"] (defScope s_Gap_init) := ⟨rfl, rfl, rfl, by decide +kernel, rfl, by decide +kernel, by decide +kernel⟩
theorem sc_Gap_beyond : FnScope ["self", "k"] ["self", "k"] (defScope s_Gap_beyond) := ⟨rfl, rfl, rfl, by decide +kernel, rfl, by decide +kernel, by decide +kernel⟩
theorem sc_gap : FnScope ["first", "second"] ["first", "second"] (defScope s_gap) := ⟨rfl, rfl, rfl, by decide +kernel, rfl, by decide +kernel, by decide +kernel⟩
section
variable {P : Program} {w : World} {K : PySem.W.Frag} {mg : Str → Option Value} {base : Heap} {gs fs : List Str} {C CT : Addr}
theorem ok_is_integerT {f : Addr} {fd : FuncData} (F : FunD K "is_integer" "is_integer" (defArgs s_is_integer) (defBody s_is_integer) (defScope s_is_integer) [] [] f fd) (T : Txt K mg gs FS) : FnOk P w K mg base CX0 1 f fd ["thing"] (spIsIntT K) := by
  refine F.ok sc_is_integer (fun vs H Q E h => ?_) (fun cdv A outer s H vs Q E hr h => ?_)
  · obtain ⟨i, rfl, _⟩ := h
    rfl
  · obtain ⟨v, rfl, hv, q⟩ := h
    refine ⟨_, PSs.nox (pss_one (ps_ret (pe_and (pe_callB call_isi rfl (T.fr _ (by decide +kernel)) (by decide +kernel) (pa_cons (pv 0) (pa_cons (pe_bltn (v := .ty "int") rfl (T.fr _ (by decide +kernel)) (by decide +kernel) rfl) pa_nil))) (pe_one (pe_not (pe_callB call_isi rfl (T.fr _ (by decide +kernel)) (by decide +kernel) (pa_cons (pv 0) (pa_cons (pe_bltn (v := .ty "bool") rfl (T.fr _ (by decide +kernel)) (by decide +kernel) rfl) pa_nil)))))))), ?_⟩
    cases hv with
    | int i => exact ⟨_, rfl, _, _, _, _, true, rfl, .ty "int", .base (.int i), kit_i_i K, true, rfl, _, rfl, _, _, _, _, false, rfl, .ty "bool", .base (.int i), kit_i_b K, false, rfl, q⟩
    | bl b => exact ⟨_, rfl, _, _, _, _, true, rfl, .ty "int", .base (.bl b), (by kernel_rfl), true, rfl, _, rfl, _, _, _, _, true, rfl, .ty "bool", .base (.bl b), kit_b_b K, true, rfl, q⟩
    | str x => exact ⟨_, rfl, _, _, _, _, false, rfl, .ty "int", .base (.str x), (by kernel_rfl), false, rfl, q⟩
    | non => exact ⟨_, rfl, _, _, _, _, false, rfl, .ty "int", .base .non, (by kernel_rfl), false, rfl, q⟩
    | ref h ht => exact ⟨_, rfl, _, _, _, _, false, rfl, .ty "int", h, kit0 K ht, false, rfl, q⟩
theorem ok_is_countT {f : Addr} {fd : FuncData} (F : FunD K "is_count" "is_count" (defArgs s_is_count) (defBody s_is_count) (defScope s_is_count) [] [] f fd) (T : Txt K mg gs FS) (c_is_integer : Cal P w K mg base 1 "is_integer" (spIsIntT K)) : FnOk P w K mg base CX0 2 f fd ["thing"] (spIsCountT K) := by
  refine F.ok sc_is_count (fun vs H Q E h => ?_) (fun cdv A outer s H vs Q E hr h => ?_)
  · obtain ⟨i, rfl, _⟩ := h
    rfl
  · obtain ⟨v, rfl, hv, q⟩ := h
    refine ⟨_, PSs.nox (pss_one (ps_ret (pe_and (pe_c c_is_integer hr (by decide) rfl (pa_cons (pv 0) pa_nil)) (pe_one (pe_cmpR op_ge (pv 0) pe_int (nomark _)))))), ?_⟩
    refine ⟨_, rfl, v, rfl, hv, ?_⟩
    cases hv with
    | int i => exact ⟨true, rfl, _, rfl, _, _, rfl, rfl, q⟩
    | bl b => exact ⟨false, rfl, q⟩
    | str x => exact ⟨false, rfl, q⟩
    | non => exact ⟨false, rfl, q⟩
    | ref h ht => exact ⟨false, rfl, q⟩
theorem made_wo {H : Hp} {x dx : Addr} {o o' : HO} (nx : H x = none) (nd : H dx = none) : Same H (NF.wo (upd (upd H dx o) x o') x) := fun b u e => by
  rw [wo_ne (ne_of_none e nx), upd_ne (ne_of_none e nx), upd_ne (ne_of_none e nd)]
  exact e
theorem ok_Gap_init {f : Addr} {fd : FuncData} (F : FunD K "__init__" "Gap.__init__" (defArgs s_Gap_init) (defBody s_Gap_init) (defScope s_Gap_init) [] [] f fd) (T : Txt K mg gs FS) (hg : GapC K C) (c_greatest_excess : Cal P w K mg base 5 "greatest_excess" (spGx K CT)) (c_first_excess : Cal P w K mg base 5 "first_excess" (spExc K CT)) : FnOk P w K mg base CX0 6 f fd ["self", "first", "second"] (spGInit K CT C) := by
  refine F.ok sc_Gap___init__ (fun vs H Q E h => ?_) (fun cdv A outer s H vs Q E hr h => ?_)
  · obtain ⟨x, dx, x1, x2, y1, y2, rfl, _⟩ := h
    rfl
  · obtain ⟨x, dx, x1, x2, y1, y2, rfl, hx, tb1, tb2, f1, f2, h9, q⟩ := h
    refine ⟨_, PSs.nox (pss_cons (ps_fld (pv 0) (pv 1) rfl) (pss_cons (ps_fld (pv 0) (pv 2) rfl) (pss_cons (ps_fld (pv 0) (pe_c c_greatest_excess hr (by decide) rfl (pa_cons (pv 1) (pa_cons (pv 2) pa_nil))) rfl) (pss_cons (ps_fld (pv 0) (pe_fld (pv 0) rfl) rfl) (pss_one (ps_if (PW.pt (pw_and (pt_cmpR op_notN (pe_fld (pv 0) rfl) pe_non (nomark _)) (pw_and1 (pt_cmpR op_gt (pe_fld (pv 0) rfl) pe_int (nomark _))))) (pss_one (ps_fld (pv 0) (pe_c c_first_excess hr (by decide) rfl (pa_cons (pv 1) (pa_cons (pv 2) (pa_cons (pe_op op_sub (pe_fld (pv 0) rfl) pe_int) pa_nil)))) rfl)) pss_nil)))))), ?_⟩
    have sw : ∀ (H' : Hp) u, Same (NF.wo H x) H' → Same (NF.wo H x) (upd H' x u) := fun H' u s1 => NF.Same.put s1 wo_none
    refine ⟨_, rfl, _, rfl, x, C, dx, _, rfl, hx, hg.cl, hg.fi, (show 0 < 1000 by decide), ?_⟩
    refine ⟨_, rfl, _, rfl, x, C, dx, _, rfl, upd_same, hg.cl, hg.se, (show 1 < 1000 by decide), ?_⟩
    have s2 := sw _ (.ins C dx (putF "second" (V.ref x2) (putF "first" (V.ref x1) []))) (sw _ (.ins C dx (putF "first" (V.ref x1) [])) (wo_same' (H := H)))
    have hx2 := upd_same (H := (upd H x (.ins C dx (putF "first" (V.ref x1) [])))) (a := x) (o := .ins C dx (putF "second" (V.ref x2) (putF "first" (V.ref x1) [])))
    generalize upd (upd H x (.ins C dx (putF "first" (V.ref x1) []))) x (.ins C dx (putF "second" (V.ref x2) (putF "first" (V.ref x1) []))) = H2 at s2 hx2
    refine ⟨_, rfl, _, rfl, x1, x2, y1, y2, rfl, tb1.mono s2, tb2.mono s2, f1, f2, h9, fun o H3 go s3 => ?_⟩
    refine ⟨_, rfl, x, C, dx, _, rfl, s3 _ _ hx2, hg.cl, hg.mo, (show 2 < 1000 by decide), ?_⟩
    refine ⟨_, rfl, x, C, dx, _, _, rfl, upd_same, hg.cl, hg.mo, rfl, _, rfl, x, C, dx, _, rfl, upd_same, hg.cl, hg.pl, (show 3 < 1000 by decide), ?_⟩
    have s5 := sw _ (.ins C dx [("first", .ref x1), ("second", .ref x2), ("most", vO o), ("place", vO o)]) (sw _ (.ins C dx [("first", .ref x1), ("second", .ref x2), ("most", vO o)]) (Same.trans s2 s3))
    have hx5 : (upd (upd H3 x (.ins C dx [("first", .ref x1), ("second", .ref x2), ("most", vO o)])) x (.ins C dx [("first", .ref x1), ("second", .ref x2), ("most", vO o), ("place", vO o)])) x = some (.ins C dx [("first", .ref x1), ("second", .ref x2), ("most", vO o), ("place", vO o)]) := upd_same
    refine' shr (X := _) (R := ∀ H5, Same (NF.wo H x) H5 → H5 x = some (.ins C dx [("first", .ref x1), ("second", .ref x2), ("most", vO o), ("place", vO o)]) → (?R : Hp → Prop) H5) (fun kk => ?A) ?B
    case A => exact kk _ s5 hx5
    case B =>
      clear hx5 s5
      intro H5 s5 hx5
      cases o with
      | none =>
        refine ⟨_, rfl, x, C, dx, _, _, rfl, hx5, hg.cl, hg.mo, rfl, rfl, _, rfl, iteF' rfl (iteF ?_)⟩
        exact q none none H5 go rfl s5 hx5
      | some m =>
        refine ⟨_, rfl, x, C, dx, _, _, rfl, hx5, hg.cl, hg.mo, rfl, rfl, _, rfl, iteT' rfl ?_⟩
        refine ⟨_, rfl, x, C, dx, _, _, rfl, hx5, hg.cl, hg.mo, rfl, _, _, rfl, rfl, _, rfl, ite2 (fun c => ?_) (fun c => ?_)⟩
        · have c : 0 < m := of_decide_eq_true c
          refine ⟨_, rfl, _, rfl, _, rfl, x, C, dx, _, _, rfl, hx5, hg.cl, hg.mo, rfl, _, _, rfl, rfl, ?_⟩
          refine ⟨x1, x2, y1, y2, m - 1, rfl, tb1.mono s5, tb2.mono s5, f1, f2, h9, fun p H6 lp s6 => ?_⟩
          refine ⟨_, rfl, x, C, dx, _, rfl, s6 _ _ hx5, hg.cl, hg.pl, (show 4 < 1000 by decide), ?_⟩
          exact q (some m) p _ go (.inr ⟨c, lp⟩) (sw _ _ (Same.trans s5 s6)) upd_same
        · have c : ¬ 0 < m := fun z => c (decide_eq_true z)
          have m0 : m = 0 := by have := go.1; omega
          subst m0
          exact q (some 0) (some 0) H5 go (.inl ⟨rfl, rfl⟩) s5 hx5
theorem ok_gap {f : Addr} {fd : FuncData} (F : FunD K "gap" "gap" (defArgs s_gap) (defBody s_gap) (defScope s_gap) [] [] f fd) (T : Txt K mg gs FS) (m_Gap2 : Mak P w K mg base 6 0 "Gap" C (spGInit K CT C) []) : FnOk P w K mg base CX0 8 f fd ["first", "second"] (spGap K CT C) := by
  refine F.ok sc_gap (fun vs H Q E h => ?_) (fun cdv A outer s H vs Q E hr h => ?_)
  · obtain ⟨x1, x2, y1, y2, rfl, _⟩ := h
    rfl
  · obtain ⟨x1, x2, y1, y2, rfl, tb1, tb2, f1, f2, h9, q⟩ := h
    refine ⟨_, PSs.nox (pss_one (ps_ret (pe_mk m_Gap2 hr (by decide) rfl (pa_cons (pv 0) (pa_cons (pv 1) pa_nil))))), ?_⟩
    refine ⟨_, rfl, _, rfl, fun x dx nx nd ne => ?_⟩
    refine ⟨x, dx, x1, x2, y1, y2, rfl, upd_same, tb1.mono (made_wo nx nd), tb2.mono (made_wo nx nd), f1, f2, h9, fun o p H2 go po s2 hx2 => ⟨rfl, ?_⟩⟩
    have s1 := Same.trans (made_wo nx nd) s2
    exact q x o p H2 go po s1 ⟨dx, hx2, tb1.mono s1, tb2.mono s1⟩
theorem ok_Gap_beyond {f : Addr} {fd : FuncData} (F : FunD K "beyond" "Gap.beyond" (defArgs s_Gap_beyond) (defBody s_Gap_beyond) (defScope s_Gap_beyond) [] [] f fd) (T : Txt K mg gs FS) (hg : GapC K C) (m_BadCount : ExcI P w K mg base "BadCount" "thing") (c_is_count : Cal P w K mg base 2 "is_count" (spIsCountT K)) (c_first_excess : Cal P w K mg base 5 "first_excess" (spExc K CT)) : FnOk P w K mg base (L2.CX P w) 6 f fd ["self", "k"] (spBeyond K CT C) := by
  refine F.ok sc_Gap_beyond (fun vs H Q E h => ?_) (fun cdv A outer s H vs Q E hr h => ?_)
  · obtain ⟨x, x1, x2, y1, y2, o, p, v, rfl, _⟩ := h
    rfl
  · obtain ⟨x, x1, x2, y1, y2, o, p, v, rfl, ⟨dx, hx, tb1, tb2⟩, f1, f2, h9, hv, q, e⟩ := h
    refine ⟨_, (pss_cons (ps_if (pt_not (pt_val (pe_c c_is_count hr (by decide) rfl (pa_cons (pv 1) pa_nil)))) (pss_one (ps_rz rfl (takes_of rfl rfl rfl rfl) m_BadCount hr (by decide) rfl (pv 1))) pss_nil) (pss_one (ps_ret (pe_c c_first_excess hr (by decide) rfl (pa_cons (pe_fld (pv 0) rfl) (pa_cons (pe_fld (pv 0) rfl) (pa_cons (pv 1) pa_nil))))))), ?_⟩
    refine ⟨_, rfl, v, rfl, hv, _, rfl, ?_⟩
    cases hi : isCnt v with
    | false =>
      refine iteT ?_
      exact ⟨_, rfl, raise_done fun d H2 hd s2 hx => e hi d H2 s2 hd hx⟩
    | true =>
      refine iteF ?_
      obtain ⟨k, rfl, k0⟩ : ∃ k : Int, v = .int k ∧ 0 ≤ k := by
        cases v with
        | int k => exact ⟨k, rfl, of_decide_eq_true hi⟩
        | _ => cases hi
      refine ⟨_, rfl, x, C, dx, _, _, rfl, hx, hg.cl, hg.fi, rfl, _, rfl, x, C, dx, _, _, rfl, hx, hg.cl, hg.se, rfl, _, rfl, ?_⟩
      exact ⟨x1, x2, y1, y2, k, rfl, tb1, tb2, f1, f2, h9, fun o' H' lo s => q k o' H' rfl k0 lo s⟩
end
end K09
set_option Elab.async false
set_option linter.all false
set_option maxRecDepth 100000
set_option maxHeartbeats 4000000
namespace NT
theorem climbs_map {f : Int → Int} (m : ∀ a b, a ≤ b → f a ≤ f b) : ∀ {l : List Int} {lo : Int}, climbs lo l → climbs (f lo) (l.map f)
  | [], _, _ => trivial
  | x :: l, _, c => ⟨m _ _ c.1, climbs_map m c.2⟩
theorem getD_map0 {f : Int → Int} {l : List Int} {i : Nat} (h : i < l.length) : (l.map f).getD i 0 = f (l.getD i 0) := by
  rw [List.getD_eq_getElem?_getD, List.getD_eq_getElem?_getD, List.getElem?_map, List.getElem?_eq_getElem h]
  rfl
end NT
namespace K09
open PySem PySem.Spec PyProof.Rows L2 He NF RZ NT
theorem climbs_app : ∀ {h l : List Int} {lo : Int}, climbs lo h → climbs lo l → (h ≠ [] → l ≠ [] → h.getD (h.length - 1) 0 ≤ l.getD 0 0) → climbs lo (h ++ l)
  | [], _, _, _, b, _ => b
  | x :: [], l, lo, a, b, j => by
    refine ⟨a.1, ?_⟩
    cases l with
    | nil => trivial
    | cons y l => exact ⟨j (by simp) (by simp), b.2⟩
  | x :: y :: h, l, lo, a, b, j => by
    refine ⟨a.1, climbs_app (h := y :: h) a.2 ?_ fun _ n => j (by simp) n⟩
    have := j (by simp)
    cases l with
    | nil => trivial
    | cons z l =>
      have j1 : (x :: y :: h).getD ((x :: y :: h).length - 1) 0 ≤ z := this (by simp)
      have c2 := climbs_last (l := x :: y :: h) a (by simp)
      have c3 : (x :: y :: h).getD 0 0 = x := rfl
      exact ⟨by omega, b.2⟩
/-- a table that the law compares: few entries -/
structure Nr (y : Y) : Prop where
  g : Good y.1 y.2.1 y.2.2
  h : y.1.length ≤ 8
  l : y.2.1.length ≤ 4
  r : y.2.2 ≤ 11
theorem Nr.of {y : Y} (a : Raw0 y) : Nr y := ⟨a.g, Nat.le_trans a.h (by decide), a.l, Int.le_trans a.r (by decide)⟩
theorem Nr.ok {y : Y} (a : Nr y) : RawOk y := ⟨a.g, Nat.le_trans a.h (by decide), Nat.le_trans a.l (by decide), Int.le_trans a.r (by decide)⟩
theorem Nr.less {h l : List Int} {r : Int} (a : Raw0 (h, l, r)) (hl : l ≠ []) : Nr (h, l, if r - 1 > l.getD (l.length - 1) 0 - l.getD 0 0 then r - 1 else l.getD (l.length - 1) 0 - l.getD 0 0) := by
  have g := a.g
  have g1 := g.last hl
  have g2 := climbs_last g.lp hl
  have ar := a.r
  dsimp only at g1 g2 ar g
  refine ⟨⟨g.hd, g.lp, g.join, ?_, fun z => absurd z hl, fun _ => ?_⟩, Nat.le_trans a.h (by decide), a.l, ?_⟩
  · dsimp only
    split <;> omega
  · dsimp only
    split <;> omega
  · dsimp only
    split <;> omega
theorem Nr.up {h l : List Int} {r m d : Int} (a : Raw0 (h, l, r)) (hl : l ≠ []) (m1 : 1 ≤ m) (d0 : 0 ≤ d) (d1 : d < 2) : Nr (h, l.map (· + m), r + d) := by
  have l0 := len_pos hl
  have g := a.g
  have g1 := g.last hl
  have ar := a.r
  have g0 := g.r0
  have e0 : (l.map (· + m)).getD 0 0 = l.getD 0 0 + m := getD_map0 l0
  have e1 : (l.map (· + m)).getD ((l.map (· + m)).length - 1) 0 = l.getD (l.length - 1) 0 + m := by
    rw [List.length_map]
    exact getD_map0 (by omega)
  dsimp only at g1 ar g g0
  refine ⟨⟨g.hd, climbs_le (climbs_map (f := (· + m)) (fun a b h => by omega) g.lp) (by omega), fun z _ => ?_, by dsimp only; omega, fun z => absurd (List.map_eq_nil_iff.mp z) hl, fun _ => ?_⟩, Nat.le_trans a.h (by decide), by show (l.map _).length ≤ 4; rw [List.length_map]; exact a.l, by dsimp only; omega⟩
  · have := g.join z hl
    dsimp only at this ⊢
    rw [e0]
    omega
  · dsimp only
    rw [e0, e1]
    omega
theorem Nr.half {h l : List Int} {r : Int} (a : Raw0 (h, l, r)) (hl : l ≠ []) : Nr (h.map (· / 2), l, r) := by
  have g := a.g
  have ar := a.r
  have g0 := g.r0
  dsimp only at g ar g0
  refine ⟨⟨climbs_le (climbs_map (lo := 0) (f := (· / 2)) (fun a b h => by omega) g.hd) (by decide), g.lp, fun z _ => ?_, by dsimp only; omega, fun z => absurd z hl, fun _ => by have := g.last hl; dsimp only; omega⟩, by show (h.map _).length ≤ _; rw [List.length_map]; exact Nat.le_trans a.h (by decide), a.l, by dsimp only; omega⟩
  have hz : h ≠ [] := fun e => z (by rw [e]; rfl)
  have h0 := len_pos hz
  have := g.join hz hl
  have c0 := climbs_lo g.hd (show h.length - 1 < h.length by omega)
  have e1 : (h.map (· / 2)).getD ((h.map (· / 2)).length - 1) 0 = h.getD (h.length - 1) 0 / 2 := by
    rw [List.length_map]
    exact getD_map0 (f := (· / 2)) (by omega)
  dsimp only at this ⊢
  rw [e1]
  omega
theorem Nr.end_ {h l : List Int} {r : Int} (a : Raw0 (h, l, r)) (hl : l ≠ []) : Nr (h ++ l, [l.getD (l.length - 1) 0], 1) := by
  have g := a.g
  have l0 := len_pos hl
  have ah := a.h
  have al := a.l
  dsimp only at g ah al
  refine ⟨⟨climbs_app g.hd g.lp g.join, ⟨climbs_lo g.lp (by omega), trivial⟩, fun z _ => ?_, (show (0 : Int) ≤ 1 by decide), (fun z => by cases z), fun _ => ?_⟩, ?_, (show 1 ≤ 4 by decide), (show (1 : Int) ≤ 11 by decide)⟩
  · show (h ++ l).getD ((h ++ l).length - 1) 0 ≤ l.getD (l.length - 1) 0
    rw [List.getD_eq_getElem?_getD, List.length_append, List.getElem?_append_right (by omega), show h.length + l.length - 1 - h.length = l.length - 1 by omega, ← List.getD_eq_getElem?_getD]
    exact Int.le_refl _
  · show l.getD (l.length - 1) 0 ≤ l.getD (l.length - 1) 0 + 1
    omega
  · show (h ++ l).length ≤ 8
    rw [List.length_append]
    omega
def spNear (K : PySem.W.Frag) : Sp := fun vs H Q _ => ∃ (H0 : Hp) (p q : Addr) (x : Y), vs = [.ref p, .ref q] ∧ Same H0 H ∧ H0 p = none ∧ Src H p ∧ FormAt K H0 q x ∧ Raw0 x ∧
  ∀ q' y H', Same H0 H' → Src H' p → Nr y → FormAt K H' q' y → Q (.ref q') H'
theorem sc__law_near : FnScope ["_law_source_here", "_law_raw_here", "_law_way", "_law_more", "_law_one"] ["_law_source_here", "_law_raw_here"] (defScope s__law_near) := ⟨rfl, rfl, rfl, by decide +kernel, rfl, by decide +kernel, by decide +kernel⟩
section
variable {P : Program} {w : World} {K : PySem.W.Frag} {mg : Str → Option Value} {base : Heap} {gs : List Str} {C : Addr}
theorem ok__law_near {f : Addr} {fd : FuncData} (F : FunD K "_law_near" "_law_near" (defArgs s__law_near) (defBody s__law_near) (defScope s__law_near) [] [] f fd) (T : Txt K mg gs FS) (c__law_pick : Cal P w K mg base 1 "_law_pick" spPick) (c__law_raw : Cal P w K mg base 3 "_law_raw" (spRaw K)) : FnOk P w K mg base CX0 4 f fd ["_law_source_here", "_law_raw_here"] (spNear K) := by
  refine F.ok sc__law_near (fun vs H Q E h => ?_) (fun cdv A outer s H vs Q E hr h => ?_)
  · obtain ⟨H0, p, q, x, rfl, _⟩ := h
    rfl
  · obtain ⟨H0, p, q, ⟨h, l, r⟩, rfl, s0, n0, hs, fo, ok, k⟩ := h
    obtain ⟨a, b, hq, ha, hb⟩ := id fo
    have o1 := ok.h
    have o2 := ok.l
    dsimp only at hq ha hb o1 o2 k
    refine ⟨_, PSs.nox (pss_cons (ps_set (i := 2) sc__law_near.nd rfl (Or.inl rfl) (pe_c c__law_pick hr (by decide) rfl (pa_cons (pv 0) (pa_cons pe_int pa_nil)))) (pss_cons (ps_if (PW.pt (pw_or (pt_cmpR op_eq (pv 2) pe_int (nomark _)) (pw_or1 (pt_cmpR op_eq (pe_callB call_len_seq rfl (T.fr _ (by decide +kernel)) boot_len (pa_cons (pe_ix (ixt (K := K)) (pv 1) pe_int fun _ _ => rfl) pa_nil)) pe_int (nomark _))))) (pss_one (ps_ret (pe_c c__law_raw hr (by decide) rfl (pa_cons (pv 0) (pa_cons pe_bl pa_nil))))) pss_nil) (pss_cons (ps_if (pt_cmpR op_eq (pv 2) pe_int (nomark _)) (pss_one (ps_ret (pe_tup (pa_cons (pe_ix (ixt (K := K)) (pv 1) pe_int fun _ _ => rfl) (pa_cons (pe_ix (ixt (K := K)) (pv 1) pe_int fun _ _ => rfl) (pa_cons (pe_callB (call_max2 rfl) rfl (T.fr _ (by decide +kernel)) (by decide +kernel) (pa_cons (pe_op op_sub (pe_ix (ixt (K := K)) (pe_ix (ixt (K := K)) (pv 1) pe_int fun _ _ => rfl) (pe_un un_neg pe_int) fun _ _ => rfl) (pe_ix (ixt (K := K)) (pe_ix (ixt (K := K)) (pv 1) pe_int fun _ _ => rfl) pe_int fun _ _ => rfl)) (pa_cons (pe_op op_sub (pe_ix (ixt (K := K)) (pv 1) pe_int fun _ _ => rfl) pe_int) pa_nil))) pa_nil)))))) pss_nil) (pss_cons (ps_if (pt_cmpR op_eq (pv 2) pe_int (nomark _)) (pss_cons (ps_set (i := 3) sc__law_near.nd rfl (Or.inr rfl) (pe_op op_add pe_int (pe_c c__law_pick hr (by decide) rfl (pa_cons (pv 0) (pa_cons pe_int pa_nil))))) (pss_one (ps_ret (pe_tup (pa_cons (pe_ix (ixt (K := K)) (pv 1) pe_int fun _ _ => rfl) (pa_cons (pe_callTy cr_tup rfl (T.fr _ (by decide +kernel)) (by decide +kernel) (pa_cons (pe_lc (own := [("_law_one", 4)]) rfl sc__law_near.nd (pi_tup (pe_ix (ixt (K := K)) (pv 1) pe_int fun _ _ => rfl)) (blkOk_by (N := ["_law_source_here", "_law_raw_here", "_law_way", "_law_more", "_law_one"]) (sc := defScope s__law_near) (by decide +kernel)) (fun _ _ _ _ _ => by exact (pg_name (i := 4) sc__law_near.nd rfl (Or.inl rfl))) (fun _ _ _ _ _ => by exact pts_nil) (fun _ _ _ _ _ => by exact (pe_op op_add (pv 4) (pv 3)))) pa_nil)) (pa_cons (pe_op op_add (pe_ix (ixt (K := K)) (pv 1) pe_int fun _ _ => rfl) (pe_c c__law_pick hr (by decide) rfl (pa_cons (pv 0) (pa_cons pe_int pa_nil)))) pa_nil))))))) pss_nil) (pss_cons (ps_if (pt_cmpR op_eq (pv 2) pe_int (nomark _)) (pss_one (ps_ret (pe_tup (pa_cons (pe_callTy cr_tup rfl (T.fr _ (by decide +kernel)) (by decide +kernel) (pa_cons (pe_lc (own := [("_law_one", 4)]) rfl sc__law_near.nd (pi_tup (pe_ix (ixt (K := K)) (pv 1) pe_int fun _ _ => rfl)) (blkOk_by (N := ["_law_source_here", "_law_raw_here", "_law_way", "_law_more", "_law_one"]) (sc := defScope s__law_near) (by decide +kernel)) (fun _ _ _ _ _ => by exact (pg_name (i := 4) sc__law_near.nd rfl (Or.inl rfl))) (fun _ _ _ _ _ => by exact pts_nil) (fun _ _ _ _ _ => by exact (pe_op op_fdiv (pv 4) pe_int))) pa_nil)) (pa_cons (pe_ix (ixt (K := K)) (pv 1) pe_int fun _ _ => rfl) (pa_cons (pe_ix (ixt (K := K)) (pv 1) pe_int fun _ _ => rfl) pa_nil)))))) pss_nil) (pss_one (ps_ret (pe_tup (pa_cons (pe_op op_catA (pe_ix (ixt (K := K)) (pv 1) pe_int fun _ _ => rfl) (pe_ix (ixt (K := K)) (pv 1) pe_int fun _ _ => rfl)) (pa_cons (pe_tup (pa_cons (pe_ix (ixt (K := K)) (pe_ix (ixt (K := K)) (pv 1) pe_int fun _ _ => rfl) (pe_un un_neg pe_int) fun _ _ => rfl) pa_nil)) (pa_cons pe_int pa_nil))))))))))), ?_⟩
    refine ⟨_, rfl, wo H p, p, 5, rfl, wo_same', wo_none, hs, by decide, by decide, fun d G1 _ _ s1 hs1 => ?_⟩
    have s01 := wo_same s0 n0 s1
    have hq1 := NF.Same.tup s01 hq
    have ha1 := NF.Same.tup s01 ha
    have hb1 := NF.Same.tup s01 hb
    refine ⟨_, rfl, rfl, _, rfl, ite2 (fun _ => ?_) (fun _ => ?_)⟩
    · exact iteT ⟨_, rfl, H0, p, rfl, s01, n0, hs1, fun q' x' H' s2 hs2 ok' fo' => k q' x' H' s2 hs2 (.of ok') fo'⟩
    refine ⟨_, rfl, q, _, _, _, rfl, rfl, hq1, at1, b, _, rfl, Or.inr hb1, rfl, _, rfl, ?_⟩
    by_cases hl : l = []
    · exact iteT' (decide_eq_true (by rw [hl]; rfl)) ⟨_, rfl, H0, p, rfl, s01, n0, hs1, fun q' x' H' s2 hs2 ok' fo' => k q' x' H' s2 hs2 (.of ok') fo'⟩
    refine iteF' (decide_eq_false fun z => ?_) ?_
    · injection z with z
      rw [vI_len] at z
      exact hl (List.eq_nil_of_length_eq_zero (by omega))
    have l0 := len_pos hl
    -- a lesser rise
    refine ⟨_, rfl, rfl, _, rfl, ite2 (fun _ => ?_) (fun _ => ?_)⟩
    · refine ⟨_, rfl, q, _, _, _, rfl, rfl, hq1, at0, _, rfl, q, _, _, _, rfl, rfl, hq1, at1, ?_⟩
      refine ⟨_, rfl, q, _, _, _, rfl, rfl, hq1, at1, _, rfl, b, _, _, _, rfl, rfl, hb1, at_last l0, ?_⟩
      refine ⟨_, rfl, q, _, _, _, rfl, rfl, hq1, at1, b, _, _, _, rfl, rfl, hb1, at_int (k := 0) rfl l0, _, _, rfl, rfl, ?_⟩
      refine ⟨_, rfl, q, _, _, _, rfl, rfl, hq1, at2, _, _, rfl, rfl, _, _, rfl, ?_⟩
      refine ⟨(by show 3 ≤ sizeLine; decide), fun pr hpr => ?_⟩
      have s4 := NF.Same.new (o := .tup [V.ref a, V.ref b, V.int (if r - 1 > l.getD (l.length - 1) 0 - l.getD 0 0 then r - 1 else l.getD (l.length - 1) 0 - l.getD 0 0)]) (Same.refl G1) hpr
      exact k pr _ _ (Same.trans s01 s4) (Src.mono hs1 s4) (Nr.less ok hl) ⟨a, b, SqT.of upd_same, NF.Same.tup s4 ha1, NF.Same.tup s4 hb1⟩
    -- a higher loop
    refine ⟨_, rfl, rfl, _, rfl, ite2 (fun _ => ?_) (fun _ => ?_)⟩
    · refine ⟨_, rfl, wo G1 p, p, 12, rfl, wo_same', wo_none, hs1, by decide, by decide, fun e G2 e0 e1 s2 hs2 => ?_⟩
      have s12 := wo_same s01 n0 s2
      refine ⟨_, _, rfl, rfl, ?_⟩
      show gName 3 (V.int (1 + e)) _ _ _
      have hq2 := NF.Same.tup s12 hq
      have ha2 := NF.Same.tup s12 ha
      have hb2 := NF.Same.tup s12 hb
      have m1 : 1 ≤ 1 + e := by omega
      generalize 1 + e = m at m1 ⊢
      refine ⟨_, rfl, q, _, _, _, rfl, rfl, hq2, at0, _, rfl, q, _, _, _, rfl, rfl, hq2, at1, ?_⟩
      refine ⟨b, rfl, ⟨_, hb2⟩, fun D hD => ?_⟩
      refine lc_tup (xs := vI l) (fun j G => Same G2 G ∧ G D = some (.lst (vI ((l.map (· + m)).take j)))) ⟨NF.Same.new (Same.refl G2) hD, upd_same⟩ (fun i G _ z => NF.Same.tup z.1 hb2) ?_ ?_
      · rintro j v G hv ⟨hG, hD2⟩
        have hj := (List.getElem?_eq_some_iff.mp hv).1
        rw [vI_len] at hj
        obtain rfl : V.int (l[j]) = v := by
          rw [List.getElem?_map, List.getElem?_eq_getElem hj] at hv
          exact Option.some.inj hv
        refine ⟨rfl, _, rfl, _, rfl, _, _, rfl, rfl, _, hD2, by rw [vI_len, List.length_take]; exact Nat.lt_of_le_of_lt (Nat.min_le_left _ _) (Nat.lt_of_lt_of_le (show j < 100 by omega) (by decide)), NF.Same.mut hG hD, ?_⟩
        rw [upd_same, List.take_add_one, List.getElem?_map, List.getElem?_eq_getElem hj, ← vI_app]
        rfl
      rintro G ⟨hG, hD2⟩
      rw [vI_len, List.take_of_length_le (by rw [List.length_map]; exact Nat.le_refl _)] at hD2
      refine ⟨D, _, rfl, Or.inl (SqL.of hD2), fun pt G3 s3 hpt => ?_⟩
      have s13 := Same.trans s12 (Same.trans hG s3)
      have hs3 := Src.mono hs2 (Same.trans hG s3)
      have hq3 := NF.Same.tup s13 hq
      refine ⟨_, rfl, q, _, _, _, rfl, rfl, hq3, at2, _, rfl, wo G3 p, p, 2, rfl, wo_same', wo_none, hs3, by decide, by decide, fun d2 G4 d20 d21 s4 hs4 => ?_⟩
      have s14 := wo_same s13 n0 s4
      have hpt4 : SqT K G4 pt (vI (l.map (· + m))) := by
        obtain ⟨_, _, _, hp3⟩ := hs3
        exact NF.Same.tup s4 (NF.SqT.wo hpt hp3 trivial)
      refine ⟨_, _, rfl, rfl, (by show 3 ≤ sizeLine; decide), fun pr hpr => ?_⟩
      have s5 := NF.Same.new (o := .tup [V.ref a, V.ref pt, V.int (r + d2)]) (Same.refl G4) hpr
      exact k pr (h, l.map (· + m), r + d2) _ (Same.trans s14 s5) (Src.mono hs4 s5) (Nr.up ok hl m1 d20 d21) ⟨a, pt, SqT.of upd_same, NF.Same.tup (Same.trans s14 s5) ha, NF.Same.tup s5 hpt4⟩
    -- a lesser head
    refine ⟨_, rfl, rfl, _, rfl, ite2 (fun _ => ?_) (fun _ => ?_)⟩
    · refine ⟨_, rfl, q, _, _, _, rfl, rfl, hq1, at0, ?_⟩
      refine ⟨a, rfl, ⟨_, ha1⟩, fun D hD => ?_⟩
      refine lc_tup (xs := vI h) (fun j G => Same G1 G ∧ G D = some (.lst (vI ((h.map (· / 2)).take j)))) ⟨NF.Same.new (Same.refl G1) hD, upd_same⟩ (fun i G _ z => NF.Same.tup z.1 ha1) ?_ ?_
      · rintro j v G hv ⟨hG, hD2⟩
        have hj := (List.getElem?_eq_some_iff.mp hv).1
        rw [vI_len] at hj
        obtain rfl : V.int (h[j]) = v := by
          rw [List.getElem?_map, List.getElem?_eq_getElem hj] at hv
          exact Option.some.inj hv
        refine ⟨rfl, _, rfl, _, _, rfl, rfl, ⟨by decide, by decide⟩, _, hD2, by rw [vI_len, List.length_take]; exact Nat.lt_of_le_of_lt (Nat.min_le_left _ _) (Nat.lt_of_lt_of_le (show j < 100 by omega) (by decide)), NF.Same.mut hG hD, ?_⟩
        rw [upd_same, List.take_add_one, List.getElem?_map, List.getElem?_eq_getElem hj, ← vI_app]
        rfl
      rintro G ⟨hG, hD2⟩
      rw [vI_len, List.take_of_length_le (by rw [List.length_map]; exact Nat.le_refl _)] at hD2
      refine ⟨D, _, rfl, Or.inl (SqL.of hD2), fun pt G3 s3 hpt => ?_⟩
      have s13 := Same.trans s01 (Same.trans hG s3)
      have hq3 := NF.Same.tup s13 hq
      refine ⟨_, rfl, q, _, _, _, rfl, rfl, hq3, at1, _, rfl, q, _, _, _, rfl, rfl, hq3, at2, ?_⟩
      refine ⟨(by show 3 ≤ sizeLine; decide), fun pr hpr => ?_⟩
      have s4 := NF.Same.new (o := .tup [V.ref pt, V.ref b, V.int r]) (Same.refl G3) hpr
      exact k pr (h.map (· / 2), l, r) _ (Same.trans s13 s4) (Src.mono hs1 (Same.trans hG (Same.trans s3 s4))) (Nr.half ok hl) ⟨pt, b, SqT.of upd_same, NF.Same.tup s4 hpt, NF.Same.tup (Same.trans s13 s4) hb⟩
    -- the loop gone through, then one by one
    refine ⟨_, rfl, q, _, _, _, rfl, rfl, hq1, at0, _, rfl, q, _, _, _, rfl, rfl, hq1, at1, ?_⟩
    refine catA_done ha1 hb1 ?_ fun p3 G3 s3 h3 => ?_
    · rw [vI_len, vI_len]
      exact Nat.le_trans (show h.length + l.length ≤ 100 by omega) (by decide)
    have hq3 := NF.Same.tup s3 hq1
    have hb3 := NF.Same.tup s3 hb1
    have h3' : SqT K G3 p3 (vI (h ++ l)) := by
      rw [← vI_app]
      exact h3
    refine ⟨_, rfl, q, _, _, _, rfl, rfl, hq3, at1, _, rfl, b, _, _, _, rfl, rfl, hb3, at_last l0, ?_⟩
    refine ⟨(by show 1 ≤ sizeLine; decide), fun p4 hp4 => ?_⟩
    have s4 := NF.Same.new (o := .tup [V.int (l.getD (l.length - 1) 0)]) (Same.refl G3) hp4
    refine ⟨(by show 3 ≤ sizeLine; decide), fun pr hpr => ?_⟩
    have s5 := NF.Same.new (o := .tup [V.ref p3, V.ref p4, V.int 1]) (Same.refl _) hpr
    exact k pr (h ++ l, [l.getD (l.length - 1) 0], 1) _ (Same.trans s01 (Same.trans s3 (Same.trans s4 s5))) (Src.mono hs1 (Same.trans s3 (Same.trans s4 s5))) (Nr.end_ ok hl) ⟨p3, p4, SqT.of upd_same, NF.Same.tup s5 (NF.Same.tup s4 h3'), NF.Same.tup s5 (SqT.of upd_same)⟩
end
end K09
set_option Elab.async false
set_option linter.all false
set_option maxHeartbeats 4000000
/-! The first place at which one row of values is above another one, told by one lap of both. -/
namespace NT
/-- within a lap behind the start nothing is above; then a lap's place is above first after so many laps -/
def afterAt (D : Nat → Int) (c : Int) (m n : Nat) : Int := (n : Int) + ((-(D n)) / c + 1) * (m : Int)
section
variable {D : Nat → Int} {st m : Nat} {c : Int}
theorem lap_mul (per : ∀ n, st < n → D (n + m) = D n + c) (t : Nat) : ∀ n, st < n → D (n + m * t) = D n + c * (t : Int) := by
  induction t with
  | zero => intro n _; simp
  | succ t ih =>
    intro n hn
    rw [Nat.mul_succ, ← Nat.add_assoc, per _ (by omega), ih n hn, Int.natCast_add, Int.mul_add]
    omega
theorem lap_of {n : Nat} (hm : 0 < m) (hn : st < n) : ∃ k t, st < k ∧ k ≤ st + m ∧ n = k + m * t := by
  have h1 := Nat.mod_add_div (n - (st + 1)) m
  have h2 := Nat.mod_lt (n - (st + 1)) hm
  exact ⟨st + 1 + (n - (st + 1)) % m, (n - (st + 1)) / m, by omega, by omega, by omega⟩
theorem never_above (hm : 0 < m) (per : ∀ n, st < n → D (n + m) = D n + c) (hc : c ≤ 0) (no : ∀ n, 1 ≤ n → n ≤ st + m → ¬ 0 < D n) (n : Nat) (hn : 1 ≤ n) : ¬ 0 < D n := by
  by_cases h : n ≤ st
  · exact no n hn (by omega)
  · obtain ⟨k, t, k1, k2, rfl⟩ := lap_of hm (show st < n by omega)
    rw [lap_mul per t k k1]
    have := no k (by omega) k2
    have : c * (t : Int) ≤ 0 := Int.mul_nonpos_of_nonpos_of_nonneg hc (by omega)
    omega
theorem above_at (per : ∀ n, st < n → D (n + m) = D n + c) (hc : 0 < c) (no : ∀ n, 1 ≤ n → n ≤ st + m → ¬ 0 < D n) {k : Nat} (k1 : st < k) (k2 : k ≤ st + m) :
    ∃ v : Nat, afterAt D c m k = (v : Int) ∧ 1 ≤ v ∧ 0 < D v ∧ ∀ t, 0 < D (k + m * t) → v ≤ k + m * t := by
  have h0 := no k (by omega) k2
  have q0 : 0 ≤ (-(D k)) / c := Int.ediv_nonneg (by omega) (by omega)
  obtain ⟨s, hs⟩ : ∃ s : Nat, (-(D k)) / c = (s : Int) := ⟨((-(D k)) / c).toNat, by omega⟩
  have e1 := Int.lt_mul_ediv_self_add (x := -(D k)) hc
  have e2 := Int.mul_ediv_self_le (x := -(D k)) (k := c) (by omega)
  rw [hs] at e1 e2
  refine ⟨k + m * (s + 1), ?_, by omega, ?_, fun t ht => ?_⟩
  · unfold afterAt
    rw [hs, Int.natCast_add, Int.natCast_mul, Int.mul_comm]
    rfl
  · rw [lap_mul per _ k k1, Int.natCast_add, Int.mul_add]
    omega
  · rw [lap_mul per t k k1] at ht
    have : s < t := by
      refine Nat.lt_of_not_le fun z => ?_
      have : c * (t : Int) ≤ c * (s : Int) := Int.mul_le_mul_of_nonneg_left (by omega) (by omega)
      omega
    exact Nat.add_le_add_left (Nat.mul_le_mul_left m this) k
/-- the least of them -/
theorem least_above (hm : 0 < m) (per : ∀ n, st < n → D (n + m) = D n + c) (hc : 0 < c) (no : ∀ n, 1 ≤ n → n ≤ st + m → ¬ 0 < D n) {v : Int} (hv : v ∈ (List.range m).map fun i => afterAt D c m (st + 1 + i)) (hl : ∀ y ∈ (List.range m).map fun i => afterAt D c m (st + 1 + i), v ≤ y) :
    ∃ n : Nat, v = (n : Int) ∧ 1 ≤ n ∧ 0 < D n ∧ ∀ q, 1 ≤ q → q < n → ¬ 0 < D q := by
  obtain ⟨i, hi, rfl⟩ := List.mem_map.mp hv
  have hi := List.mem_range.mp hi
  obtain ⟨n, e, n1, n2, n3⟩ := above_at per hc no (show st < st + 1 + i by omega) (by omega)
  refine ⟨n, e, n1, n2, fun q q1 q2 z => ?_⟩
  by_cases h : q ≤ st + m
  · exact no q q1 h z
  · obtain ⟨k, t, k1, k2, rfl⟩ := lap_of hm (show st < q by omega)
    obtain ⟨n', e', _, _, n4⟩ := above_at per hc no k1 k2
    have := n4 t z
    have := hl (afterAt D c m k) (List.mem_map.mpr ⟨k - (st + 1), List.mem_range.mpr (by omega), by rw [show st + 1 + (k - (st + 1)) = k by omega]⟩)
    omega
end
end NT
namespace NF
open PySem PySem.Spec PyProof.Rows L2
/-- max of three ints -/
def rMax3 : List V → Hp → VK → Prop := fun xs H Q => ∃ i j k : Int, xs = [.int i, .int j, .int k] ∧ Q (.int (max (max i j) k)) H
theorem nu_int (i j : Int) : nuMax2 (.int i) (.int j) = some (.int (max i j)) := by
  have e : nuMax2 (.int i) (.int j) = some (if decide (i < j) = true then V.int j else V.int i) := rfl
  rw [e]
  by_cases h : i < j
  · rw [if_pos (decide_eq_true h), Int.max_eq_right (by omega)]
  · rw [if_neg (by simpa using h), Int.max_eq_left (by omega)]
theorem call_max3 {X : Cx} (hc : X.calm = true) : CallR X (.builtin "max") rMax3 := by
  intro pins s σ H xs us Q I r h
  obtain ⟨i, j, k, rfl, q⟩ := h
  refine call_max3Nu hc pins s σ H _ us Q I r ⟨_, _, _, _, rfl, ?_, q⟩
  unfold nuMax3
  rw [nu_int]
  exact nu_int _ _
end NF
set_option Elab.async false
set_option linter.all false
set_option maxRecDepth 100000
set_option maxHeartbeats 4000000
namespace K09
open PySem PySem.Spec PyProof.Rows L2 He NF RZ NT
/-- how far two tables are apart at a place: out where the second one has no count -/
def dfO (F G : Option Int) : V := match G with
  | none => .str "out"
  | some b => match F with
    | none => .non
    | some a => .int (a - b)
abbrev vlY (y : Y) (n : Nat) : Option Int := val_ y.1 y.2.1 y.2.2 (some n)
def dfV (y1 y2 : Y) (n : Nat) : V := dfO (vlY y1 n) (vlY y2 n)
theorem Nr.small {y : Y} (a : Nr y) : Small y := ⟨Nat.le_trans a.h (by decide), Nat.le_trans a.l (by decide), a.g.r0, Int.le_trans a.r (by decide)⟩
theorem Nr.fit {y : Y} (a : Nr y) : Fit y := ⟨a.g, Nat.le_trans a.h (by decide), Nat.le_trans a.l (by decide), Int.le_trans a.r (by decide)⟩
def spDif (K : PySem.W.Frag) : Sp := fun vs H Q _ => ∃ (p1 p2 : Addr) (y1 y2 : Y) (n : Nat), vs = [.ref p1, .ref p2, .int (n : Int)] ∧ FormAt K H p1 y1 ∧ FormAt K H p2 y2 ∧ Small y1 ∧ Small y2 ∧ Q (dfV y1 y2 n) H
/-- as far as the law looks, a lap of both, and what the difference climbs in a lap -/
inductive SpanOk (y1 y2 : Y) : Nat → Nat → Int → Prop
  | one (e : y1.2.1 = [] ∨ y2.2.1 = []) : SpanOk y1 y2 (max y1.1.length y2.1.length + max (max 1 y1.2.1.length) y2.2.1.length) 1 0
  | two {m : Nat} {c : Int} (e1 : y1.2.1 ≠ []) (e2 : y2.2.1 ≠ []) (m0 : 0 < m) (m16 : m ≤ 16) (c1 : c ≤ 176) (per : ∀ n, max y1.1.length y2.1.length < n → numY y1 (n + m) - numY y2 (n + m) = numY y1 n - numY y2 n + c) : SpanOk y1 y2 (max y1.1.length y2.1.length + m) m c
def spSpan (K : PySem.W.Frag) : Sp := fun vs H Q _ => ∃ (p1 p2 : Addr) (y1 y2 : Y), vs = [.ref p1, .ref p2] ∧ FormAt K H p1 y1 ∧ FormAt K H p2 y2 ∧ Nr y1 ∧ Nr y2 ∧
  ∀ (u m : Nat) (c : Int) p H', SpanOk y1 y2 u m c → u ≤ 30 → Same H H' → SqT K H' p [.int (u : Int), .int (m : Int), .int c] → Q (.ref p) H'
theorem sc__law_difference : FnScope ["_law_first", "_law_second", "_law_place"] ["_law_first", "_law_second", "_law_place"] (defScope s__law_difference) := ⟨rfl, rfl, rfl, by decide +kernel, rfl, by decide +kernel, by decide +kernel⟩
theorem sc__law_span : FnScope ["_law_first", "_law_second", "_law_start", "_law_many", "_law_climb"] ["_law_first", "_law_second"] (defScope s__law_span) := ⟨rfl, rfl, rfl, by decide +kernel, rfl, by decide +kernel, by decide +kernel⟩
section
variable {P : Program} {w : World} {K : PySem.W.Frag} {mg : Str → Option Value} {base : Heap} {gs : List Str} {C : Addr}
theorem ok__law_difference {f : Addr} {fd : FuncData} (F : FunD K "_law_difference" "_law_difference" (defArgs s__law_difference) (defBody s__law_difference) (defScope s__law_difference) [] [] f fd) (T : Txt K mg gs FS) (c__law_at : Cal P w K mg base 2 "_law_at" (spLAt K)) : FnOk P w K mg base CX0 3 f fd ["_law_first", "_law_second", "_law_place"] (spDif K) := by
  refine F.ok sc__law_difference (fun vs H Q E h => ?_) (fun cdv A outer s H vs Q E hr h => ?_)
  · obtain ⟨p1, p2, y1, y2, n, rfl, _⟩ := h
    rfl
  · obtain ⟨p1, p2, y1, y2, n, rfl, fo1, fo2, s1, s2, q⟩ := h
    refine ⟨_, PSs.nox (pss_cons (ps_if (pt_cmpR op_isN (pe_c c__law_at hr (by decide) rfl (pa_cons (pv 1) (pa_cons (pv 2) pa_nil))) pe_non (nomark _)) (pss_one (ps_ret pe_str)) pss_nil) (pss_cons (ps_if (pt_cmpR op_isN (pe_c c__law_at hr (by decide) rfl (pa_cons (pv 0) (pa_cons (pv 2) pa_nil))) pe_non (nomark _)) (pss_one (ps_ret pe_non)) pss_nil) (pss_one (ps_ret (pe_op op_sub (pe_c c__law_at hr (by decide) rfl (pa_cons (pv 0) (pa_cons (pv 2) pa_nil))) (pe_c c__law_at hr (by decide) rfl (pa_cons (pv 1) (pa_cons (pv 2) pa_nil)))))))), ?_⟩
    have q : Q (dfO (vlY y1 n) (vlY y2 n)) H := q
    refine ⟨_, rfl, _, rfl, p2, y2, some n, rfl, fo2, s2, ?_⟩
    cases e2 : val_ y2.1 y2.2.1 y2.2.2 (some n) with
    | none =>
      rw [show vlY y2 n = none from e2] at q
      exact ⟨rfl, _, rfl, iteT' rfl q⟩
    | some b =>
      rw [show vlY y2 n = some b from e2] at q
      refine ⟨rfl, _, rfl, iteF' (decide_eq_false fun z => by cases z) ?_⟩
      refine ⟨_, rfl, _, rfl, p1, y1, some n, rfl, fo1, s1, ?_⟩
      cases e1 : val_ y1.1 y1.2.1 y1.2.2 (some n) with
      | none =>
        rw [show vlY y1 n = none from e1] at q
        exact ⟨rfl, _, rfl, iteT' rfl q⟩
      | some a =>
        rw [show vlY y1 n = some a from e1] at q
        refine ⟨rfl, _, rfl, iteF' (decide_eq_false fun z => by cases z) ?_⟩
        refine ⟨_, rfl, _, rfl, p1, y1, some n, rfl, fo1, s1, ?_⟩
        rw [e1]
        refine ⟨_, rfl, _, rfl, p2, y2, some n, rfl, fo2, s2, ?_⟩
        rw [e2]
        exact ⟨_, _, rfl, rfl, q⟩
theorem ok__law_span {f : Addr} {fd : FuncData} (F : FunD K "_law_span" "_law_span" (defArgs s__law_span) (defBody s__law_span) (defScope s__law_span) [] [] f fd) (T : Txt K mg gs FS) (c__law_gcd : Cal P w K mg base 1 "_law_gcd" spGcd) : FnOk P w K mg base CX0 2 f fd ["_law_first", "_law_second"] (spSpan K) := by
  refine F.ok sc__law_span (fun vs H Q E h => ?_) (fun cdv A outer s H vs Q E hr h => ?_)
  · obtain ⟨p1, p2, y1, y2, rfl, _⟩ := h
    rfl
  · obtain ⟨p1, p2, y1, y2, rfl, fo1, fo2, n1, n2, q⟩ := h
    obtain ⟨a1, b1, hp1, ha1, hb1⟩ := id fo1
    obtain ⟨a2, b2, hp2, ha2, hb2⟩ := id fo2
    have h1 := n1.h
    have h2 := n2.h
    have l1 := n1.l
    have l2 := n2.l
    have r1 := n1.r
    have r2 := n2.r
    have r10 := n1.g.r0
    have r20 := n2.g.r0
    refine ⟨_, PSs.nox (pss_cons (ps_set (i := 2) sc__law_span.nd rfl (Or.inl rfl) (pe_callB (call_max2 rfl) rfl (T.fr _ (by decide +kernel)) (by decide +kernel) (pa_cons (pe_callB call_len_seq rfl (T.fr _ (by decide +kernel)) boot_len (pa_cons (pe_ix (ixt (K := K)) (pv 0) pe_int fun _ _ => rfl) pa_nil)) (pa_cons (pe_callB call_len_seq rfl (T.fr _ (by decide +kernel)) boot_len (pa_cons (pe_ix (ixt (K := K)) (pv 1) pe_int fun _ _ => rfl) pa_nil)) pa_nil)))) (pss_cons (ps_if (PW.pt (pw_or (pt_cmpR op_eq (pe_callB call_len_seq rfl (T.fr _ (by decide +kernel)) boot_len (pa_cons (pe_ix (ixt (K := K)) (pv 0) pe_int fun _ _ => rfl) pa_nil)) pe_int (nomark _)) (pw_or1 (pt_cmpR op_eq (pe_callB call_len_seq rfl (T.fr _ (by decide +kernel)) boot_len (pa_cons (pe_ix (ixt (K := K)) (pv 1) pe_int fun _ _ => rfl) pa_nil)) pe_int (nomark _))))) (pss_one (ps_ret (pe_tup (pa_cons (pe_op op_add (pv 2) (pe_callB (call_max3 rfl) rfl (T.fr _ (by decide +kernel)) (by decide +kernel) (pa_cons pe_int (pa_cons (pe_callB call_len_seq rfl (T.fr _ (by decide +kernel)) boot_len (pa_cons (pe_ix (ixt (K := K)) (pv 0) pe_int fun _ _ => rfl) pa_nil)) (pa_cons (pe_callB call_len_seq rfl (T.fr _ (by decide +kernel)) boot_len (pa_cons (pe_ix (ixt (K := K)) (pv 1) pe_int fun _ _ => rfl) pa_nil)) pa_nil))))) (pa_cons pe_int (pa_cons pe_int pa_nil)))))) pss_nil) (pss_cons (ps_set (i := 3) sc__law_span.nd rfl (Or.inl rfl) (pe_op op_mul (pe_op op_fdiv (pe_callB call_len_seq rfl (T.fr _ (by decide +kernel)) boot_len (pa_cons (pe_ix (ixt (K := K)) (pv 0) pe_int fun _ _ => rfl) pa_nil)) (pe_c c__law_gcd hr (by decide) rfl (pa_cons (pe_callB call_len_seq rfl (T.fr _ (by decide +kernel)) boot_len (pa_cons (pe_ix (ixt (K := K)) (pv 0) pe_int fun _ _ => rfl) pa_nil)) (pa_cons (pe_callB call_len_seq rfl (T.fr _ (by decide +kernel)) boot_len (pa_cons (pe_ix (ixt (K := K)) (pv 1) pe_int fun _ _ => rfl) pa_nil)) pa_nil)))) (pe_callB call_len_seq rfl (T.fr _ (by decide +kernel)) boot_len (pa_cons (pe_ix (ixt (K := K)) (pv 1) pe_int fun _ _ => rfl) pa_nil)))) (pss_cons (ps_set (i := 4) sc__law_span.nd rfl (Or.inl rfl) (pe_op op_sub (pe_op op_mul (pe_ix (ixt (K := K)) (pv 0) pe_int fun _ _ => rfl) (pe_op op_fdiv (pv 3) (pe_callB call_len_seq rfl (T.fr _ (by decide +kernel)) boot_len (pa_cons (pe_ix (ixt (K := K)) (pv 0) pe_int fun _ _ => rfl) pa_nil)))) (pe_op op_mul (pe_ix (ixt (K := K)) (pv 1) pe_int fun _ _ => rfl) (pe_op op_fdiv (pv 3) (pe_callB call_len_seq rfl (T.fr _ (by decide +kernel)) boot_len (pa_cons (pe_ix (ixt (K := K)) (pv 1) pe_int fun _ _ => rfl) pa_nil)))))) (pss_one (ps_ret (pe_tup (pa_cons (pe_op op_add (pv 2) (pv 3)) (pa_cons (pv 3) (pa_cons (pv 4) pa_nil)))))))))), ?_⟩
    refine ⟨_, rfl, p1, _, _, _, rfl, rfl, hp1, at0, a1, _, rfl, Or.inr ha1, ?_⟩
    refine ⟨_, rfl, p2, _, _, _, rfl, rfl, hp2, at0, a2, _, rfl, Or.inr ha2, ?_⟩
    rw [vI_len, vI_len]
    obtain ⟨st, hst⟩ : ∃ st, st = max y1.1.length y2.1.length := ⟨_, rfl⟩
    have est : (if (y2.1.length : Int) > (y1.1.length : Int) then (y2.1.length : Int) else (y1.1.length : Int)) = (st : Int) := by
      split <;> omega
    refine ⟨_, _, rfl, ?_⟩
    show gName 2 (V.int (if (y2.1.length : Int) > (y1.1.length : Int) then (y2.1.length : Int) else (y1.1.length : Int))) _ _ _
    rw [est]
    obtain ⟨m0, hm0⟩ : ∃ m0 : Nat, m0 = max (max 1 y1.2.1.length) y2.2.1.length := ⟨_, rfl⟩
    have em0 : max (max 1 (y1.2.1.length : Int)) (y2.2.1.length : Int) = (m0 : Int) := by omega
    have fin1 : y1.2.1 = [] ∨ y2.2.1 = [] → ∀ pr, H pr = none → Q (.ref pr) (upd H pr (.tup [V.int ((st : Int) + (m0 : Int)), V.int 1, V.int 0])) := fun e pr hpr => by
      refine q (st + m0) 1 0 pr _ ?_ (by omega) (NF.Same.new (Same.refl H) hpr) (SqT.of upd_same)
      rw [hst, hm0]
      exact .one e
    refine ⟨_, rfl, p1, _, _, _, rfl, rfl, hp1, at1, b1, _, rfl, Or.inr hb1, rfl, _, rfl, ?_⟩
    rw [vI_len]
    by_cases e1 : y1.2.1 = []
    · refine iteT' (decide_eq_true (by rw [e1]; rfl)) (iteT ?_)
      refine ⟨_, rfl, _, rfl, p1, _, _, _, rfl, rfl, hp1, at1, b1, _, rfl, Or.inr hb1, ?_⟩
      refine ⟨_, rfl, p2, _, _, _, rfl, rfl, hp2, at1, b2, _, rfl, Or.inr hb2, ?_⟩
      rw [vI_len, vI_len]
      refine ⟨_, _, _, rfl, _, _, rfl, rfl, ?_⟩
      rw [em0]
      exact ⟨(by show 3 ≤ sizeLine; decide), fun pr hpr => fin1 (.inl e1) pr hpr⟩
    refine iteF' (decide_eq_false fun z => ?_) ?_
    · injection z with z
      exact e1 (List.eq_nil_of_length_eq_zero (by omega))
    refine ⟨_, rfl, p2, _, _, _, rfl, rfl, hp2, at1, b2, _, rfl, Or.inr hb2, rfl, _, rfl, ?_⟩
    rw [vI_len]
    by_cases e2 : y2.2.1 = []
    · refine iteT' (decide_eq_true (by rw [e2]; rfl)) ?_
      refine ⟨_, rfl, _, rfl, p1, _, _, _, rfl, rfl, hp1, at1, b1, _, rfl, Or.inr hb1, ?_⟩
      refine ⟨_, rfl, p2, _, _, _, rfl, rfl, hp2, at1, b2, _, rfl, Or.inr hb2, ?_⟩
      rw [vI_len, vI_len]
      refine ⟨_, _, _, rfl, _, _, rfl, rfl, ?_⟩
      rw [em0]
      exact ⟨(by show 3 ≤ sizeLine; decide), fun pr hpr => fin1 (.inr e2) pr hpr⟩
    refine iteF' (decide_eq_false fun z => ?_) ?_
    · injection z with z
      exact e2 (List.eq_nil_of_length_eq_zero (by omega))
    have l10 := len_pos e1
    have l20 := len_pos e2
    have g0 : 0 < Nat.gcd y1.2.1.length y2.2.1.length := Nat.gcd_pos_of_pos_left _ l10
    have gle : Nat.gcd y1.2.1.length y2.2.1.length ≤ y1.2.1.length := Nat.gcd_le_left _ l10
    refine ⟨_, rfl, p1, _, _, _, rfl, rfl, hp1, at1, b1, _, rfl, Or.inr hb1, _, rfl, p1, _, _, _, rfl, rfl, hp1, at1, b1, _, rfl, Or.inr hb1, _, rfl, p2, _, _, _, rfl, rfl, hp2, at1, b2, _, rfl, Or.inr hb2, ?_⟩
    rw [vI_len, vI_len]
    refine ⟨_, _, rfl, fun G s1 => ?_⟩
    have hp1' := NF.Same.tup s1 hp1
    have hb1' := NF.Same.tup s1 hb1
    have hp2' := NF.Same.tup s1 hp2
    have hb2' := NF.Same.tup s1 hb2
    refine ⟨_, _, rfl, rfl, ⟨by omega, by omega⟩, _, rfl, p2, _, _, _, rfl, rfl, hp2', at1, b2, _, rfl, Or.inr hb2', ?_⟩
    rw [vI_len]
    obtain ⟨mm, hmm⟩ : ∃ mm, mm = Nat.lcm y1.2.1.length y2.2.1.length := ⟨_, rfl⟩
    have emm : (y1.2.1.length : Int) / ((Nat.gcd y1.2.1.length y2.2.1.length : Nat) : Int) * (y2.2.1.length : Int) = (mm : Int) := by
      rw [hmm, ← Int.natCast_ediv, ← Int.natCast_mul]
      congr 1
      exact Nat.div_mul_right_comm (Nat.gcd_dvd_left _ _) _
    refine ⟨_, _, rfl, rfl, Or.inr ⟨by omega, by omega⟩, ?_⟩
    show gName 3 (V.int ((y1.2.1.length : Int) / ((Nat.gcd y1.2.1.length y2.2.1.length : Nat) : Int) * (y2.2.1.length : Int))) _ _ _
    rw [emm]
    have mm0 : 0 < mm := by rw [hmm]; exact Nat.lcm_pos l10 l20
    have m16 : mm ≤ 16 := by
      rw [hmm]
      exact Nat.le_trans (Nat.le_of_dvd (Nat.mul_pos l10 l20) (Nat.lcm_dvd_mul _ _)) (Nat.le_trans (Nat.mul_le_mul l1 l2) (by decide))
    have d1 : mm = y1.2.1.length * (mm / y1.2.1.length) := (Nat.mul_div_cancel' (by rw [hmm]; exact Nat.dvd_lcm_left _ _)).symm
    have d2 : mm = y2.2.1.length * (mm / y2.2.1.length) := (Nat.mul_div_cancel' (by rw [hmm]; exact Nat.dvd_lcm_right _ _)).symm
    refine ⟨_, rfl, p1, _, _, _, rfl, rfl, hp1', at2, _, rfl, _, rfl, p1, _, _, _, rfl, rfl, hp1', at1, b1, _, rfl, Or.inr hb1', ?_⟩
    rw [vI_len]
    refine ⟨_, _, rfl, rfl, ⟨by omega, by omega⟩, _, _, rfl, rfl, Or.inl ⟨by omega, by omega⟩, ?_⟩
    refine ⟨_, rfl, p2, _, _, _, rfl, rfl, hp2', at2, _, rfl, _, rfl, p2, _, _, _, rfl, rfl, hp2', at1, b2, _, rfl, Or.inr hb2', ?_⟩
    rw [vI_len]
    refine ⟨_, _, rfl, rfl, ⟨by omega, by omega⟩, _, _, rfl, rfl, Or.inl ⟨by omega, by omega⟩, _, _, rfl, rfl, ?_⟩
    obtain ⟨c, hcl⟩ : ∃ c, c = y1.2.2 * ((mm : Int) / (y1.2.1.length : Int)) - y2.2.2 * ((mm : Int) / (y2.2.1.length : Int)) := ⟨_, rfl⟩
    show gName 4 (V.int (y1.2.2 * ((mm : Int) / (y1.2.1.length : Int)) - y2.2.2 * ((mm : Int) / (y2.2.1.length : Int)))) _ _ _
    rw [← hcl]
    have ej1 : (mm : Int) / (y1.2.1.length : Int) = ((mm / y1.2.1.length : Nat) : Int) := rfl
    have ej2 : (mm : Int) / (y2.2.1.length : Int) = ((mm / y2.2.1.length : Nat) : Int) := rfl
    rw [ej1, ej2] at hcl
    have q1 : mm / y1.2.1.length ≤ mm := Nat.div_le_self _ _
    have c1 : y1.2.2 * ((mm / y1.2.1.length : Nat) : Int) ≤ 11 * 16 := Int.mul_le_mul (by omega) (by omega) (Int.natCast_nonneg _) (by omega)
    have c2 : 0 ≤ y2.2.2 * ((mm / y2.2.1.length : Nat) : Int) := Int.mul_nonneg r20 (Int.natCast_nonneg _)
    have per : ∀ n, st < n → (numY y1 (n + mm) - numY y2 (n + mm)) = (numY y1 n - numY y2 n) + c := fun n hn => by
      have i1 := num_per (h := y1.1) (r := y1.2.2) e1 (show y1.1.length < n by omega) (mm / y1.2.1.length)
      have i2 := num_per (h := y2.1) (r := y2.2.2) e2 (show y2.1.length < n by omega) (mm / y2.2.1.length)
      rw [← d1] at i1
      rw [← d2] at i2
      show num _ _ _ _ - num _ _ _ _ = num _ _ _ _ - num _ _ _ _ + c
      rw [i1, i2, hcl]
      omega
    refine ⟨_, rfl, _, rfl, _, _, rfl, rfl, _, rfl, _, rfl, (by show 3 ≤ sizeLine; decide), fun pr hpr => ?_⟩
    refine q (st + mm) mm c pr _ ?_ (by omega) (Same.trans s1 (NF.Same.new (Same.refl G) hpr)) (SqT.of upd_same)
    subst hst
    exact .two e1 e2 mm0 m16 (by omega) per
end
end K09
set_option Elab.async false
set_option linter.all false
set_option maxRecDepth 100000
set_option maxHeartbeats 4000000
namespace K09
open PySem PySem.Spec PyProof.Rows L2 He NF RZ NT
theorem vlY_pos {y : Y} {n : Nat} (h : 1 ≤ n) : vlY y n = atY y n := val_at h
/-- what a difference tells of an excess -/
inductive DfIs (y1 y2 : Y) (n : Nat) : V → Prop
  | out (h : ∀ k, 0 ≤ k → ¬ (1 ≤ n ∧ Exc (atY y1) (atY y2) k n)) : DfIs y1 y2 n (.str "out")
  | non (h : ∀ k, 1 ≤ n ∧ Exc (atY y1) (atY y2) k n) : DfIs y1 y2 n .non
  | int {d : Int} (h : ∀ k, 0 ≤ k → ((1 ≤ n ∧ Exc (atY y1) (atY y2) k n) ↔ k < d)) : DfIs y1 y2 n (.int d)
theorem df_is (y1 y2 : Y) (n : Nat) : DfIs y1 y2 n (dfV y1 y2 n) := by
  by_cases h : n = 0
  · subst h
    exact .int (d := 0) fun k k0 => ⟨fun z => by have := z.1; omega, fun z => by omega⟩
  · unfold dfV
    rw [vlY_pos (by omega), vlY_pos (by omega)]
    cases e2 : atY y2 n with
    | none => exact .out fun k _ z => exc_never e2 z.2
    | some b =>
      cases e1 : atY y1 n with
      | none => exact .non fun k => ⟨by omega, exc_none e2 e1⟩
      | some a =>
        refine .int fun k _ => ?_
        rw [exc_some e2 e1]
        constructor
        · intro z; have := z.2; omega
        · intro z; exact ⟨by omega, by omega⟩
def spBey (K : PySem.W.Frag) : Sp := fun vs H Q _ => ∃ (p1 p2 : Addr) (y1 y2 : Y) (k : Int), vs = [.ref p1, .ref p2, .int k] ∧ FormAt K H p1 y1 ∧ FormAt K H p2 y2 ∧ Nr y1 ∧ Nr y2 ∧ 0 ≤ k ∧
  ∀ o H', Least1 (Exc (atY y1) (atY y2) k) o → Same H H' → Q (vN o) H'
theorem sc__law_beyond : FnScope ["_law_first", "_law_second", "_law_k", "_law_row", "_law_n", "_law_upto", "_law_many", "_law_climb"] ["_law_first", "_law_second", "_law_k"] (defScope s__law_beyond) := ⟨rfl, rfl, rfl, by decide +kernel, rfl, by decide +kernel, by decide +kernel⟩
section
variable {P : Program} {w : World} {K : PySem.W.Frag} {mg : Str → Option Value} {base : Heap} {gs : List Str} {C : Addr}
theorem ok__law_beyond {f : Addr} {fd : FuncData} (F : FunD K "_law_beyond" "_law_beyond" (defArgs s__law_beyond) (defBody s__law_beyond) (defScope s__law_beyond) [] [] f fd) (T : Txt K mg gs FS) (c__law_span : Cal P w K mg base 2 "_law_span" (spSpan K)) (c__law_difference : Cal P w K mg base 3 "_law_difference" (spDif K)) : FnOk P w K mg base CX0 4 f fd ["_law_first", "_law_second", "_law_k"] (spBey K) := by
  refine F.ok sc__law_beyond (fun vs H Q E h => ?_) (fun cdv A outer s H vs Q E hr h => ?_)
  · obtain ⟨p1, p2, y1, y2, k, rfl, _⟩ := h
    rfl
  · obtain ⟨p1, p2, y1, y2, k, rfl, fo1, fo2, n1, n2, k0, q⟩ := h
    refine ⟨_, PSs.nox (pss_cons (ps_asg (pe_c c__law_span hr (by decide) rfl (pa_cons (pv 0) (pa_cons (pv 1) pa_nil))) (pgt (K := K) (n := 3) rfl rfl (pgs_cons (pg_name (i := 5) sc__law_beyond.nd rfl (Or.inl rfl)) (pgs_cons (pg_name (i := 6) sc__law_beyond.nd rfl (Or.inr rfl)) (pgs_cons (pg_name (i := 7) sc__law_beyond.nd rfl (Or.inr rfl)) pgs_nil))))) (pss_cons (ps_set (i := 3) sc__law_beyond.nd rfl (Or.inr rfl) (pe_lc (own := [("_law_n", 4)]) rfl sc__law_beyond.nd (pi_range1 rfl (T.fr _ (by decide +kernel)) (pa_cons (pe_op op_add (pv 5) pe_int) pa_nil)) (blkOk_by (N := ["_law_first", "_law_second", "_law_k", "_law_row", "_law_n", "_law_upto", "_law_many", "_law_climb"]) (sc := defScope s__law_beyond) (by decide +kernel)) (fun _ _ _ _ _ => by exact (pg_name (i := 4) sc__law_beyond.nd rfl (Or.inl rfl))) (fun _ _ _ _ _ => by exact pts_nil) (fun _ _ _ _ _ => by exact (pe_c c__law_difference hr (by decide) rfl (pa_cons (pv 0) (pa_cons (pv 1) (pa_cons (pv 4) pa_nil))))))) (pss_cons (ps_for PassesOwn.never rfl (pi_range1 rfl (T.fr _ (by decide +kernel)) (pa_cons (pe_op op_add (pv 5) pe_int) pa_nil)) (pg_name (i := 4) sc__law_beyond.nd rfl (Or.inl rfl)) (pss_one (ps_if (PW.pt (pw_or (pt_cmpR op_isN (pe_ix (ixl (K := K)) (pv 3) (pv 4) fun _ _ => rfl) pe_non (nomark _)) (pw_or1 (PW.pt (pw_and (pt_cmpR op_ne (pe_ix (ixl (K := K)) (pv 3) (pv 4) fun _ _ => rfl) pe_str (nomark _)) (pw_and1 (pt_cmpR op_gt (pe_ix (ixl (K := K)) (pv 3) (pv 4) fun _ _ => rfl) (pv 2) (nomark _)))))))) (pss_one (ps_ret (pv 4))) pss_nil))) (pss_cons (ps_if (pt_cmpR op_le (pv 7) pe_int (nomark _)) (pss_one (ps_ret pe_non)) pss_nil) (pss_one (ps_ret (pe_callB (cr_min rfl) rfl (T.fr _ (by decide +kernel)) (by decide +kernel) (pa_cons (pe_lc (own := [("_law_n", 4)]) rfl sc__law_beyond.nd (pi_range2 rfl (T.fr _ (by decide +kernel)) (pa_cons (pe_op op_add (pe_op op_sub (pv 5) (pv 6)) pe_int) (pa_cons (pe_op op_add (pv 5) pe_int) pa_nil))) (blkOk_by (N := ["_law_first", "_law_second", "_law_k", "_law_row", "_law_n", "_law_upto", "_law_many", "_law_climb"]) (sc := defScope s__law_beyond) (by decide +kernel)) (fun _ _ _ _ _ => by exact (pg_name (i := 4) sc__law_beyond.nd rfl (Or.inl rfl))) (fun _ _ _ _ _ => by exact pts_nil) (fun _ _ _ _ _ => by exact (pe_op op_add (pv 4) (pe_op op_mul (pe_op op_add (pe_op op_fdiv (pe_op op_sub (pv 2) (pe_ix (ixl (K := K)) (pv 3) (pv 4) fun _ _ => rfl)) (pv 7)) pe_int) (pv 6))))) pa_nil)))))))), ?_⟩
    refine ⟨_, rfl, _, rfl, p1, p2, y1, y2, rfl, fo1, fo2, n1, n2, fun u m c ps H1 sp u30 s1 hps => ?_⟩
    refine ⟨ps, _, rfl, hps, rfl, _, _, rfl, ?_⟩
    refine ⟨_, _, rfl, ?_⟩
    refine ⟨_, _, rfl, ?_⟩
    refine ⟨rfl, ?_⟩
    have fo1 := fo1.mono s1
    have fo2 := fo2.mono s1
    refine ⟨_, rfl, _, _, rfl, rfl, ((u + 1 : Nat) : Int), rfl, by omega, by omega, fun D hD => ?_⟩
    refine lc_range (lo := 0) (n := u + 1) (fun j G => Same H1 G ∧ G D = some (.lst ((List.range j).map (dfV y1 y2)))) ⟨NF.Same.new (Same.refl H1) hD, upd_same⟩ ?_ ?_
    · rintro j G hj ⟨sG, hG⟩
      rw [Int.zero_add]
      refine ⟨rfl, _, rfl, _, rfl, _, rfl, p1, p2, y1, y2, j, rfl, fo1.mono sG, fo2.mono sG, n1.small, n2.small, ?_⟩
      refine ⟨_, hG, ?_, NF.Same.mut sG hD, ?_⟩
      · rw [List.length_map, List.length_range]
        exact Nat.lt_of_le_of_lt (show j ≤ 31 by omega) (by decide)
      · rw [upd_same, List.range_succ, List.map_append]
        rfl
    rintro G ⟨sG, hG⟩
    have hL : SqL K G D ((List.range (u + 1)).map (dfV y1 y2)) := SqL.of hG
    have s1G := Same.trans s1 sG
    have row : ∀ n, n ≤ u → atI ((List.range (u + 1)).map (dfV y1 y2)) (n : Int) = some (dfV y1 y2 n) := fun n hn => atI_nat (by rw [List.getElem?_map, List.getElem?_range (by omega)]; rfl)
    refine ⟨_, rfl, _, _, rfl, rfl, ((u + 1 : Nat) : Int), rfl, by omega, by omega, ?_⟩
    refine for_range (lo := 0) (n := u + 1) (fun i σ G' => Same G G' ∧ (∀ n, 1 ≤ n → n < i → ¬ Exc (atY y1) (atY y2) k n) ∧ ∃ v4, σ = [some (.ref p1), some (.ref p2), some (.int k), some (.ref D), v4, some (.int (u : Int)), some (.int (m : Int)), some (.int c)]) ⟨Same.refl G, fun n a b => by omega, _, rfl⟩ ?_ ?_
    · rintro i σ G' hi ⟨sG', no, v4, rfl⟩
      rw [Int.zero_add]
      have hL' := L2.Same.seq sG' hL
      have hr' := row i (by omega)
      have di := df_is y1 y2 i
      have next : ¬ (1 ≤ i ∧ Exc (atY y1) (atY y2) k i) → ∀ n, 1 ≤ n → n < i + 1 → ¬ Exc (atY y1) (atY y2) k n := fun z n h1 h2 e => by
        by_cases c : n = i
        · subst c
          exact z ⟨h1, e⟩
        · exact no n h1 (by omega) e
      have here : 1 ≤ i ∧ Exc (atY y1) (atY y2) k i → Q (.int (i : Int)) G' := fun z => q (some i) G' ⟨z.1, z.2, fun n h1 h2 => no n h1 h2⟩ (Same.trans s1G sG')
      generalize dfV y1 y2 i = v at hr' di
      refine ⟨_, rfl, _, rfl, D, _, _, _, rfl, rfl, hL', hr', ?_⟩
      cases di with
      | out z =>
        refine ⟨rfl, _, rfl, iteF' rfl ?_⟩
        refine ⟨_, rfl, _, rfl, D, _, _, _, rfl, rfl, hL', hr', rfl, _, rfl, iteF' (by simp) (iteF ?_)⟩
        exact ⟨sG', next (z k k0), _, rfl⟩
      | non z =>
        refine ⟨rfl, _, rfl, iteT' rfl (iteT ?_)⟩
        exact ⟨_, rfl, here (z k)⟩
      | @int d z =>
        refine ⟨rfl, _, rfl, iteF' rfl ?_⟩
        refine ⟨_, rfl, _, rfl, D, _, _, _, rfl, rfl, hL', hr', rfl, _, rfl, iteT' (by simp) ?_⟩
        refine ⟨_, rfl, _, rfl, D, _, _, _, rfl, rfl, hL', hr', _, rfl, _, _, rfl, rfl, _, rfl, ite2 (fun c => ?_) (fun c => ?_)⟩
        · exact ⟨_, rfl, here ((z k k0).mpr (of_decide_eq_true c))⟩
        · exact ⟨sG', next (fun y => c (decide_eq_true ((z k k0).mp y))), _, rfl⟩
    rintro σ G' ⟨sG', no, v4, rfl⟩
    have hL' := L2.Same.seq sG' hL
    have sGG := Same.trans s1G sG'
    refine ⟨_, rfl, _, _, rfl, rfl, _, rfl, ite2 (fun cz => ?_) (fun cz => ?_)⟩
    · have cz : c ≤ 0 := of_decide_eq_true cz
      refine q none G' (fun n hn z => ?_) sGG
      cases sp with
      | one e =>
        by_cases cn : n < max y1.1.length y2.1.length + max (max 1 y1.2.1.length) y2.2.1.length + 1
        · exact no n hn cn z
        · by_cases e2 : y2.2.1 = []
          · refine exc_never ?_ z
            show at_ _ _ _ _ = _
            unfold at_
            rw [if_neg (by omega), if_pos e2]
          · have e1 := e.resolve_right e2
            refine no (y1.1.length + 1) (by omega) (by omega) (exc_none (at_some _ (.inr e2)) ?_)
            show at_ _ _ _ _ = _
            unfold at_
            rw [if_neg (by omega), if_pos e1]
      | two e1 e2 m0 m16 c1 per =>
        have ex : ∀ n, Exc (atY y1) (atY y2) k n ↔ 0 < numY y1 n - numY y2 n - k := fun n => by
          rw [exc_some (show atY y2 n = some (numY y2 n) from at_some n (.inr e2)) (show atY y1 n = some (numY y1 n) from at_some n (.inr e1))]
          constructor <;> intro z <;> omega
        exact never_above (D := fun n => numY y1 n - numY y2 n - k) m0 (fun n hn => by have := per n hn; omega) cz (fun n a b y => no n a (by omega) ((ex n).mpr y)) n hn ((ex n).mp z)
    · have cz : 0 < c := Int.lt_of_not_ge fun y => cz (decide_eq_true y)
      cases sp with
      | one e => omega
      | @two _ _ e1 e2 m0 m16 c1 per =>
      obtain ⟨st, hst⟩ : ∃ st, st = max y1.1.length y2.1.length := ⟨_, rfl⟩
      rw [← hst] at no u30 row hL hL' per ⊢
      have one : ∀ n, atY y1 n = some (numY y1 n) := fun n => at_some n (.inr e1)
      have two : ∀ n, atY y2 n = some (numY y2 n) := fun n => at_some n (.inr e2)
      have ex : ∀ n, Exc (atY y1) (atY y2) k n ↔ 0 < numY y1 n - numY y2 n - k := fun n => by
        rw [exc_some (two n) (one n)]
        constructor <;> intro z <;> omega
      have dv : ∀ n, 1 ≤ n → dfV y1 y2 n = .int (numY y1 n - numY y2 n) := fun n hn => by
        unfold dfV
        rw [vlY_pos hn, vlY_pos hn, one, two]
        rfl
      refine ⟨_, rfl, _, rfl, _, _, rfl, rfl, _, _, rfl, rfl, _, rfl, _, _, rfl, rfl, _, _, rfl, ⟨by omega, by omega, by omega, by omega⟩, fun D2 hD2 => ?_⟩
      have en3 : (((st + m : Nat) : Int) + 1 - (((st + m : Nat) : Int) - (m : Int) + 1)).toNat = m := by omega
      rw [en3]
      refine lc_range (lo := ((st + m : Nat) : Int) - (m : Int) + 1) (n := m) (fun i G2 => Same G' G2 ∧ G2 D2 = some (.lst (vI ((List.range i).map fun i => afterAt (fun n => numY y1 n - numY y2 n - k) c m (st + 1 + i))))) ⟨NF.Same.new (Same.refl G') hD2, upd_same⟩ ?_ ?_
      · rintro i G2 hi ⟨sG2, hG2⟩
        have ei : ((st + m : Nat) : Int) - (m : Int) + 1 + (i : Int) = ((st + 1 + i : Nat) : Int) := by omega
        rw [ei]
        have hr' := row (st + 1 + i) (by omega)
        rw [dv _ (by omega)] at hr'
        refine ⟨rfl, _, rfl, _, rfl, _, rfl, _, rfl, D, _, _, _, rfl, rfl, L2.Same.seq sG2 hL', hr', ?_⟩
        refine ⟨_, _, rfl, rfl, _, rfl, _, _, rfl, rfl, ⟨cz, by omega⟩, _, _, rfl, rfl, _, rfl, _, _, rfl, rfl, Or.inr ⟨by omega, by omega⟩, _, _, rfl, rfl, ?_⟩
        refine ⟨_, hG2, ?_, NF.Same.mut sG2 hD2, ?_⟩
        · rw [vI_len, List.length_map, List.length_range]
          exact Nat.lt_of_le_of_lt (show i ≤ 16 by omega) (by decide)
        · rw [upd_same, List.range_succ, List.map_append, ← vI_app]
          congr 3
          unfold afterAt
          show [V.int _] = [V.int _]
          rw [show k - (numY y1 (st + 1 + i) - numY y2 (st + 1 + i)) = -(numY y1 (st + 1 + i) - numY y2 (st + 1 + i) - k) by omega]
      · rintro G2 ⟨sG2, hG2⟩
        refine ⟨D2, _, rfl, SqL.of hG2, ?_, fun v hv hl => ?_⟩
        · rw [List.length_map, List.length_range]
          exact m0
        · obtain ⟨n, rfl, n1', n2', n3'⟩ := least_above (D := fun n => numY y1 n - numY y2 n - k) m0 (fun n hn => by have := per n hn; omega) cz (fun n a b y => no n a (by omega) ((ex n).mpr y)) hv hl
          exact q (some n) G2 ⟨n1', (ex n).mpr n2', fun q q1 q2 z => n3' q q1 q2 ((ex q).mp z)⟩ (Same.trans sGG sG2)
end
end K09
set_option Elab.async false
set_option linter.all false
set_option maxRecDepth 100000
set_option maxHeartbeats 4000000
namespace NT
theorem Least1.one {P P' : Nat → Prop} {o o' : Option Nat} (h : Least1 P o) (h' : Least1 P' o') (e : ∀ n, 1 ≤ n → (P' n ↔ P n)) : o' = o := by
  cases o with
  | none =>
    cases o' with
    | none => rfl
    | some n => exact absurd ((e n h'.1).mp h'.2.1) (h n h'.1)
  | some n =>
    cases o' with
    | none => exact absurd ((e n h.1).mpr h.2.1) (h' n h.1)
    | some m =>
      congr 1
      have a1 : ¬ n < m := fun z => h'.2.2 n h.1 z ((e n h.1).mpr h.2.1)
      have a2 : ¬ m < n := fun z => h.2.2 m h'.1 z ((e m h'.1).mp h'.2.1)
      omega
theorem exc_congr {F G F' G' : Nat → Option Int} {k : Int} {n : Nat} (e1 : F' n = F n) (e2 : G' n = G n) : Exc F' G' k n ↔ Exc F G k n := by
  unfold Exc
  rw [e1, e2]
theorem GreatX.congr {F G F' G' : Nat → Option Int} {o : Option Int} (e1 : ∀ n, 1 ≤ n → F' n = F n) (e2 : ∀ n, 1 ≤ n → G' n = G n) (h : GreatX F' G' o) : GreatX F G o := by
  cases o with
  | none =>
    intro k
    obtain ⟨n, hn, e⟩ := h k
    exact ⟨n, hn, (exc_congr (e1 n hn) (e2 n hn)).mp e⟩
  | some m =>
    refine ⟨h.1, fun n hn e => h.2.1 n hn ((exc_congr (e1 n hn) (e2 n hn)).mpr e), ?_⟩
    rcases h.2.2 with z | ⟨n, hn, e⟩
    · exact .inl z
    · exact .inr ⟨n, hn, (exc_congr (e1 n hn) (e2 n hn)).mp e⟩
end NT
namespace K09
open PySem PySem.Spec PyProof.Rows L2 He NF RZ NT
theorem PlaceOk.congr {F G F' G' : Nat → Option Int} {o : Option Int} {p : Option Nat} (e1 : ∀ n, 1 ≤ n → F' n = F n) (e2 : ∀ n, 1 ≤ n → G' n = G n) (h : PlaceOk F' G' o p) : PlaceOk F G o p := by
  cases o with
  | none => exact h
  | some m =>
    rcases h with h | ⟨m0, h⟩
    · exact .inl h
    · refine .inr ⟨m0, ?_⟩
      cases p with
      | none => exact fun n hn e => h n hn ((exc_congr (e1 n hn) (e2 n hn)).mpr e)
      | some n => exact ⟨h.1, (exc_congr (e1 n h.1) (e2 n h.1)).mp h.2.1, fun m hm1 hm2 e => h.2.2 m hm1 hm2 ((exc_congr (e1 m hm1) (e2 m hm1)).mpr e)⟩
variable {y1 y2 : Y} {u m : Nat} {c : Int}
theorem span_never (sp : SpanOk y1 y2 u m c) (cz : c ≤ 0) {k : Int} (no : ∀ n, 1 ≤ n → n ≤ u → ¬ Exc (atY y1) (atY y2) k n) (n : Nat) (hn : 1 ≤ n) : ¬ Exc (atY y1) (atY y2) k n := by
  intro z
  cases sp with
  | one e =>
    by_cases cn : n ≤ max y1.1.length y2.1.length + max (max 1 y1.2.1.length) y2.2.1.length
    · exact no n hn cn z
    · by_cases e2 : y2.2.1 = []
      · refine exc_never ?_ z
        show at_ _ _ _ _ = _
        unfold at_
        rw [if_neg (by omega), if_pos e2]
      · have e1 := e.resolve_right e2
        refine no (y1.1.length + 1) (by omega) (by omega) (exc_none (at_some _ (.inr e2)) ?_)
        show at_ _ _ _ _ = _
        unfold at_
        rw [if_neg (by omega), if_pos e1]
  | two e1 e2 m0 m16 c1 per =>
    have ex : ∀ n, Exc (atY y1) (atY y2) k n ↔ 0 < numY y1 n - numY y2 n - k := fun n => by
      rw [exc_some (show atY y2 n = some (numY y2 n) from at_some n (.inr e2)) (show atY y1 n = some (numY y1 n) from at_some n (.inr e1))]
      constructor <;> intro z <;> omega
    exact never_above (D := fun n => numY y1 n - numY y2 n - k) m0 (fun n hn => by have := per n hn; omega) cz (fun n a b y => no n a b ((ex n).mpr y)) n hn ((ex n).mp z)
theorem great_none (sp : SpanOk y1 y2 u m c) (h : 0 < c ∨ ∃ n, dfV y1 y2 n = .non) : GreatX (atY y1) (atY y2) none := by
  intro k
  rcases h with h | ⟨n, h⟩
  · cases sp with
    | one e => omega
    | two e1 e2 m0 m16 c1 per =>
      obtain ⟨n0, hn0⟩ : ∃ n0, n0 = max y1.1.length y2.1.length + 1 := ⟨_, rfl⟩
      obtain ⟨j, hj⟩ : ∃ j : Nat, j = (k - (numY y1 n0 - numY y2 n0)).toNat + 1 := ⟨_, rfl⟩
      have e := lap_mul (D := fun n => numY y1 n - numY y2 n) per j n0 (by omega)
      refine ⟨n0 + m * j, by omega, (exc_some (at_some _ (.inr e2)) (at_some _ (.inr e1))).mpr ?_⟩
      have : 1 * (j : Int) ≤ c * (j : Int) := Int.mul_le_mul_of_nonneg_right (by omega) (by omega)
      show numY y2 (n0 + m * j) + k < numY y1 (n0 + m * j)
      omega
  · have d := df_is y1 y2 n
    rw [h] at d
    cases d with
    | non z => exact ⟨n, (z k).1, (z k).2⟩
theorem df_zero : dfV y1 y2 0 = .int 0 := rfl
theorem great_some (sp : SpanOk y1 y2 u m c) (cz : c ≤ 0) (nn : ∀ n, n ≤ u → dfV y1 y2 n ≠ .non) {M : Int} (mem : ∃ n, n ≤ u ∧ dfV y1 y2 n = .int M) (top : ∀ n d, n ≤ u → dfV y1 y2 n = .int d → d ≤ M) : GreatX (atY y1) (atY y2) (some M) := by
  have M0 : 0 ≤ M := top 0 0 (Nat.zero_le _) rfl
  refine ⟨M0, span_never sp cz fun n h1 h2 e => ?_, ?_⟩
  · have d := df_is y1 y2 n
    have t := top n
    have z0 := nn n h2
    generalize dfV y1 y2 n = v at d t z0
    cases d with
    | out z => exact z M M0 ⟨h1, e⟩
    | non z => exact z0 rfl
    | @int d z =>
      have := t d h2 rfl
      have := (z M M0).mp ⟨h1, e⟩
      omega
  · obtain ⟨n, h2, e⟩ := mem
    by_cases z : M = 0
    · exact .inl z
    · have d := df_is y1 y2 n
      rw [e] at d
      cases d with
      | int d =>
        have := (d (M - 1) (by omega)).mpr (by omega)
        exact .inr ⟨n, this.1, this.2⟩
theorem place_is (nn : ∀ n, n ≤ u → dfV y1 y2 n ≠ .non) {M : Int} (mem : ∃ n, n ≤ u ∧ dfV y1 y2 n = .int M) (top : ∀ n d, n ≤ u → dfV y1 y2 n = .int d → d ≤ M) {p : Option Nat} (po : PlaceOk (atY y1) (atY y2) (some M) p) :
    ∃ j, j ≤ u ∧ p = some j ∧ dfV y1 y2 j = .int M ∧ ∀ i, i < j → dfV y1 y2 i ≠ .int M := by
  have M0 : 0 ≤ M := top 0 0 (Nat.zero_le _) rfl
  rcases po with ⟨z, rfl⟩ | ⟨z, po⟩
  · exact ⟨0, Nat.zero_le _, rfl, by rw [z]; rfl, fun i hi => absurd hi (Nat.not_lt_zero _)⟩
  · obtain ⟨n, h2, e⟩ := mem
    have en : 1 ≤ n ∧ Exc (atY y1) (atY y2) (M - 1) n := by
      have d := df_is y1 y2 n
      rw [e] at d
      cases d with
      | int d => exact (d (M - 1) (by omega)).mpr (by omega)
    cases p with
    | none => exact absurd en.2 (po n en.1)
    | some j =>
      have jn : j ≤ n := Nat.le_of_not_lt fun c => po.2.2 n en.1 c en.2
      refine ⟨j, by omega, rfl, ?_, fun i hi ei => ?_⟩
      · have d := df_is y1 y2 j
        have t := top j
        have z0 := nn j (by omega)
        generalize dfV y1 y2 j = v at d t z0
        cases d with
        | out z => exact absurd ⟨po.1, po.2.1⟩ (z (M - 1) (by omega))
        | non z => exact absurd rfl z0
        | @int d z =>
          have a1 := t d (by omega) rfl
          have a2 := (z (M - 1) (by omega)).mp ⟨po.1, po.2.1⟩
          rw [show d = M by omega]
      · have d := df_is y1 y2 i
        rw [ei] at d
        cases d with
        | int d =>
          have := (d (M - 1) (by omega)).mpr (by omega)
          exact po.2.2 i this.1 hi this.2
end K09
set_option Elab.async false
set_option linter.all false
set_option maxRecDepth 100000
set_option maxHeartbeats 4000000
namespace K09
open PySem PySem.Spec PyProof.Rows L2 He NF RZ NT
def spLaw (K : PySem.W.Frag) : Sp := fun vs H Q _ => ∃ (l : Addr) (ns : List Int), vs = [.ref l] ∧ SqL K H l (ns.map V.int) ∧ ns.length ≤ 63 ∧ (∀ k ∈ ns, Builtin.Int.intBits k ≤ 1048576) ∧ ∀ H', Q (.bl true) H'
theorem sc_law : FnScope ["_law_script", "_law_source_here", "_law_first", "_law_second", "_law_told", "_law_row", "_law_counts", "_law_k", "_law_bad", "error", "_law_same", "_law_upto", "_law_many", "_law_climb", "_law_place", "_law_n", "_law_one"] ["_law_script"] (defScope s_law) := ⟨rfl, rfl, rfl, by decide +kernel, rfl, by decide +kernel, by decide +kernel⟩
theorem op_neDK {X : Cx} {K : PySem.W.Frag} (h : X.K = K) (hu : X.A.units + 64 < cLine) : OpR X (compareOp .NotEq) (rNeD K) := h ▸ op_neD hu
theorem FormAt.wo {K : PySem.W.Frag} {H : Hp} {q p : Addr} {y : Y} (h : FormAt K H q y) (hs : Src H p) : FormAt K (NF.wo H p) q y := by
  obtain ⟨_, _, _, hp⟩ := hs
  obtain ⟨a, b, h1, h2, h3⟩ := h
  exact ⟨a, b, NF.SqT.wo h1 hp trivial, NF.SqT.wo h2 hp trivial, NF.SqT.wo h3 hp trivial⟩
theorem src_wo {H H' : Hp} {p q : Addr} (h : Src H p) (n : p ≠ q) (s : Same (NF.wo H q) H') : Src H' p := by
  obtain ⟨a, b, c, e⟩ := h
  exact ⟨a, b, c, s _ _ ((wo_ne n).trans e)⟩
theorem src_ne2 {H : Hp} {p q : Addr} (h : Src H p) (n : H q = none) : p ≠ q := fun z => by
  obtain ⟨_, _, _, e⟩ := h
  rw [z, n] at e
  cases e
theorem fit_of {y z : Y} (n : Nr y) (p : IsPlain y.1 y.2.1 y.2.2 z) : Fit z ∧ z.1.length ≤ 900 := by
  obtain ⟨a1, a2, a3, a4, a5, _⟩ := plain_size p
  obtain ⟨b1, b2⟩ := a5 n.g.r0
  have h := n.h
  have l := n.l
  have r := n.r
  exact ⟨⟨(plain_fin n.g p).1, by omega, by omega, by omega⟩, by omega⟩
def dI : V → Option Int
  | .int d => some d
  | _ => none
theorem dfV_flat (y1 y2 : Y) (n : Nat) : flatV (dfV y1 y2 n) = true := by
  have d := df_is y1 y2 n
  generalize dfV y1 y2 n = v at d
  cases d <;> rfl
theorem ne_v {a b : V} (e : a = b) : (!decide (a = b)) = false := by rw [decide_eq_true e]; rfl
theorem sc_vN (o : Option Nat) : scal (vN o) (vN o) = true := by cases o <;> rfl
theorem tab_wo {K : PySem.W.Frag} {C : Addr} {H : Hp} {x p : Addr} {z : Y} (h : TabAt K C H x z) (hs : Src H p) : TabAt K C (NF.wo H p) x z := by
  obtain ⟨_, _, _, hp⟩ := hs
  obtain ⟨dx, a, b, h1, h2, h3⟩ := h
  refine ⟨dx, a, b, ?_, NF.SqT.wo h2 hp trivial, NF.SqT.wo h3 hp trivial⟩
  rw [wo_ne fun e => by rw [e, hp] at h1; cases h1]
  exact h1
theorem GapAt.wo {K : PySem.W.Frag} {CT C : Addr} {H : Hp} {x x1 x2 p : Addr} {y1 y2 : Y} {o : Option Int} {q : Option Nat} (h : GapAt K CT C H x x1 x2 y1 y2 o q) (hs : Src H p) : GapAt K CT C (NF.wo H p) x x1 x2 y1 y2 o q := by
  obtain ⟨dx, h1, h2, h3⟩ := h
  refine ⟨dx, ?_, tab_wo h2 hs, tab_wo h3 hs⟩
  obtain ⟨_, _, _, hp⟩ := hs
  rw [wo_ne fun e => by rw [e, hp] at h1; cases h1]
  exact h1
theorem row_flat (y1 y2 : Y) (N : Nat) : ((List.range N).map (dfV y1 y2)).all flatV = true := List.all_eq_true.mpr fun x hx => by
  obtain ⟨n, _, rfl⟩ := List.mem_map.mp hx
  exact dfV_flat y1 y2 n
theorem eq_non {v : V} (h : eqV v .non = true) : v = .non := by
  cases v <;> first | rfl | cases h
theorem dI_is {v : V} {d : Int} : dI v = some d ↔ v = .int d := by
  constructor
  · intro h
    cases v <;> first | (injection h with h; rw [h]) | cases h
  · rintro rfl
    rfl
theorem max_ex : ∀ l : List Int, l ≠ [] → ∃ M, M ∈ l ∧ ∀ y ∈ l, y ≤ M
  | [], h => absurd rfl h
  | [x], _ => ⟨x, List.mem_singleton.mpr rfl, fun y hy => by rw [List.mem_singleton.mp hy]; exact Int.le_refl _⟩
  | x :: y :: l, _ => by
    obtain ⟨M, h1, h2⟩ := max_ex (y :: l) (by simp)
    by_cases c : M ≤ x
    · exact ⟨x, List.mem_cons_self .., fun z hz => by
        rcases List.mem_cons.mp hz with rfl | hz
        · exact Int.le_refl _
        · exact Int.le_trans (h2 z hz) c⟩
    · exact ⟨M, List.mem_cons_of_mem _ h1, fun z hz => by
        rcases List.mem_cons.mp hz with rfl | hz
        · omega
        · exact h2 z hz⟩
/-- how the type of a Gap is read -/
structure GapT (K : PySem.W.Frag) (C : Addr) : Prop where
  ac : PySem.W.findIn K (.ref C) "__class__" = some (some (.builtin "object.__class__"))
  ag : PySem.W.specialIn K (.builtin "object.__class__") "__get__" = some (some (.builtin "getset_descriptor.__get__"))
  at_ : PySem.W.takesIn K (.builtin "object.__class__") = some true
  am : PySem.W.mroIn K C (.type "object") = some true
  isG : PySem.W.kitOne K (.ref C) (.ref C) = some true
section
variable {P : Program} {w : World} {K : PySem.W.Frag} {mg : Str → Option Value} {base : Heap} {gs : List Str} {C CG : Addr}
theorem ok_law {f : Addr} {fd : FuncData} (F : FunD K "law" "law" (defArgs s_law) (defBody s_law) (defScope s_law) [] [] f fd) (T : Txt K mg gs FS) (tc : TabC K C) (hg : GapC K CG) (gt : GapT K CG) (hG : mg "Gap" = some (.ref CG)) (m_BadCount : ExcI P w K mg base "BadCount" "thing") (xf_BadCount : XfC K (ga K "BadCount")) (no_BadCount : PySem.W.findIn K (.ref (ga K "BadCount")) "thing" = some none) (ex : PySem.W.exmOne K (.ref (ga K "BadCount")) (.ref (ga K "BadCount")) = some true)
    (c__law_source : Cal P w K mg base 1 "_law_source" (spSource K)) (c__law_pick : Cal P w K mg base 1 "_law_pick" spPick) (c__law_raw : Cal P w K mg base 3 "_law_raw" (spRaw K)) (c__law_near : Cal P w K mg base 4 "_law_near" (spNear K)) (c__law_table : Cal P w K mg base 6 "_law_table" (spLTable K C)) (c_gap : Cal P w K mg base 8 "gap" (spGap K C CG)) (c__law_span : Cal P w K mg base 2 "_law_span" (spSpan K)) (c__law_difference : Cal P w K mg base 3 "_law_difference" (spDif K)) (c__law_is_count : Cal P w K mg base 2 "_law_is_count" spIsCount) (c__law_beyond : Cal P w K mg base 4 "_law_beyond" (spBey K))
    (o_beyond : MetX P w K mg base 6 CG "beyond" (spBeyond K C CG)) : FnOk P w K mg base CX0 9 f fd ["_law_script"] (spLaw K) := by
  refine F.ok sc_law (fun vs H Q E h => ?_) (fun cdv A outer s H vs Q E hr h => ?_)
  · obtain ⟨l, ns, rfl, _⟩ := h
    rfl
  · obtain ⟨sl, ns, rfl, hsl, hlen, hbits, k⟩ := h
    have hu : (A.deeper (envOfC "law" (defScope s_law) s.heap.objs.size f cdv)).units + 64 < cLine := by
      have := hr.un
      omega
    refine ⟨_, PSs.nox (pss_cons (ps_set (i := 1) sc_law.nd rfl (Or.inl rfl) (pe_c c__law_source hr (by decide) rfl (pa_cons (pv 0) (pa_cons pe_int pa_nil)))) (pss_cons (ps_set (i := 2) sc_law.nd rfl (Or.inr rfl) (pe_c c__law_raw hr (by decide) rfl (pa_cons (pv 1) (pa_cons pe_bl pa_nil)))) (pss_cons (ps_set (i := 3) sc_law.nd rfl (Or.inr rfl) (pe_c c__law_near hr (by decide) rfl (pa_cons (pe_c c__law_source hr (by decide) rfl (pa_cons (pv 0) (pa_cons pe_int pa_nil))) (pa_cons (pv 2) pa_nil)))) (pss_cons (ps_if (pt_cmpR op_eq (pe_c c__law_pick hr (by decide) rfl (pa_cons (pv 1) (pa_cons pe_int pa_nil))) pe_int (nomark _)) (pss_one (ps_asg (pe_tup (pa_cons (pv 3) (pa_cons (pv 2) pa_nil))) (pgt (K := K) (n := 2) rfl rfl (pgs_cons (pg_name (i := 2) sc_law.nd rfl (Or.inr rfl)) (pgs_cons (pg_name (i := 3) sc_law.nd rfl (Or.inr rfl)) pgs_nil))))) pss_nil) (pss_cons (ps_set (i := 4) sc_law.nd rfl (Or.inl rfl) (pe_c c_gap hr (by decide) rfl (pa_cons (pe_c c__law_table hr (by decide) rfl (pa_cons (pv 2) pa_nil)) (pa_cons (pe_c c__law_table hr (by decide) rfl (pa_cons (pv 3) pa_nil)) pa_nil)))) (pss_cons (ps_asg (pe_c c__law_span hr (by decide) rfl (pa_cons (pv 2) (pa_cons (pv 3) pa_nil))) (pgt (K := K) (n := 3) rfl rfl (pgs_cons (pg_name (i := 11) sc_law.nd rfl (Or.inl rfl)) (pgs_cons (pg_name (i := 12) sc_law.nd rfl (Or.inl rfl)) (pgs_cons (pg_name (i := 13) sc_law.nd rfl (Or.inl rfl)) pgs_nil))))) (pss_cons (ps_setLc (i := 5) (own := [("_law_n", 15)]) rfl sc_law.nd rfl rfl (sw_true rfl rfl rfl (by decide +kernel)) (pi_range1 rfl (T.fr _ (by decide +kernel)) (pa_cons (pe_op op_add (pv 11) pe_int) pa_nil)) (blkOk_by (N := ["_law_script", "_law_source_here", "_law_first", "_law_second", "_law_told", "_law_row", "_law_counts", "_law_k", "_law_bad", "error", "_law_same", "_law_upto", "_law_many", "_law_climb", "_law_place", "_law_n", "_law_one"]) (sc := defScope s_law) (by decide +kernel)) (fun _ _ _ _ _ => by exact (pg_name (i := 15) sc_law.nd rfl (Or.inl rfl))) (fun _ _ _ _ _ => by exact pts_nil) (fun _ _ _ _ _ => by exact (pe_c c__law_difference hr (by decide) rfl (pa_cons (pv 2) (pa_cons (pv 3) (pa_cons (pv 15) pa_nil)))))) (pss_cons (ps_setLc (i := 6) (own := [("_law_one", 16)]) rfl sc_law.nd rfl rfl (sw_true rfl rfl rfl (by decide +kernel)) (pi_list (pv 5)) (blkOk_by (N := ["_law_script", "_law_source_here", "_law_first", "_law_second", "_law_told", "_law_row", "_law_counts", "_law_k", "_law_bad", "error", "_law_same", "_law_upto", "_law_many", "_law_climb", "_law_place", "_law_n", "_law_one"]) (sc := defScope s_law) (by decide +kernel)) (fun _ _ _ _ _ => by exact (pg_name (i := 16) sc_law.nd rfl (Or.inl rfl))) (fun _ _ _ _ _ => by exact (pts_one (PW.pt (pw_and (pt_cmpR op_notN (pv 16) pe_non (nomark _)) (pw_and1 (pt_cmpR op_ne (pv 16) pe_str (nomark _))))))) (fun _ _ _ _ _ => by exact (pv 16))) (pss_cons (ps_if (PW.pt (pw_or (pt_cmpR op_gt (pv 13) pe_int (nomark _)) (pw_or1 (pt_cmpR op_in_seq pe_non (pv 5) rfl)))) (pss_one (ps_if (PW.pt (pw_or (pt_cmpR op_notN (pe_fld (pv 4) rfl) pe_non (nomark _)) (pw_or1 (pt_cmpR op_notN (pe_fld (pv 4) rfl) pe_non (nomark _))))) (pss_one (ps_ret pe_bl)) pss_nil)) (pss_cons (ps_if (PW.pt (pw_or (pt_not (pt_val (pe_c c__law_is_count hr (by decide) rfl (pa_cons (pe_fld (pv 4) rfl) pa_nil)))) (pw_or1 (pt_cmpR op_ne (pe_fld (pv 4) rfl) (pe_callB (cr_max rfl) rfl (T.fr _ (by decide +kernel)) (by decide +kernel) (pa_cons (pv 6) pa_nil)) (nomark _))))) (pss_one (ps_ret pe_bl)) pss_nil) (pss_one (ps_if (PW.pt (pw_or (pt_not (pt_val (pe_c c__law_is_count hr (by decide) rfl (pa_cons (pe_fld (pv 4) rfl) pa_nil)))) (pw_or1 (pt_cmpR op_ne (pe_fld (pv 4) rfl) (pe_bm PySem.F.plainAttrs_list PySem.F.slot_list_index PySem.F.type_list_index mt_index (pv 5) (pa_cons (pe_callB (cr_max rfl) rfl (T.fr _ (by decide +kernel)) (by decide +kernel) (pa_cons (pv 6) pa_nil)) pa_nil)) (nomark _))))) (pss_one (ps_ret pe_bl)) pss_nil)))) (pss_cons (ps_for PassesOwn.never rfl (pi_list (pe_lst (pa_cons pe_int (pa_cons pe_int (pa_cons (pe_c c__law_pick hr (by decide) rfl (pa_cons (pv 1) (pa_cons pe_int pa_nil))) (pa_cons (pe_op op_add pe_int (pe_c c__law_pick hr (by decide) rfl (pa_cons (pv 1) (pa_cons pe_int pa_nil)))) (pa_cons (pe_op op_add pe_int (pe_c c__law_pick hr (by decide) rfl (pa_cons (pv 1) (pa_cons pe_int pa_nil)))) pa_nil))))))) (pg_name (i := 7) sc_law.nd rfl (Or.inl rfl)) (pss_cons (ps_set (i := 14) sc_law.nd rfl (Or.inl rfl) (pe_mtX takes0 (pv 4) o_beyond hr (by decide) (pa_cons (pv 7) pa_nil))) (pss_one (ps_if (PW.pt (pw_or (pt_cmpR op_ne (pv 14) (pe_c c__law_beyond hr (by decide) rfl (pa_cons (pv 2) (pa_cons (pv 3) (pa_cons (pv 7) pa_nil)))) (nomark _)) (pw_or1 (PW.pt (pw_and (pt_cmpR op_notN (pv 14) pe_non (nomark _)) (pw_and1 (pt_not (pt_val (pe_c c__law_is_count hr (by decide) rfl (pa_cons (pv 14) pa_nil)))))))))) (pss_one (ps_ret pe_bl)) pss_nil)))) (pss_cons (ps_set (i := 8) sc_law.nd rfl (Or.inl rfl) (pe_ix (ixl (K := K)) (pe_lst (pa_cons pe_bl (pa_cons (pe_un un_neg pe_int) (pa_cons pe_str (pa_cons pe_non (pa_cons (pe_tup (pa_cons pe_int pa_nil)) pa_nil)))))) (pe_c c__law_pick hr (by decide) rfl (pa_cons (pv 1) (pa_cons pe_int pa_nil))) fun _ _ => rfl)) (pss_cons (ps_try_as (i := 9) rfl rfl sc_law.nd rfl rfl ⟨rfl, by decide, .inl m_BadCount.gm⟩ takes0 (fun W pn xe tk _ => (pss_cons (ps_expr (pe_mtX tk (pv 4) o_beyond hr (by decide) (pa_cons (pv 8) pa_nil))) (pss_one (ps_ret pe_bl)))) (fun a oe cls d pn hz hf => (pss_one (ps_if (pt_cmpR (op_neDK (K := K) rfl hu) (pe_xf xf_BadCount no_BadCount hz hf (pv 9)) (pv 8) (nomark _)) (pss_one (ps_ret pe_bl)) pss_nil)))) (pss_cons (ps_set (i := 10) sc_law.nd rfl (Or.inl rfl) (pe_c c_gap hr (by decide) rfl (pa_cons (pe_c c__law_table hr (by decide) rfl (pa_cons (pv 2) pa_nil)) (pa_cons (pe_c c__law_table hr (by decide) rfl (pa_cons (pv 2) pa_nil)) pa_nil)))) (pss_one (ps_ret (pe_and (pe_callB call_isi rfl (T.fr _ (by decide +kernel)) (by decide +kernel) (pa_cons (pv 10) (pa_cons (pe_gl hG) pa_nil))) (pe_and (pe_cmpR op_eq (pe_fld (pv 10) rfl) pe_int (nomark _)) (pe_and (pe_cmpR op_eq (pe_fld (pv 10) rfl) pe_int (nomark _)) (pe_one (pe_cmpR op_isN (pe_mtX takes0 (pv 10) o_beyond hr (by decide) (pa_cons pe_int pa_nil)) pe_non (nomark _))))))))))))))))))))), ?_⟩
    refine ⟨_, rfl, sl, ns, 0, rfl, hsl, hlen, hbits, by decide, fun p1 G1 s1 hp1 hs1 => ?_⟩
    refine ⟨_, rfl, wo G1 p1, p1, rfl, wo_same', wo_none, hs1, fun q1 y1 G2 s2 S1 ok1 F1 => ?_⟩
    have sH : Same H G2 := wo_same s1 hp1 s2
    refine ⟨_, rfl, sl, ns, 1, rfl, L2.Same.seq sH hsl, hlen, hbits, by decide, fun p2 G3 s3 hp2 S2 => ?_⟩
    have F1 := F1.mono s3
    have n12 : p1 ≠ p2 := src_ne2 S1 hp2
    have S1 := Src.mono S1 s3
    have fr2 : H p2 = none := L2.Same.free sH hp2
    have sH : Same H G3 := Same.trans sH s3
    refine ⟨_, rfl, wo G3 p2, p2, q1, y1, rfl, wo_same', wo_none, S2, F1.wo S2, ok1, fun q2 y2 G4 s4 S2' n2 F2 => ?_⟩
    have F1 := (F1.wo S2).mono s4
    have S1 := src_wo S1 n12 s4
    have sH : Same H G4 := wo_same sH fr2 s4
    have n1 := Nr.of ok1
    have F1w := F1.wo S1
    have F2w := F2.wo S1
    refine ⟨_, rfl, wo G4 p1, p1, 2, rfl, wo_same', wo_none, S1, by decide, by decide, fun d G5 d0 d1 s5 S1' => ?_⟩
    refine' shr (X := _) (R := ∀ (qa qb : Addr) (G : Hp), (∃ ya yb : Y, Nr ya ∧ Nr yb ∧ Same (wo G4 p1) G ∧ Src G p1 ∧ FormAt K G qa ya ∧ FormAt K G qb yb) → (?R : Addr → Addr → Hp → Prop) qa qb G) (fun kk => ?A) ?B
    case A =>
      have F1 := F1w.mono s5
      have F2 := F2w.mono s5
      refine ⟨rfl, _, rfl, ite2 (fun h1 => ?_) (fun h1 => ?_)⟩
      rotate_left
      · generalize e1 : q1 = r1
        generalize e2 : q2 = r2
        generalize e3 : G5 = GX
        subst e3
        exact kk r1 r2 G5 ⟨y1, y2, n1, n2, s5, S1', e1 ▸ F1, e2 ▸ F2⟩
      · refine ⟨_, rfl, _, rfl, (by show 2 ≤ sizeLine; decide), fun t ht => ?_⟩
        have st := NF.Same.new (o := .tup [V.ref q2, V.ref q1]) (Same.refl G5) ht
        refine ⟨t, _, rfl, SqT.of upd_same, rfl, _, _, rfl, ?_⟩
        refine ⟨_, _, rfl, ?_⟩
        refine ⟨rfl, ?_⟩
        have F1 := F1.mono st
        have F2 := F2.mono st
        have s5t := Same.trans s5 st
        have S1t := Src.mono S1' st
        generalize upd G5 t (.tup [V.ref q2, V.ref q1]) = GX at F1 F2 s5t S1t ⊢
        exact kk q2 q1 GX ⟨y2, y1, n2, n1, s5t, S1t, F2, F1⟩
    case B =>
      rintro qa qb G6 ⟨ya, yb, na, nb, s6, S1, Fa, Fb⟩
      refine ⟨_, rfl, qa, ya, rfl, Fa, na.ok, fun xa za GB hza sB Aa => ?_⟩
      refine ⟨_, rfl, qb, yb, rfl, Fb.mono sB, nb.ok, fun xb zb GC hzb sC Ab => ?_⟩
      obtain ⟨fa, ha9⟩ := fit_of na hza
      obtain ⟨fb, hb9⟩ := fit_of nb hzb
      refine ⟨xa, xb, za, zb, rfl, Aa.mono sC, Ab, fa, fb, ha9, fun xg o pl GD go po sD gp => ?_⟩
      have ea : ∀ n, 1 ≤ n → atY za n = atY ya n := fun n hn => plain_at hza n hn
      have eb : ∀ n, 1 ≤ n → atY zb n = atY yb n := fun n hn => plain_at hzb n hn
      have go := go.congr ea eb
      have po := po.congr ea eb
      have sBD := Same.trans sB (Same.trans sC sD)
      have Fa := Fa.mono sBD
      have Fb := Fb.mono sBD
      have S1 := Src.mono S1 sBD
      refine ⟨_, rfl, _, rfl, qa, qb, ya, yb, rfl, Fa, Fb, na, nb, fun u m c ps GE sp u30 sE hps => ?_⟩
      refine ⟨ps, _, rfl, hps, rfl, _, _, rfl, ?_⟩
      refine ⟨_, _, rfl, ?_⟩
      refine ⟨_, _, rfl, ?_⟩
      refine ⟨rfl, ?_⟩
      have Fa := Fa.mono sE
      have Fb := Fb.mono sE
      have S1 := Src.mono S1 sE
      have gp := gp.mono sE
      -- the differences
      refine ⟨_, rfl, _, _, rfl, rfl, ((u + 1 : Nat) : Int), rfl, by omega, by omega, fun D hD => ?_⟩
      refine lc_range (lo := 0) (n := u + 1) (fun j G => Same GE G ∧ G D = some (.lst ((List.range j).map (dfV ya yb)))) ⟨NF.Same.new (Same.refl GE) hD, upd_same⟩ ?_ ?_
      · rintro j G hj ⟨sG, hG⟩
        rw [Int.zero_add]
        refine ⟨rfl, _, rfl, _, rfl, _, rfl, qa, qb, ya, yb, j, rfl, Fa.mono sG, Fb.mono sG, na.small, nb.small, ?_⟩
        refine ⟨_, hG, ?_, NF.Same.mut sG hD, ?_⟩
        · rw [List.length_map, List.length_range]
          exact Nat.lt_of_le_of_lt (show j ≤ 31 by omega) (by decide)
        · rw [upd_same, List.range_succ, List.map_append]
          rfl
      rintro G7 ⟨s7, hG7⟩
      have hL : SqL K G7 D ((List.range (u + 1)).map (dfV ya yb)) := SqL.of hG7
      refine ⟨_, rfl, D, rfl, ⟨_, hL⟩, fun D2 hD2 => ?_⟩
      refine lc_list (xs := (List.range (u + 1)).map (dfV ya yb)) (fun j G => Same G7 G ∧ G D2 = some (.lst (vI ((List.range j).filterMap (fun n => dI (dfV ya yb n)))))) ⟨NF.Same.new (Same.refl G7) hD2, upd_same⟩ (fun i G _ z => L2.Same.seq z.1 hL) ?_ ?_
      · rintro j v G hv ⟨sG, hG⟩
        have hj := (List.getElem?_eq_some_iff.mp hv).1
        rw [List.length_map, List.length_range] at hj
        rw [List.getElem?_map, List.getElem?_range hj] at hv
        obtain rfl : dfV ya yb j = v := Option.some.inj hv
        have di := df_is ya yb j
        rw [List.range_succ, List.filterMap_append]
        generalize ev : dfV ya yb j = v at di
        cases di with
        | out z =>
          have fm : List.filterMap (fun n => dI (dfV ya yb n)) [j] = [] := by rw [List.filterMap_cons, ev]; rfl
          rw [fm, List.append_nil]
          refine ⟨rfl, _, rfl, rfl, _, rfl, iteT' rfl ?_⟩
          exact ⟨_, rfl, rfl, _, rfl, iteF' (by simp) ⟨sG, hG⟩⟩
        | non z =>
          have fm : List.filterMap (fun n => dI (dfV ya yb n)) [j] = [] := by rw [List.filterMap_cons, ev]; rfl
          rw [fm, List.append_nil]
          exact ⟨rfl, _, rfl, rfl, _, rfl, iteF' rfl (iteF ⟨sG, hG⟩)⟩
        | @int d z =>
          have fm : List.filterMap (fun n => dI (dfV ya yb n)) [j] = [d] := by rw [List.filterMap_cons, ev]; rfl
          rw [fm]
          refine ⟨rfl, _, rfl, rfl, _, rfl, iteT' rfl ?_⟩
          refine ⟨_, rfl, rfl, _, rfl, iteT' (by simp) ⟨_, rfl, _, hG, ?_, NF.Same.mut sG hD2, ?_⟩⟩
          · rw [vI_len]
            have := List.length_filterMap_le (fun n => dI (dfV ya yb n)) (List.range j)
            rw [List.length_range] at this
            exact Nat.lt_of_le_of_lt (show _ ≤ 31 by omega) (by decide)
          · rw [upd_same, ← vI_app]
            rfl
      rintro G8 ⟨s8, hG8⟩
      rw [List.length_map, List.length_range] at hG8
      have hL8 := L2.Same.seq s8 hL
      have s78 := Same.trans (Same.trans s7 s8) (Same.refl _)
      have Fa := Fa.mono s78
      have Fb := Fb.mono s78
      have S1 := Src.mono S1 s78
      have gp := gp.mono s78
      obtain ⟨dg, hxg, tga, tgb⟩ := id gp
      have hC8 : SqL K G8 D2 (vI ((List.range (u + 1)).filterMap (fun n => dI (dfV ya yb n)))) := SqL.of hG8
      -- what is told of the greatest one
      have memC : ∀ d, d ∈ (List.range (u + 1)).filterMap (fun n => dI (dfV ya yb n)) ↔ ∃ n, n ≤ u ∧ dfV ya yb n = .int d := fun d => by
        rw [List.mem_filterMap]
        constructor
        · rintro ⟨n, hn, e⟩
          exact ⟨n, by have := List.mem_range.mp hn; omega, dI_is.mp e⟩
        · rintro ⟨n, hn, e⟩
          exact ⟨n, List.mem_range.mpr (by omega), dI_is.mpr e⟩
      generalize hCs : (List.range (u + 1)).filterMap (fun n => dI (dfV ya yb n)) = Cs at memC hC8
      have zC : (0 : Int) ∈ Cs := (memC 0).mpr ⟨0, Nat.zero_le _, rfl⟩
      refine' shr (X := _) (R := (?R2 : Prop)) (fun kk => ?A2) ?B2
      case A2 =>
        refine ⟨_, rfl, _, _, rfl, rfl, _, rfl, ite2 (fun c1 => ?_) (fun c1 => ?_)⟩
        · have c1 : 0 < c := of_decide_eq_true c1
          obtain rfl : o = none := greatX_one go (great_none sp (.inl c1))
          obtain rfl : pl = none := po
          refine iteT ?_
          refine ⟨_, rfl, xg, CG, dg, _, _, rfl, hxg, hg.cl, hg.mo, rfl, rfl, _, rfl, iteF' rfl ?_⟩
          refine ⟨_, rfl, xg, CG, dg, _, _, rfl, hxg, hg.cl, hg.pl, rfl, rfl, _, rfl, iteF' rfl ?_⟩
          exact kk
        · have c1 : c ≤ 0 := by
            have : ¬ 0 < c := fun z => c1 (decide_eq_true z)
            omega
          refine ⟨_, rfl, D, _, rfl, .inl hL8, rfl, row_flat _ _ _, ?_⟩
          cases hin : inV .non ((List.range (u + 1)).map (dfV ya yb)) with
          | true =>
            have : ∃ n, dfV ya yb n = .non := by
              obtain ⟨v, hv, e⟩ := List.any_eq_true.mp hin
              obtain ⟨n, _, rfl⟩ := List.mem_map.mp hv
              exact ⟨n, eq_non e⟩
            obtain rfl : o = none := greatX_one go (great_none sp (.inr this))
            obtain rfl : pl = none := po
            refine ⟨_, rfl, iteT ?_⟩
            refine ⟨_, rfl, xg, CG, dg, _, _, rfl, hxg, hg.cl, hg.mo, rfl, rfl, _, rfl, iteF' rfl ?_⟩
            refine ⟨_, rfl, xg, CG, dg, _, _, rfl, hxg, hg.cl, hg.pl, rfl, rfl, _, rfl, iteF' rfl ?_⟩
            exact kk
          | false =>
            have nn : ∀ n, n ≤ u → dfV ya yb n ≠ .non := fun n hn e => by
              have : inV .non ((List.range (u + 1)).map (dfV ya yb)) = true := List.any_eq_true.mpr ⟨.non, List.mem_map.mpr ⟨n, List.mem_range.mpr (by omega), e⟩, rfl⟩
              rw [hin] at this
              cases this
            obtain ⟨M, hM, hMl⟩ := max_ex Cs (fun z => by rw [z] at zC; cases zC)
            have M0 : 0 ≤ M := hMl 0 zC
            have top : ∀ n d, n ≤ u → dfV ya yb n = .int d → d ≤ M := fun n d hn e => hMl d ((memC d).mpr ⟨n, hn, e⟩)
            have mem := (memC M).mp hM
            obtain rfl : o = some M := greatX_one go (great_some sp c1 nn mem top)
            obtain ⟨j, ju, rfl, ej, fj⟩ := place_is nn mem top po
            have Cpos : 0 < Cs.length := len_pos fun z => by rw [z] at zC; cases zC
            have oneM : ∀ m, m ∈ Cs → (∀ y, y ∈ Cs → y ≤ m) → m = M := fun m hm hl => Int.le_antisymm (hMl m hm) (hl M hM)
            refine ⟨_, rfl, iteF ?_⟩
            refine ⟨_, rfl, xg, CG, dg, _, _, rfl, hxg, hg.cl, hg.mo, rfl, M, rfl, ?_⟩
            rw [decide_eq_true M0]
            refine ⟨true, rfl, iteF' rfl ?_⟩
            refine ⟨_, rfl, xg, CG, dg, _, _, rfl, hxg, hg.cl, hg.mo, rfl, _, rfl, D2, Cs, rfl, hC8, Cpos, fun m hm hl => ?_⟩
            obtain rfl := oneM m hm hl
            refine ⟨rfl, _, rfl, iteF' (ne_v rfl) ?_⟩
            refine ⟨_, rfl, xg, CG, dg, _, _, rfl, hxg, hg.cl, hg.pl, rfl, (j : Int), rfl, ?_⟩
            rw [decide_eq_true (show (0 : Int) ≤ (j : Int) by omega)]
            refine ⟨true, rfl, iteF' rfl ?_⟩
            refine ⟨_, rfl, xg, CG, dg, _, _, rfl, hxg, hg.cl, hg.pl, rfl, _, rfl, .inl ⟨rfl, _, hL8⟩, _, rfl, D2, Cs, rfl, hC8, Cpos, fun m2 hm2 hl2 => ?_⟩
            obtain rfl := oneM m2 hm2 hl2
            refine ⟨D, _, .int m2, j, .int m2, rfl, rfl, hL8, rfl, row_flat _ _ _, by rw [List.getElem?_map, List.getElem?_range (by omega)]; exact congrArg some ej, by simp [eqV], fun i z' hi hz => ?_, ?_⟩
            · rw [List.getElem?_map, List.getElem?_range (by omega)] at hz
              obtain rfl : dfV ya yb i = z' := Option.some.inj hz
              have d := df_is ya yb i
              have f := fj i hi
              generalize dfV ya yb i = v at d f
              cases d with
              | out z => rfl
              | non z => rfl
              | @int d z =>
                show (d == m2) = false
                exact beq_false_of_ne fun e => f (by rw [e])
            · exact ⟨rfl, _, rfl, iteF' (ne_v rfl) kk⟩
      case B2 =>
        clear hC8 memC hL8 hL hCs zC
        -- how far beyond
        refine ⟨_, rfl, wo G8 p1, p1, 9, rfl, wo_same', wo_none, S1, by decide, by decide, fun d9 G9 d90 _ s9 S9 => ?_⟩
        have Fa := (Fa.wo S1).mono s9
        have Fb := (Fb.wo S1).mono s9
        have gp := (gp.wo S1).mono s9
        refine ⟨_, rfl, wo G9 p1, p1, 40, rfl, wo_same', wo_none, S9, by decide, by decide, fun d40 GA d400 _ sA SA => ?_⟩
        have Fa := (Fa.wo S9).mono sA
        have Fb := (Fb.wo S9).mono sA
        have gp := (gp.wo S9).mono sA
        refine ⟨_, _, rfl, rfl, ?_⟩
        refine ⟨_, rfl, wo GA p1, p1, 300, rfl, wo_same', wo_none, SA, by decide, by decide, fun d300 GB d3000 _ sB' SB => ?_⟩
        have Fa := (Fa.wo SA).mono sB'
        have Fb := (Fb.wo SA).mono sB'
        have gp := (gp.wo SA).mono sB'
        refine ⟨_, _, rfl, rfl, ?_⟩
        refine ⟨(by show 5 ≤ sizeLine; decide), fun L hLn => ?_⟩
        have sL := NF.Same.new (o := .lst (vI [0, 1, d9, 3 + d40, 300 + d300])) (Same.refl GB) hLn
        have hLv : (upd GB L (.lst (vI [0, 1, d9, 3 + d40, 300 + d300]))) L = some (.lst (vI [0, 1, d9, 3 + d40, 300 + d300])) := upd_same
        have Fa := Fa.mono sL
        have Fb := Fb.mono sL
        have gp := gp.mono sL
        have SL := Src.mono SB sL
        have kpos : ∀ i ∈ [0, 1, d9, 3 + d40, 300 + d300], (0 : Int) ≤ i := fun i hi => by
          simp only [List.mem_cons, List.not_mem_nil, or_false] at hi
          rcases hi with rfl | rfl | rfl | rfl | rfl <;> omega
        refine ⟨L, rfl, ⟨_, SqL.of hLv⟩, ?_⟩
        have rL : Same (upd GB L (.lst (vI [0, 1, d9, 3 + d40, 300 + d300]))) (upd GB L (.lst (vI [0, 1, d9, 3 + d40, 300 + d300]))) := Same.refl _
        generalize hks : [0, 1, d9, 3 + d40, 300 + d300] = ks at hLv Fa Fb gp SL kpos rL
        obtain ⟨GL, hGL⟩ : ∃ GL, GL = upd GB L (.lst (vI ks)) := ⟨_, rfl⟩
        refine for_it (walk_list (xs := vI ks)) (fun i σ G => Same (upd GB L (.lst (vI ks))) G ∧ ∃ v7 v14, σ = [some (.ref sl), some (.ref p1), some (.ref qa), some (.ref qb), some (.ref xg), some (.ref D), some (.ref D2), v7, none, none, none, some (.int (u : Int)), some (.int (m : Int)), some (.int c), v14, none, none]) ?_ (fun i σ G _ z => SqL.of (z.1 _ _ hLv)) ?_ ?_
        · subst hks
          exact ⟨rL, none, none, rfl⟩
        · rintro i x σ G G' hi ⟨sG, v7, v14, rfl⟩ ⟨rfl, hx⟩
          rw [vI_len] at hi
          obtain rfl : V.int (ks[i]) = x := by
            rw [List.getElem?_map, List.getElem?_eq_getElem hi] at hx
            exact Option.some.inj hx
          have k0 := kpos _ (List.getElem_mem hi)
          generalize ks[i] = kv at k0
          have gp' := gp.mono sG
          obtain ⟨dg2, hxg2, _, _⟩ := id gp'
          refine ⟨_, rfl, xg, dg2, _, rfl, hxg2, rfl, _, rfl, xg, xa, xb, za, zb, o, pl, .int kv, rfl, gp', fa, fb, ha9, .int kv, fun k' o' H' e k0' lo s => ?_, fun z => ?_⟩
          · injection e with e
            subst e
            have sG2 := Same.trans sG s
            refine ⟨_, rfl, _, rfl, _, rfl, _, rfl, qa, qb, ya, yb, kv, rfl, Fa.mono sG2, Fb.mono sG2, na, nb, k0, fun o2 H2 lo2 s2 => ?_⟩
            obtain rfl : o' = o2 := lo2.one lo fun n hn => exc_congr (ea n hn) (eb n hn)
            refine ⟨sc_vN _, _, rfl, iteF' (ne_v rfl) ?_⟩
            cases o' with
            | none => exact ⟨_, rfl, rfl, _, rfl, iteF' rfl (iteF ⟨Same.trans sG2 s2, _, _, rfl⟩)⟩
            | some n =>
              refine ⟨_, rfl, rfl, _, rfl, iteT' rfl ⟨_, rfl, (n : Int), rfl, ?_⟩⟩
              rw [decide_eq_true (show (0 : Int) ≤ (n : Int) by omega)]
              exact ⟨true, rfl, iteF' rfl ⟨Same.trans sG2 s2, _, _, rfl⟩⟩
          · have : decide (0 ≤ kv) = false := z
            rw [decide_eq_true k0] at this
            cases this
        rintro σ GC' ⟨sGC, v7, v14, rfl⟩
        have Fa := Fa.mono sGC
        have Fb := Fb.mono sGC
        have gp := gp.mono sGC
        have SC := Src.mono SL sGC
        clear hLv rL
        -- what is no count
        refine ⟨_, rfl, (by show 1 ≤ sizeLine; decide), fun t ht => ?_⟩
        have st := NF.Same.new (o := .tup [V.int 2]) (Same.refl GC') ht
        have Tt : SqT K (upd GC' t (.tup [V.int 2])) t [V.int 2] := SqT.of upd_same
        have htt : (upd GC' t (.tup [V.int 2])) t = some (.tup [V.int 2]) := upd_same
        generalize upd GC' t (.tup [V.int 2]) = GT at st Tt htt
        refine ⟨(by show 5 ≤ sizeLine; decide), fun L2 hL2 => ?_⟩
        have s2 := NF.Same.new (o := .lst [.bl true, .int (-1), .str "1", .non, .ref t]) (Same.refl GT) hL2
        have hLB : (upd GT L2 (.lst [.bl true, .int (-1), .str "1", .non, .ref t])) L2 = some (.lst [.bl true, .int (-1), .str "1", .non, .ref t]) := upd_same
        have st2 := Same.trans st s2
        have htt := s2 _ _ htt
        have Fa := Fa.mono st2
        have Fb := Fb.mono st2
        have gp := gp.mono st2
        have S2 := Src.mono SC st2
        refine ⟨_, rfl, wo _ p1, p1, 5, rfl, wo_same', wo_none, S2, by decide, by decide, fun d5 GX d50 d51 sX SX => ?_⟩
        have lp : L2 ≠ p1 := fun z => by
          obtain ⟨_, _, _, e⟩ := S2
          rw [← z, hLB] at e
          injection e with e
          injection e with e
          cases e
        have tp : t ≠ p1 := fun z => by
          obtain ⟨_, _, _, e⟩ := S2
          rw [← z, htt] at e
          cases e
        have Fa := (Fa.wo S2).mono sX
        have Fb := (Fb.wo S2).mono sX
        have gp := (gp.wo S2).mono sX
        have htX := sX _ _ ((wo_ne tp).trans htt)
        obtain ⟨v, hv, hm⟩ : ∃ v, atI [V.bl true, .int (-1), .str "1", .non, .ref t] d5 = some v ∧ v ∈ [V.bl true, .int (-1), .str "1", .non, .ref t] := by
          obtain ⟨k, rfl⟩ : ∃ k : Nat, d5 = (k : Int) := ⟨d5.toNat, by omega⟩
          have hk : k < [V.bl true, .int (-1), .str "1", .non, .ref t].length := by show k < 5; omega
          exact ⟨_, atI_nat (List.getElem?_eq_getElem hk), List.getElem_mem hk⟩
        refine ⟨L2, _, _, _, rfl, rfl, SqL.of (sX _ _ ((wo_ne lp).trans hLB)), hv, ?_⟩
        have bad : ThK K GX v ∧ isCnt v = false ∧ ∃ dt, (∀ H', Same GX H' → Dp K H' v dt) ∧ SeqAt.shaped dt = true ∧ PyData.eqv dt dt = true := by
          simp only [List.mem_cons, List.not_mem_nil, or_false] at hm
          rcases hm with rfl | rfl | rfl | rfl | rfl
          · exact ⟨.bl _, rfl, .bool true, fun _ _ => .bl _, by decide, by decide⟩
          · exact ⟨.int _, by decide, .int (-1), fun _ _ => .int _, by decide, by decide⟩
          · exact ⟨.str _, rfl, .str "1", fun _ _ => .str _, by decide +kernel, by decide +kernel⟩
          · exact ⟨.non, rfl, .none, fun _ _ => .non, by decide, by decide⟩
          · exact ⟨.ref (.base (.tup htX)) (.inl rfl), rfl, .tuple [.int 2], fun _ s => .tup (NF.Same.tup s (SqT.of htX)) (.cons (.int _) .nil), by decide, by simp [PyData.eqv, PyData.eqvAll]⟩
        obtain ⟨hth, hno, dt, hdp, hsh, heq⟩ := bad
        obtain ⟨dg3, hxg3, _, _⟩ := id gp
        refine ⟨_, rfl, xg, dg3, _, rfl, hxg3, rfl, _, rfl, xg, xa, xb, za, zb, o, pl, v, rfl, gp, fa, fb, ha9, hth, fun k' o' H' e k0' lo s => ?_, fun _ d2 H2 s8 hdn hx => ⟨true, ex, fun _ a ha => ?_, fun z => Bool.noConfusion z⟩⟩
        · subst e
          have : decide (0 ≤ k') = false := hno
          rw [decide_eq_true k0'] at this
          cases this
        refine ⟨_, rfl, rfl, rfl, d2, _, _, rfl, hx, rfl, _, rfl, dt, dt, hdp _ s8, hdp _ s8, hsh, hsh, ?_⟩
        rw [heq]
        refine ⟨_, rfl, iteF' rfl ?_⟩
        have Fa := Fa.mono s8
        -- against itself
        refine ⟨_, rfl, qa, ya, rfl, Fa, na.ok, fun xc zc Gc hzc sc Ac => ?_⟩
        refine ⟨_, rfl, qa, ya, rfl, Fa.mono sc, na.ok, fun xd zd Gd hzd sd Ad => ?_⟩
        obtain rfl : zc = zd := plain_one hzc hzd fun _ _ => rfl
        obtain ⟨fc, hc9⟩ := fit_of na hzc
        refine ⟨xc, xd, zc, zc, rfl, Ac.mono sd, Ad, fc, fc, hc9, fun xs o2 p2' Gs gs2 ps2 ss gps => ?_⟩
        have no0 : ∀ n, ¬ Exc (atY zc) (atY zc) 0 n := fun n ⟨b, hb, z⟩ => by
          rw [hb] at z
          have z : b + 0 < b := z
          omega
        obtain rfl : o2 = some 0 := greatX_one gs2 ⟨Int.le_refl _, fun n _ => no0 n, .inl rfl⟩
        obtain rfl : p2' = some 0 := by
          rcases ps2 with ⟨_, z⟩ | ⟨z, _⟩
          · exact z
          · omega
        obtain ⟨dg4, hxs, _, _⟩ := id gps
        refine ⟨_, rfl, _, _, _, _, true, rfl, .own CG, .base (.ins hxs hg.cl gt.ac gt.ag gt.at_ gt.am), gt.isG, ?_⟩
        refine ⟨true, rfl, iteT' rfl ?_⟩
        refine ⟨_, rfl, xs, CG, dg4, _, _, rfl, hxs, hg.cl, hg.mo, rfl, rfl, _, rfl, iteT' (decide_eq_true rfl) ?_⟩
        refine ⟨_, rfl, xs, CG, dg4, _, _, rfl, hxs, hg.cl, hg.pl, rfl, rfl, _, rfl, iteT' (decide_eq_true rfl) ?_⟩
        refine ⟨_, rfl, xs, dg4, _, rfl, hxs, rfl, xs, xc, xd, zc, zc, some 0, some 0, .int 0, rfl, gps, fc, fc, hc9, .int 0, fun k' o' H' e k0' lo s => ?_, fun z => ?_⟩
        · injection e with e
          subst e
          have : o' = none := by
            cases o' with
            | none => rfl
            | some n => exact absurd lo.2.1 (no0 n)
          subst this
          exact ⟨rfl, k _⟩
        · cases z
end
end K09
set_option Elab.async false
set_option linter.all false
set_option maxRecDepth 100000
set_option maxHeartbeats 4000000
namespace K09
open PySem PySem.Spec PyProof.Rows L2 He NF RZ NT
theorem all_ok {P : Program} {w : World} {K : PySem.W.Frag} {h : Heap} {mg : Str → Option Value} {f : Addr} (X : K.In h) (G : h.Ns mainGlobals mg) (hfa : mg ("law" : Str) = some (.ref f)) (c : SaysP exB fn K) :
    ∃ fd : FuncData, (∀ (s : Shared) (v : Value), BindsTo s fd ⟨[v], []⟩ [("_law_script", v)]) ∧ ∀ base : Heap, K.In base → base.Ns mainGlobals mg → FnOk P w K mg base CX0 9 f fd ["_law_script"] (spLaw K) := by
  have ht : ∀ f ∈ exL, f K = true := fun f hf => List.all_eq_true.mp c.truth f hf
  have b_nam : (namB gs FS) K = true := ht _ (List.mem_of_getElem? (i := 0) rfl)
  have b_blt_gcd : (bltB "gcd" "math.gcd") K = true := ht _ (List.mem_of_getElem? (i := 1) rfl)
  have b_exc_BadCount : (excKB "BadCount" "thing") K = true := ht _ (List.mem_of_getElem? (i := 2) rfl)
  have b_exm : (exmPB exms) K = true := ht _ (List.mem_of_getElem? (i := 3) rfl)
  have b_cls : (clsB "Table") K = true := ht _ (List.mem_of_getElem? (i := 4) rfl)
  have b_fld : (fldsB "Table" ["head", "loop", "rise"]) K = true := ht _ (List.mem_of_getElem? (i := 5) rfl)
  have b_ty : (tyB "Table") K = true := ht _ (List.mem_of_getElem? (i := 6) rfl)
  have b_mk_Table : (mkB "Table") K = true := ht _ (List.mem_of_getElem? (i := 7) rfl)
  have b_clsC : (clsB "Chase") K = true := ht _ (List.mem_of_getElem? (i := 8) rfl)
  have b_fldC : (fldsB "Chase" ["start", "lap", "window", "drift", "ladders", "runners"]) K = true := ht _ (List.mem_of_getElem? (i := 9) rfl)
  have b_mk_Chase : (mkB "Chase") K = true := ht _ (List.mem_of_getElem? (i := 10) rfl)
  have b_met_ladder_from : (metB "Chase" "ladder_from") K = true := ht _ (List.mem_of_getElem? (i := 11) rfl)
  have b_met_runners_of : (metB "Chase" "runners_of") K = true := ht _ (List.mem_of_getElem? (i := 12) rfl)
  have b_met_first_lead : (metB "Chase" "first_lead") K = true := ht _ (List.mem_of_getElem? (i := 13) rfl)
  have b_met_greatest_lead : (metB "Chase" "greatest_lead") K = true := ht _ (List.mem_of_getElem? (i := 14) rfl)
  have b_met_place_of : (metB "Chase" "place_of") K = true := ht _ (List.mem_of_getElem? (i := 15) rfl)
  have b_clsG : (clsB "Gap") K = true := ht _ (List.mem_of_getElem? (i := 16) rfl)
  have b_fldG : (fldsB "Gap" ["first", "second", "most", "place"]) K = true := ht _ (List.mem_of_getElem? (i := 17) rfl)
  have b_tyG : (tyB "Gap") K = true := ht _ (List.mem_of_getElem? (i := 18) rfl)
  have b_mk_Gap : (mkB "Gap") K = true := ht _ (List.mem_of_getElem? (i := 19) rfl)
  have b_met_beyond : (metB "Gap" "beyond") K = true := ht _ (List.mem_of_getElem? (i := 20) rfl)
  have T : Txt K mg gs FS := nam_ok b_nam X G
  have h_gcd := blt_ok b_blt_gcd X G
  have x_BadCount := excK_ok b_exc_BadCount
  have tcl := cls_ok b_cls
  have ty := ty_ok b_ty
  have tc : TabC K (ga K "Table") := ⟨tcl, flds_ok b_fld (by decide +kernel), flds_ok b_fld (by decide +kernel), flds_ok b_fld (by decide +kernel), ty.ac, ty.ag, ty.at_, ty.am, ty.self, ty.tup, ty.int, ty.non⟩
  have hcc : ChC K (ga K "Chase") := ⟨cls_ok b_clsC, flds_ok b_fldC (by decide +kernel), flds_ok b_fldC (by decide +kernel), flds_ok b_fldC (by decide +kernel), flds_ok b_fldC (by decide +kernel), flds_ok b_fldC (by decide +kernel), flds_ok b_fldC (by decide +kernel)⟩
  have hgg : GapC K (ga K "Gap") := ⟨cls_ok b_clsG, flds_ok b_fldG (by decide +kernel), flds_ok b_fldG (by decide +kernel), flds_ok b_fldG (by decide +kernel), flds_ok b_fldG (by decide +kernel)⟩
  have tyg := ty_ok b_tyG
  have hgt : GapT K (ga K "Gap") := ⟨tyg.ac, tyg.ag, tyg.at_, tyg.am, tyg.self⟩
  obtain ⟨f0, F0⟩ := c.def_ 0 (d := dG "shortest_lap" s_shortest_lap) rfl
  obtain ⟨f1, F1⟩ := c.def_ 1 (d := dG "plain_form" s_plain_form) rfl
  obtain ⟨f2, F2⟩ := c.def_ 2 (d := dG "is_integer" s_is_integer) rfl
  obtain ⟨f3, F3⟩ := c.def_ 3 (d := dG "is_count" s_is_count) rfl
  obtain ⟨f4, F4⟩ := c.def_ 4 (d := dG "is_row" s_is_row) rfl
  obtain ⟨f5, F5⟩ := c.def_ 5 (d := dG "is_climb" s_is_climb) rfl
  obtain ⟨f6, F6⟩ := c.def_ 6 (d := dG "check_table" s_check_table) rfl
  obtain ⟨f7, F7⟩ := c.def_ 7 (d := dM "Table" "__init__" "Table.__init__" s_Table_init [.adr e0, .int 0]) rfl
  obtain ⟨f8, F8⟩ := c.def_ 8 (d := dG "end_of" s_end_of) rfl
  obtain ⟨f9, F9⟩ := c.def_ 9 (d := dG "value_at" s_value_at) rfl
  obtain ⟨f10, F10⟩ := c.def_ 10 (d := dG "_law_pick" s__law_pick) rfl
  obtain ⟨f11, F11⟩ := c.def_ 11 (d := dG "_law_source" s__law_source) rfl
  obtain ⟨f12, F12⟩ := c.def_ 12 (d := dG "_law_is_integer" s__law_is_integer) rfl
  obtain ⟨f13, F13⟩ := c.def_ 13 (d := dG "_law_is_count" s__law_is_count) rfl
  obtain ⟨f14, F14⟩ := c.def_ 14 (d := dG "_law_end" s__law_end) rfl
  obtain ⟨f15, F15⟩ := c.def_ 15 (d := dG "_law_at" s__law_at) rfl
  obtain ⟨f16, F16⟩ := c.def_ 16 (d := dG "_law_gcd" s__law_gcd) rfl
  obtain ⟨f17, F17⟩ := c.def_ 17 (d := dG "_law_rising" s__law_rising) rfl
  obtain ⟨f18, F18⟩ := c.def_ 18 (d := dG "_law_raw" s__law_raw) rfl
  obtain ⟨f19, F19⟩ := c.def_ 19 (d := dG "_law_table" s__law_table) rfl
  obtain ⟨f20, F20⟩ := c.def_ 20 (d := dG "least_in" s_least_in) rfl
  obtain ⟨f21, F21⟩ := c.def_ 21 (d := dG "first_under" s_first_under) rfl
  obtain ⟨f22, F22⟩ := c.def_ 22 (d := dG "ladder_of" s_ladder_of) rfl
  obtain ⟨f23, F23⟩ := c.def_ 23 (d := dM "Chase" "place_of" "Chase.place_of" s_Chase_place_of []) rfl
  obtain ⟨f24, F24⟩ := c.def_ 24 (d := dM "Chase" "ladder_from" "Chase.ladder_from" s_Chase_ladder_from []) rfl
  obtain ⟨f25, F25⟩ := c.def_ 25 (d := dM "Chase" "runners_of" "Chase.runners_of" s_Chase_runners_of []) rfl
  obtain ⟨f26, F26⟩ := c.def_ 26 (d := dG "values_from" s_values_from) rfl
  obtain ⟨f27, F27⟩ := c.def_ 27 (d := dM "Chase" "__init__" "Chase.__init__" s_Chase_init []) rfl
  obtain ⟨f28, F28⟩ := c.def_ 28 (d := dM "Chase" "first_lead" "Chase.first_lead" s_Chase_first_lead []) rfl
  obtain ⟨f29, F29⟩ := c.def_ 29 (d := dM "Chase" "greatest_lead" "Chase.greatest_lead" s_Chase_greatest_lead []) rfl
  obtain ⟨f30, F30⟩ := c.def_ 30 (d := dG "first_excess_in" s_first_excess_in) rfl
  obtain ⟨f31, F31⟩ := c.def_ 31 (d := dG "longest_head" s_longest_head) rfl
  obtain ⟨f32, F32⟩ := c.def_ 32 (d := dG "first_excess" s_first_excess) rfl
  obtain ⟨f33, F33⟩ := c.def_ 33 (d := dG "drift_of" s_drift_of) rfl
  obtain ⟨f34, F34⟩ := c.def_ 34 (d := dG "greatest_excess_in" s_greatest_excess_in) rfl
  obtain ⟨f35, F35⟩ := c.def_ 35 (d := dG "greatest_excess" s_greatest_excess) rfl
  obtain ⟨f36, F36⟩ := c.def_ 36 (d := dM "Gap" "__init__" "Gap.__init__" s_Gap_init []) rfl
  obtain ⟨f37, F37⟩ := c.def_ 37 (d := dG "gap" s_gap) rfl
  obtain ⟨f38, F38⟩ := c.def_ 38 (d := dM "Gap" "beyond" "Gap.beyond" s_Gap_beyond []) rfl
  obtain ⟨f39, F39⟩ := c.def_ 39 (d := dG "_law_near" s__law_near) rfl
  obtain ⟨f40, F40⟩ := c.def_ 40 (d := dG "_law_difference" s__law_difference) rfl
  obtain ⟨f41, F41⟩ := c.def_ 41 (d := dG "_law_span" s__law_span) rfl
  obtain ⟨f42, F42⟩ := c.def_ 42 (d := dG "_law_beyond" s__law_beyond) rfl
  obtain ⟨f43, F43⟩ := c.def_ 43 (d := dG "law" s_law) rfl
  obtain ⟨f44, F44⟩ := c.def_ 44 (d := dM "BadCount" "__init__" "BadCount.__init__" s_BadCount_init []) rfl
  have e := hfa.symm.trans (T.gl "law" (by decide +kernel))
  cases e
  have bl := FunD.bindsA (ps := ["_law_script"]) F43 fun _ _ _ _ _ _ us hl => match us, hl with | [_], _ => rfl
  refine ⟨f43, fun s v => bl s [v] rfl, fun base _ _ => ?_⟩
  have m_BadCount : ExcI P w K mg base "BadCount" "thing" := x_BadCount.excI T (by decide +kernel) F44 rfl ⟨rfl, rfl, rfl, by decide +kernel, rfl, by decide +kernel, by decide +kernel⟩ (Or.inl rfl) (Or.inl rfl) (by decide) (by decide) (F44.bindsN fun _ _ _ _ _ _ us hl => match us, hl with | [_, _], _ => rfl)
  have c_shortest_lap : Cal P w K mg base 1 "shortest_lap" (spLap K) := Cal.mk' F0 (ok_shortest_lap F0 T rfl) (T.gl _ (by decide +kernel)) (F0.bindsN fun _ _ _ _ _ _ us hl => match us, hl with | [_, _], _ => rfl)
  have c_plain_form : Cal P w K mg base 2 "plain_form" (spForm K) := Cal.mk' F1 (ok_plain_form F1 T rfl c_shortest_lap) (T.gl _ (by decide +kernel)) (F1.bindsN fun _ _ _ _ _ _ us hl => match us, hl with | [_, _, _], _ => rfl)
  have c_is_integer : Cal P w K mg base 1 "is_integer" spIsInt := Cal.mk' F2 (ok_is_integer F2 T) (T.gl _ (by decide +kernel)) (F2.bindsN fun _ _ _ _ _ _ us hl => match us, hl with | [_], _ => rfl)
  have c_is_count : Cal P w K mg base 2 "is_count" spIsCount := Cal.mk' F3 (ok_is_count F3 T c_is_integer) (T.gl _ (by decide +kernel)) (F3.bindsN fun _ _ _ _ _ _ us hl => match us, hl with | [_], _ => rfl)
  have c_is_row : Cal P w K mg base 1 "is_row" (spIsRow K) := Cal.mk' F4 (ok_is_row F4 T) (T.gl _ (by decide +kernel)) (F4.bindsN fun _ _ _ _ _ _ us hl => match us, hl with | [_], _ => rfl)
  have c_is_climb : Cal P w K mg base 2 "is_climb" (spIsClimb K) := Cal.mk' F5 (ok_is_climb F5 T c_is_row c_is_integer) (T.gl _ (by decide +kernel)) (F5.bindsN fun _ _ _ _ _ _ us hl => match us, hl with | [_], _ => rfl)
  have c_check_table : Cal P w K mg base 3 "check_table" (spCheck K) := Cal.mk' F6 (ok_check_table F6 T c_is_climb c_is_count) (T.gl _ (by decide +kernel)) (F6.bindsN fun _ _ _ _ _ _ us hl => match us, hl with | [_, _, _], _ => rfl)
  have oi_Table : FnOk P w K mg base CX0 4 _ f7 ["self", "head", "loop", "rise"] (spInit K (ga K "Table")) := (ok_Table_init F7 T tcl tc.hd tc.lp tc.ri c_check_table c_plain_form)
  obtain ⟨dd_m_Table, vv_m_Table, bb_m_Table⟩ := F7.binds1 (ps := ["self", "head", "loop", "rise"]) 4 2 (List.cons_ne_nil _ _) rfl fun T kV doc pm an cdv ct us its hl hd => match us, hl, its, hd with | [_, _, _, _], _, [_, _], _ => ⟨_, rfl, rfl⟩
  have m_Table : Mak P w K mg base 4 0 "Table" (ga K "Table") (spInit K (ga K "Table")) [] := ⟨_, _, _, _, mk_ok b_mk_Table, oi_Table, T.gl "Table" (by decide +kernel), bb_m_Table, vv_m_Table⟩
  have c_end_of : Cal P w K mg base 1 "end_of" (spEnd K (ga K "Table")) := Cal.mk' F8 (ok_end_of F8 T tc) (T.gl _ (by decide +kernel)) (F8.bindsN fun _ _ _ _ _ _ us hl => match us, hl with | [_], _ => rfl)
  have c_value_at : Cal P w K mg base 2 "value_at" (spAt K (ga K "Table")) := Cal.mk' F9 (ok_value_at F9 T tc c_end_of) (T.gl _ (by decide +kernel)) (F9.bindsN fun _ _ _ _ _ _ us hl => match us, hl with | [_, _], _ => rfl)
  have c__law_pick : Cal P w K mg base 1 "_law_pick" spPick := Cal.mk' F10 (ok_pick F10 T (by decide +kernel)) (T.gl _ (by decide +kernel)) (F10.bindsN fun _ _ _ _ _ _ us hl => match us, hl with | [_, _], _ => rfl)
  have c__law_source : Cal P w K mg base 1 "_law_source" (spSource K) := Cal.mk' F11 (ok_source F11 T (by decide +kernel) (by decide +kernel) (by decide +kernel)) (T.gl _ (by decide +kernel)) (F11.bindsN fun _ _ _ _ _ _ us hl => match us, hl with | [_, _], _ => rfl)
  have c__law_is_integer : Cal P w K mg base 1 "_law_is_integer" spIsInt := Cal.mk' F12 (ok__law_is_integer F12 T) (T.gl _ (by decide +kernel)) (F12.bindsN fun _ _ _ _ _ _ us hl => match us, hl with | [_], _ => rfl)
  have c__law_is_count : Cal P w K mg base 2 "_law_is_count" spIsCount := Cal.mk' F13 (ok__law_is_count F13 T c__law_is_integer) (T.gl _ (by decide +kernel)) (F13.bindsN fun _ _ _ _ _ _ us hl => match us, hl with | [_], _ => rfl)
  have c__law_end : Cal P w K mg base 1 "_law_end" (spLEnd K) := Cal.mk' F14 (ok__law_end F14 T) (T.gl _ (by decide +kernel)) (F14.bindsN fun _ _ _ _ _ _ us hl => match us, hl with | [_], _ => rfl)
  have c__law_at : Cal P w K mg base 2 "_law_at" (spLAt K) := Cal.mk' F15 (ok__law_at F15 T c__law_end) (T.gl _ (by decide +kernel)) (F15.bindsN fun _ _ _ _ _ _ us hl => match us, hl with | [_, _], _ => rfl)
  have c__law_gcd : Cal P w K mg base 1 "_law_gcd" spGcd := Cal.mk' F16 (ok__law_gcd F16 T) (T.gl _ (by decide +kernel)) (F16.bindsN fun _ _ _ _ _ _ us hl => match us, hl with | [_, _], _ => rfl)
  have c__law_rising : Cal P w K mg base 2 "_law_rising" spRising := Cal.mk' F17 (ok__law_rising F17 T c__law_pick) (T.gl _ (by decide +kernel)) (F17.bindsN fun _ _ _ _ _ _ us hl => match us, hl with | [_, _, _, _], _ => rfl)
  have c__law_raw : Cal P w K mg base 3 "_law_raw" (spRaw K) := Cal.mk' F18 (ok__law_raw F18 T c__law_pick c__law_rising) (T.gl _ (by decide +kernel)) (F18.bindsN fun _ _ _ _ _ _ us hl => match us, hl with | [_, _], _ => rfl)
  have c__law_table : Cal P w K mg base 6 "_law_table" (spLTable K (ga K "Table")) := Cal.mk' F19 (ok__law_table F19 T m_Table) (T.gl _ (by decide +kernel)) (F19.bindsN fun _ _ _ _ _ _ us hl => match us, hl with | [_], _ => rfl)
  have c_least_in : Cal P w K mg base 1 "least_in" (spLeast K) := Cal.mk' F20 (ok_least_in F20 T) (T.gl _ (by decide +kernel)) (F20.bindsN fun _ _ _ _ _ _ us hl => match us, hl with | [_, _, _], _ => rfl)
  have c_first_under : Cal P w K mg base 1 "first_under" (spFirstU K) := Cal.mk' F21 (ok_first_under F21 T) (T.gl _ (by decide +kernel)) (F21.bindsN fun _ _ _ _ _ _ us hl => match us, hl with | [_, _, _], _ => rfl)
  have c_ladder_of : Cal P w K mg base 1 "ladder_of" (spLadder K) := Cal.mk' F22 (ok_ladder_of F22 T) (T.gl _ (by decide +kernel)) (F22.bindsN fun _ _ _ _ _ _ us hl => match us, hl with | [_, _], _ => rfl)
  have o_place_of : MetC P w K mg base 1 (ga K "Chase") "place_of" (spPlaceOf K (ga K "Chase")) := ⟨hcc.cl, _, f23, _, met_ok b_met_place_of, (ok_Chase_place_of F23 T hcc), (F23.bindsN fun _ _ _ _ _ _ us hl => match us, hl with | [_, _, _], _ => rfl)⟩
  have o_ladder_from : MetC P w K mg base 2 (ga K "Chase") "ladder_from" (spLadFrom K (ga K "Chase")) := ⟨hcc.cl, _, f24, _, met_ok b_met_ladder_from, (ok_Chase_ladder_from F24 T hcc c_ladder_of), (F24.bindsN fun _ _ _ _ _ _ us hl => match us, hl with | [_, _, _, _, _], _ => rfl)⟩
  have o_runners_of : MetC P w K mg base 1 (ga K "Chase") "runners_of" (spRunners K (ga K "Chase")) := ⟨hcc.cl, _, f25, _, met_ok b_met_runners_of, (ok_Chase_runners_of F25 T hcc), (F25.bindsN fun _ _ _ _ _ _ us hl => match us, hl with | [_, _, _, _, _], _ => rfl)⟩
  have c_values_from : Cal P w K mg base 2 "values_from" (spFrom K (ga K "Table")) := Cal.mk' F26 (ok_values_from F26 T tc) (T.gl _ (by decide +kernel)) (F26.bindsN fun _ _ _ _ _ _ us hl => match us, hl with | [_, _, _], _ => rfl)
  have c_values_fromO : Cal P w K mg base 2 "values_from" (spFromO K (ga K "Table")) := Cal.mk' F26 (ok_values_fromO F26 T tc) (T.gl _ (by decide +kernel)) (F26.bindsN fun _ _ _ _ _ _ us hl => match us, hl with | [_, _, _], _ => rfl)
  have oi_Chase : FnOk P w K mg base CX0 3 _ f27 ["self", "first", "second", "start"] (spChase K (ga K "Table") (ga K "Chase")) := (ok_Chase_init F27 T h_gcd tc hcc c_values_from o_ladder_from o_runners_of)
  have m_Chase : Mak P w K mg base 3 0 "Chase" (ga K "Chase") (spChase K (ga K "Table") (ga K "Chase")) [] := ⟨_, _, _, _, mk_ok b_mk_Chase, oi_Chase, T.gl "Chase" (by decide +kernel), (F27.bindsN fun _ _ _ _ _ _ us hl => match us, hl with | [_, _, _, _], _ => rfl), .nil⟩
  have o_first_lead : MetC P w K mg base 2 (ga K "Chase") "first_lead" (spFirst K (ga K "Chase")) := ⟨hcc.cl, _, f28, _, met_ok b_met_first_lead, (ok_Chase_first_lead F28 T hcc o_place_of c_least_in c_first_under), (F28.bindsN fun _ _ _ _ _ _ us hl => match us, hl with | [_, _], _ => rfl)⟩
  have o_greatest_lead : MetC P w K mg base 2 (ga K "Chase") "greatest_lead" (spGreatL K (ga K "Chase")) := ⟨hcc.cl, _, f29, _, met_ok b_met_greatest_lead, (ok_Chase_greatest_lead F29 T hcc c_least_in), (F29.bindsN fun _ _ _ _ _ _ us hl => match us, hl with | [_], _ => rfl)⟩
  have c_first_excess_in : Cal P w K mg base 3 "first_excess_in" (spExcIn K (ga K "Table")) := Cal.mk' F30 (ok_first_excess_in F30 T c_values_fromO) (T.gl _ (by decide +kernel)) (F30.bindsN fun _ _ _ _ _ _ us hl => match us, hl with | [_, _, _, _], _ => rfl)
  have c_longest_head : Cal P w K mg base 1 "longest_head" (spLongest K (ga K "Table")) := Cal.mk' F31 (ok_longest_head F31 T tc) (T.gl _ (by decide +kernel)) (F31.bindsN fun _ _ _ _ _ _ us hl => match us, hl with | [_, _], _ => rfl)
  have c_first_excess : Cal P w K mg base 5 "first_excess" (spExc K (ga K "Table")) := Cal.mk' F32 (ok_first_excess F32 T tc c_first_excess_in c_longest_head m_Chase o_first_lead) (T.gl _ (by decide +kernel)) (F32.bindsN fun _ _ _ _ _ _ us hl => match us, hl with | [_, _, _], _ => rfl)
  have c_drift_of : Cal P w K mg base 1 "drift_of" (spDrift K (ga K "Table")) := Cal.mk' F33 (ok_drift_of F33 T tc) (T.gl _ (by decide +kernel)) (F33.bindsN fun _ _ _ _ _ _ us hl => match us, hl with | [_, _], _ => rfl)
  have c_greatest_excess_in : Cal P w K mg base 3 "greatest_excess_in" (spGxIn K (ga K "Table")) := Cal.mk' F34 (ok_greatest_excess_in F34 T c_values_fromO) (T.gl _ (by decide +kernel)) (F34.bindsN fun _ _ _ _ _ _ us hl => match us, hl with | [_, _, _], _ => rfl)
  have c_greatest_excess : Cal P w K mg base 5 "greatest_excess" (spGx K (ga K "Table")) := Cal.mk' F35 (ok_greatest_excess F35 T tc c_value_at c_greatest_excess_in c_drift_of c_longest_head m_Chase o_greatest_lead) (T.gl _ (by decide +kernel)) (F35.bindsN fun _ _ _ _ _ _ us hl => match us, hl with | [_, _], _ => rfl)
  have c_is_integerT : Cal P w K mg base 1 "is_integer" (spIsIntT K) := Cal.mk' F2 (ok_is_integerT F2 T) (T.gl _ (by decide +kernel)) (F2.bindsN fun _ _ _ _ _ _ us hl => match us, hl with | [_], _ => rfl)
  have c_is_countT : Cal P w K mg base 2 "is_count" (spIsCountT K) := Cal.mk' F3 (ok_is_countT F3 T c_is_integerT) (T.gl _ (by decide +kernel)) (F3.bindsN fun _ _ _ _ _ _ us hl => match us, hl with | [_], _ => rfl)
  have oi_Gap : FnOk P w K mg base CX0 6 _ f36 ["self", "first", "second"] (spGInit K (ga K "Table") (ga K "Gap")) := (ok_Gap_init F36 T hgg c_greatest_excess c_first_excess)
  have m_Gap2 : Mak P w K mg base 6 0 "Gap" (ga K "Gap") (spGInit K (ga K "Table") (ga K "Gap")) [] := ⟨_, _, _, _, mk_ok b_mk_Gap, oi_Gap, T.gl "Gap" (by decide +kernel), (F36.bindsN fun _ _ _ _ _ _ us hl => match us, hl with | [_, _, _], _ => rfl), .nil⟩
  have c_gap : Cal P w K mg base 8 "gap" (spGap K (ga K "Table") (ga K "Gap")) := Cal.mk' F37 (ok_gap F37 T m_Gap2) (T.gl _ (by decide +kernel)) (F37.bindsN fun _ _ _ _ _ _ us hl => match us, hl with | [_, _], _ => rfl)
  have o_beyond : MetX P w K mg base 6 (ga K "Gap") "beyond" (spBeyond K (ga K "Table") (ga K "Gap")) := ⟨hgg.cl, _, f38, _, met_ok b_met_beyond, (ok_Gap_beyond F38 T hgg m_BadCount c_is_countT c_first_excess), (F38.bindsN fun _ _ _ _ _ _ us hl => match us, hl with | [_, _], _ => rfl)⟩
  have c__law_near : Cal P w K mg base 4 "_law_near" (spNear K) := Cal.mk' F39 (ok__law_near F39 T c__law_pick c__law_raw) (T.gl _ (by decide +kernel)) (F39.bindsN fun _ _ _ _ _ _ us hl => match us, hl with | [_, _], _ => rfl)
  have c__law_difference : Cal P w K mg base 3 "_law_difference" (spDif K) := Cal.mk' F40 (ok__law_difference F40 T c__law_at) (T.gl _ (by decide +kernel)) (F40.bindsN fun _ _ _ _ _ _ us hl => match us, hl with | [_, _, _], _ => rfl)
  have c__law_span : Cal P w K mg base 2 "_law_span" (spSpan K) := Cal.mk' F41 (ok__law_span F41 T c__law_gcd) (T.gl _ (by decide +kernel)) (F41.bindsN fun _ _ _ _ _ _ us hl => match us, hl with | [_, _], _ => rfl)
  have c__law_beyond : Cal P w K mg base 4 "_law_beyond" (spBey K) := Cal.mk' F42 (ok__law_beyond F42 T c__law_span c__law_difference) (T.gl _ (by decide +kernel)) (F42.bindsN fun _ _ _ _ _ _ us hl => match us, hl with | [_, _, _], _ => rfl)
  exact ok_law F43 T tc hgg hgt (T.gl "Gap" (by decide +kernel)) m_BadCount x_BadCount.xf x_BadCount.no (exmP_ok b_exm (by decide +kernel)) c__law_source c__law_pick c__law_raw c__law_near c__law_table c_gap c__law_span c__law_difference c__law_is_count c__law_beyond o_beyond
end K09
set_option Elab.async false
set_option linter.all false
set_option maxRecDepth 100000
set_option maxHeartbeats 4000000
open PySem PySem.W PySem.Calls PyProof.Rows
theorem PySem.Challenge.cw_needforth_k09_whole_gap_holds : PySem.Challenge.rw_needforth_k09_whole_gap.Holds := by
  w_on; o_law
  refine HandSHeadRun.head_imp (r := OpenLaw.row PySem.Challenge.rw_needforth_k09_whole_gap) (q := view (OpenLaw.row PySem.Challenge.rw_needforth_k09_whole_gap).prog [0, 63]) (H := K09.hk) (ob := K09.ob) (M := 12000) (loose := K09.loose) (d := HandSHeadRun.topDef (OpenLaw.row PySem.Challenge.rw_needforth_k09_whole_gap).prog 63) (kwd := []) K09.ob_eq
    K09.run (by kernel_rfl) (by kernel_rfl) (by kernel_rfl) (by rfl) (by first | assumption | decide +kernel) (by decide +kernel) ⟨rfl, rfl, rfl, rfl, rfl, by decide +kernel⟩ ?hw ?hc
  case hw => w_witness2
  case hc =>
    refine NF.walk_ofEB (l := PySem.Challenge.rw_needforth_k09_whole_gap) (n := 63) (k := 9) (x := "_law_script") (CX := L2.CX0) rfl (by decide) (by kernel_rfl) ⟨rfl, by decide, by decide⟩ ?F (fun _ _ _ _ z => z)
    intro w mg fa h Y G hmg0
    obtain ⟨K, KX, c⟩ := Y
    have hmg : mg ("law" : PySem.Str) = some (.ref fa) := by
      have e : (HandSHeadRun.topDef (OpenLaw.row PySem.Challenge.rw_needforth_k09_whole_gap).prog 63).name = ("law" : PySem.Str) := by kernel_rfl
      rw [← e]
      exact hmg0
    obtain ⟨fd, hb, hF⟩ := K09.all_ok (P := (PySem.Challenge.rw_needforth_k09_whole_gap).prog) (w := w) KX G hmg c
    exact ⟨K, fd, K09.spLaw K, KX, hb, fun H a ns hl hbits _ hS => ⟨a, ns, rfl, hS, hl, hbits, fun _ => rfl⟩, hF⟩
