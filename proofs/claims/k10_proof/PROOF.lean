import PyProof.Rows.All
import Wide.All
import OpenK.AllK
import Wide.FinOn
import PyProof.EqAt
import PyProof.EqKinds
import PyProof.TupleCall
import KE.KStateDown
import KE.KIsAll
import KE.KTryMore
import KE.KFromBytes
import HandS.ForMost
import HandS.ForExc
import HandS.IsInst
import HandS.Flow
import HandS.WideBits
import HandS.ExcInit
import HandS.ExcIs
import HandS.Head0
import HandS.Head1
import HandS.Head2
import HandS.HeadEnd
import HandS.HeadHook1
import HandS.HeadHook2
import HandS.ExcField
import HandS.ExcValue
import KE.KExcIs
import HandS.EndBits
import HandS.TupAny
import HandS.Zip
import HandS.TupMul
import HandS.Gcd
import HandS.Property
import HandS.Conv
import KE.KAssignIn
import HandS.Star
import HandS.WordsList
import PyProof.InstNe
import HandS.Head3
import OpenK.KMeth
import PySem.Challenge.RW_needforth_k10_whole_tables_read
import HandS.Walk
import HandS.Call
import PyProof.StrBlock2
import KE.IntTextLaws
import KE.KIntText
import PyProof.Rows.StrIntSpec
import HandS.Text
import PyProof.StrLaws
import PyProof.Rows.StrItems
import PyProof.Rows.StrSplitAre
import HandS.Style
set_option Elab.async false
set_option linter.all false
set_option maxRecDepth 100000
set_option maxHeartbeats 4000000
/-! Facts of the top as one truth of the written part, and the head that hands them on. -/
namespace NF
open PySem PySem.Spec PyProof.Rows L2 He
def obsM (ex : PySem.W.Frag → Bool) (fn : List DefD) (K : PySem.W.Frag) : AlD := (ex K && fn.all fun d => d.ok K, fn.map fun d => fnW K d.at_)
def SaysM (ex : PySem.W.Frag → Bool) (fn : List DefD) (K : PySem.W.Frag) : Prop := obsM ex fn K = valD fn
def obsMG (n : Nat) (ex : PySem.W.Frag → Bool) (fn : List DefD) (g : Addr → Option Obj) : AlD := obsM ex fn (frG g (asD g n))
def hookM (n : Nat) (ex : PySem.W.Frag → Bool) (fn : List DefD) : PySem.W.Hook where
  α := AlD
  obs := fun s => obsMG n ex fn s.heap.get?
  val := fun _ => valD fn
  says := fun _ h => ∃ K : PySem.W.Frag, K.In h ∧ SaysM ex fn K
  of := fun _ _ e => ⟨_, frG_in, e⟩
  keeps := fun _ _ _ ⟨K, hK, c⟩ k => ⟨K, PySem.W.Frag.In.keeps hK k, c⟩
theorem obsMG_eq {n : Nat} {ex : PySem.W.Frag → Bool} {fn : List DefD} {g : Addr → Option Obj} {s : Shared} (h : ∀ a, g a = s.heap.get? a) : obsMG n ex fn g = (hookM n ex fn).obs s := by
  have e : g = s.heap.get? := funext h
  rw [e] <;> rfl
section
variable {ex : PySem.W.Frag → Bool} {fn : List DefD} {K : PySem.W.Frag}
theorem SaysM.truth (c : SaysM ex fn K) : ex K = true :=
  (ba (show (ex K && fn.all fun d => d.ok K) = true from congrArg (fun z : AlD => z.1) c)).1
theorem SaysM.def_ (c : SaysM ex fn K) (i : Nat) {d : DefD} (h : fn[i]? = some d := by rfl) : ∃ fd, FunD K d.name d.qual d.params d.body d.scope (d.dvs K) (d.kws K) (fAd K d.at_) fd := by
  have c2 := (ba (show (ex K && fn.all fun d => d.ok K) = true from congrArg (fun z : AlD => z.1) c)).2
  have e : fn.map (fun d => fnW K d.at_) = fn.map DefD.val := congrArg (fun z : AlD => z.2) c
  have e2 : (fn.map fun d => fnW K d.at_)[i]? = (fn.map DefD.val)[i]? := by rw [e]
  rw [List.getElem?_map, List.getElem?_map, h] at e2
  exact DefD.funD (Option.some.inj e2) (List.all_eq_true.mp c2 d (List.mem_of_getElem? h))
end
/-! ### an exception class of the program's own, over ValueError, by truths of the written part -/
/-- the class's own object -/
def exObjB (K : PySem.W.Frag) (C : Addr) : Bool := match K.lookup C with
  | some ⟨.type t, _, .cls cd, sl⟩ => t == "type" && (match cd.mro with
    | .ref C' :: bm => C' == C && PySem.HandSPX.refsVE bm
    | _ => false) && (cd.hasDict && !cd.hasDel) && (match sl.toList with
    | [_, _, _, _, some (.builtin n), _] => n == "ValueError.__new__"
    | _ => false)
  | _ => false
theorem exObjB_ok {K : PySem.W.Frag} {C : Addr} (h : exObjB K C = true) :
    ∃ nm q N bs bm sn sub ab col dd k0 k1 k2 k3 k5, K.lookup C = some (excClassObj nm q C N bs bm true sn sub ab col dd k0 k1 k2 k3 k5 "ValueError.__new__") ∧ PySem.HandSPX.refsVE bm = true := by
  unfold exObjB at h
  split at h
  · rename_i t dd cd sl hl
    obtain ⟨h, h4⟩ := ba h
    obtain ⟨h, h3⟩ := ba h
    obtain ⟨h1, h2⟩ := ba h
    split at h2
    · rename_i C' bm hm
      obtain ⟨h5, h6⟩ := ba h2
      split at h4
      · rename_i k0 k1 k2 k3 n k5 hs
        obtain ⟨h7, h8⟩ := ba h3
        have e1 : t = "type" := eq_of_beq h1
        have e5 : C' = C := eq_of_beq h5
        have e9 : n = "ValueError.__new__" := eq_of_beq h4
        subst e1 e5 e9
        obtain ⟨nm, bs, mro, N, q, hd, sn, sub, ab, col, hdel⟩ := cd
        dsimp only at hm h7 h8
        subst hm h7
        have hdel' : hdel = false := by
          cases hdel with
          | false => rfl
          | true => cases h8
        subst hdel'
        have hsl : sl = #[k0, k1, k2, k3, some (.builtin "ValueError.__new__"), k5] := by
          have := congrArg List.toArray hs
          simpa using this
        subst hsl
        exact ⟨nm, q, N, bs, bm, sn, sub, ab, col, dd, k0, k1, k2, k3, k5, hl, h6⟩
      · cases h4
    · cases h2
  · cases h
/-- all that making one, storing to it and raising it ask of the class -/
def oexB (K : PySem.W.Frag) (C : Addr) : Bool :=
  exObjB K C && eqO (PySem.W.findIn K (.ref C) "__setattr__") (some (some (.builtin "object.__setattr__"))) && decide (PySem.W.subIn K (.ref C) (.type "BaseException") = some true) &&
    decide (PySem.W.typeIn K (.ref C) = some (.type "type")) && PySem.W.keepIn K (.ref C)
theorem oexB_ok {K : PySem.W.Frag} {C : Addr} (h : oexB K C = true) : OexC K C := by
  obtain ⟨h, h5⟩ := ba h
  obtain ⟨h, h4⟩ := ba h
  obtain ⟨h, h3⟩ := ba h
  obtain ⟨h1, h2⟩ := ba h
  exact ⟨exObjB_ok h1, eqO_ok h2, of_decide_eq_true h3, of_decide_eq_true h4, h5⟩
/-- all that isinstance asks of an instance's class -/
def excB (K : PySem.W.Frag) (D : Addr) : Bool :=
  eqO (PySem.W.findIn K (.ref D) "__getattribute__") (some (some (.builtin "BaseException.__getattribute__"))) && eqO (PySem.W.findIn K (.ref D) "__getattr__") (some none) &&
    decide (PySem.W.subIn K (.ref D) (.type "BaseException") = some true) && PySem.W.hasDictIn K D && eqO (PySem.W.findIn K (.ref D) "__class__") (some (some (.builtin "object.__class__"))) &&
    eqO (PySem.W.specialIn K (.builtin "object.__class__") "__get__") (some (some (.builtin "getset_descriptor.__get__"))) && decide (PySem.W.takesIn K (.builtin "object.__class__") = some true) && decide (PySem.W.mroIn K D (.type "object") = some true)
theorem excB_ok {K : PySem.W.Frag} {D : Addr} (h : excB K D = true) : ExcC K D := by
  obtain ⟨h, h8⟩ := ba h
  obtain ⟨h, h7⟩ := ba h
  obtain ⟨h, h6⟩ := ba h
  obtain ⟨h, h5⟩ := ba h
  obtain ⟨h, h4⟩ := ba h
  obtain ⟨h, h3⟩ := ba h
  obtain ⟨h1, h2⟩ := ba h
  exact ⟨eqO_ok h1, eqO_ok h2, of_decide_eq_true h3, h4, eqO_ok h5, eqO_ok h6, of_decide_eq_true h7, of_decide_eq_true h8⟩
end NF
set_option Elab.async false
set_option linter.all false
set_option maxRecDepth 100000
set_option maxHeartbeats 4000000
/-! Own exceptions as values: made, asked for their class, read. -/
namespace NF
open PySem PySem.Spec PyProof.Rows L2 He
/-! ### C(e, ..) as a value: the class's own __init__ keeps sp -/
def tMkV (C : Addr) (sp : Sp) (ta : TA) : TE := fun σ H Q => ta σ H fun vs H1 => vs.length ≤ 1000 ∧ ∀ a, H1 a = none → sp (.ref a :: vs) (upd H1 a (exo a C none))
  (fun v H2 => v = .non ∧ Q (.ref a) H2) (fun _ _ _ => False)
section
variable {X : Cx} {e : Expr} {es : List Expr} {ta : TA} {p pos : Pos}
theorem pe_oex {CX : CXT} {x : Str} {C fI : Addr} {k : Nat} {fd : FuncData} {ps : List Str} {sp : Sp} (T : OexC X.K C) (iC : PySem.W.findIn X.K (.ref C) "__init__" = some (some (.ref fI))) (tI : PySem.W.typeIn X.K (.ref fI) = some (.type "function"))
    (F1 : FnOk X.prog X.w X.K X.mg X.base CX k fI fd ps sp) (hr : Room (k + 1) X.A) (hb : Binds X.K fd ps []) (hx : Passes CX X (fun _ _ _ => False)) (hg : Gl X x) (hm : X.mg x = some (.ref C)) (ha : PA X (e :: es) ta)
    (hdb : (x == ("__debug__" : Str)) = false := by decide) (he : starEach (e :: es) X.env = (false, eval e X.env) :: starEach es X.env := by rfl) (hpl : (backTo pos (starEach es X.env)).any (·.1) = false := by rfl) :
    PE X (.Call (.Name x p) (e :: es) [] pos) (tMkV C sp ta) := by
  refine ⟨fun pins s σ H Q I h => ?_⟩
  obtain ⟨nm, q, N, bs, bm, sn, sub, ab, col, dd, k0, k1, k2, k3, k5, hC, hbm⟩ := T.cls
  refine wpAny_Call_Name_kw (ld_glob I hg hm ?_ hdb)
  refine PySem.W.callWith_K (h₀ := X.base) I.ok.mod.kin T.kC (thn (ha.run pos pins s σ H _ I h) fun us s1 ⟨vs, H1, I1, r1, hz, q1⟩ => ⟨I1.kIn, ?_⟩) he hpl
  show wpAny _ _ (call (.ref C) us) _ _ _
  obtain ⟨hp, g, dr, tk, os⟩ := s1
  have hsz : hp.objs.size ≤ hp.objs.size + 1 := Nat.le_succ _
  have hn : H1 (hp.objs.size + 1) = none := I1.hok.fresh hsz
  have hq := q1 (hp.objs.size + 1) hn
  have kk : ∀ b o, hp.get? b = some o → ((hp.push (PySem.W.kdv_tup us)).push (PySem.HandSPX.excO C hp.objs.size)).get? b = some o := fun b o e => Heap.get?_push_of_some _ (Heap.get?_push_of_some _ e)
  have hget : ((hp.push (PySem.W.kdv_tup us)).push (PySem.HandSPX.excO C hp.objs.size)).get? (hp.objs.size + 1) = some (PySem.HandSPX.excO C hp.objs.size) := by heap_get
  have I2 : Inv X pins σ (upd H1 (hp.objs.size + 1) (exo (hp.objs.size + 1) C none)) ⟨(hp.push (PySem.W.kdv_tup us)).push (PySem.HandSPX.excO C hp.objs.size), g, dr, tk, os⟩ :=
    I1.laid (t' := tk) (a := hp.objs.size + 1) (o := exo (hp.objs.size + 1) C none) (h' := (hp.push (PySem.W.kdv_tup us)).push (PySem.HandSPX.excO C hp.objs.size)) kk hsz (exo_ok hget)
  have r2 : Vals (V.ref (hp.objs.size + 1) :: vs) (Value.ref (hp.objs.size + 1) :: us) := .cons rfl r1
  have hl : (Value.ref (hp.objs.size + 1) :: us ++ []).length = ps.length := by
    have e := r2.length
    rw [F1.len _ _ _ _ hq] at e
    rw [List.append_nil]
    exact e.symm
  have hus : us.length ≤ sizeLine := by
    rw [← Paired.length r1, sizeLine_eq]
    omega
  have hb' : BindsTo (⟨(hp.push (PySem.W.kdv_tup us)).push (PySem.HandSPX.excO C hp.objs.size), g, dr, tk, os⟩ : Shared) fd ⟨Value.ref (hp.objs.size + 1) :: us, []⟩ (ps.zip (Value.ref (hp.objs.size + 1) :: us)) := by
    have := hb ⟨(hp.push (PySem.W.kdv_tup us)).push (PySem.HandSPX.excO C hp.objs.size), g, dr, tk, os⟩ (Value.ref (hp.objs.size + 1) :: us) I2.kIn hl
    rw [List.append_nil] at this
    exact this
  refine wpAny_call (PySem.HandSPX.call_own F.excBase_ValueError (fun Y => PySem.HandSPX.refsVE_contains Y bm hbm) (I1.kIn _ _ hC) (PySem.W.looks_findIn I1.kIn iC) (fun self => PySem.W.bind_fn I1.kIn self tI) hus
    (codeAny_mono (F1.run _ X.stack _ _ ⟨Value.ref (hp.objs.size + 1) :: us, []⟩ (Value.ref (hp.objs.size + 1) :: us) _ _ (fun _ _ _ => False) (hr.make C us []) (I2.env0.make C us []) hb' r2 hq) fun r s' hq' => ?_))
  cases r with
  | error er => exact hx pins σ _ _ er s' I2 hq'
  | ok fl =>
    cases fl with
    | ret u =>
      obtain ⟨v, H2, os2, bare2, un2, hok2, rv, ev, q2⟩ := hq'
      subst ev
      obtain ⟨h2, g2, d2, t2, os'⟩ := s'
      exact ⟨rv, V.ref (hp.objs.size + 1), H2, I2.call' (ch := []) os2 un2 hok2 bare2 (fun b z => absurd z (by simp)), rfl, q2⟩
    | next => exact False.elim hq'
    | brk => exact False.elim hq'
    | cont => exact False.elim hq'
/-- C(), an own exception class without own __init__, as a value -/
def tMk0 (C : Addr) : TE := fun _ H Q => ∀ a, H a = none → Q (.ref a) (upd H a (exo a C none))
theorem pe_exc0 {C : Addr} {x : Str} (q : PySem.W.excIn X.K C He.veBase "ValueError.__new__" = true) (gC : X.mg x = some (.ref C)) (kC : PySem.W.keepIn X.K (.ref C) = true) (hg : Gl X x)
    (hdb : (x == ("__debug__" : Str)) = false := by decide) :
    PE X (.Call (.Name x p) [] [] pos) (tMk0 C) := by
  refine ⟨fun pins s σ H Q I h => ?_⟩
  refine wpAny_Call_Name_kw (ld_glob I hg gC ?_ hdb)
  refine PySem.W.callWith_K0 I.kIn kC ?_
  show wpAny _ _ (call (.ref C) []) _ _ _
  obtain ⟨bm, N, nm, qn, bs, hdct, sn, sub, ab, col, dd, k0, k1, k2, k3, k5, mN, hC, hN, hni, T⟩ := exc_obj I.kIn q
  obtain ⟨hp, g, dr, tk, os⟩ := s
  refine wpAny_call_exc_subT F.excBase_ValueError T hC hN hni (fun h' a hm => ?_) (Nat.zero_le _)
  have hn : H a = none := I.hok.gone hm.new
  obtain ⟨t, ht, _, _⟩ := hm.there
  exact ⟨.ref a, upd H a (exo a C none), I.laidN hm.keeps hm.new hn (exo_ok ht), rfl, h a hn⟩
/-! ### isinstance of such a value -/
def rIsV (K : PySem.W.Frag) : List V → Hp → VK → Prop := fun xs H Q => ∃ (a C : Addr) (od : Option Addr) (c : V) (u : Value) (b : Bool), xs = [.ref a, c] ∧ ClsV c u ∧ ExcC K C ∧ H a = some (exo a C od) ∧
  (∀ d, od = some d → ∃ fs, H d = some (exd d fs)) ∧ PySem.W.kitOne K (.ref C) u = some b ∧ Q (.bl b) H
theorem inst_exo {pins : List (Addr × Obj)} {σ : L2.St} {H : Hp} {s : Shared} {a C : Addr} {od : Option Addr} (I : Inv X pins σ H s) (e : H a = some (exo a C od)) (hd : ∀ d, od = some d → ∃ fs, H d = some (exd d fs)) :
    ∃ ox o, PySem.W.InstAt s.heap a ox C o := by
  obtain ⟨t1, h1⟩ := exo_at I.hok e
  cases od with
  | none => exact ⟨_, none, h1, rfl, rfl, trivial⟩
  | some d =>
    obtain ⟨fs, h2⟩ := hd d rfl
    obtain ⟨mA, hns, _⟩ := exd_at I.hok h2
    obtain ⟨o, ho, _⟩ := lookIn_ns hns
    exact ⟨_, some o, h1, rfl, rfl, ho⟩
theorem call_isV : CallR X (.builtin "isinstance") (rIsV X.K) := by
  intro pins s σ H xs us Q I r h
  obtain ⟨a, C, od, c, u, b, rfl, k, T, e, hd, hk, q⟩ := h
  obtain ⟨u1, u2, rfl, r1, r2⟩ := vals2 r
  have e2 := k.eq r2
  subst e2
  cases (show u1 = Value.ref a from r1)
  obtain ⟨ox, o, J⟩ := inst_exo I e hd
  have hcl : (PySem.W.clsIn X.K C).isSome = true := by
    obtain ⟨cd, hc, _⟩ := PySem.W.any_some T.hd
    rw [hc] <;> rfl
  exact PySem.W.kia_one (PySem.W.kitx_exc (ox := ox) (od := o) hcl T.hg T.hk T.hs T.ha T.hn T.ht T.hm) I.kIn J hk (fun z => nomatch z) fun tk => ⟨.bl b, H, I.tok tk, rfl, q⟩
/-! ### its field -/
def tXv (K : PySem.W.Frag) (f : Str) (te : TE) : TE := fun σ H Q => te σ H fun x H1 => ∃ (a C d : Addr) (fs : List (Str × V)) (v : V), x = .ref a ∧ XfC K C ∧ PySem.W.findIn K (.ref C) f = some none ∧ H1 a = some (exo a C (some d)) ∧ H1 d = some (exd d fs) ∧ fs.lookup f = some v ∧ Q v H1
theorem pe_xv {n : Str} {te : TE} (he : PE X e te) (hb : attributeBase e n X.env (eval e X.env) = eval e X.env := by rfl) : PE X (.Attribute e n pos) (tXv X.K n te) := by
  refine ⟨fun pins s σ H Q I h => ?_⟩
  refine attr_of hb (thn (he.run pins s σ H _ I h) fun u s1 hh => ?_)
  obtain ⟨x, H1, I1, rx, a, C, d, fs, v, ex, T, hno, ea, ed, l, q⟩ := hh
  subst ex
  obtain rfl : u = Value.ref a := rx
  obtain ⟨t1, h1⟩ := exo_at I1.hok ea
  obtain ⟨mA, hns, hr⟩ := exd_at I1.hok ed
  obtain ⟨od, ho, hl⟩ := lookIn_ns hns
  obtain ⟨u, hu, ru⟩ := RelO.some_of (v := v) (o := mA n) (by rw [← l]; exact hr n)
  have J : PySem.W.InstAt s1.heap a _ C (some od) := ⟨h1, rfl, rfl, ho⟩
  exact HandSPX.exc_get I1.kIn J T.ga T.gg T.exC (PySem.W.findObj_own T.hdC hno rfl (by rw [hl, hu])) (handed_of ru) ⟨v, H1, I1.tok _, ru, q⟩
end
end NF
set_option Elab.async false
set_option linter.all false
set_option maxRecDepth 100000
set_option maxHeartbeats 4000000
/-! What each law's own helpers keep: the source of draws. -/
namespace NF
open PySem PySem.Spec PyProof.Rows L2 He
/-- the names that a def reads off the module: those that stand for an object of the written part, those that are still Python's own -/
structure Txt (K : PySem.W.Frag) (mg : Str → Option Value) (gs fs : List Str) : Prop where
  gl : ∀ x, x ∈ gs → mg x = some (.ref (ga K x))
  fr : ∀ x, x ∈ fs → mg x = none
/-- a source of draws at p: three ints -/
def Src (H : Hp) (p : Addr) : Prop := ∃ a s c : Int, H p = some (.lst [.int a, .int s, .int c])
/-- a draw: some number from 0 below m; all but the source stands (H0: what the caller wants to stand) -/
def spPick : Sp := fun vs H Q _ => ∃ (H0 : Hp) (p : Addr) (m : Int), vs = [.ref p, .int m] ∧ Same H0 H ∧ H0 p = none ∧ Src H p ∧ 0 < m ∧ m < 1073741824 ∧
  ∀ d H', 0 ≤ d → d < m → Same H0 H' → Src H' p → Q (.int d) H'
/-- a new source of the script -/
def spSource (K : PySem.W.Frag) : Sp := fun vs H Q _ => ∃ (l : Addr) (ns : List Int) (i : Nat), vs = [.ref l, .int (i : Int)] ∧ SqL K H l (ns.map V.int) ∧ ns.length ≤ 63 ∧ (∀ k ∈ ns, Builtin.Int.intBits k ≤ 1048576) ∧ i < 1000 ∧
  ∀ p H', Same H H' → H p = none → Src H' p → Q (.ref p) H'
theorem Same.put {H0 H : Hp} {p : Addr} {o : HO} (h : Same H0 H) (n : H0 p = none) : Same H0 (upd H p o) := fun b u e => by
  rw [upd_ne (ne_of_none e n)]
  exact h b u e
theorem Same.new {H0 H : Hp} {p : Addr} {o : HO} (h : Same H0 H) (n : H p = none) : Same H0 (upd H p o) := NF.Same.put h (L2.Same.free h n)
/-- a def that may be called by its name; it lets nothing out -/
structure Cal (P : Program) (w : World) (K : PySem.W.Frag) (mg : Str → Option Value) (base : Heap) (k : Nat) (x : Str) (sp : Sp) : Prop where
  ex : ∃ (f : Addr) (fd : FuncData) (ps : List Str), FnOk P w K mg base CX0 k f fd ps sp ∧ mg x = some (.ref f) ∧ PySem.W.keepIn K (.ref f) = true ∧ Binds K fd ps []
theorem pe_c {X : Cx} {k j : Nat} {x : Str} {sp : Sp} {e : Expr} {es : List Expr} {t : TA} {p pos : Pos} (c : Cal X.prog X.w X.K X.mg X.base k x sp) (hr : Room j X.A) (hk : k ≤ j) (hg : Gl X x) (ha : PA X (e :: es) t)
    (hdb : (x == ("__debug__" : Str)) = false := by decide) (he : starEach (e :: es) X.env = (false, eval e X.env) :: starEach es X.env := by rfl) (hpl : (backTo pos (starEach es X.env)).any (·.1) = false := by rfl) :
    PE X (.Call (.Name x p) (e :: es) [] pos) (tCall sp [] E0 t) := by
  obtain ⟨f, fd, ps, F, hm, kp, b⟩ := c.ex
  exact pe_call F (hr.mono hk) hg hm kp b .nil pass0 ha hdb he hpl
theorem Cal.mk' {P : Program} {w : World} {K : PySem.W.Frag} {mg : Str → Option Value} {base : Heap} {k : Nat} {x q : Str} {pa : Arguments} {bd : List Stmt} {sc : Scope} {sp : Sp} {f : Addr} {fd : FuncData} {ps : List Str}
    (F : FunD K x q pa bd sc [] [] f fd) (ok : FnOk P w K mg base CX0 k f fd ps sp) (hm : mg x = some (.ref f)) (b : Binds K fd ps []) : Cal P w K mg base k x sp := ⟨f, fd, ps, ok, hm, F.kp, b⟩
theorem at0 {x y z : V} : atI [x, y, z] 0 = some x := rfl
theorem at1 {x y z : V} : atI [x, y, z] 1 = some y := rfl
theorem at2 {x y z : V} : atI [x, y, z] 2 = some z := rfl
end NF
namespace NF
open PySem PySem.Spec PyProof.Rows L2 He
/-- the heap without p -/
def wo (H : Hp) (p : Addr) : Hp := fun a => if a = p then none else H a
theorem wo_none {H : Hp} {p : Addr} : wo H p p = none := if_pos rfl
theorem wo_ne {H : Hp} {p a : Addr} (h : a ≠ p) : wo H p a = H a := if_neg h
theorem wo_same' {H : Hp} {p : Addr} : Same (wo H p) H := fun a o e => by
  by_cases h : a = p
  · rw [h, wo_none] at e
    cases e
  · rw [wo_ne h] at e
    exact e
theorem wo_same {H0 H H' : Hp} {p : Addr} (s : Same H0 H) (n : H0 p = none) (s' : Same (wo H p) H') : Same H0 H' := fun a o e =>
  s' a o ((wo_ne (ne_of_none e n)).trans (s a o e))
theorem Same.mut {H0 H : Hp} {p : Addr} {o : HO} (h : Same H0 H) (n : H0 p = none) : Same H0 (upd H p o) := NF.Same.put h n
theorem Src.mono {H H' : Hp} {p : Addr} (h : Src H p) (s : Same H H') : Src H' p := by
  obtain ⟨x, y, z, h⟩ := h
  exact ⟨x, y, z, s _ _ h⟩
end NF
namespace NF
open PySem PySem.Spec PyProof.Rows L2 He
theorem walk_ofEB {l : PySem.W.OpenLaw} {n k : Nat} {q : Program} {loose : List Str} {XP : (Str → Option Value) → Heap → Prop} {YP : World → Heap → Prop} {d : DefRec} {CX : CXT} {x : Str}
    (hn : l.most = some n) (hn2 : n ≤ sizeLine) (hdf : d.params.defaults = []) (hr : Room k callerA)
    (F : ∀ (w : World) (mg : Str → Option Value) (fa : Addr) (h : Heap), YP w h → h.Ns mainGlobals mg → mg d.name = some (.ref fa) →
      ∃ (K : PySem.W.Frag) (fd : FuncData) (sp : Sp), K.In h ∧ (∀ (s : Shared) (u : Value), BindsTo s fd ⟨[u], []⟩ [(x, u)]) ∧
        (∀ (H : Hp) (a : Addr) (ns : List Int), ns.length ≤ n → (∀ z ∈ ns, Builtin.Int.intBits z ≤ 1048576) → Only H → SqL K H a (ns.map V.int) → sp [.ref a] H (fun v _ => v = .bl true) fun _ _ _ => False) ∧
        ∀ base : Heap, K.In base → base.Ns mainGlobals mg → FnOk l.prog w K mg base CX k fa fd [x] sp)
    (hCX : ∀ (H : Hp) (s : Shared) (e : Value) (s' : Shared), CX [] H s (fun _ _ _ => False) e s' → False) :
    PySem.W.WalkO q loose XP YP l.row.toRowW d [] (fun f vs => PySem.call f vs) := by
  refine Att.attach_callB hn hdf fun w s₀ s₁ mg mb fa o pm cd doc a vs ns G Y ho hd hcd hmg hobj hints hlen hbits hg => ?_
  obtain ⟨K, fd, sp, KX, hb, hsp, hF⟩ := F w mg fa _ Y G.T.g hmg
  exact law_call KX G.T.g G.T.b G.T.builtins G.T.nolimit hg hobj hints (Nat.le_trans hlen hn2) hr hF hb (fun H hO hS => hsp H a ns hlen hbits hO hS) fun H e s' => hCX H s₁ e s'
end NF
set_option linter.all false
/-! Tables as plain Lean: head, loop, rise; the plain form is the only one. -/
namespace NT
/-- what a loop tells, from its first place on -/
def walk (l : List Int) (r : Int) (k : Nat) : Int := l.getD (k % l.length) 0 + r * ((k / l.length : Nat) : Int)
/-- the value at n, from 1 on; none: never -/
def at_ (h l : List Int) (r : Int) (n : Nat) : Option Int :=
  if n ≤ h.length then some (h.getD (n - 1) 0) else if l = [] then none else some (walk l r (n - h.length - 1))
/-- m steps on the values are a fixed number more -/
def Per (f : Nat → Int) (m : Nat) : Prop := ∃ c, ∀ k, f (k + m) = f k + c
def LoopMin (l : List Int) (r : Int) : Prop := ∀ m, 0 < m → m ∣ l.length → Per (walk l r) m → m = l.length
def HeadMin (h l : List Int) (r : Int) : Prop := ∀ k, h.length = k + 1 → h.getD k 0 + r ≠ l.getD (l.length - 1) 0

theorem walk_add {l : List Int} {r : Int} (hl : 0 < l.length) (k : Nat) : walk l r (k + l.length) = walk l r k + r := by
  unfold walk
  rw [Nat.add_mod_right, Nat.add_div_right _ hl]
  rw [Int.natCast_add, Int.mul_add]
  omega
theorem walk_add_mul {l : List Int} {r : Int} (hl : 0 < l.length) (k j : Nat) : walk l r (k + l.length * j) = walk l r k + r * (j : Int) := by
  induction j with
  | zero => simp
  | succ j ih =>
    rw [Nat.mul_succ, ← Nat.add_assoc, walk_add hl, ih, Int.natCast_add, Int.mul_add]
    omega
theorem walk_lt {l : List Int} {r : Int} {k : Nat} (h : k < l.length) : walk l r k = l.getD k 0 := by
  unfold walk
  rw [Nat.mod_eq_of_lt h, Nat.div_eq_of_lt h]
  simp
/-- periods, further on alone -/
def PerF (f : Nat → Int) (N m : Nat) : Prop := ∃ c, ∀ k, N ≤ k → f (k + m) = f k + c
theorem PerF.sub {f : Nat → Int} {N a b : Nat} (ha : PerF f N (a + b)) (hb : PerF f N b) : PerF f N a := by
  obtain ⟨c, hc⟩ := ha
  obtain ⟨d, hd⟩ := hb
  refine ⟨c - d, fun k hk => ?_⟩
  have h1 := hc k hk
  have h2 := hd (k + a) (by omega)
  rw [show k + a + b = k + (a + b) by omega, h1] at h2
  omega
theorem PerF.mul {f : Nat → Int} {N a : Nat} (ha : PerF f N a) (j : Nat) : PerF f N (a * j) := by
  obtain ⟨c, hc⟩ := ha
  refine ⟨c * (j : Int), ?_⟩
  induction j with
  | zero => intro k _; simp
  | succ j ih =>
    intro k hk
    have h1 := ih k hk
    have h2 := hc (k + a * j) (by omega)
    rw [Nat.mul_succ, ← Nat.add_assoc, h2, h1, Int.natCast_add, Int.mul_add]
    omega
theorem PerF.gcd {f : Nat → Int} {N : Nat} : ∀ (a b : Nat), PerF f N a → PerF f N b → PerF f N (Nat.gcd a b) := by
  intro a
  induction a using Nat.strongRecOn with
  | _ a ih =>
    intro b ha hb
    cases a with
    | zero => rw [Nat.gcd_zero_left]; exact hb
    | succ a =>
      rw [Nat.gcd_rec]
      have hlt : b % (a + 1) < a + 1 := Nat.mod_lt _ (Nat.succ_pos a)
      have hm : PerF f N (b % (a + 1)) := by
        have h1 : b = b % (a + 1) + (a + 1) * (b / (a + 1)) := (Nat.mod_add_div b (a + 1)).symm
        exact PerF.sub (b := (a + 1) * (b / (a + 1))) (by rw [← h1]; exact hb) (ha.mul _)
      exact ih _ hlt (a + 1) hm ha
theorem at_loop {h l : List Int} {r : Int} {n : Nat} (hl : l ≠ []) (hn : h.length < n) : at_ h l r n = some (walk l r (n - h.length - 1)) := by
  unfold at_
  rw [if_neg (by omega), if_neg hl]
theorem len_pos {l : List Int} (h : l ≠ []) : 0 < l.length := List.length_pos_iff.mpr h

section
variable {h1 l1 h2 l2 : List Int} {r1 r2 : Int}
theorem walk_eq (n1 : l1 ≠ []) (n2 : l2 ≠ []) (e : ∀ n, 1 ≤ n → at_ h1 l1 r1 n = at_ h2 l2 r2 n) {n : Nat} (g1 : h1.length < n) (g2 : h2.length < n) : walk l1 r1 (n - h1.length - 1) = walk l2 r2 (n - h2.length - 1) := by
  have q := e n (by omega)
  rw [at_loop n1 g1, at_loop n2 g2] at q
  exact Option.some.inj q
theorem one_loop_le (n1 : l1 ≠ []) (n2 : l2 ≠ []) (m1 : LoopMin l1 r1) (e : ∀ n, 1 ≤ n → at_ h1 l1 r1 n = at_ h2 l2 r2 n) : l1.length ∣ l2.length := by
  have p1 := len_pos n1
  have p2 := len_pos n2
  -- l1's walk is, further on, of both periods
  have hA : PerF (walk l1 r1) (h1.length + h2.length) l1.length := ⟨r1, fun k _ => walk_add p1 k⟩
  have hB : PerF (walk l1 r1) (h1.length + h2.length) l2.length := by
    refine ⟨r2, fun k hk => ?_⟩
    have q1 := walk_eq n1 n2 e (n := k + h1.length + 1) (by omega) (by omega)
    have q2 := walk_eq n1 n2 e (n := k + l2.length + h1.length + 1) (by omega) (by omega)
    rw [show k + h1.length + 1 - h1.length - 1 = k by omega] at q1
    rw [show k + l2.length + h1.length + 1 - h1.length - 1 = k + l2.length by omega, show k + l2.length + h1.length + 1 - h2.length - 1 = (k + h1.length + 1 - h2.length - 1) + l2.length by omega, walk_add p2, ← q1] at q2
    exact q2
  have hG := PerF.gcd _ _ hA hB
  obtain ⟨c, hc⟩ := hG
  have hP : Per (walk l1 r1) (Nat.gcd l1.length l2.length) := by
    refine ⟨c, fun k => ?_⟩
    have q := hc (k + l1.length * (h1.length + h2.length)) (by
      have : h1.length + h2.length ≤ l1.length * (h1.length + h2.length) := Nat.le_mul_of_pos_left _ p1
      omega)
    rw [show k + l1.length * (h1.length + h2.length) + Nat.gcd l1.length l2.length = (k + Nat.gcd l1.length l2.length) + l1.length * (h1.length + h2.length) by omega, walk_add_mul p1, walk_add_mul p1] at q
    omega
  have := m1 _ (Nat.gcd_pos_of_pos_left _ p1) (Nat.gcd_dvd_left _ _) hP
  rw [← this]
  exact Nat.gcd_dvd_right _ _
theorem one_head_le (n1 : l1 ≠ []) (n2 : l2 ≠ []) (el : l1.length = l2.length) (m2 : HeadMin h2 l2 r2) (er : r1 = r2) (e : ∀ n, 1 ≤ n → at_ h1 l1 r1 n = at_ h2 l2 r2 n) : h2.length ≤ h1.length := by
  have p1 := len_pos n1
  have p2 := len_pos n2
  refine Nat.le_of_not_lt fun hlt => ?_
  obtain ⟨k, hk⟩ : ∃ k, h2.length = k + 1 := ⟨h2.length - 1, by omega⟩
  have q1 := e (k + 1) (by omega)
  have q2 := e (k + 1 + l2.length) (by omega)
  rw [at_loop n1 (by omega), at_loop n2 (by omega)] at q2
  rw [at_loop n1 (by omega)] at q1
  unfold at_ at q1
  rw [if_pos (by omega)] at q1
  have q1 := Option.some.inj q1
  have q2 := Option.some.inj q2
  rw [show k + 1 + l2.length - h1.length - 1 = (k + 1 - h1.length - 1) + l1.length by omega, walk_add p1, q1] at q2
  rw [walk_lt (by omega), show k + 1 + l2.length - h2.length - 1 = l2.length - 1 by omega, show k + 1 - 1 = k by omega] at q2
  exact m2 k hk (by rw [← q2, er])
/-- two forms that can't be made smaller and tell the same are the same -/
theorem one_form (n1 : l1 ≠ []) (n2 : l2 ≠ []) (a1 : LoopMin l1 r1) (a2 : LoopMin l2 r2) (b1 : HeadMin h1 l1 r1) (b2 : HeadMin h2 l2 r2) (e : ∀ n, 1 ≤ n → at_ h1 l1 r1 n = at_ h2 l2 r2 n) : h1 = h2 ∧ l1 = l2 ∧ r1 = r2 := by
  have p1 := len_pos n1
  have p2 := len_pos n2
  have el : l1.length = l2.length := Nat.dvd_antisymm (one_loop_le n1 n2 a1 e) (one_loop_le n2 n1 a2 fun n hn => (e n hn).symm)
  have er : r1 = r2 := by
    have q1 := walk_eq n1 n2 e (n := h1.length + h2.length + 1) (by omega) (by omega)
    have q2 := walk_eq n1 n2 e (n := h1.length + h2.length + 1 + l1.length) (by omega) (by omega)
    rw [show h1.length + h2.length + 1 + l1.length - h1.length - 1 = (h1.length + h2.length + 1 - h1.length - 1) + l1.length by omega, walk_add p1,
      show h1.length + h2.length + 1 + l1.length - h2.length - 1 = (h1.length + h2.length + 1 - h2.length - 1) + l2.length by omega, walk_add p2, q1] at q2
    omega
  have eh : h1.length = h2.length := Nat.le_antisymm (one_head_le n2 n1 el.symm b1 er.symm fun n hn => (e n hn).symm) (one_head_le n1 n2 el b2 er e)
  refine ⟨List.ext_getElem eh fun i i1 i2 => ?_, List.ext_getElem el fun i i1 i2 => ?_, er⟩
  · have q := e (i + 1) (by omega)
    unfold at_ at q
    rw [if_pos (by omega), if_pos (by omega)] at q
    have q := Option.some.inj q
    rw [show i + 1 - 1 = i by omega, List.getD_eq_getElem?_getD, List.getD_eq_getElem?_getD, List.getElem?_eq_getElem i1, List.getElem?_eq_getElem i2] at q
    exact q
  · have q := walk_eq n1 n2 e (n := h1.length + 1 + i) (by omega) (by omega)
    rw [show h1.length + 1 + i - h1.length - 1 = i by omega, show h1.length + 1 + i - h2.length - 1 = i by omega, walk_lt i1, walk_lt i2,
      List.getD_eq_getElem?_getD, List.getD_eq_getElem?_getD, List.getElem?_eq_getElem i1, List.getElem?_eq_getElem i2] at q
    exact q
theorem one_never (e : ∀ n, 1 ≤ n → at_ h1 [] r1 n = at_ h2 [] r2 n) : h1 = h2 := by
  have el : h1.length = h2.length := by
    have q1 := e (h1.length + 1) (by omega)
    have q2 := e (h2.length + 1) (by omega)
    unfold at_ at q1 q2
    rw [if_neg (by omega), if_pos rfl] at q1
    rw [if_neg (show ¬ h2.length + 1 ≤ h2.length by omega), if_pos rfl] at q2
    by_cases c1 : h1.length + 1 ≤ h2.length
    · rw [if_pos c1] at q1
      cases q1
    · by_cases c2 : h2.length + 1 ≤ h1.length
      · rw [if_pos c2] at q2
        cases q2
      · omega
  refine List.ext_getElem el fun i i1 i2 => ?_
  have q := e (i + 1) (by omega)
  unfold at_ at q
  rw [if_pos (by omega), if_pos (by omega)] at q
  have q := Option.some.inj q
  rw [show i + 1 - 1 = i by omega, List.getD_eq_getElem?_getD, List.getD_eq_getElem?_getD, List.getElem?_eq_getElem i1, List.getElem?_eq_getElem i2] at q
  exact q
end
end NT
set_option linter.all false
namespace NT
structure LapIs (l : List Int) (r : Int) (m : Nat) : Prop where
  pos : 0 < m
  dvd : m ∣ l.length
  per : Per (walk l r) m
  least : ∀ m', 0 < m' → m' ∣ l.length → Per (walk l r) m' → m ≤ m'
theorem LapIs.one {l : List Int} {r : Int} {m m' : Nat} (a : LapIs l r m) (b : LapIs l r m') : m = m' := Nat.le_antisymm (a.least _ b.pos b.dvd b.per) (b.least _ a.pos a.dvd a.per)
theorem per_mul {f : Nat → Int} {m : Nat} {c : Int} (h : ∀ k, f (k + m) = f k + c) (k j : Nat) : f (k + m * j) = f k + c * (j : Int) := by
  induction j with
  | zero => simp
  | succ j ih =>
    rw [Nat.mul_succ, ← Nat.add_assoc, h, ih, Int.natCast_add, Int.mul_add]
    omega
/-- the rise of a part that comes round -/
theorem per_rise {l : List Int} {r c : Int} {m : Nat} (hl : l ≠ []) (h : ∀ k, walk l r (k + m) = walk l r k + c) {t : Nat} (ht : m * t = l.length) : r = c * (t : Int) := by
  have q := per_mul h 0 t
  rw [ht, walk_add (len_pos hl)] at q
  omega
theorem per_self {l : List Int} {r : Int} (hl : l ≠ []) : Per (walk l r) l.length := ⟨r, walk_add (len_pos hl)⟩
theorem getD_take {l : List Int} {m i : Nat} (h : i < m) : (l.take m).getD i 0 = l.getD i 0 := by
  rw [List.getD_eq_getElem?_getD, List.getD_eq_getElem?_getD, List.getElem?_take, if_pos h]
theorem getD_drop {l : List Int} {m i : Nat} : (l.drop m).getD i 0 = l.getD (m + i) 0 := by
  rw [List.getD_eq_getElem?_getD, List.getD_eq_getElem?_getD, List.getElem?_drop]
theorem getD_app1 {h l : List Int} {i : Nat} (q : i < h.length) : (h ++ l).getD i 0 = h.getD i 0 := by
  rw [List.getD_eq_getElem?_getD, List.getD_eq_getElem?_getD, List.getElem?_append_left q]
theorem getD_app2 {h l : List Int} {i : Nat} (q : h.length ≤ i) : (h ++ l).getD i 0 = l.getD (i - h.length) 0 := by
  rw [List.getD_eq_getElem?_getD, List.getD_eq_getElem?_getD, List.getElem?_append_right q]
/-- the shorter loop tells the same -/
theorem walk_short {l : List Int} {r c : Int} {m : Nat} (hm : 0 < m) (hle : m ≤ l.length) (h : ∀ k, walk l r (k + m) = walk l r k + c) (k : Nat) : walk (l.take m) c k = walk l r k := by
  have e : k = k % m + m * (k / m) := (Nat.mod_add_div k m).symm
  have hlt : k % m < m := Nat.mod_lt _ hm
  have q := per_mul h (k % m) (k / m)
  rw [← e] at q
  have w1 : walk l r (k % m) = l.getD (k % m) 0 := walk_lt (by omega)
  rw [q, w1]
  show (l.take m).getD (k % (l.take m).length) 0 + c * ((k / (l.take m).length : Nat) : Int) = _
  rw [List.length_take, Nat.min_eq_left hle, getD_take hlt]
theorem short_min {l : List Int} {r c : Int} {m : Nat} (hl : l ≠ []) (a : LapIs l r m) (h : ∀ k, walk l r (k + m) = walk l r k + c) : LoopMin (l.take m) c := by
  have hle : m ≤ l.length := Nat.le_of_dvd (len_pos hl) a.dvd
  intro m' p d q
  rw [List.length_take, Nat.min_eq_left hle] at d ⊢
  have e : walk (l.take m) c = walk l r := funext fun k => walk_short a.pos hle h k
  rw [e] at q
  exact Nat.le_antisymm (Nat.le_of_dvd a.pos d) (a.least _ p (Nat.dvd_trans d a.dvd) q)
/-! ### the head is cut -/
def cut (e : List Int) (p : Nat) (r : Int) : Nat → Nat
  | 0 => 0
  | k + 1 => if e.getD k 0 + r = e.getD (k + p) 0 then cut e p r k else k + 1
/-- the window of p entries behind the first `left` ones -/
def win (e : List Int) (left p : Nat) : List Int := (e.drop left).take p
theorem win_len {e : List Int} {left p : Nat} (h : left + p ≤ e.length) : (win e left p).length = p := by
  unfold win
  rw [List.length_take, List.length_drop]
  omega
theorem win_get {e : List Int} {left p i : Nat} (hi : i < p) : (win e left p).getD i 0 = e.getD (left + i) 0 := by
  unfold win
  rw [getD_take hi, getD_drop]
theorem win_step {e : List Int} {left p : Nat} {r : Int} (hp : 0 < p) (hle : left + 1 + p ≤ e.length) (hs : e.getD left 0 + r = e.getD (left + p) 0) (k : Nat) : walk (win e (left + 1) p) r k = walk (win e left p) r (k + 1) := by
  unfold walk
  rw [win_len (by omega), win_len (by omega)]
  have hlt : k % p < p := Nat.mod_lt _ hp
  rw [win_get hlt]
  by_cases c : k % p + 1 < p
  · have e1 : (k + 1) % p = k % p + 1 := by
      rw [Nat.add_mod, Nat.mod_eq_of_lt (show 1 < p by omega), Nat.mod_eq_of_lt c]
    have e2 : (k + 1) / p = k / p := by
      have q1 := Nat.div_add_mod (k + 1) p
      have q2 := Nat.div_add_mod k p
      rw [e1] at q1
      have : p * ((k + 1) / p) = p * (k / p) := by omega
      exact Nat.eq_of_mul_eq_mul_left hp this
    rw [e1, e2, win_get c]
    congr 2
    omega
  · have cp : k % p + 1 = p := by omega
    have hk : k + 1 = p * (k / p + 1) := by
      have q2 := Nat.div_add_mod k p
      rw [Nat.mul_add, Nat.mul_one]
      omega
    have e1 : (k + 1) % p = 0 := by rw [hk]; exact Nat.mul_mod_right _ _
    have e2 : (k + 1) / p = k / p + 1 := by rw [hk]; exact Nat.mul_div_cancel_left _ hp
    rw [e1, e2, win_get hp, Int.natCast_add, Int.mul_add, show left + 1 + k % p = left + p by omega, ← hs, show left + 0 = left from rfl]
    omega
theorem at_step {e : List Int} {left p : Nat} {r : Int} (hp : 0 < p) (hle : left + 1 + p ≤ e.length) (hs : e.getD left 0 + r = e.getD (left + p) 0) (n : Nat) (hn : 1 ≤ n) :
    at_ (e.take left) (win e left p) r n = at_ (e.take (left + 1)) (win e (left + 1) p) r n := by
  have n1 : win e left p ≠ [] := fun z => by
    have := win_len (e := e) (left := left) (p := p) (by omega)
    rw [z] at this
    simp at this
    omega
  have n2 : win e (left + 1) p ≠ [] := fun z => by
    have := win_len (e := e) (left := left + 1) (p := p) (by omega)
    rw [z] at this
    simp at this
    omega
  unfold at_
  rw [List.length_take, List.length_take, Nat.min_eq_left (by omega), Nat.min_eq_left (by omega), if_neg n1, if_neg n2]
  by_cases c1 : n ≤ left
  · rw [if_pos c1, if_pos (by omega), getD_take (by omega), getD_take (by omega)]
  · by_cases c2 : n ≤ left + 1
    · rw [if_neg c1, if_pos c2, getD_take (by omega), show n - left - 1 = 0 by omega, walk_lt (by rw [win_len (by omega)]; exact hp), win_get hp, show n - 1 = left + 0 by omega]
    · rw [if_neg c1, if_neg c2, win_step hp hle hs, show n - (left + 1) - 1 + 1 = n - left - 1 by omega]
theorem min_step {e : List Int} {left p : Nat} {r : Int} (hp : 0 < p) (hle : left + 1 + p ≤ e.length) (hs : e.getD left 0 + r = e.getD (left + p) 0) (h : LoopMin (win e (left + 1) p) r) : LoopMin (win e left p) r := by
  have l0 := win_len (e := e) (left := left) (p := p) (by omega)
  have l1 := win_len (e := e) (left := left + 1) (p := p) (by omega)
  intro m hm hd hq
  rw [l0] at hd ⊢
  have := h m hm (by rw [l1]; exact hd) (by
    obtain ⟨c, hc⟩ := hq
    refine ⟨c, fun k => ?_⟩
    rw [win_step hp hle hs, win_step hp hle hs, show k + m + 1 = k + 1 + m by omega, hc])
  rw [l1] at this
  exact this
theorem cut_le {e : List Int} {p : Nat} {r : Int} : ∀ k, cut e p r k ≤ k
  | 0 => Nat.le_refl _
  | k + 1 => by
    unfold cut
    split
    · exact Nat.le_succ_of_le (cut_le k)
    · exact Nat.le_refl _
theorem cut_at {e : List Int} {p : Nat} {r : Int} (hp : 0 < p) : ∀ k, k + p ≤ e.length → ∀ n, 1 ≤ n → at_ (e.take (cut e p r k)) (win e (cut e p r k) p) r n = at_ (e.take k) (win e k p) r n
  | 0, _, _, _ => rfl
  | k + 1, h, n, hn => by
    unfold cut
    split
    · rename_i c
      rw [cut_at hp k (by omega) n hn]
      exact at_step hp h c n hn
    · rfl
theorem cut_min {e : List Int} {p : Nat} {r : Int} (hp : 0 < p) : ∀ k, k + p ≤ e.length → LoopMin (win e k p) r → LoopMin (win e (cut e p r k) p) r
  | 0, _, h => h
  | k + 1, hk, h => by
    unfold cut
    split
    · rename_i c
      exact cut_min hp k (by omega) (min_step hp hk c h)
    · exact h
theorem cut_head {e : List Int} {p : Nat} {r : Int} (hp : 0 < p) : ∀ k, k + p ≤ e.length → HeadMin (e.take (cut e p r k)) (win e (cut e p r k) p) r
  | 0, h => fun k hk => by
    unfold cut at hk
    simp at hk
  | k + 1, h => by
    unfold cut
    split
    · exact cut_head hp k (by omega)
    · rename_i c
      intro j hj
      rw [List.length_take, Nat.min_eq_left (by omega)] at hj
      have ej : j = k := by omega
      subst ej
      rw [getD_take (by omega), win_len (by omega), win_get (by omega)]
      intro z
      exact c (by rw [z]; congr 1; omega)
/-! ### the plain form -/
def IsPlain (h l : List Int) (r : Int) (x : List Int × List Int × Int) : Prop :=
  (l = [] ∧ x = (h, [], 0)) ∨ (l ≠ [] ∧ x.2.1 ≠ [] ∧ LoopMin x.2.1 x.2.2 ∧ HeadMin x.1 x.2.1 x.2.2 ∧ ∀ n, 1 ≤ n → at_ x.1 x.2.1 x.2.2 n = at_ h l r n)
theorem plain_one {h1 l1 h2 l2 : List Int} {r1 r2 : Int} {x y : List Int × List Int × Int} (a : IsPlain h1 l1 r1 x) (b : IsPlain h2 l2 r2 y) (e : ∀ n, 1 ≤ n → at_ h1 l1 r1 n = at_ h2 l2 r2 n) : x = y := by
  rcases a with ⟨rfl, rfl⟩ | ⟨n1, n1', m1, k1, e1⟩
  · rcases b with ⟨rfl, rfl⟩ | ⟨n2, n2', m2, k2, e2⟩
    · rw [one_never e]
    · have q := e (h1.length + h2.length + 1) (by omega)
      rw [at_loop n2 (by omega)] at q
      unfold at_ at q
      rw [if_neg (by omega), if_pos rfl] at q
      cases q
  · rcases b with ⟨rfl, rfl⟩ | ⟨n2, n2', m2, k2, e2⟩
    · have q := e (h1.length + h2.length + 1) (by omega)
      rw [at_loop n1 (by omega)] at q
      unfold at_ at q
      rw [if_neg (by omega), if_pos rfl] at q
      cases q
    · obtain ⟨q1, q2, q3⟩ := one_form n1' n2' m1 m2 k1 k2 fun n hn => by rw [e1 n hn, e n hn, e2 n hn]
      obtain ⟨x1, x2, x3⟩ := x
      obtain ⟨y1, y2, y3⟩ := y
      dsimp only at q1 q2 q3
      rw [q1, q2, q3]
theorem plain_is {h l : List Int} {r : Int} {m : Nat} (hl : l ≠ []) (a : LapIs l r m) {c : Int} (hc : ∀ k, walk l r (k + m) = walk l r k + c) :
    IsPlain h l r ((h ++ l.take m).take (cut (h ++ l.take m) m c h.length), win (h ++ l.take m) (cut (h ++ l.take m) m c h.length) m, c) := by
  have hle : m ≤ l.length := Nat.le_of_dvd (len_pos hl) a.dvd
  have hlen : (h ++ l.take m).length = h.length + m := by rw [List.length_append, List.length_take, Nat.min_eq_left hle]
  have hcut := cut_le (e := h ++ l.take m) (p := m) (r := c) h.length
  have hw : win (h ++ l.take m) h.length m = l.take m := by
    unfold win
    rw [List.drop_left, List.take_of_length_le (by rw [List.length_take]; omega)]
  have ht : (h ++ l.take m).take h.length = h := List.take_left
  refine .inr ⟨hl, fun z => ?_, ?_, ?_, fun n hn => ?_⟩
  · have q := win_len (e := h ++ l.take m) (left := cut (h ++ l.take m) m c h.length) (p := m) (by rw [hlen]; omega)
    have z' : win (h ++ l.take m) (cut (h ++ l.take m) m c h.length) m = [] := z
    rw [z'] at q
    have := a.pos
    simp at q
    omega
  · exact cut_min a.pos _ (by rw [hlen]; exact Nat.le_refl _) (by rw [hw]; exact short_min hl a hc)
  · exact cut_head a.pos _ (by rw [hlen]; exact Nat.le_refl _)
  · show at_ ((h ++ l.take m).take (cut (h ++ l.take m) m c h.length)) (win (h ++ l.take m) (cut (h ++ l.take m) m c h.length) m) c n = _
    rw [cut_at a.pos _ (by rw [hlen]; exact Nat.le_refl _) n hn, hw, ht]
    unfold at_
    have n1 : l.take m ≠ [] := fun z => by
      have q := congrArg List.length z
      rw [List.length_take, Nat.min_eq_left hle] at q
      have := a.pos
      simp at q
      omega
    rw [if_neg hl, if_neg n1, walk_short a.pos hle hc]
end NT
set_option linter.all false
namespace NT
def sk (l : List Int) (r : Int) (k : Nat) : Int := walk l r (k + 1) - walk l r k
def steps (l : List Int) (r : Int) : List Int := (List.range l.length).map (sk l r)
section
variable {l : List Int} {r : Int} {m : Nat}
theorem sk_add (hl : l ≠ []) (k q : Nat) : sk l r (k + l.length * q) = sk l r k := by
  unfold sk
  rw [show k + l.length * q + 1 = (k + 1) + l.length * q by omega, walk_add_mul (len_pos hl), walk_add_mul (len_pos hl)]
  omega
theorem per_of_sk (h : ∀ k, sk l r (k + m) = sk l r k) : Per (walk l r) m := by
  refine ⟨walk l r m - walk l r 0, fun k => ?_⟩
  induction k with
  | zero => rw [Nat.zero_add]; omega
  | succ k ih =>
    have q := h k
    unfold sk at q
    rw [show k + 1 + m = k + m + 1 by omega]
    omega
theorem sk_of_per (h : Per (walk l r) m) (k : Nat) : sk l r (k + m) = sk l r k := by
  obtain ⟨c, hc⟩ := h
  unfold sk
  rw [show k + m + 1 = (k + 1) + m by omega, hc, hc]
  omega
theorem chain_up {f : Nat → Int} {n : Nat} {c : Int} (h : ∀ k, k + m < n → f (k + m) = f k + c) (j : Nat) : ∀ u, j + m * u < n → f (j + m * u) = f j + c * (u : Int)
  | 0, _ => by simp
  | u + 1, hu => by
    have e : j + m * (u + 1) = j + m * u + m := by rw [Nat.mul_succ]; omega
    have ih := chain_up h j u (by omega)
    rw [e, h _ (by omega), ih, Int.natCast_add, Int.mul_add]
    omega
/-- a place in the last part of a loop -/
theorem last_part {n i t : Nat} (hm : 0 < m) (ht : m * t = n) (hi : i < n) (hg : ¬ i + m < n) : ∃ j, j < m ∧ i + m = n + j ∧ i = j + m * (t - 1) ∧ 0 < t := by
  have t0 : 0 < t := Nat.pos_of_ne_zero fun z => by rw [z, Nat.mul_zero] at ht; omega
  obtain ⟨t', rfl⟩ : ∃ t', t = t' + 1 := ⟨t - 1, by omega⟩
  rw [Nat.mul_succ] at ht
  refine ⟨i + m - n, by omega, by omega, ?_, t0⟩
  rw [show t' + 1 - 1 = t' by omega]
  omega
theorem cond_iff (hl : l ≠ []) (hm : 0 < m) (hd : m ∣ l.length) : ((steps l r).drop m = (steps l r).take (l.length - m)) ↔ Per (walk l r) m := by
  obtain ⟨t, ht⟩ := hd
  have hle : m ≤ l.length := by rw [ht]; exact Nat.le_mul_of_pos_right _ (Nat.pos_of_ne_zero fun z => by rw [z, Nat.mul_zero] at ht; exact absurd ht (Nat.ne_of_gt (len_pos hl)))
  constructor
  · intro h
    have h0 : ∀ k, k + m < l.length → sk l r (k + m) = sk l r k + 0 := fun k hk => by
      have q := congrArg (fun z : List Int => z[k]?) h
      simp only [steps, List.getElem?_drop, List.getElem?_take, if_pos (show k < l.length - m by omega), List.getElem?_map, List.getElem?_range (show m + k < l.length by omega), List.getElem?_range (show k < l.length by omega), Option.map_some, Option.some.injEq] at q
      rw [show k + m = m + k by omega, q]
      omega
    refine per_of_sk fun k => ?_
    have hp := len_pos hl
    have e : k = k % l.length + l.length * (k / l.length) := (Nat.mod_add_div k _).symm
    have hi : k % l.length < l.length := Nat.mod_lt _ hp
    have e1 : sk l r k = sk l r (k % l.length) := by
      have := sk_add (r := r) hl (k % l.length) (k / l.length)
      rw [← e] at this
      exact this
    have e2 : sk l r (k + m) = sk l r (k % l.length + m) := by
      have := sk_add (r := r) hl (k % l.length + m) (k / l.length)
      rw [show k % l.length + m + l.length * (k / l.length) = k + m by omega] at this
      exact this
    rw [e1, e2]
    by_cases c : k % l.length + m < l.length
    · rw [h0 _ c]; omega
    · obtain ⟨j, j1, j2, j3, t0⟩ := last_part hm ht.symm hi c
      have q := chain_up (f := sk l r) (n := l.length) h0 j (t - 1) (by omega)
      rw [j2, show l.length + j = j + l.length * 1 by omega, sk_add hl, j3, q]
      omega
  · intro h
    refine List.ext_getElem? fun k => ?_
    simp only [steps, List.getElem?_drop, List.getElem?_take, List.getElem?_map]
    by_cases c : k < l.length - m
    · rw [if_pos c, List.getElem?_range (by omega), List.getElem?_range (by omega)]
      simp only [Option.map_some]
      rw [show m + k = k + m by omega, sk_of_per h]
    · rw [if_neg c, List.getElem?_eq_none (by rw [List.length_range]; omega)]
      rfl
theorem walk_i {i : Nat} (h : i < l.length) : walk l r i = l.getD i 0 := walk_lt h
/-- the law's own look at a part of a loop -/
theorem law_iff (hl : l ≠ []) (hm : 0 < m) {t : Nat} (ht : m * t = l.length) : (r % (t : Int) = 0 ∧ ∀ k, k + m < l.length → l.getD (k + m) 0 = l.getD k 0 + r / (t : Int)) ↔ Per (walk l r) m := by
  have hp := len_pos hl
  have t0 : 0 < t := Nat.pos_of_ne_zero fun z => by rw [z, Nat.mul_zero] at ht; omega
  constructor
  · rintro ⟨h1, h2⟩
    have hr : r = r / (t : Int) * (t : Int) := (Int.ediv_mul_cancel (Int.dvd_of_emod_eq_zero h1)).symm
    refine ⟨r / (t : Int), fun k => ?_⟩
    have e : k = k % l.length + l.length * (k / l.length) := (Nat.mod_add_div k _).symm
    have hi : k % l.length < l.length := Nat.mod_lt _ hp
    have e1 : walk l r k = walk l r (k % l.length) + r * ((k / l.length : Nat) : Int) := by
      have := walk_add_mul (r := r) hp (k % l.length) (k / l.length)
      rw [← e] at this
      exact this
    have e2 : walk l r (k + m) = walk l r (k % l.length + m) + r * ((k / l.length : Nat) : Int) := by
      have := walk_add_mul (r := r) hp (k % l.length + m) (k / l.length)
      rw [show k % l.length + m + l.length * (k / l.length) = k + m by omega] at this
      exact this
    rw [e1, e2, walk_i hi]
    by_cases c : k % l.length + m < l.length
    · rw [walk_i c, h2 _ c]; omega
    · obtain ⟨j, j1, j2, j3, _⟩ := last_part hm ht hi c
      have q := chain_up (f := fun i => l.getD i 0) (n := l.length) h2 j (t - 1) (by omega)
      have q' : l.getD (k % l.length) 0 = l.getD j 0 + r / (t : Int) * ((t - 1 : Nat) : Int) := by rw [← q]; exact congrArg (fun i => l.getD i 0) j3
      have hjl : j < l.length := by omega
      rw [j2, show l.length + j = j + l.length by omega, walk_add hp, walk_i hjl, q']
      have e3 : r / (t : Int) * (t : Int) = r / (t : Int) * ((t - 1 : Nat) : Int) + r / (t : Int) := by
        rw [show (t : Int) = ((t - 1 : Nat) : Int) + 1 by omega, Int.mul_add, Int.mul_one]
      omega
  · rintro ⟨c, hc⟩
    have hr := per_rise hl hc ht
    have hd : r / (t : Int) = c := by
      rw [hr]
      exact Int.mul_ediv_cancel _ (by omega)
    refine ⟨by rw [hr]; exact Int.mul_emod_left _ _, fun k hk => ?_⟩
    have q := hc k
    rw [walk_i hk, walk_i (by omega)] at q
    rw [q, hd]
/-- what goes on by a part goes on so by its rise -/
theorem per_at (hl : l ≠ []) (hm : 0 < m) (h : Per (walk l r) m) {t : Nat} (ht : m * t = l.length) : ∀ k, walk l r (k + m) = walk l r k + r / (t : Int) := by
  obtain ⟨c, hc⟩ := h
  have hr := per_rise hl hc ht
  have t0 : 0 < t := Nat.pos_of_ne_zero fun z => by rw [z, Nat.mul_zero] at ht; exact absurd ht.symm (Nat.ne_of_gt (len_pos hl))
  have hd : r / (t : Int) = c := by
    rw [hr]
    exact Int.mul_ediv_cancel _ (by omega)
  rw [hd]
  exact hc
/-- the program's search -/
theorem lap_prog (hl : l ≠ []) (hm : 0 < m) (hle : m ≤ l.length / 2) (hd : m ∣ l.length) (hp : Per (walk l r) m) (hno : ∀ m', 0 < m' → m' < m → m' ∣ l.length → ¬ Per (walk l r) m') : LapIs l r m :=
  ⟨hm, hd, hp, fun m' p d q => Nat.le_of_not_lt fun c => hno m' p c d q⟩
theorem lap_whole (hl : l ≠ []) (hno : ∀ m', 0 < m' → m' ≤ l.length / 2 → m' ∣ l.length → ¬ Per (walk l r) m') : LapIs l r l.length :=
  ⟨len_pos hl, Nat.dvd_refl _, per_self hl, fun m' p d q => Nat.le_of_not_lt fun c => hno m' p (by
    obtain ⟨t, ht⟩ := d
    have t2 : 2 ≤ t := Nat.le_of_not_lt fun z => by
      have : t = 0 ∨ t = 1 := by omega
      rcases this with rfl | rfl
      · rw [Nat.mul_zero] at ht; omega
      · rw [Nat.mul_one] at ht; omega
    have : m' * 2 ≤ l.length := by rw [ht]; exact Nat.mul_le_mul_left _ t2
    omega) d q⟩
end
end NT
set_option Elab.async false
set_option linter.all false
set_option maxRecDepth 100000
set_option maxHeartbeats 4000000
namespace NF
open PySem PySem.Spec PyProof.Rows L2 He RZ
theorem Same.tup {K : PySem.W.Frag} {H H' : Hp} {a : Addr} {xs : List V} (e : Same H H') (h : SqT K H a xs) : SqT K H' a xs := by
  rcases h with (h | ⟨o, h⟩) | h
  · exact .inl (.inl (e _ _ h))
  · exact .inl (.inr ⟨o, e _ _ h⟩)
  · exact .inr h
abbrev vI (l : List Int) : List V := l.map V.int
/-! ### o.f = v as one of several targets -/
def gFld (K : PySem.W.Frag) (ta : TE) (f : Str) : TG := fun v σ H Q => ta σ H fun x H1 => ∃ a C dx fs, x = .ref a ∧ H1 a = some (.ins C dx fs) ∧ Cls K C ∧ NoAttr K C f ∧ fs.length < 1000 ∧ Q σ (upd H1 a (.ins C dx (putF f v fs)))
theorem pg_fld {X : Cx} {o : Expr} {f : Str} {pos : Pos} {ta : TE} (ha : PE X o ta) : PG X (.Attribute o f pos) (gFld X.K ta f) := by
  refine ⟨fun pins s σ H v u Q I r h => ?_⟩
  refine PySem.W.kas_attr (thn (ha.run pins s σ H _ I h) fun ov s1 ⟨x, H1, I1, rx, a, C, dx, fs, ex, ea, c, n, l, q⟩ => ?_)
  subst ex
  obtain rfl : ov = Value.ref a := rx
  exact setattr_ok I1 ea c n l r fun s2 I2 => ⟨σ, _, I2, q⟩
/-! ### a name of the module that is a function of Python's own -/
theorem pe_gl {X : Cx} {x : Str} {a : Addr} {pos : Pos} (hm : X.mg x = some (.ref a)) (hg : Gl X x := by rfl) (hd : (x == ("__debug__" : Str)) = false := by decide) : PE X (.Name x pos) (tC (.ref a)) := pe_glob (v := .ref a) hg hm rfl hd
theorem ixl {X : Cx} {K : PySem.W.Frag} (h : X.K = K := by rfl) : IxR X (rIxL K) := h ▸ ix_list
theorem pgt {X : Cx} {K : PySem.W.Frag} {es : List Expr} {k : Nat} {pos : Pos} {t : TGs} {n : Nat} (hK : X.K = K) (hc : X.calm = true) (h : PGs X es t)
    (hn : (assignEach es X.env).length = n := by rfl) (hst : (assignEach es X.env).findIdx? (·.1) = none := by rfl) : PG X (.Tuple es k pos) (gTup K n t) := hK ▸ pg_tup hc h hn hst
theorem ixt {X : Cx} {K : PySem.W.Frag} (h : X.K = K := by rfl) : IxR X (rIxT K) := h ▸ ix_tup
/-! ### slices and sums of tuples: whatever object they give -/
theorem sIx_negN {n d k : Nat} (hk : 0 < k) : HT.sIx n d (some (-(k : Int))) = n - k := by
  show (if -(k : Int) < 0 then (-(k : Int) + (n : Int)).toNat else min (-(k : Int)).toNat n) = n - k
  rw [if_pos (by omega)]
  omega
theorem cut_whole {xs : List V} {lo hi : Option Int} (h : HT.sIx xs.length 0 lo = 0 ∧ HT.sIx xs.length xs.length hi = xs.length) : cutV xs lo hi = xs := by
  unfold cutV
  rw [h.1, h.2]
  simp
theorem slA_done {K : PySem.W.Frag} {H : Hp} {a : Addr} {xs : List V} {lo hi : Option Int} {Q : VK} (hx : SqT K H a xs) (q : ∀ p H', Same H H' → SqT K H' p (cutV xs lo hi) → Q (.ref p) H') : rSlA K (.ref a) lo hi H Q := by
  refine ⟨a, xs, rfl, hx, fun w => q a H (Same.refl H) (by rw [cut_whole w]; exact hx), fun _ p hp => q p _ (NF.Same.new (Same.refl H) hp) (SqT.of upd_same)⟩
theorem slA_from {K : PySem.W.Frag} {H : Hp} {a : Addr} {xs : List V} {lo : Option Int} {Q : VK} {σ : L2.St} (hx : SqT K H a xs) (q : ∀ p H', Same H H' → SqT K H' p (cutV xs lo none) → Q (.ref p) H') : tNoPart σ H fun u H3 => rSlA K (.ref a) lo u H3 Q := by
  show rSlA K (.ref a) lo none H Q
  exact slA_done hx q
theorem catA_done {K : PySem.W.Frag} {H : Hp} {a b : Addr} {xs ys : List V} {Q : VK} (hx : SqT K H a xs) (hy : SqT K H b ys) (hz : xs.length + ys.length ≤ sizeLine) (q : ∀ p H', Same H H' → SqT K H' p (xs ++ ys) → Q (.ref p) H') : rCatA K (.ref a) (.ref b) H Q := by
  refine ⟨a, b, xs, ys, rfl, rfl, hx, hy, hz, fun e => q b H (Same.refl H) (by rw [e]; exact hy), fun _ e => q a H (Same.refl H) (by rw [e, List.append_nil]; exact hx), fun _ _ p hp => q p _ (NF.Same.new (Same.refl H) hp) (SqT.of upd_same)⟩
theorem cut_from {xs : List V} {n : Nat} : cutV xs (some (n : Int)) none = xs.drop n := by
  unfold cutV
  rw [HT.sIx_nat]
  show (xs.drop (min n xs.length)).take (xs.length - min n xs.length) = xs.drop n
  by_cases h : n ≤ xs.length
  · rw [Nat.min_eq_left h, List.take_of_length_le (by rw [List.length_drop]; exact Nat.le_refl _)]
  · rw [Nat.min_eq_right (by omega), List.drop_of_length_le (Nat.le_refl _), List.drop_of_length_le (by omega)]
    simp
theorem cut_to {xs : List V} {n : Nat} : cutV xs none (some (n : Int)) = xs.take n := by
  unfold cutV
  rw [HT.sIx_nat]
  show (xs.drop 0).take (min n xs.length - 0) = xs.take n
  rw [List.drop_zero, Nat.sub_zero]
  by_cases h : n ≤ xs.length
  · rw [Nat.min_eq_left h]
  · rw [Nat.min_eq_right (by omega), List.take_of_length_le (Nat.le_refl _), List.take_of_length_le (by omega)]
theorem cut_toN {xs : List V} {n : Nat} (h : 0 < n) : cutV xs none (some (-(n : Int))) = xs.take (xs.length - n) := by
  unfold cutV
  rw [sIx_negN h]
  show (xs.drop 0).take (xs.length - n - 0) = _
  rw [List.drop_zero, Nat.sub_zero]
theorem cut_mid {xs : List V} {a b : Nat} (h : a ≤ b) (hb : b ≤ xs.length) : cutV xs (some (a : Int)) (some (b : Int)) = (xs.drop a).take (b - a) := by
  unfold cutV
  rw [HT.sIx_nat, HT.sIx_nat, Nat.min_eq_left hb, Nat.min_eq_left (by omega)]
theorem map_cut {l : List Int} {lo hi : Option Int} : ∃ m : List Int, cutV (vI l) lo hi = vI m := ⟨(l.drop (HT.sIx (vI l).length 0 lo)).take (HT.sIx (vI l).length (vI l).length hi - HT.sIx (vI l).length 0 lo), by unfold cutV; simp only [vI, List.map_take, List.map_drop]⟩
theorem at_int {l : List Int} {i : Int} {k : Nat} (e : i = (k : Int)) (h : k < l.length) : atI (vI l) i = some (V.int (l.getD k 0)) := by
  rw [e]
  exact atI_nat (by rw [List.getElem?_map, List.getElem?_eq_getElem h, List.getD_eq_getElem?_getD, List.getElem?_eq_getElem h] <;> rfl)
theorem at_last {l : List Int} (h : 0 < l.length) : atI (vI l) (-1) = some (V.int (l.getD (l.length - 1) 0)) := by
  unfold atI ixN
  rw [if_neg (by omega), List.length_map, if_pos (by omega)]
  show (vI l)[((-1 : Int) + (l.length : Int)).toNat]? = _
  rw [show ((-1 : Int) + (l.length : Int)).toNat = l.length - 1 by omega, List.getElem?_map, List.getElem?_eq_getElem (by omega), List.getD_eq_getElem?_getD, List.getElem?_eq_getElem (by omega)] <;> rfl
/-! ### [.. for a, b in zip(t, u)] of two tuples of one length -/
theorem lc_zipT {K : PySem.W.Frag} {a b : Addr} {xs ys : List V} {g : TG} {tt : TT} {te : TE} {vs : List Nat} {σ : L2.St} {H1 : Hp} {D : Addr} {Qd : Hp → Prop} (hl : xs.length = ys.length) (Pv : Nat → Hp → Prop) (h0 : Pv 0 (upd H1 D (.lst []))) (hq : ∀ i H, Pv i H → SqT K H a xs ∧ SqT K H b ys)
    (hs : ∀ i x y T H, xs[i]? = some x → ys[i]? = some y → Pv i H → H T = none → g (.ref T) (wipe σ vs) (upd H T (.tup [x, y])) fun σ2 H2 => wipe σ2 vs = wipe σ vs ∧ tt σ2 H2 fun b H3 =>
      if b = true then te σ2 H3 fun y H4 => ∃ acc, H4 D = some (.lst acc) ∧ acc.length < sizeLine ∧ Pv (i + 1) (upd H4 D (.lst (acc ++ [y]))) else Pv (i + 1) H3) (hd : ∀ H, Pv xs.length H → Qd H) :
    ∃ W : Nat → Nat → Hp → Prop, (∃ m, W 0 m (upd H1 D (.lst []))) ∧ ∀ i m H, W i m H →
      ((ItzT K a b).stop i H ∧ Qd H) ∨ ((ItzT K a b).go i H ∧ ∃ Nx : Hp → Prop, (∀ H', Nx H' → ∃ m', m' < m ∧ W (i + 1) m' H') ∧ ∀ x H', (ItzT K a b).yld i H x H' → g x (wipe σ vs) H' fun σ2 H2 => wipe σ2 vs = wipe σ vs ∧ tt σ2 H2 fun b H3 =>
        if b = true then te σ2 H3 fun y H4 => ∃ acc, H4 D = some (.lst acc) ∧ acc.length < sizeLine ∧ Nx (upd H4 D (.lst (acc ++ [y]))) else Nx H3) := by
  refine ⟨fun i m H => m = xs.length - i ∧ i ≤ xs.length ∧ Pv i H, ⟨xs.length, rfl, Nat.zero_le _, h0⟩, ?_⟩
  rintro i m H ⟨rfl, hi, p⟩
  obtain ⟨qx, qy⟩ := hq i H p
  by_cases hlt : i < xs.length
  · have hx : xs[i]? = some xs[i] := List.getElem?_eq_getElem hlt
    have hlt2 : i < ys.length := by omega
    have hy : ys[i]? = some ys[i] := List.getElem?_eq_getElem hlt2
    refine .inr ⟨⟨xs, ys, _, _, qx, qy, hx, hy⟩, Pv (i + 1), fun H' p' => ⟨xs.length - (i + 1), by omega, rfl, hlt, p'⟩, fun v H' y => ?_⟩
    obtain ⟨T, x', y', rfl, hT, rfl, f1, f2⟩ := y
    exact hs i x' y' T H (f1 xs qx) (f2 ys qy) p hT
  · have e : i = xs.length := by omega
    subst e
    exact .inl ⟨⟨xs, ys, qx, qy, Or.inl (Nat.le_refl _)⟩, hd H p⟩
theorem tru_tup {K : PySem.W.Frag} {H : Hp} {a : Addr} {l : List Int} (h : SqT K H a (vI l)) : TruV K (.ref a) H (!l.isEmpty) := Or.inr (Or.inl ⟨_, h, by cases l <;> rfl⟩)
theorem tru_int {K : PySem.W.Frag} {H : Hp} {i : Int} : TruV K (.int i) H (i != 0) := rfl
/-! ### deep == of lists and tuples of vI -/
theorem dp_ints {K : PySem.W.Frag} {H : Hp} : ∀ l : List Int, DpAll K H (vI l) (l.map PyData.int)
  | [] => .nil
  | i :: l => .cons (.int i) (dp_ints l)
theorem eqv_ints : ∀ a b : List Int, PyData.eqvAll (a.map PyData.int) (b.map PyData.int) = decide (a = b)
  | [], [] => rfl
  | [], _ :: _ => rfl
  | _ :: _, [] => rfl
  | x :: a, y :: b => by
    show (PyData.eqv (.int x) (.int y) && PyData.eqvAll (a.map PyData.int) (b.map PyData.int)) = _
    rw [eqv_ints a b]
    show ((x == y) && decide (a = b)) = _
    by_cases h : x = y <;> by_cases g : a = b <;> simp [h, g]
end NF
namespace NF
open PySem PySem.Spec PyProof.Rows L2 He RZ
theorem lay_ints : ∀ l : List Int, PyData.canLayAll0 (l.map PyData.int) = true
  | [] => rfl
  | _ :: l => lay_ints l
theorem depth_ints : ∀ l : List Int, PyData.depthAll (l.map PyData.int) = 0
  | [] => rfl
  | i :: l => by
    show max (PyData.depth (.int i)) (PyData.depthAll (l.map PyData.int)) = 0
    rw [depth_ints l]
    rfl
theorem shaped_L (l : List Int) : SeqAt.shaped (.list (l.map PyData.int)) = true := by
  show (PyData.canLayAll0 (l.map PyData.int) && decide (PyData.depthAll (l.map PyData.int) + 1 ≤ 64)) = true
  rw [lay_ints, depth_ints]
  rfl
theorem shaped_T (l : List Int) : SeqAt.shaped (.tuple (l.map PyData.int)) = true := by
  show (PyData.canLayAll0 (l.map PyData.int) && decide (PyData.depthAll (l.map PyData.int) + 1 ≤ 64)) = true
  rw [lay_ints, depth_ints]
  rfl
theorem eqL_done {K : PySem.W.Frag} {H : Hp} {a b : Addr} {x y : List Int} {Q : VK} (hx : SqL K H a (vI x)) (hy : SqL K H b (vI y)) (q : Q (.bl (decide (x = y))) H) : rEqD K (.ref a) (.ref b) H Q :=
  ⟨_, _, .lst hx (dp_ints x), .lst hy (dp_ints y), shaped_L x, shaped_L y, by rw [show PyData.eqv (.list (x.map PyData.int)) (.list (y.map PyData.int)) = decide (x = y) from eqv_ints x y]; exact q⟩
theorem eqT_done {K : PySem.W.Frag} {H : Hp} {a b : Addr} {x y : List Int} {Q : VK} (hx : SqT K H a (vI x)) (hy : SqT K H b (vI y)) (q : Q (.bl (decide (x = y))) H) : rEqD K (.ref a) (.ref b) H Q :=
  ⟨_, _, .tup hx (dp_ints x), .tup hy (dp_ints y), shaped_T x, shaped_T y, by rw [show PyData.eqv (.tuple (x.map PyData.int)) (.tuple (y.map PyData.int)) = decide (x = y) from eqv_ints x y]; exact q⟩
theorem neT_done {K : PySem.W.Frag} {H : Hp} {a b : Addr} {x y : List Int} {Q : VK} (hx : SqT K H a (vI x)) (hy : SqT K H b (vI y)) (q : Q (.bl (!decide (x = y))) H) : rNeD K (.ref a) (.ref b) H Q :=
  ⟨_, _, .tup hx (dp_ints x), .tup hy (dp_ints y), shaped_T x, shaped_T y, by rw [show PyData.eqv (.tuple (x.map PyData.int)) (.tuple (y.map PyData.int)) = decide (x = y) from eqv_ints x y]; exact q⟩
end NF
namespace NF
open PySem
theorem vI_drop {l : List Int} {n : Nat} : (vI l).drop n = vI (l.drop n) := by simp [vI, List.map_drop]
theorem vI_take {l : List Int} {n : Nat} : (vI l).take n = vI (l.take n) := by simp [vI, List.map_take]
theorem vI_app {l m : List Int} : vI l ++ vI m = vI (l ++ m) := by simp [vI]
theorem vI_len {l : List Int} : (vI l).length = l.length := by simp [vI]
end NF
namespace NF
open PySem PySem.Spec PyProof.Rows L2 He RZ
/-- a list or a tuple -/
def Row (K : PySem.W.Frag) (H : Hp) (a : Addr) (xs : List V) : Prop := SqL K H a xs ∨ SqT K H a xs
theorem Row.mono {K : PySem.W.Frag} {H H' : Hp} {a : Addr} {xs : List V} (h : Row K H a xs) (s : Same H H') : Row K H' a xs := h.elim (fun h => .inl (L2.Same.seq s h)) (fun h => .inr (NF.Same.tup s h))
def iRow (K : PySem.W.Frag) (tl : TE) : TI := fun σ H R => tl σ H fun x H1 => ∃ a, x = .ref a ∧ (((∃ xs, SqL K H1 a xs) ∧ R (Itl K a) H1) ∨ ((∃ xs, SqT K H1 a xs) ∧ R (Itt K a) H1))
theorem pi_row {X : Cx} {tg l : Expr} {tl : TE} (hl : PE X l tl) : PI X tg l (iRow X.K tl) := by
  refine ⟨fun pins s σ H R I h => ?_⟩
  refine thn (hl.run pins s σ H _ I h) fun v s1 ⟨x, H1, I1, r1, q1⟩ => ?_
  obtain ⟨a, e, q⟩ := q1
  subst e
  cases r1
  rcases q with ⟨⟨xs, hq⟩, q⟩ | ⟨⟨xs, hq⟩, q⟩
  · obtain ⟨its, rv, p, hz⟩ := I1.list hq
    refine wpAny_pyIter_list p.isList ?_
    refine ⟨s1.heap.objs.size, [s1.heap.objs.size], _, _, H1, rfl, I1.kept (t' := s1.toks) fun b o e => Heap.get?_push_of_some _ e, turn_list a _, ⟨_, Heap.get?_push_size _ rfl, rfl, rfl⟩, fun b hb => ?_, q⟩
    have e : b = s1.heap.objs.size := by simpa using hb
    subst e
    exact I1.fpOk (Nat.le_refl _) (I1.hok.fresh (Nat.le_refl _))
  · obtain ⟨its, rv, p, hz⟩ := I1.tuple hq
    refine wpAny_pyIter_tuple (show s1.heap.IsTuple a its.toArray from p) ?_
    refine ⟨s1.heap.objs.size, [s1.heap.objs.size], _, _, H1, rfl, I1.kept (t' := s1.toks) fun b o e => Heap.get?_push_of_some _ e, turn_tuple a _, ⟨_, Heap.get?_push_size _ rfl, rfl, rfl⟩, fun b hb => ?_, q⟩
    have e : b = s1.heap.objs.size := by simpa using hb
    subst e
    exact I1.fpOk (Nat.le_refl _) (I1.hok.fresh (Nat.le_refl _))
theorem for_row {K : PySem.W.Frag} {a : Addr} {xs : List V} {g : TG} {tb : TS} {D : Ends} {σ : L2.St} {H : Hp} (hr : Row K H a xs) (Pv : Nat → L2.St → Hp → Prop) (h0 : Pv 0 σ H) (hm : ∀ i σ H', Pv i σ H' → Same H H')
    (hs : ∀ i x σ H, xs[i]? = some x → Pv i σ H → g x σ H fun σ2 H2 => tb { D with nx := Pv (i + 1), ct := Pv (i + 1), bk := D.nx } σ2 H2) (hd : ∀ σ H, Pv xs.length σ H → D.nx σ H) :
    ((∃ xs, SqL K H a xs) ∧ (∃ W : Nat → Nat → L2.St → Hp → Prop, (∃ m, W 0 m σ H) ∧ ∀ i m σ H, W i m σ H →
      ((Itl K a).stop i H ∧ D.nx σ H) ∨ ((Itl K a).go i H ∧ ∃ N : L2.St → Hp → Prop, (∀ σ' H', N σ' H' → ∃ m', m' < m ∧ W (i + 1) m' σ' H') ∧ ∀ x H', (Itl K a).yld i H x H' → g x σ H' fun σ2 H2 => tb { D with nx := N, ct := N, bk := D.nx } σ2 H2))) ∨
    ((∃ xs, SqT K H a xs) ∧ (∃ W : Nat → Nat → L2.St → Hp → Prop, (∃ m, W 0 m σ H) ∧ ∀ i m σ H, W i m σ H →
      ((Itt K a).stop i H ∧ D.nx σ H) ∨ ((Itt K a).go i H ∧ ∃ N : L2.St → Hp → Prop, (∀ σ' H', N σ' H' → ∃ m', m' < m ∧ W (i + 1) m' σ' H') ∧ ∀ x H', (Itt K a).yld i H x H' → g x σ H' fun σ2 H2 => tb { D with nx := N, ct := N, bk := D.nx } σ2 H2))) := by
  rcases hr with hr | hr
  · exact .inl ⟨⟨_, hr⟩, for_list Pv h0 (fun i σ H' _ p => L2.Same.seq (hm i σ H' p) hr) hs hd⟩
  · exact .inr ⟨⟨_, hr⟩, for_tup Pv h0 (fun i σ H' _ p => NF.Same.tup (hm i σ H' p) hr) hs hd⟩
theorem ixs {X : Cx} {K : PySem.W.Frag} (h : X.K = K := by rfl) : IxR X (rIx K) := h ▸ ix_seq
theorem ix_done {K : PySem.W.Frag} {H : Hp} {a : Addr} {xs : List V} {i : Int} {v : V} {Q : VK} (hr : Row K H a xs) (hv : atI xs i = some v) (q : Q v H) : rIx K (.ref a) (.int i) H Q :=
  hr.elim (fun h => .inl ⟨a, xs, i, v, rfl, rfl, h, hv, q⟩) fun h => .inr (.inl ⟨a, xs, i, v, rfl, rfl, h, hv, q⟩)
theorem tru_row {K : PySem.W.Frag} {H : Hp} {a : Addr} {l : List Int} (h : Row K H a (vI l)) : TruV K (.ref a) H (!l.isEmpty) := h.elim (fun h => Or.inl ⟨_, h, by cases l <;> rfl⟩) tru_tup
theorem tyx_tup {K : PySem.W.Frag} {H : Hp} {a : Addr} {xs : List V} (h : SqT K H a xs) : TyX K H (.ref a) (.type "tuple") := by
  rcases h with (h | ⟨o, h⟩) | ⟨o, its, n, h1, h2, _⟩
  · exact .base (.tup h)
  · exact .fTuple h
  · exact .kTuple h1 h2
theorem tyx_lst {K : PySem.W.Frag} {H : Hp} {a : Addr} {xs : List V} (h : SqL K H a xs) : TyX K H (.ref a) (.type "list") := by
  rcases h with (h | ⟨o, h⟩) | ⟨o, its, n, h1, h2, _⟩
  · exact .base (.lst h)
  · exact .base (.frz h)
  · exact .kList h1 h2
theorem kit_i_i (K : PySem.W.Frag) : PySem.W.kitOne K (.type "int") (.type "int") = some true := if_pos (by decide +kernel)
theorem kit_i_b (K : PySem.W.Frag) : PySem.W.kitOne K (.type "int") (.type "bool") = some false := by kernel_rfl
theorem kit_b_b (K : PySem.W.Frag) : PySem.W.kitOne K (.type "bool") (.type "bool") = some true := if_pos (by decide +kernel)
theorem kit_t_t (K : PySem.W.Frag) : PySem.W.kitOne K (.type "tuple") (.type "tuple") = some true := if_pos (by decide +kernel)
theorem kit_t_tl (K : PySem.W.Frag) : PySem.W.kitAny K (.type "tuple") [.type "tuple", .type "list"] = some true := by kernel_rfl
theorem kit_l_tl (K : PySem.W.Frag) : PySem.W.kitAny K (.type "list") [.type "tuple", .type "list"] = some true := by kernel_rfl
end NF
namespace NT
def climbs : Int → List Int → Prop
  | _, [] => True
  | lo, x :: xs => lo ≤ x ∧ climbs x xs
structure Good (h l : List Int) (r : Int) : Prop where
  hd : climbs 0 h
  lp : climbs 0 l
  join : h ≠ [] → l ≠ [] → h.getD (h.length - 1) 0 ≤ l.getD 0 0
  r0 : 0 ≤ r
  rl : l = [] → r = 0
  last : l ≠ [] → l.getD (l.length - 1) 0 ≤ l.getD 0 0 + r
end NT
set_option Elab.async false
set_option linter.all false
set_option maxRecDepth 100000
set_option maxHeartbeats 4000000
namespace NT
theorem least_of {p : Nat → Prop} : ∀ n, p n → ∃ m, p m ∧ m ≤ n ∧ ∀ k, p k → m ≤ k := by
  intro n
  induction n using Nat.strongRecOn with
  | _ n ih =>
    intro hn
    by_cases h : ∃ k, p k ∧ k < n
    · obtain ⟨k, hk, hlt⟩ := h
      obtain ⟨m, h1, h2, h3⟩ := ih k hlt hk
      exact ⟨m, h1, by omega, h3⟩
    · exact ⟨n, hn, Nat.le_refl _, fun k hk => Nat.le_of_not_lt fun hlt => h ⟨k, hk, hlt⟩⟩
theorem lap_ex {l : List Int} {r : Int} (hl : l ≠ []) : ∃ m, LapIs l r m := by
  obtain ⟨m, ⟨h1, h2, h3⟩, _, hm⟩ := least_of (p := fun m => 0 < m ∧ m ∣ l.length ∧ Per (walk l r) m) l.length ⟨len_pos hl, Nat.dvd_refl _, per_self hl⟩
  exact ⟨m, h1, h2, h3, fun k a b c => hm k ⟨a, b, c⟩⟩
/-- the plain form is no longer than what it was told by -/
theorem plain_size {h l : List Int} {r : Int} {x : List Int × List Int × Int} (hx : IsPlain h l r x) : x.1.length ≤ h.length ∧ x.2.1.length ≤ l.length ∧ (l ≠ [] → x.2.1 ≠ []) ∧ (l = [] → x.2.1 = []) ∧ (0 ≤ r → 0 ≤ x.2.2 ∧ x.2.2 ≤ r) ∧ (l ≠ [] → (0 < r ↔ 0 < x.2.2)) ∧ (l = [] → x = (h, [], 0)) := by
  by_cases hl : l = []
  · subst hl
    rcases hx with ⟨_, rfl⟩ | ⟨z, _⟩
    · exact ⟨Nat.le_refl _, Nat.le_refl _, fun z => absurd rfl z, fun _ => rfl, fun h => ⟨Int.le_refl _, h⟩, fun z => absurd rfl z, fun _ => rfl⟩
    · exact absurd rfl z
  · obtain ⟨m, a⟩ := lap_ex (r := r) hl
    obtain ⟨t, ht⟩ := a.dvd
    have hc := per_at hl a.pos a.per ht.symm
    have hr := per_rise hl hc ht.symm
    have t0 : 0 < t := Nat.pos_of_ne_zero fun z => by rw [z, Nat.mul_zero] at ht; have := len_pos hl; omega
    have b := plain_is (h := h) hl a hc
    have e := plain_one hx b fun n _ => rfl
    have hle : m ≤ l.length := Nat.le_of_dvd (len_pos hl) a.dvd
    have hlen : (h ++ l.take m).length = h.length + m := by rw [List.length_append, List.length_take, Nat.min_eq_left hle]
    have hcut := cut_le (e := h ++ l.take m) (p := m) (r := r / (t : Int)) h.length
    have hw := win_len (e := h ++ l.take m) (left := cut (h ++ l.take m) m (r / (t : Int)) h.length) (p := m) (by rw [hlen]; omega)
    subst e
    have hm := a.pos
    refine ⟨?_, ?_, fun _ z => ?_, fun z => absurd z hl, fun h0 => ?_, fun _ => ?_, fun z => absurd z hl⟩
    · show ((h ++ l.take m).take _).length ≤ _
      rw [List.length_take]
      omega
    · show (win _ _ _).length ≤ _
      rw [hw]
      exact hle
    · have z' : win (h ++ l.take m) (cut (h ++ l.take m) m (r / (t : Int)) h.length) m = [] := z
      rw [z'] at hw
      simp at hw
      omega
    · show 0 ≤ r / (t : Int) ∧ r / (t : Int) ≤ r
      exact ⟨Int.ediv_nonneg h0 (by omega), Int.ediv_le_self _ h0⟩
    · show 0 < r ↔ 0 < r / (t : Int)
      have t1 : (0 : Int) < (t : Int) := by omega
      constructor
      · intro h0
        rcases Int.lt_or_le 0 (r / (t : Int)) with q | q
        · exact q
        · have := Int.mul_le_mul_of_nonneg_right q (Int.le_of_lt t1)
          omega
      · intro h0
        have := Int.mul_pos h0 t1
        omega
/-- the end of a table -/
def fin_ (l : List Int) (r : Int) : Option Int := if l = [] ∨ 0 < r then none else some (l.getD (l.length - 1) 0)
/-- the value at a count, or at never -/
def val_ (h l : List Int) (r : Int) : Option Nat → Option Int
  | none => fin_ l r
  | some n => if n = 0 then some 0 else at_ h l r n
end NT
namespace NF
open PySem PySem.Spec PyProof.Rows L2 He RZ NT
def vO : Option Int → V
  | none => .non
  | some i => .int i
def vN : Option Nat → V
  | none => .non
  | some n => .int (n : Int)
def tf (a b : Addr) (r : Int) : List (Str × V) := [("head", .ref a), ("loop", .ref b), ("rise", .int r)]
/-- a table with these three -/
def TabAt (K : PySem.W.Frag) (C : Addr) (H : Hp) (x : Addr) (y : List Int × List Int × Int) : Prop := ∃ dx a b, H x = some (.ins C dx (tf a b y.2.2)) ∧ SqT K H a (vI y.1) ∧ SqT K H b (vI y.2.1)
theorem TabAt.mono {K : PySem.W.Frag} {C : Addr} {H H' : Hp} {x : Addr} {y : List Int × List Int × Int} (h : TabAt K C H x y) (s : Same H H') : TabAt K C H' x y := by
  obtain ⟨dx, a, b, h1, h2, h3⟩ := h
  exact ⟨dx, a, b, s _ _ h1, NF.Same.tup s h2, NF.Same.tup s h3⟩
/-- what stands at p is no tuple -/
def NoTup : HO → Prop
  | .tup _ => False
  | .frz _ _ => False
  | _ => True
theorem SqT.put {K : PySem.W.Frag} {H : Hp} {a p : Addr} {o u : HO} {xs : List V} (h : SqT K H a xs) (hp : H p = some u) (n : match u with | .lst _ => True | .ins _ _ _ => True | _ => False) : SqT K (upd H p o) a xs := by
  rcases h with (h | ⟨w, h⟩) | h
  · refine .inl (.inl ?_)
    rw [upd_ne (fun z => by subst z; rw [h] at hp; cases hp; exact n)]
    exact h
  · refine .inl (.inr ⟨w, ?_⟩)
    rw [upd_ne (fun z => by subst z; rw [h] at hp; cases hp; exact n)]
    exact h
  · exact .inr h
theorem SqT.wo {K : PySem.W.Frag} {H : Hp} {a p : Addr} {u : HO} {xs : List V} (h : SqT K H a xs) (hp : H p = some u) (n : match u with | .lst _ => True | .ins _ _ _ => True | _ => False) : SqT K (wo H p) a xs := by
  rcases h with (h | ⟨w, h⟩) | h
  · refine .inl (.inl ?_)
    rw [wo_ne (fun z => by subst z; rw [h] at hp; cases hp; exact n)]
    exact h
  · refine .inl (.inr ⟨w, ?_⟩)
    rw [wo_ne (fun z => by subst z; rw [h] at hp; cases hp; exact n)]
    exact h
  · exact .inr h
theorem TabAt.wo {K : PySem.W.Frag} {C : Addr} {H : Hp} {x p : Addr} {y : List Int × List Int × Int} {l : List V} (h : TabAt K C H x y) (hp : H p = some (.lst l)) : TabAt K C (NF.wo H p) x y := by
  obtain ⟨dx, a, b, h1, h2, h3⟩ := h
  refine ⟨dx, a, b, ?_, SqT.wo h2 hp trivial, SqT.wo h3 hp trivial⟩
  rw [wo_ne (fun z => by subst z; rw [h1] at hp; cases hp)]
  exact h1
/-- a class that may be made by its name; sp: its __init__ -/
structure Mak (P : Program) (w : World) (K : PySem.W.Frag) (mg : Str → Option Value) (base : Heap) (k n : Nat) (x : Str) (C : Addr) (sp : Sp) (dvs : List V) : Prop where
  ex : ∃ (f : Addr) (fd : FuncData) (ps : List Str) (ds : List Value), Mk K C f ∧ FnOk P w K mg base CX0 k f fd ps sp ∧ mg x = some (.ref C) ∧ Binds K fd ps ds ∧ Vals dvs ds
theorem pe_mk {X : Cx} {k j n : Nat} {C : Addr} {x : Str} {sp : Sp} {dvs : List V} {p pos : Pos} {e : Expr} {es : List Expr} {t : TA} (c : Mak X.prog X.w X.K X.mg X.base k n x C sp dvs) (hr : Room j X.A) (hk : k + 1 ≤ j) (hg : Gl X x) (ha : PA X (e :: es) t)
    (hdb : (x == ("__debug__" : Str)) = false := by decide) (he : starEach (e :: es) X.env = (false, eval e X.env) :: starEach es X.env := by rfl) (hpl : (backTo pos (starEach es X.env)).any (·.1) = false := by rfl) :
    PE X (.Call (.Name x p) (e :: es) [] pos) (tMake C sp dvs E0 t) := by
  obtain ⟨f, fd, ps, ds, M, F, hm, b, d⟩ := c.ex
  exact pe_make M F (hr.mono hk) hg hm b d pass0 ha hdb he hpl
end NF
namespace NF
open PySem PySem.Spec PyProof.Rows L2 He RZ NT
/-- tuple(..) of a list or a tuple -/
def rTupOf (K : PySem.W.Frag) : List V → Hp → VK → Prop := fun xs H Q => ∃ a ys, xs = [.ref a] ∧ Row K H a ys ∧ ∀ p H', Same H H' → SqT K H' p ys → Q (.ref p) H'
theorem cr_tup {X : Cx} : CallR X (.type "tuple") (rTupOf X.K) := by
  intro pins s σ H xs us Q I r h
  obtain ⟨a, ys, rfl, hr, q⟩ := h
  refine call_tuple_of pins s σ H _ us Q I r ⟨a, ys, rfl, ?_⟩
  exact hr.elim (fun h => .inl ⟨h, fun l hl => q l _ (NF.Same.new (Same.refl H) hl) (SqT.of upd_same)⟩) fun h => .inr ⟨h, q a H (Same.refl H) h⟩
end NF
set_option Elab.async false
set_option linter.all false
set_option maxRecDepth 100000
set_option maxHeartbeats 4000000
/-! Instances of a plain class with an own __eq__: ==, !=, isinstance, calls, properties. -/
namespace NF
open PySem PySem.Spec PyProof.Rows L2 He RZ NT
theorem ns_some_of {K : PySem.W.Frag} {h : Heap} {N : Addr} {mg : Str → Option Value} {n : Str} {v : Value} (X : K.In h) (G : h.Ns N mg) (e : PySem.W.nsIn K N n = some (some v)) : mg n = some v := by
  rcases G with ⟨ob, rows, cnt, at_, isD, rest⟩
  have val := rest.2 n
  rcases hk : K.lookup N with _ | ⟨c0, d0, dt, sl⟩
  · simp only [PySem.W.nsIn, hk] at e
    cases e
  · have same := (X N _ hk).symm.trans at_
    injection same with same
    subst same
    dsimp only at isD
    subst isD
    simp only [PySem.W.nsIn, hk] at e
    rw [← val]
    unfold nsFind findBy
    rw [← Array.find?_toList]
    revert e
    cases rows.toList.find? _ with
    | some en => exact fun e => by simpa using e
    | none =>
      intro e
      by_cases hany : (rows.toList.any fun x => x.refKey) = true
      · simp [hany] at e
      · simp [hany] at e
/-- the class's own object: nothing above it but object, an own __eq__ at f, no own __ne__ -/
def plObjB (K : PySem.W.Frag) (C f : Addr) : Bool := match K.lookup C with
  | some ⟨.type t, _, .cls cd, sl⟩ => t == "type" && (match cd.mro with
    | .ref C' :: bm => C' == C && bm == [.type "object"]
    | _ => false) && (cd.hasDict && !cd.hasDel) && (PySem.W.nsOkIn K cd.ns && eqO (PySem.W.nsIn K cd.ns "__eq__") (some (some (.ref f))) && eqO (PySem.W.nsIn K cd.ns "__ne__") (some none)) && (match sl.toList with
    | [_, _, _, _, some (.builtin n), _] => n == "object.__new__"
    | _ => false)
  | _ => false
theorem plObjB_ok {K : PySem.W.Frag} {C f : Addr} (h : plObjB K C f = true) :
    ∃ nm q N bs sn sub ab col dd k0 k1 k2 k3 k5, K.lookup C = some (excClassObj nm q C N bs [.type "object"] true sn sub ab col dd k0 k1 k2 k3 k5 "object.__new__") ∧ PySem.W.nsOkIn K N = true ∧ PySem.W.nsIn K N "__eq__" = some (some (.ref f)) ∧ PySem.W.nsIn K N "__ne__" = some none := by
  unfold plObjB at h
  split at h
  · rename_i t dd cd sl hl
    obtain ⟨h, h4⟩ := ba h
    obtain ⟨h, h9⟩ := ba h
    obtain ⟨h, h3⟩ := ba h
    obtain ⟨h1, h2⟩ := ba h
    obtain ⟨h12, h11⟩ := ba h9
    obtain ⟨h13, h10⟩ := ba h12
    split at h2
    · rename_i C' bm hm
      obtain ⟨h5, h6⟩ := ba h2
      split at h4
      · rename_i k0 k1 k2 k3 n k5 hs
        obtain ⟨h7, h8⟩ := ba h3
        have e1 : t = "type" := eq_of_beq h1
        have e5 : C' = C := eq_of_beq h5
        have e6 : bm = [.type "object"] := eq_of_beq h6
        have e9 : n = "object.__new__" := eq_of_beq h4
        subst e1 e5 e6 e9
        obtain ⟨nm, bs, mro, N, q, hd, sn, sub, ab, col, hdel⟩ := cd
        dsimp only at hm h7 h8 h13 h10 h11
        subst hm h7
        have hdel' : hdel = false := by
          cases hdel with
          | false => rfl
          | true => cases h8
        subst hdel'
        have hsl : sl = #[k0, k1, k2, k3, some (.builtin "object.__new__"), k5] := by
          have := congrArg List.toArray hs
          simpa using this
        subst hsl
        exact ⟨nm, q, N, bs, sn, sub, ab, col, dd, k0, k1, k2, k3, k5, hl, h13, eqO_ok h10, eqO_ok h11⟩
      · cases h4
    · cases h2
  · cases h
/-- x == y, x an instance of C -/
def rEqO (K : PySem.W.Frag) (C : Addr) (sp : Sp) : R2 := fun x y H Q => ∃ a dx fs tb, x = .ref a ∧ H a = some (.ins C dx fs) ∧ TyX K H y tb ∧ PySem.W.notFirst K C tb = true ∧ sp [.ref a, y] H Q E0
/-- x != y, both instances of C -/
def rNeO (K : PySem.W.Frag) (C : Addr) (sp : Sp) : R2 := fun x y H Q => ∃ a dx fs b dy gs, x = .ref a ∧ H a = some (.ins C dx fs) ∧ y = .ref b ∧ H b = some (.ins C dy gs) ∧ sp [.ref a, .ref b] H (fun v H' => ∃ t, v = .bl t ∧ Q (.bl (!t)) H') E0
/-- a class with an own == at f -/
structure EqC (P : Program) (w : World) (K : PySem.W.Frag) (mg : Str → Option Value) (base : Heap) (k : Nat) (C : Addr) (sp : Sp) : Prop where
  ex : ∃ (f : Addr) (fd : FuncData) (ps : List Str), FnOk P w K mg base CX0 k f fd ps sp ∧ PySem.W.findIn K (.ref C) "__eq__" = some (some (.ref f)) ∧ PySem.W.isFn K (.ref f) = true ∧ plObjB K C f = true ∧ Binds K fd ps []
theorem op_eqO {X : Cx} {k j : Nat} {C : Addr} {sp : Sp} (c : EqC X.prog X.w X.K X.mg X.base k C sp) (hr : Room j X.A) (hk : k ≤ j) : OpR X (compareOp .Eq) (rEqO X.K C sp) := by
  obtain ⟨f, fd, ps, F, hs, hf, _, hb⟩ := c.ex
  intro pins s σ H x y v u Q I rx ry h
  obtain ⟨a, dx, fs, tb, rfl, ha, ty, hn, q⟩ := h
  cases rx
  obtain ⟨mA, O, _⟩ := ins_get I.hok ha
  obtain ⟨od, J, _⟩ := O.look
  obtain ⟨m, hF⟩ := I.fr
  obtain ⟨P, Z, p, _⟩ := kit_of I ry ty
  show wpAny (model X.prog X.w) X.A (richCompare .Eq (.ref a) u) (EP X pins σ Q) X.xe s
  refine PySem.W.cmp_K (op := .Eq) (tb := tb) hr.units0 hF I.ok.mod.kin J (Z.ty _ _ I.kIn p) hn hs hf ?_
  have r2 : Vals [V.ref a, y] [Value.ref a, u] := .cons rfl (.cons ry .nil)
  refine wpAny_mono (run_fn (us := [.ref a, u]) (vs := [.ref a, y]) F (hr.mono hk) hb .nil pass0 I r2 q) (fun r s' z => ?_) fun _ _ e => e
  obtain ⟨z, H', I', rz, q'⟩ := z
  have hni : r ≠ .notImplemented := fun e => by
    subst e
    cases z with
    | int i => obtain ⟨t, e⟩ := (show ∃ t, Value.notImplemented = Value.int i t from rz); cases e
    | str i => obtain ⟨t, e⟩ := (show ∃ t, Value.notImplemented = Value.str i t from rz); cases e
    | byt i => obtain ⟨t, e⟩ := (show ∃ t, Value.notImplemented = Value.bytes i t from rz); cases e
    | flt i => obtain ⟨t, e⟩ := (show ∃ t, Value.notImplemented = Value.float i t from rz); cases e
    | _ => cases rz
  unfold PySem.W.CmpBack
  split
  · exact hni rfl
  · exact ⟨z, H', I', rz, q'⟩
theorem op_neO {X : Cx} {k j : Nat} {C : Addr} {sp : Sp} (c : EqC X.prog X.w X.K X.mg X.base k C sp) (hr : Room j X.A) (hk : k + 1 ≤ j) : OpR X (compareOp .NotEq) (rNeO X.K C sp) := by
  obtain ⟨f, fd, ps, F, hs, hf, hp, hb⟩ := c.ex
  intro pins s σ H x y v u Q I rx ry h
  obtain ⟨a, dx, fs, b, dy, gs, rfl, ha, rfl, hb', q⟩ := h
  cases rx
  cases ry
  obtain ⟨mA, O, _⟩ := ins_get I.hok ha
  obtain ⟨od, J, _⟩ := O.look
  obtain ⟨mB, O', _⟩ := ins_get I.hok hb'
  obtain ⟨od', J', _⟩ := O'.look
  obtain ⟨nm, qn, N, bs, sn, sub, ab, col, dd, k0, k1, k2, k3, k5, hl, hok, he, hne⟩ := plObjB_ok hp
  have G : s.heap.Ns N (s.heap.nsMap N) := .of_isNs (PySem.W.isNs_of_in I.kIn hok)
  have hr1 := hr.mono hk
  have r2 : Vals [V.ref a, .ref b] [Value.ref a, .ref b] := .cons rfl (.cons rfl .nil)
  have hlen := F.len _ _ _ _ q
  have run : wpAny (model X.prog X.w) X.A.in1 (call (.ref f) [.ref a, .ref b]) (fun v s' => ∃ t, v = .bool t ∧ EP X pins σ Q (.bool (!t)) s') X.xe s := by
    refine wpAny_call (codeAny_mono (F.run X.A.in1 X.stack s H ⟨[.ref a, .ref b], []⟩ [.ref a, .ref b] [.ref a, .ref b] _ E0 hr1.in1 I.env0.in1 (by
      have := hb s [.ref a, .ref b] I.kIn (by simpa using hlen)
      simpa using this) r2 q) fun r s' hq => ?_)
    cases r with
    | error e => exact False.elim hq
    | ok fl =>
      cases fl with
      | ret w =>
        obtain ⟨z, H', I', rz, t, ez, q3⟩ := I.after hq
        subst ez
        cases rz
        exact ⟨t, rfl, .bl (!t), H', I', rfl, q3⟩
      | next => exact False.elim hq
      | brk => exact False.elim hq
      | cont => exact False.elim hq
  obtain ⟨j1, j2, _⟩ := J
  obtain ⟨j3, j4, _⟩ := J'
  obtain ⟨of, hfo, hfc⟩ : ∃ of, s.heap.get? f = some of ∧ of.cls = .type "function" := by
    have e : (K0 : PySem.W.Frag) → K0.In s.heap → PySem.W.isFn K0 (.ref f) = true → ∃ of, s.heap.get? f = some of ∧ of.cls = .type "function" := fun K0 hK h0 => by
      have e1 : (K0.lookup f).map (·.cls) = some (.type "function") := beq_iff_eq.mp h0
      obtain ⟨o, ho, hc⟩ := Option.map_eq_some_iff.mp e1
      exact ⟨o, hK _ _ ho, hc⟩
    exact e X.K I.kIn hf
  obtain ⟨hp', g, d, tk, os⟩ := s
  exact PySem.compareOp_ne_ownEq (B := "object") (bm := [.type "object"]) PySem.F.cmp_object ⟨_, of, nm, qn, N, bs, true, sn, sub, ab, col, dd, k0, k1, k2, k3, k5, "object.__new__", _, _, j1, j2, I.kIn _ _ hl, G, ns_some_of I.kIn G he, hfo, hfc, PySem.F.cmp_object.mro, PySem.F.cmp_object.eq.lookup, PySem.W.ns_none_of I.kIn G hne⟩ j3 j4 (by have := hr.un; omega) run
/-- an instance of C may be called -/
structure CalO (P : Program) (w : World) (K : PySem.W.Frag) (mg : Str → Option Value) (base : Heap) (k : Nat) (C : Addr) (sp : Sp) : Prop where
  ex : ∃ (g : Addr) (fd : FuncData) (ps : List Str), StX.CallO K C g ∧ FnOk P w K mg base CX0 k g fd ps sp ∧ Binds K fd ps []
theorem pe_co {X : Cx} {k j : Nat} {C : Addr} {sp : Sp} {fe e : Expr} {es : List Expr} {t : TA} {tf : TE} {pos : Pos} (hf : PE X fe tf) (c : CalO X.prog X.w X.K X.mg X.base k C sp) (hr : Room j X.A) (hk : k ≤ j) (ha : PA X (e :: es) t)
    (ht : eval (.Call fe (e :: es) [] pos) X.env = (do callWith pos (← eval fe X.env) [] (backTo pos (starEach (e :: es) X.env)) (backToKw pos (keywordEach [] X.env))) := by rfl)
    (he : starEach (e :: es) X.env = (false, eval e X.env) :: starEach es X.env := by rfl) (hpl : (backTo pos (starEach es X.env)).any (·.1) = false := by rfl) :
    PE X (.Call fe (e :: es) [] pos) (StX.tCallO X C (fun vs H Q E => sp (vs ++ []) H Q E) E0 tf t) := by
  obtain ⟨g, fd, ps, c, F, b⟩ := c.ex
  exact StX.pe_callO hf c (F.raw b .nil) (hr.mono hk) pass0 ha ht he hpl
/-- a property of C -/
structure PropC (P : Program) (w : World) (K : PySem.W.Frag) (mg : Str → Option Value) (base : Heap) (k : Nat) (C : Addr) (f : Str) (sp : Sp) : Prop where
  cl : Cls K C
  ex : ∃ (p g : Addr) (fd : FuncData) (ps : List Str), PropOf K C f p g ∧ FnOk P w K mg base CX0 k g fd ps sp ∧ Binds K fd ps []
theorem pe_pr {X : Cx} {k j : Nat} {C : Addr} {f : Str} {sp : Sp} {e : Expr} {ta : TE} {pos : Pos} (he : PE X e ta) (c : PropC X.prog X.w X.K X.mg X.base k C f sp) (hr : Room j X.A) (hk : k + 1 ≤ j) (hab : attributeBase e f X.env (eval e X.env) = eval e X.env := by rfl) :
    PE X (.Attribute e f pos) (tProp C sp [] E0 ta) := by
  obtain ⟨p, g, fd, ps, c2, F, b⟩ := c.ex
  exact pe_prop he c.cl c2 F (hr.mono hk) b .nil pass0 hab
end NF
set_option Elab.async false
set_option linter.all false
set_option maxRecDepth 100000
set_option maxHeartbeats 4000000
/-! The hook with getters: defs at addresses told by the written part. -/
namespace NF
open PySem PySem.Spec PyProof.Rows L2 He
def fnWa (K : PySem.W.Frag) (a : Addr) : FnW := match K.lookup a with
  | some ⟨_, _, .func fd, _⟩ => some (fd.name, fd.qualname, fd.params, fd.body, fd.scope, fd.globals, fd.closure, fd.builtins)
  | _ => none
def okA (K : PySem.W.Frag) (a : Addr) (d : DefD) : Bool := PySem.W.keepIn K (.ref a) && (match K.lookup a with
  | some ⟨_, _, .func fd, _⟩ => PySem.W.codeIn K fd.code d.qual && (dflB K fd.defaults (d.dvs K) && kwdB K fd.kwdefaults (d.kws K))
  | _ => false)
theorem funA {K : PySem.W.Frag} {a : Addr} {d : DefD} (e : fnWa K a = d.val) (c : okA K a d = true) : ∃ fd, FunD K d.name d.qual d.params d.body d.scope (d.dvs K) (d.kws K) a fd := by
  have hkp := (ba c).1
  have hrec := (ba c).2
  rcases hl : K.lookup a with _ | ⟨c0, d0, dt, sl⟩
  · simp only [hl] at hrec
    exact absurd hrec (by decide)
  · cases dt
    case func g =>
      simp only [fnWa, hl, DefD.val, Option.some.injEq, Prod.mk.injEq] at e
      rcases g with ⟨m1, m2, m3, m4, m5, m6, m7, m8, m9, m10, m11, m12, m13, m14, m15⟩
      simp only at e
      rcases e with ⟨z1, z2, z3, z4, z5, z6, z7, z8⟩
      simp only [hl] at hrec
      have hcode := (ba hrec).1
      have hdfl := dflB_ok (ba (ba hrec).2).1
      have hkwd := kwdB_ok (ba (ba hrec).2).2
      refine ⟨PySem.W.fnOf d.name d.qual d.params d.body d.scope m8 m9 m10 m11 m12 m13 m14, ⟨c0, d0, m8, m9, m10, m11, m12, m13, m14, sl, rfl, ?_, hcode, hdfl, hkwd⟩, hkp⟩
      subst z1 z2 z3 z4 z5 z6 z7 z8
      exact hl
    all_goals
      simp only [hl] at hrec
      exact absurd hrec (by decide)
abbrev Adr := (PySem.W.Frag → Addr) × DefD
def obsP (ex : PySem.W.Frag → Bool) (fn : List Adr) (K : PySem.W.Frag) : AlD := (ex K && fn.all fun d => okA K (d.1 K) d.2, fn.map fun d => fnWa K (d.1 K))
def valP (fn : List Adr) : AlD := (true, fn.map fun d => d.2.val)
def SaysP (ex : PySem.W.Frag → Bool) (fn : List Adr) (K : PySem.W.Frag) : Prop := obsP ex fn K = valP fn
def obsPG (n : Nat) (ex : PySem.W.Frag → Bool) (fn : List Adr) (g : Addr → Option Obj) : AlD := obsP ex fn (frG g (asD g n))
def hookP (n : Nat) (ex : PySem.W.Frag → Bool) (fn : List Adr) : PySem.W.Hook where
  α := AlD
  obs := fun s => obsPG n ex fn s.heap.get?
  val := fun _ => valP fn
  says := fun _ h => ∃ K : PySem.W.Frag, K.In h ∧ SaysP ex fn K
  of := fun _ _ e => ⟨_, frG_in, e⟩
  keeps := fun _ _ _ ⟨K, hK, c⟩ k => ⟨K, PySem.W.Frag.In.keeps hK k, c⟩
theorem obsPG_eq {n : Nat} {ex : PySem.W.Frag → Bool} {fn : List Adr} {g : Addr → Option Obj} {s : Shared} (h : ∀ a, g a = s.heap.get? a) : obsPG n ex fn g = (hookP n ex fn).obs s := by
  have e : g = s.heap.get? := funext h
  rw [e] <;> rfl
section
variable {ex : PySem.W.Frag → Bool} {fn : List Adr} {K : PySem.W.Frag}
theorem SaysP.truth (c : SaysP ex fn K) : ex K = true :=
  (ba (show (ex K && fn.all fun d => okA K (d.1 K) d.2) = true from congrArg (fun z : AlD => z.1) c)).1
theorem SaysP.def_ (c : SaysP ex fn K) (i : Nat) {d : Adr} (h : fn[i]? = some d := by rfl) : ∃ fd, FunD K d.2.name d.2.qual d.2.params d.2.body d.2.scope (d.2.dvs K) (d.2.kws K) (d.1 K) fd := by
  have c2 := (ba (show (ex K && fn.all fun d => okA K (d.1 K) d.2) = true from congrArg (fun z : AlD => z.1) c)).2
  have e : fn.map (fun d => fnWa K (d.1 K)) = fn.map fun d => d.2.val := congrArg (fun z : AlD => z.2) c
  have e2 : (fn.map fun d => fnWa K (d.1 K))[i]? = (fn.map fun d => d.2.val)[i]? := by rw [e]
  rw [List.getElem?_map, List.getElem?_map, h] at e2
  exact funA (Option.some.inj e2) (List.all_eq_true.mp c2 d (List.mem_of_getElem? h))
end
end NF
set_option Elab.async false
set_option linter.all false
set_option maxRecDepth 100000
set_option maxHeartbeats 4000000
/-! Makers and instances whose defs let an exception out. -/
namespace NF
open PySem PySem.Spec PyProof.Rows L2 He RZ NT
/-- a def's answer handed on, or its exception let through -/
theorem handS {X : Cx} {CX : CXT} {E : L2.St → XK} {σ : L2.St} {pins : List (Addr × Obj)} {H : Hp} {s : Shared} {Q : VK} (hx : PassesAt CX X σ (E σ)) (I : Inv X pins σ H s) {r : Result} {s' : Shared} (h : CR CX X.stack X.prog X.w H s Q (E σ) r s') :
    (∃ u, r = .ok (.ret u) ∧ EP X pins σ Q u s') ∨ ∃ e, r = .error e ∧ X.xe e s' := by
  cases r with
  | error e => exact .inr ⟨e, rfl, hx pins H s e s' I h⟩
  | ok fl => cases fl with
    | ret u => exact .inl ⟨u, rfl, I.after h⟩
    | next => exact h.elim
    | brk => exact h.elim
    | cont => exact h.elim
def tMakeS (C : Addr) (sp : Sp) (dvs : List V) (E : L2.St → XK) (t : TA) : TE := fun σ H Q => t σ H fun vs H1 => ∀ x dx, H1 x = none → H1 dx = none → dx ≠ x →
  sp (.ref x :: (vs ++ dvs)) (upd (upd H1 dx (.own x)) x (.ins C dx [])) (fun v H2 => v = .non ∧ Q (.ref x) H2) (E σ)
theorem make_runs {X : Cx} {CX : CXT} {k : Nat} {C f : Addr} {fd : FuncData} {ps : List Str} {sp : Sp} {dvs : List V} {ds : List Value} {E : L2.St → XK} {pins : List (Addr × Obj)} {σ : L2.St} {H : Hp} {s : Shared} {Q : VK} {us : List Value} {vs : List V}
    (M : Mk X.K C f) (F : FnOk X.prog X.w X.K X.mg X.base CX k f fd ps sp) (hr : Room (k + 1) X.A) (hb : Binds X.K fd ps ds) (hd : Vals dvs ds) (hx : PassesAt CX X σ (E σ)) (I : Inv X pins σ H s) (r : Vals vs us)
    (h : ∀ x dx, H x = none → H dx = none → dx ≠ x → sp (.ref x :: (vs ++ dvs)) (upd (upd H dx (.own x)) x (.ins C dx [])) (fun v H2 => v = .non ∧ Q (.ref x) H2) (E σ)) :
    wpAny (model X.prog X.w) X.A (call (.ref C) us) (EP X pins σ Q) X.xe s := by
  have want := h (s.heap.objs.size + 1) s.heap.objs.size (I.hok.fresh (Nat.le_succ _)) (I.hok.fresh (Nat.le_refl _)) (Nat.ne_of_lt (Nat.lt_succ_self _))
  have J := Inv.made (C := C) I
  have rr : Vals (V.ref (s.heap.objs.size + 1) :: (vs ++ dvs)) (Value.ref (s.heap.objs.size + 1) :: (us ++ ds)) := .cons rfl (r.append hd)
  have len : (Value.ref (s.heap.objs.size + 1) :: us ++ ds).length = ps.length := rr.length.symm.trans (F.len _ _ _ _ want)
  have body := F.run _ X.stack _ _ ⟨Value.ref (s.heap.objs.size + 1) :: us, []⟩ (Value.ref (s.heap.objs.size + 1) :: (us ++ ds)) _ _ (E σ) (hr.make C us []) (J.env0.make C us []) (hb _ (Value.ref (s.heap.objs.size + 1) :: us) J.kIn len) rr want
  refine wpAny_call (make_map (f := f) I.kIn M.makes M.init (beq_iff_eq.mp M.fn) (codeAny_mono body fun q s' hq => ?_))
  rcases handS hx J hq with ⟨u, rfl, v, H', J', rv, ev, q3⟩ | ⟨e, rfl, hz⟩
  · subst ev
    exact ⟨rv, V.ref (s.heap.objs.size + 1), H', J', rfl, q3⟩
  · exact hz
/-- a class whose __init__ may let an exception out -/
structure MakX (P : Program) (w : World) (K : PySem.W.Frag) (mg : Str → Option Value) (base : Heap) (k n : Nat) (x : Str) (C : Addr) (sp : Sp) (dvs : List V) : Prop where
  ex : ∃ (f : Addr) (fd : FuncData) (ps : List Str) (ds : List Value), Mk K C f ∧ FnOk P w K mg base (L2.CX P w) k f fd ps sp ∧ mg x = some (.ref C) ∧ Binds K fd ps ds ∧ Vals dvs ds
theorem pe_mkX {X : Cx} {k j n : Nat} {C : Addr} {x : Str} {sp : Sp} {dvs : List V} {W : WX} {p pos : Pos} {e : Expr} {es : List Expr} {t : TA} (tk : Takes X W) (c : MakX X.prog X.w X.K X.mg X.base k n x C sp dvs) (hr : Room j X.A) (hk : k + 1 ≤ j) (hg : Gl X x) (ha : PA X (e :: es) t)
    (hdb : (x == ("__debug__" : Str)) = false := by decide) (he : starEach (e :: es) X.env = (false, eval e X.env) :: starEach es X.env := by rfl) (hpl : (backTo pos (starEach es X.env)).any (·.1) = false := by rfl) :
    PE X (.Call (.Name x p) (e :: es) [] pos) (tMakeS C sp dvs (WE W) t) := by
  obtain ⟨f, fd, ps, ds, M, F, hm, b, d⟩ := c.ex
  refine ⟨fun pins s σ H Q I h => ?_⟩
  refine wpAny_Call_Name_kw (ld_glob I hg hm ?_ hdb)
  refine PySem.W.callWith_K (h₀ := X.base) I.ok.mod.kin M.kp (thn (ha.run pos pins s σ H _ I h) fun us s1 ⟨vs, H1, I1, r, q⟩ => ⟨I1.kIn, ?_⟩) he hpl
  exact make_runs (E := WE W) M F (hr.mono hk) b d (passAt tk σ) I1 r q
/-- a def that may let an exception out, by its name -/
structure CalX (P : Program) (w : World) (K : PySem.W.Frag) (mg : Str → Option Value) (base : Heap) (k : Nat) (x : Str) (sp : Sp) : Prop where
  ex : ∃ (f : Addr) (fd : FuncData) (ps : List Str), FnOk P w K mg base (L2.CX P w) k f fd ps sp ∧ mg x = some (.ref f) ∧ PySem.W.keepIn K (.ref f) = true ∧ Binds K fd ps []
theorem pe_cX {X : Cx} {k j : Nat} {x : Str} {sp : Sp} {W : WX} {e : Expr} {es : List Expr} {t : TA} {p pos : Pos} (tk : Takes X W) (c : CalX X.prog X.w X.K X.mg X.base k x sp) (hr : Room j X.A) (hk : k ≤ j) (hg : Gl X x) (ha : PA X (e :: es) t)
    (hdb : (x == ("__debug__" : Str)) = false := by decide) (he : starEach (e :: es) X.env = (false, eval e X.env) :: starEach es X.env := by rfl) (hpl : (backTo pos (starEach es X.env)).any (·.1) = false := by rfl) :
    PE X (.Call (.Name x p) (e :: es) [] pos) (tCallS sp (WE W) t) := by
  obtain ⟨f, fd, ps, F, hm, kp, b⟩ := c.ex
  exact pe_callS F (hr.mono hk) hg hm kp b (fun σ => passAt tk σ) ha hdb he hpl
/-- an instance that may be called, and may let an exception out -/
structure CalOX (P : Program) (w : World) (K : PySem.W.Frag) (mg : Str → Option Value) (base : Heap) (k : Nat) (C : Addr) (sp : Sp) : Prop where
  ex : ∃ (g : Addr) (fd : FuncData) (ps : List Str), StX.CallO K C g ∧ FnOk P w K mg base (L2.CX P w) k g fd ps sp ∧ Binds K fd ps []
def tCallOS (C : Addr) (sp : Sp) (E : L2.St → XK) (tf : TE) (t : TA) : TE := fun σ H Q => tf σ H fun y H1 => ∃ a, y = V.ref a ∧ t σ H1 fun vs H2 => (∃ dx fs, H2 a = some (.ins C dx fs)) ∧ sp (V.ref a :: vs) H2 Q (E σ)
theorem pe_coX {X : Cx} {k j : Nat} {C : Addr} {sp : Sp} {W : WX} {fe e : Expr} {es : List Expr} {t : TA} {tf : TE} {pos : Pos} (tk : Takes X W) (hf : PE X fe tf) (c : CalOX X.prog X.w X.K X.mg X.base k C sp) (hr : Room j X.A) (hk : k ≤ j) (ha : PA X (e :: es) t)
    (ht : eval (.Call fe (e :: es) [] pos) X.env = (do callWith pos (← eval fe X.env) [] (backTo pos (starEach (e :: es) X.env)) (backToKw pos (keywordEach [] X.env))) := by rfl)
    (he : starEach (e :: es) X.env = (false, eval e X.env) :: starEach es X.env := by rfl) (hpl : (backTo pos (starEach es X.env)).any (·.1) = false := by rfl) :
    PE X (.Call fe (e :: es) [] pos) (tCallOS C sp (WE W) tf t) := by
  obtain ⟨g, fd, ps, co, F, b⟩ := c.ex
  refine ⟨fun pins s σ H Q I h => ?_⟩
  refine Call_ (thn (hf.run pins s σ H _ I h) fun u s1 ⟨y, H1, I1, ry, a, ey, q⟩ => ?_) ht
  subst ey
  cases ry
  refine StX.callO_with (thn (ha.run pos pins s1 σ H1 _ I1 q) fun us s2 ⟨vs, H2, I2, r, hi0, q2⟩ => ?_) he hpl
  have hi : StX.InsC X H2 a C := .inr hi0
  obtain ⟨ox, od, J, hd⟩ := StX.insC_at I2 hi
  refine ⟨⟨C, ox, od, J, hd⟩, ?_⟩
  have rr : Vals (V.ref a :: vs) (Value.ref a :: us) := .cons rfl r
  have len : (Value.ref a :: us).length = ps.length := rr.length.symm.trans (F.len _ _ _ _ q2)
  have bb := b s2 (Value.ref a :: us) I2.kIn (by rw [List.append_nil]; exact len)
  rw [List.append_nil] at bb
  refine wpAny_call (PySem.W.kco_code I2.kIn J hd co.at_ co.fn co.fi (codeAny_mono (F.run X.A X.stack s2 H2 ⟨Value.ref a :: us, []⟩ (Value.ref a :: us) (V.ref a :: vs) Q (WE W σ) (hr.mono hk) I2.env0 bb rr q2) fun z s' hq => ?_))
  rcases handS (E := WE W) (passAt tk σ) I2 hq with ⟨u, rfl, hz⟩ | ⟨e, rfl, hz⟩
  · exact hz
  · exact hz
/-! ### own exceptions that keep their one argument -/
/-- what __init__ of a class whose errors bear f does -/
def spExc (C : Addr) (f : Str) : Sp := fun vs H Q _ => ∃ (a : Addr) (v : V), vs = [.ref a, v] ∧ H a = some (exo a C none) ∧ ∀ d, H d = none → d ≠ a → Q .non (upd (upd H d (exd d [(f, v)])) a (exo a C (some d)))
structure ExcI (P : Program) (w : World) (K : PySem.W.Frag) (mg : Str → Option Value) (base : Heap) (x f : Str) : Prop where
  T : OexC K (ga K x)
  ex : ∃ (fI : Addr) (fd : FuncData), PySem.W.findIn K (.ref (ga K x)) "__init__" = some (some (.ref fI)) ∧ PySem.W.typeIn K (.ref fI) = some (.type "function") ∧ FnOk P w K mg base CX0 1 fI fd ["self", f] (spExc (ga K x) f) ∧ Binds K fd ["self", f] []
  gm : mg x = some (.ref (ga K x))
abbrev bodyE (f : Str) (q1 q2 q3 q4 : Pos) : List Stmt := [.Assign [.Attribute (.Name "self" q1) f q2] (.Name f q3) q4]
theorem ok_exc {P : Program} {w : World} {K : PySem.W.Frag} {mg : Str → Option Value} {base : Heap} {x q f : Str} {pa : Arguments} {bd : List Stmt} {sc : Scope} {fI : Addr} {fd : FuncData} {q1 q2 q3 q4 : Pos} (F : FunD K "__init__" q pa bd sc [] [] fI fd) (hb : bd = bodyE f q1 q2 q3 q4) (S : FnScope ["self", f] ["self", f] sc)
    (T : OexC K (ga K x)) (hno : PySem.W.findIn K (.ref (ga K x)) f = some none) (hv0 : Vis sc "self") (hv1 : Vis sc f) (hd : (f == ("__debug__" : Str)) = false) (hcd : (f == ("__classdict__" : Str)) = false) :
    FnOk P w K mg base CX0 1 fI fd ["self", f] (spExc (ga K x) f) := by
  subst hb
  refine F.ok S (fun vs H Q E h => ?_) (fun cdv A outer s H vs Q E hr h => ?_)
  · obtain ⟨a, v, rfl, _⟩ := h
    rfl
  · obtain ⟨a, v, rfl, ha, k⟩ := h
    refine ⟨_, PSs.nox (pss_one (ps_ost (pe_var (i := 0) rfl hv0) (pe_var (i := 1) rfl hv1 hd hcd))), ?_⟩
    exact ⟨_, rfl, _, rfl, a, ga K x, rfl, T, hno, Or.inl ⟨ha, fun d hd hda => k d hd hda⟩⟩
/-- raise X(e) -/
theorem ps_rz {X : Cx} {W : WX} {x f : Str} {e : Expr} {te : TE} {p pos pos' : Pos} {j : Nat} (hc : X.calm = true) (tk : Takes X W) (M : ExcI X.prog X.w X.K X.mg X.base x f) (hr : Room j X.A) (hj : 2 ≤ j) (hg : Gl X x) (he : PE X e te) (hdb : (x == ("__debug__" : Str)) = false := by decide)
    (hs : starEach (e :: []) X.env = (false, eval e X.env) :: starEach [] X.env := by rfl) : PS X (.Raise (some (.Call (.Name x p) [e] [] pos)) none pos') (fun _ σ H => tMkO (ga X.K x) (spExc (ga X.K x) f) [] (tCons te tNil) σ H fun cls d H' => W cls d σ H') := by
  obtain ⟨fI, fd, h1, h2, h3, h4⟩ := M.ex
  exact ps_raise hc tk (pmk_oex M.T h1 h2 h3 (hr.mono hj) h4 .nil pass0 hg M.gm (pa_cons he pa_nil hs) hdb hs)
theorem raise_done {C : Addr} {f : Str} {v : V} {H1 : Hp} {Q : XK} (k : ∀ d H2, H1 d = none → Same H1 H2 → H2 d = some (.xd [(f, v)]) → Q (.ref C) (some d) H2) :
    ([v] : List V).length ≤ 1000 ∧ ∀ a, H1 a = none → spExc C f (.ref a :: ([v] ++ [])) (upd H1 a (exo a C none)) (fun u H2 => u = .non ∧ ∃ (d : Addr) (fs : List (Str × V)), H2 a = some (exo a C (some d)) ∧ H2 d = some (exd d fs) ∧ H1 d = none ∧ Q (.ref C) (some d) (upd (del H2 a) d (.xd fs))) (fun _ _ _ => False) := by
  refine ⟨by show 1 ≤ 1000; decide, fun a ha => ⟨a, v, rfl, upd_same, fun d hd hda => ?_⟩⟩
  have hd0 : H1 d = none := by
    rw [upd_ne hda] at hd
    exact hd
  refine ⟨rfl, d, [(f, v)], upd_same, by rw [upd_ne hda, upd_same], hd0, k d _ hd0 ?_ upd_same⟩
  intro b u e
  have hb : b ≠ d := ne_of_none e hd0
  have hba : b ≠ a := ne_of_none e ha
  rw [upd_ne hb, del_ne hba, upd_ne hba, upd_ne hb, upd_ne hba]
  exact e
end NF
set_option Elab.async false
set_option linter.all false
set_option maxRecDepth 100000
set_option maxHeartbeats 4000000
/-! tuple * int for any int that is not too great. -/
namespace NF
open PySem PySem.Spec PyProof.Rows L2 He RZ
theorem rep_none (l : Addr) (items : Array Value) (n : Nat) (dd : Option Addr) (sl : Array (Option Value)) (x : Int) (u : Tok) (c0 : (decide (x < -(2 ^ 63)) || decide (x ≥ 2 ^ 63)) = false) (c1 : (items.isEmpty || x == 1) = false) (c2 : (decide (x ≤ 0) || items.isEmpty) = true) :
    Meets (Builtin.«tuple.__mul__» ⟨[.ref l, .int x u], []⟩) (fun _ R s => s.heap.get? l = some { cls := .type "tuple", dict := dd, data := .seq items n, slots := sl } ∧
      R (.ok (.ret (Value.ref s.heap.objs.size))) { s with heap := s.heap.push { cls := Value.type "tuple", data := Data.seq #[] } }) :=
  .of_wp fun prog w A R s h => by
    obtain ⟨hp, g, d, tk, os⟩ := s
    obtain ⟨hl, h⟩ := h
    have f1 := AutoSeq1.idx_int
    wp_walk using wpAny_loadPart' hl
    repeat (first
      | (refine wpAny_ite_false (decide_eq_false (by rw [c0]; exact Bool.false_ne_true)) ?_; wp_walk using wpAny_loadPart' hl)
      | (refine wpAny_ite_false (decide_eq_false (by rw [c1]; exact Bool.false_ne_true)) ?_; wp_walk using wpAny_loadPart' hl)
      | (refine wpAny_ite_true (decide_eq_true (by rw [c2])) ?_; wp_walk using wpAny_loadPart' hl))
    exact ⟨_, rfl, h⟩
theorem rep_one (l : Addr) (items : Array Value) (n : Nat) (dd : Option Addr) (sl : Array (Option Value)) (x : Int) (u : Tok) (c0 : (decide (x < -(2 ^ 63)) || decide (x ≥ 2 ^ 63)) = false) (c1 : (items.isEmpty || x == 1) = true) :
    Meets (Builtin.«tuple.__mul__» ⟨[.ref l, .int x u], []⟩) (fun _ R s => s.heap.get? l = some { cls := .type "tuple", dict := dd, data := .seq items n, slots := sl } ∧ R (.ok (.ret (Value.ref l))) s) :=
  .of_wp fun prog w A R s h => by
    obtain ⟨hp, g, d, tk, os⟩ := s
    obtain ⟨hl, h⟩ := h
    have f1 := AutoSeq1.idx_int
    wp_walk using wpAny_loadPart' hl
    repeat (first
      | (refine wpAny_ite_false (decide_eq_false (by rw [c0]; exact Bool.false_ne_true)) ?_; wp_walk using wpAny_loadPart' hl)
      | (refine wpAny_ite_true (decide_eq_true (by rw [c1])) ?_; wp_walk using wpAny_loadPart' hl))
    exact ⟨_, rfl, h⟩
def rRepA (K : PySem.W.Frag) : R2 := fun x y H Q => ∃ l k xs, x = .ref l ∧ y = .int k ∧ SqT K H l xs ∧ xs ≠ [] ∧ xs.length ≤ 100 ∧ -10000 ≤ k ∧ k ≤ 10000 ∧ ∀ p H', Same H H' → SqT K H' p (List.replicate k.toNat xs).flatten → Q (.ref p) H'
/-- t * k -/
theorem op_repA {X : Cx} : OpR X (binaryOp .Mult) (rRepA X.K) := by
  intro pins s σ H x y v u Q I rx ry h
  obtain ⟨l, k, xs, rfl, rfl, hT, hne, hz, k1, k2, q⟩ := h
  cases rx
  obtain ⟨t, rfl⟩ := ry
  obtain ⟨its, r, ⟨⟨cls, dd, data, sl⟩, ho, hc, n, hd⟩, hs⟩ := I.tuple hT
  simp only at hc hd
  subst hc hd
  have hle : its.length = xs.length := r.length.symm
  have hpos : 0 < its.length := by
    rw [hle]
    exact List.length_pos_iff.mpr hne
  have hfull : its.toArray.isEmpty = false := by
    cases hi : its with
    | nil => rw [hi] at hpos; simp at hpos
    | cons _ _ => rfl
  have small : (decide (k < -(2 ^ 63)) || decide (k ≥ 2 ^ 63)) = false := by
    rw [decide_eq_false (show ¬ k < -(2 ^ 63) by omega), decide_eq_false (show ¬ k ≥ 2 ^ 63 by omega)]
    rfl
  have ty : s.TypeIs (.ref l) "tuple" := ⟨_, ho, rfl⟩
  have road : ∀ {W : Value → Shared → Prop}, wpAny (model X.prog X.w) X.A (call (.builtin "tuple.__mul__") [.ref l, .int k t]) W X.xe s → wpAny (model X.prog X.w) X.A (binaryOp .Mult (.ref l) (.int k t)) W X.xe s := fun {W} z =>
    wpAny_binaryOp_repeat_ref (T := "tuple") (U := "int") (by decide) ty (fun s' => typeIs_int s' k t) noFill_tuple_mul F.fills_int_mul F.slot_int_rmul repeat_tuple F.slot_int_index.lookup
      (call_meets F.slot_int_rmul (typeIs_int s k t) F.entry_int_rmul (F.args_int_rmul_2 _ _) (int_rmul_tuple k t l its.toArray n dd sl) ⟨ho, rfl, ty, z⟩)
  refine road ?_
  by_cases c1 : k = 1
  · subst c1
    refine call_meets F.slot_tuple_mul ty F.entry_tuple_mul (F.args_tuple_mul_2 _ _) (rep_one l its.toArray n dd sl 1 t small (by rw [hfull]; rfl)) ⟨ho, ?_⟩
    refine ⟨.ref l, H, I, rfl, q l H (Same.refl H) ?_⟩
    rw [show (List.replicate (1 : Int).toNat xs).flatten = xs by simp]
    exact hT
  · have not1 : (its.toArray.isEmpty || k == 1) = false := by
      rw [hfull, Bool.false_or]
      exact beq_eq_false_iff_ne.mpr c1
    by_cases c0 : k ≤ 0
    · refine call_meets F.slot_tuple_mul ty F.entry_tuple_mul (F.args_tuple_mul_2 _ _) (rep_none l its.toArray n dd sl k t small not1 (by rw [decide_eq_true c0]; rfl)) ⟨ho, ?_⟩
      have hn := I.hok.fresh (Nat.le_refl s.heap.objs.size)
      have e0 : (List.replicate k.toNat xs).flatten = [] := by
        rw [show k.toNat = 0 by omega]
        rfl
      refine ⟨.ref s.heap.objs.size, _, I.laid (t' := s.toks) (o := .tup []) (fun b ob q => Heap.get?_push_of_some _ q) (Nat.le_refl _) ?_, rfl, q _ _ (NF.Same.new (Same.refl H) hn) (by rw [e0]; exact SqT.of upd_same)⟩
      exact ⟨Nat.zero_le _, [], .nil, IsTup.new _ _⟩
    · have many : its.toArray.size = xs.length := by rw [List.size_toArray, hle]
      have prod : ((its.toArray.size : Nat) : Int) * k ≤ 100 * 10000 := by
        rw [many]
        exact Int.mul_le_mul (by omega) k2 (by omega) (by decide)
      have flat : (List.replicate k.toNat xs).flatten.length ≤ 1000000 := by
        rw [PyProof.Rows.lm_len_rep_flat]
        exact Nat.le_trans (Nat.mul_le_mul (show k.toNat ≤ 10000 by omega) hz) (by decide)
      have flat2 : (List.replicate k.toNat its).flatten.length ≤ 1000000 := by
        rw [PyProof.Rows.lm_len_rep_flat, hle]
        exact Nat.le_trans (Nat.mul_le_mul (show k.toNat ≤ 10000 by omega) hz) (by decide)
      refine call_meets F.slot_tuple_mul ty F.entry_tuple_mul (F.args_tuple_mul_2 _ _) (tuple_mulW l its.toArray n dd sl k t small not1 (by rw [hfull, Bool.or_false]; exact decide_eq_false c0) (by omega) ?_ ?_) ⟨ho, ?_⟩
      · unfold Builtin.Tuple.tupleTooMany
        rw [sizeLine_eq]
        exact decide_eq_false (by omega)
      · rw [size_rep, List.size_toArray, sizeLine_eq]
        omega
      · rw [size_rep]
        have hn := I.hok.fresh (Nat.le_refl s.heap.objs.size)
        refine ⟨.ref s.heap.objs.size, _, I.laid (t' := s.toks) (o := .tup (List.replicate k.toNat xs).flatten) (fun b ob q => Heap.get?_push_of_some _ q) (Nat.le_refl _) ?_, rfl, q _ _ (NF.Same.new (Same.refl H) hn) (SqT.of upd_same)⟩
        exact ⟨by rw [sizeLine_eq]; omega, _, r.rep k.toNat, IsTup.new _ _⟩
end NF
set_option Elab.async false
set_option linter.all false
set_option maxRecDepth 100000
set_option maxHeartbeats 4000000
/-! C.m(..), m a static method that may let an exception out. -/
namespace NF
open PySem PySem.Spec PyProof.Rows L2 He RZ
structure SMet (K : PySem.W.Frag) (C : Addr) (mc : Value) (m : Str) (p g : Addr) : Prop where
  ty : PySem.W.typeIn K (.ref C) = some mc
  rd : PySem.W.readsIn K C mc = true
  ga : PySem.W.specialIn K (.ref C) "__getattribute__" = some (some (.builtin "type.__getattribute__"))
  at_ : PySem.W.findCls K (.ref C) mc m = some (.get (.builtin "staticmethod.__get__") (.ref p) .none (.ref C))
  rc : ∃ rest, PySem.W.recIn K p "staticmethod" = some (.ref g :: rest)
  kp : PySem.W.keepIn K (.ref g) = true
structure StaX (P : Program) (w : World) (K : PySem.W.Frag) (mg : Str → Option Value) (base : Heap) (k : Nat) (C : Addr) (m : Str) (sp : Sp) : Prop where
  ex : ∃ (mc : Value) (p g : Addr) (fd : FuncData) (ps : List Str), SMet K C mc m p g ∧ FnOk P w K mg base (L2.CX P w) k g fd ps sp ∧ Binds K fd ps []
def tStaS (C : Addr) (sp : Sp) (E : L2.St → XK) (ta : TE) (t : TA) : TE := fun σ H Q => ta σ H fun x H1 => x = .ref C ∧ t σ H1 fun vs H2 => sp vs H2 Q (E σ)
theorem pe_smX {X : Cx} {k j : Nat} {C : Addr} {m : Str} {sp : Sp} {W : WX} {o e : Expr} {es : List Expr} {ta : TE} {t : TA} {pos apos : Pos} {pl : Sem Bool} (tk : Takes X W) (he : PE X o ta) (c : StaX X.prog X.w X.K X.mg X.base k C m sp) (hr : Room j X.A) (hk : k ≤ j) (ha : PA X (e :: es) t)
    (hst : starEach (e :: es) X.env = (false, eval e X.env) :: starEach es X.env := by rfl) (hpl : (backTo pos (starEach es X.env)).any (·.1) = false := by rfl)
    (ht : eval (.Call (.Attribute o m apos) (e :: es) [] pos) X.env = (do
      let ov ← eval o X.env
      standAt apos.atName
      let (f, first) ← holding [ov] (getMethod ov m pl)
      callWith pos f first (backTo pos (starEach (e :: es) X.env)) (backToKw pos (keywordEach [] X.env))) := by rfl) :
    PE X (.Call (.Attribute o m apos) (e :: es) [] pos) (tStaS C sp (WE W) ta t) := by
  obtain ⟨mc, p, g, fd, ps, S, F, hb⟩ := c.ex
  obtain ⟨rest, hp⟩ := S.rc
  refine ⟨fun pins s σ H Q I h => ?_⟩
  refine PySem.W.methodCall_KW (pl := pl) (thn (he.run pins s σ H _ I h) fun u s1 ⟨x, H1, I1, rx, ex, q⟩ => ?_) ht
  subst ex
  cases rx
  obtain ⟨fm, hF⟩ := I1.fr
  refine PySem.W.method_cls I1.kIn S.ga (PySem.W.cls_sm hF I1.ok.mod.kin S.ty S.rd S.at_ hp rfl ?_)
  have I2 := I1.tok (s1.toks + 1)
  show wpAny _ _ (callWith pos (.ref g) [] (backTo pos (starEach (e :: es) X.env)) []) _ _ _
  refine PySem.W.callWith_K (h₀ := X.base) I2.ok.mod.kin S.kp (thn (ha.run pos pins _ σ H1 _ I2 q) fun us s3 ⟨vs, H2, I3, r, q2⟩ => ⟨I3.kIn, ?_⟩) hst hpl
  exact run_fnS (E := WE W) F (hr.mono hk) hb (passAt tk σ) I3 r q2
end NF
set_option Elab.async false
set_option linter.all false
set_option maxRecDepth 100000
set_option maxHeartbeats 4000000
/-! Facts of a top, each as one Bool of the written part, with what it says. -/
namespace NF
open PySem PySem.Spec PyProof.Rows L2 He RZ
def dG (x : Str) (st : Stmt) : Adr := (fun K => ga K x, ⟨(x, none), x, x, defArgs st, defBody st, defScope st, [], []⟩)
def dGd (x : Str) (st : Stmt) (dfl : List He.Dv) : Adr := (fun K => ga K x, ⟨(x, none), x, x, defArgs st, defBody st, defScope st, dfl, []⟩)
def dM (c m q : Str) (st : Stmt) (dfl : List He.Dv) : Adr := (fun K => ma K (ga K c) m, ⟨(c, some m), m, q, defArgs st, defBody st, defScope st, dfl, []⟩)
def getW (t : String) (c f : Str) (K : PySem.W.Frag) : Addr := match PySem.W.recIn K (ma K (ga K c) f) t with
  | some (.ref g :: _) => g
  | _ => 0
def dP (c m q : Str) (st : Stmt) : Adr := (getW "property" c m, ⟨(c, some m), m, q, defArgs st, defBody st, defScope st, [], []⟩)
def dS (c m q : Str) (st : Stmt) : Adr := (getW "staticmethod" c m, ⟨(c, some m), m, q, defArgs st, defBody st, defScope st, [], []⟩)
def recB (t : String) (c f : Str) (K : PySem.W.Frag) : Bool := match PySem.W.recIn K (ma K (ga K c) f) t with
  | some (.ref _ :: _) => true
  | _ => false
theorem rec_ok {t : String} {c f : Str} {K : PySem.W.Frag} (h : recB t c f K = true) : ∃ rest, PySem.W.recIn K (ma K (ga K c) f) t = some (.ref (getW t c f K) :: rest) := by
  unfold recB at h
  unfold getW
  cases q : PySem.W.recIn K (ma K (ga K c) f) t with
  | none =>
    rw [q] at h
    cases h
  | some l =>
    rw [q] at h
    match l, h with
    | .ref g' :: rest, _ => exact ⟨rest, rfl⟩
/-! ### names -/
def namB (gs fs : List Str) (K : PySem.W.Frag) : Bool := (gs.all fun x => eqO (PySem.W.nsIn K mainGlobals x) (some (some (.ref (ga K x))))) && fs.all fun x => eqO (PySem.W.nsIn K mainGlobals x) (some none)
theorem nam_ok {gs fs : List Str} {K : PySem.W.Frag} {mg : Str → Option Value} {h : Heap} (c : namB gs fs K = true) (X : K.In h) (G : h.Ns mainGlobals mg) : Txt K mg gs fs := by
  obtain ⟨h1, h2⟩ := ba c
  exact ⟨fun x hx => PySem.W.mg_of X G (eqO_ok (List.all_eq_true.mp h1 x hx)), fun x hx => PySem.W.mg_none_of X G (eqO_ok (List.all_eq_true.mp h2 x hx))⟩
def bltB (x : Str) (b : String) (K : PySem.W.Frag) : Bool := eqO (PySem.W.nsIn K mainGlobals x) (some (some (.builtin b)))
theorem blt_ok {x : Str} {b : String} {K : PySem.W.Frag} {mg : Str → Option Value} {h : Heap} (c : bltB x b K = true) (X : K.In h) (G : h.Ns mainGlobals mg) : mg x = some (.builtin b) := PySem.W.mg_of X G (eqO_ok c)
def intB (x : Str) (n : Int) (K : PySem.W.Frag) : Bool := match PySem.W.nsIn K mainGlobals x with
  | some (some (.int m _)) => decide (m = n)
  | _ => false
theorem int_ok {x : Str} {n : Int} {K : PySem.W.Frag} {mg : Str → Option Value} {h : Heap} (c : intB x n K = true) (X : K.In h) (G : h.Ns mainGlobals mg) : ∃ tok, mg x = some (.int n tok) := by
  unfold intB at c
  split at c
  · rename_i m tok q
    have e : m = n := of_decide_eq_true c
    subst e
    exact ⟨tok, PySem.W.mg_of X G q⟩
  · cases c
def strB (x s : Str) (K : PySem.W.Frag) : Bool := match PySem.W.nsIn K mainGlobals x with
  | some (some (.str m _)) => decide (m = s)
  | _ => false
theorem str_ok {x s : Str} {K : PySem.W.Frag} {mg : Str → Option Value} {h : Heap} (c : strB x s K = true) (X : K.In h) (G : h.Ns mainGlobals mg) : ∃ tok, mg x = some (.str s tok) := by
  unfold strB at c
  split at c
  · rename_i m tok q
    have e : m = s := of_decide_eq_true c
    subst e
    exact ⟨tok, PySem.W.mg_of X G q⟩
  · cases c
/-! ### an own exception that keeps its one argument under f -/
structure ExcK (K : PySem.W.Frag) (x f : Str) : Prop where
  xc : ExcC K (ga K x)
  T : OexC K (ga K x)
  i : PySem.W.findIn K (.ref (ga K x)) "__init__" = some (some (.ref (ma K (ga K x) "__init__")))
  t : PySem.W.typeIn K (.ref (ma K (ga K x) "__init__")) = some (.type "function")
  no : PySem.W.findIn K (.ref (ga K x)) f = some none
  xf : XfC K (ga K x)
def excKB (x f : Str) (K : PySem.W.Frag) : Bool := (excB K (ga K x) && (oexB K (ga K x) && eqO (PySem.W.findIn K (.ref (ga K x)) "__init__") (some (some (.ref (ma K (ga K x) "__init__")))))) &&
  (decide (PySem.W.typeIn K (.ref (ma K (ga K x) "__init__")) = some (.type "function")) && (eqO (PySem.W.findIn K (.ref (ga K x)) f) (some none) && xfB K (ga K x)))
theorem excK_ok {x f : Str} {K : PySem.W.Frag} (h : excKB x f K = true) : ExcK K x f := by
  obtain ⟨h1, h2⟩ := ba h
  obtain ⟨a1, h1⟩ := ba h1
  obtain ⟨a2, a3⟩ := ba h1
  obtain ⟨a4, h2⟩ := ba h2
  obtain ⟨a5, a6⟩ := ba h2
  exact ⟨excB_ok a1, oexB_ok a2, eqO_ok a3, of_decide_eq_true a4, eqO_ok a5, xfB_ok a6⟩
theorem ExcK.excI {P : Program} {w : World} {K : PySem.W.Frag} {mg : Str → Option Value} {base : Heap} {x f q : Str} {gs fs : List Str} {pa : Arguments} {bd : List Stmt} {sc : Scope} {fd : FuncData} {q1 q2 q3 q4 : Pos} (e : ExcK K x f) (T : Txt K mg gs fs) (hx : x ∈ gs)
    (F : FunD K "__init__" q pa bd sc [] [] (ma K (ga K x) "__init__") fd) (hb : bd = bodyE f q1 q2 q3 q4) (S : FnScope ["self", f] ["self", f] sc)
    (hv0 : Vis sc "self") (hv1 : Vis sc f) (hd : (f == ("__debug__" : Str)) = false) (hcd : (f == ("__classdict__" : Str)) = false) (b : Binds K fd ["self", f] []) : ExcI P w K mg base x f :=
  ⟨e.T, ⟨_, fd, e.i, e.t, ok_exc (x := x) F hb S e.T e.no hv0 hv1 hd hcd, b⟩, T.gl x hx⟩
/-! ### which class is under which -/
def kitPB (ps : List (Str × Str × Bool)) (K : PySem.W.Frag) : Bool := ps.all fun p => decide (PySem.W.kitOne K (.ref (ga K p.1)) (.ref (ga K p.2.1)) = some p.2.2)
theorem kitP_ok {ps : List (Str × Str × Bool)} {K : PySem.W.Frag} (h : kitPB ps K = true) {x y : Str} {b : Bool} (m : (x, y, b) ∈ ps) : PySem.W.kitOne K (.ref (ga K x)) (.ref (ga K y)) = some b := of_decide_eq_true (List.all_eq_true.mp h _ m)
def exmPB (ps : List (Str × Str × Bool)) (K : PySem.W.Frag) : Bool := ps.all fun p => decide (PySem.W.exmOne K (.ref (ga K p.1)) (.ref (ga K p.2.1)) = some p.2.2)
theorem exmP_ok {ps : List (Str × Str × Bool)} {K : PySem.W.Frag} (h : exmPB ps K = true) {x y : Str} {b : Bool} (m : (x, y, b) ∈ ps) : PySem.W.exmOne K (.ref (ga K x)) (.ref (ga K y)) = some b := of_decide_eq_true (List.all_eq_true.mp h _ m)
/-! ### an own class -/
def clsB (c : Str) (K : PySem.W.Frag) : Bool := (PySem.W.plainGet K (ga K c) Str.empty && PySem.W.hasDictIn K (ga K c)) && (PySem.W.plainOver K (ga K c) && eqO (PySem.W.findIn K (.ref (ga K c)) "__setattr__") (some (some (.builtin "object.__setattr__"))))
theorem cls_ok {c : Str} {K : PySem.W.Frag} (h : clsB c K = true) : Cls K (ga K c) := by
  obtain ⟨h1, h2⟩ := ba h
  obtain ⟨a1, a2⟩ := ba h1
  obtain ⟨a3, a4⟩ := ba h2
  exact ⟨a1, a2, a3, eqO_ok a4⟩
def fldsB (c : Str) (fs : List Str) (K : PySem.W.Frag) : Bool := fs.all fun f => eqO (PySem.W.findIn K (.ref (ga K c)) f) (some none)
theorem flds_ok {c : Str} {fs : List Str} {K : PySem.W.Frag} (h : fldsB c fs K = true) {f : Str} (m : f ∈ fs) : PySem.W.findIn K (.ref (ga K c)) f = some none := eqO_ok (List.all_eq_true.mp h f m)
structure TyC (K : PySem.W.Frag) (C : Addr) : Prop where
  ac : PySem.W.findIn K (.ref C) "__class__" = some (some (.builtin "object.__class__"))
  ag : PySem.W.specialIn K (.builtin "object.__class__") "__get__" = some (some (.builtin "getset_descriptor.__get__"))
  at_ : PySem.W.takesIn K (.builtin "object.__class__") = some true
  am : PySem.W.mroIn K C (.type "object") = some true
  self : PySem.W.kitOne K (.ref C) (.ref C) = some true
  tup : PySem.W.kitOne K (.type "tuple") (.ref C) = some false
  int : PySem.W.kitOne K (.type "int") (.ref C) = some false
  non : PySem.W.kitOne K (.type "NoneType") (.ref C) = some false
def tyB (c : Str) (K : PySem.W.Frag) : Bool := ((eqO (PySem.W.findIn K (.ref (ga K c)) "__class__") (some (some (.builtin "object.__class__"))) && eqO (PySem.W.specialIn K (.builtin "object.__class__") "__get__") (some (some (.builtin "getset_descriptor.__get__")))) &&
  (decide (PySem.W.takesIn K (.builtin "object.__class__") = some true) && decide (PySem.W.mroIn K (ga K c) (.type "object") = some true))) &&
  ((decide (PySem.W.kitOne K (.ref (ga K c)) (.ref (ga K c)) = some true) && decide (PySem.W.kitOne K (.type "tuple") (.ref (ga K c)) = some false)) && (decide (PySem.W.kitOne K (.type "int") (.ref (ga K c)) = some false) && decide (PySem.W.kitOne K (.type "NoneType") (.ref (ga K c)) = some false)))
theorem ty_ok {c : Str} {K : PySem.W.Frag} (h : tyB c K = true) : TyC K (ga K c) := by
  obtain ⟨h1, h2⟩ := ba h
  obtain ⟨t1, t2⟩ := ba h1
  obtain ⟨t1, t3⟩ := ba t1
  obtain ⟨t2, t4⟩ := ba t2
  obtain ⟨k1, k2⟩ := ba h2
  obtain ⟨k1, k3⟩ := ba k1
  obtain ⟨k2, k4⟩ := ba k2
  exact ⟨eqO_ok t1, eqO_ok t3, of_decide_eq_true t2, of_decide_eq_true t4, of_decide_eq_true k1, of_decide_eq_true k3, of_decide_eq_true k2, of_decide_eq_true k4⟩
def nfB (c : Str) (ts : List String) (K : PySem.W.Frag) : Bool := ts.all fun t => PySem.W.notFirst K (ga K c) (.type t)
theorem nf_ok {c : Str} {ts : List String} {K : PySem.W.Frag} (h : nfB c ts K = true) {t : String} (m : t ∈ ts) : PySem.W.notFirst K (ga K c) (.type t) = true := List.all_eq_true.mp h t m
def mkB (c : Str) (K : PySem.W.Frag) : Bool := (PySem.W.makesIn K (ga K c) && eqO (PySem.W.findIn K (.ref (ga K c)) "__init__") (some (some (.ref (ma K (ga K c) "__init__"))))) && (PySem.W.isFn K (.ref (ma K (ga K c) "__init__")) && PySem.W.keepIn K (.ref (ga K c)))
theorem mk_ok {c : Str} {K : PySem.W.Frag} (h : mkB c K = true) : Mk K (ga K c) (ma K (ga K c) "__init__") := by
  obtain ⟨m1, m2⟩ := ba h
  obtain ⟨m1, m3⟩ := ba m1
  obtain ⟨m2, m4⟩ := ba m2
  exact ⟨m1, eqO_ok m3, m2, m4⟩
def callB (c : Str) (K : PySem.W.Frag) : Bool := eqO (PySem.W.findIn K (.ref (ga K c)) "__call__") (some (some (.ref (ma K (ga K c) "__call__")))) && (PySem.W.isFn K (.ref (ma K (ga K c) "__call__")) && PySem.W.fnIn K (ma K (ga K c) "__call__"))
theorem call_ok {c : Str} {K : PySem.W.Frag} (h : callB c K = true) : StX.CallO K (ga K c) (ma K (ga K c) "__call__") := by
  obtain ⟨g1, g2⟩ := ba h
  obtain ⟨g2, g3⟩ := ba g2
  exact ⟨eqO_ok g1, g2, g3⟩
structure EqM (K : PySem.W.Frag) (C : Addr) : Prop where
  e1 : PySem.W.findIn K (.ref C) "__eq__" = some (some (.ref (ma K C "__eq__")))
  e2 : PySem.W.isFn K (.ref (ma K C "__eq__")) = true
  e3 : plObjB K C (ma K C "__eq__") = true
def eqB (c : Str) (K : PySem.W.Frag) : Bool := (eqO (PySem.W.findIn K (.ref (ga K c)) "__eq__") (some (some (.ref (ma K (ga K c) "__eq__")))) && PySem.W.isFn K (.ref (ma K (ga K c) "__eq__"))) && plObjB K (ga K c) (ma K (ga K c) "__eq__")
theorem eq_ok {c : Str} {K : PySem.W.Frag} (h : eqB c K = true) : EqM K (ga K c) := by
  obtain ⟨e1, e2⟩ := ba h
  obtain ⟨e1, e3⟩ := ba e1
  exact ⟨eqO_ok e1, e3, e2⟩
def propB (c f : Str) (K : PySem.W.Frag) : Bool := (eqO (PySem.W.findIn K (.ref (ga K c)) f) (some (some (.ref (ma K (ga K c) f)))) && eqO (PySem.W.specialIn K (.ref (ma K (ga K c) f)) "__get__") (some (some (.builtin "property.__get__")))) &&
  (decide (PySem.W.takesIn K (.ref (ma K (ga K c) f)) = some true) && recB "property" c f K)
theorem prop_ok {c f : Str} {K : PySem.W.Frag} (h : propB c f K = true) : PropOf K (ga K c) f (ma K (ga K c) f) (getW "property" c f K) := by
  obtain ⟨h1, h2⟩ := ba h
  obtain ⟨h1, h3⟩ := ba h1
  obtain ⟨h2, h4⟩ := ba h2
  exact ⟨eqO_ok h1, eqO_ok h3, of_decide_eq_true h2, rec_ok h4⟩
def staB (c m : Str) (K : PySem.W.Frag) : Bool := (decide (PySem.W.typeIn K (.ref (ga K c)) = some (.type "type")) && (PySem.W.readsIn K (ga K c) (.type "type") && eqO (PySem.W.specialIn K (.ref (ga K c)) "__getattribute__") (some (some (.builtin "type.__getattribute__"))))) &&
  ((match PySem.W.findCls K (.ref (ga K c)) (.type "type") m with
    | some (.get g a o t) => decide (g = .builtin "staticmethod.__get__") && (decide (a = .ref (ma K (ga K c) m)) && (decide (o = .none) && decide (t = .ref (ga K c))))
    | _ => false) && (recB "staticmethod" c m K && PySem.W.keepIn K (.ref (getW "staticmethod" c m K))))
theorem sta_ok {c m : Str} {K : PySem.W.Frag} (h : staB c m K = true) : SMet K (ga K c) (.type "type") m (ma K (ga K c) m) (getW "staticmethod" c m K) := by
  obtain ⟨h1, h2⟩ := ba h
  obtain ⟨a1, h1⟩ := ba h1
  obtain ⟨a2, a3⟩ := ba h1
  obtain ⟨a4, h2⟩ := ba h2
  obtain ⟨a5, a6⟩ := ba h2
  refine ⟨of_decide_eq_true a1, a2, eqO_ok a3, ?_, rec_ok a5, a6⟩
  split at a4
  · rename_i g a o t q
    obtain ⟨b1, a4⟩ := ba a4
    obtain ⟨b2, a4⟩ := ba a4
    obtain ⟨b3, b4⟩ := ba a4
    rw [q, of_decide_eq_true b1, of_decide_eq_true b2, of_decide_eq_true b3, of_decide_eq_true b4]
  · cases a4
/-! ### a default that is an empty tuple -/
def e0B (e0 : PySem.W.Frag → Addr) (K : PySem.W.Frag) : Bool := match K.lookup (e0 K) with
  | some ⟨.type c, _, .seq its _, _⟩ => decide (c = "tuple") && decide (its.toList = [])
  | _ => false
theorem e0_ok {e0 : PySem.W.Frag → Addr} {K : PySem.W.Frag} (h : e0B e0 K = true) (H : Hp) : SqT K H (e0 K) [] := by
  unfold e0B at h
  split at h
  · rename_i c dd its n sl q
    obtain ⟨h1, h2⟩ := ba h
    have e : its.toList = [] := of_decide_eq_true h2
    refine .inr ⟨_, its, n, q, congrArg Value.type (of_decide_eq_true h1), rfl, ?_, ?_⟩
    · rw [← Array.length_toList, e]
      exact Nat.zero_le _
    · rw [e]
      exact .nil
  · cases h
/-! ### the hook, with the classes' statics beside -/
def obsQG (n : Nat) (ex : PySem.W.Frag → Bool) (fn : List Adr) (g : Addr → Option Obj) : AlD := obsP ex fn (frG g (asD g n ++ [cStatics]))
def hookQ (n : Nat) (ex : PySem.W.Frag → Bool) (fn : List Adr) : PySem.W.Hook where
  α := AlD
  obs := fun s => obsQG n ex fn s.heap.get?
  val := fun _ => valP fn
  says := fun _ h => ∃ K : PySem.W.Frag, K.In h ∧ SaysP ex fn K
  of := fun _ _ e => ⟨_, frG_in, e⟩
  keeps := fun _ _ _ ⟨K, hK, c⟩ k => ⟨K, PySem.W.Frag.In.keeps hK k, c⟩
theorem obsQG_eq {n : Nat} {ex : PySem.W.Frag → Bool} {fn : List Adr} {g : Addr → Option Obj} {s : Shared} (h : ∀ a, g a = s.heap.get? a) : obsQG n ex fn g = (hookQ n ex fn).obs s := by
  have e : g = s.heap.get? := funext h
  rw [e] <;> rfl
end NF
set_option Elab.async false
set_option linter.all false
set_option maxRecDepth 100000
set_option maxHeartbeats 4000000
/-! Own binary operators of a class: x * y, x & y, x | y, both instances of it. -/
namespace NF
open PySem PySem.Spec PyProof.Rows L2 He RZ NT
def rBinO (C : Addr) (sp : Sp) : R2 := fun x y H Q => ∃ a dx fs b dy gs, x = .ref a ∧ H a = some (.ins C dx fs) ∧ y = .ref b ∧ H b = some (.ins C dy gs) ∧ sp [.ref a, .ref b] H Q E0
structure OpM (K : PySem.W.Frag) (C f : Addr) (nm : Str) : Prop where
  o1 : PySem.W.findIn K (.ref C) nm = some (some (.ref f))
  o2 : PySem.W.isFn K (.ref f) = true
  o3 : PySem.W.selfFirst K C = true
/-- a class with an own operator, and how its instances' type is read -/
structure OpC (P : Program) (w : World) (K : PySem.W.Frag) (mg : Str → Option Value) (base : Heap) (k : Nat) (C : Addr) (nm : Str) (sp : Sp) : Prop where
  cl : Cls K C
  ac : PySem.W.findIn K (.ref C) "__class__" = some (some (.builtin "object.__class__"))
  ag : PySem.W.specialIn K (.builtin "object.__class__") "__get__" = some (some (.builtin "getset_descriptor.__get__"))
  at_ : PySem.W.takesIn K (.builtin "object.__class__") = some true
  am : PySem.W.mroIn K C (.type "object") = some true
  ex : ∃ (f : Addr) (fd : FuncData) (ps : List Str), FnOk P w K mg base CX0 k f fd ps sp ∧ OpM K C f nm ∧ Binds K fd ps []
theorem op_bin {X : Cx} {k j : Nat} {C : Addr} {sp : Sp} {op : Operator} {nm : Str} (c : OpC X.prog X.w X.K X.mg X.base k C nm sp) (hr : Room j X.A) (hk : k ≤ j) (hnm : PySem.dunder op.info.2 = nm := by rfl) : OpR X (binaryOp op) (rBinO C sp) := by
  obtain ⟨f, fd, ps, F, ⟨hs, hf, hc⟩, hb⟩ := c.ex
  intro pins s σ H x y v u Q I rx ry h
  obtain ⟨a, dx, fs, b, dy, gs, rfl, ha, rfl, hb2, q⟩ := h
  cases rx
  obtain ⟨mA, O, _⟩ := ins_get I.hok ha
  obtain ⟨od, J, _⟩ := O.look
  obtain ⟨m, hF⟩ := I.fr
  obtain ⟨P, Z, p, _⟩ := kit_of I ry (.base (.ins hb2 c.cl c.ac c.ag c.at_ c.am))
  cases ry
  show wpAny (model X.prog X.w) X.A (binaryOp op (.ref a) (.ref b)) (EP X pins σ Q) X.xe s
  refine PySem.W.binop_K hF I.ok.mod.kin J (Z.ty _ _ I.kIn p) hc (by rw [hnm]; exact hs) hf ?_
  have r2 : Vals [V.ref a, V.ref b] [Value.ref a, Value.ref b] := .cons rfl (.cons rfl .nil)
  refine wpAny_mono (run_fn (us := [.ref a, .ref b]) (vs := [.ref a, .ref b]) F (hr.mono hk) hb .nil pass0 I r2 q) (fun r s' z => ?_) fun _ _ e => e
  obtain ⟨z, H', I', rz, q'⟩ := z
  have hni : r ≠ .notImplemented := fun e => by
    subst e
    cases z with
    | int i => obtain ⟨t, e⟩ := (show ∃ t, Value.notImplemented = Value.int i t from rz); cases e
    | str i => obtain ⟨t, e⟩ := (show ∃ t, Value.notImplemented = Value.str i t from rz); cases e
    | byt i => obtain ⟨t, e⟩ := (show ∃ t, Value.notImplemented = Value.bytes i t from rz); cases e
    | flt i => obtain ⟨t, e⟩ := (show ∃ t, Value.notImplemented = Value.float i t from rz); cases e
    | _ => cases rz
  unfold PySem.W.CmpBack
  split
  · exact hni rfl
  · exact ⟨z, H', I', rz, q'⟩
end NF
set_option Elab.async false
set_option linter.all false
set_option maxRecDepth 100000
set_option maxHeartbeats 4000000
namespace NF
open PySem PySem.Spec PyProof.Rows L2 He RZ NT
def binB (c m : Str) (K : PySem.W.Frag) : Bool := eqO (PySem.W.findIn K (.ref (ga K c)) m) (some (some (.ref (ma K (ga K c) m)))) && (PySem.W.isFn K (.ref (ma K (ga K c) m)) && PySem.W.selfFirst K (ga K c))
theorem bin_ok {c m : Str} {K : PySem.W.Frag} (h : binB c m K = true) : OpM K (ga K c) (ma K (ga K c) m) m := by
  obtain ⟨h1, h2⟩ := ba h
  obtain ⟨h2, h3⟩ := ba h2
  exact ⟨eqO_ok h1, h2, h3⟩
end NF
set_option Elab.async false
set_option linter.all false
set_option maxRecDepth 100000
set_option maxHeartbeats 0
namespace K10
open PySem PySem.Spec PyProof.Rows L2 He NF RZ
def top (i : Nat) : Stmt := PySem.Challenge.pw_needforth_k10_whole_tables_read.main.body.getD i (.Pass ⟨0, 0, 0, 0⟩)
abbrev s__wall : Stmt := top 1
abbrev s_BadText_init : Stmt := inClass (top 5) 0
abbrev s_BadCount_init : Stmt := inClass (top 6) 0
abbrev s_BadTable_init : Stmt := inClass (top 7) 0
abbrev s_end_of : Stmt := top 10
abbrev s_value_at : Stmt := top 11
abbrev s_values_from : Stmt := top 12
abbrev s_many_at_most : Stmt := top 13
abbrev s_last_at_most : Stmt := top 14
abbrev s_shortest_lap : Stmt := top 15
abbrev s_plain_form : Stmt := top 16
abbrev s_settled_form : Stmt := top 17
abbrev s_spread : Stmt := top 18
abbrev s_ladder_of : Stmt := top 20
abbrev s_least_in : Stmt := top 21
abbrev s_first_under : Stmt := top 22
abbrev s_last_under : Stmt := top 23
abbrev s_Chase_init : Stmt := inClass (top 24) 0
abbrev s_Chase_ladder_from : Stmt := inClass (top 24) 1
abbrev s_Chase_runners_of : Stmt := inClass (top 24) 2
abbrev s_Chase_greatest_lead : Stmt := inClass (top 24) 3
abbrev s_Chase_first_lead : Stmt := inClass (top 24) 4
abbrev s_Chase_last_lead : Stmt := inClass (top 24) 5
abbrev s_Chase_place_of : Stmt := inClass (top 24) 6
abbrev s_drift_of : Stmt := top 25
abbrev s_longest_head : Stmt := top 26
abbrev s_values_behind : Stmt := top 28
abbrev s_behind_form : Stmt := top 29
abbrev s_chosen : Stmt := top 30
abbrev s_settling : Stmt := top 31
abbrev s_joined_form : Stmt := top 32
abbrev s_both_form : Stmt := top 33
abbrev s_either_form : Stmt := top 34
abbrev s_turn_form : Stmt := top 35
abbrev s_is_integer : Stmt := top 37
abbrev s_is_count : Stmt := top 38
abbrev s_is_row : Stmt := top 39
abbrev s_is_climb : Stmt := top 40
abbrev s_check_table : Stmt := top 42
abbrev s_Table_init : Stmt := inClass (top 43) 0
abbrev s_Table_eq : Stmt := inClass (top 43) 1
abbrev s_Table_call : Stmt := inClass (top 43) 2
abbrev s_Table_end : Stmt := inClass (top 43) 3
abbrev s_Table_rate : Stmt := inClass (top 43) 4
abbrev s_Table_steady : Stmt := inClass (top 43) 5
abbrev s_Table_shift : Stmt := inClass (top 43) 6
abbrev s_Table_mul : Stmt := inClass (top 43) 7
abbrev s_Table_and : Stmt := inClass (top 43) 8
abbrev s_Table_or : Stmt := inClass (top 43) 9
abbrev s_Table_invert : Stmt := inClass (top 43) 10
abbrev s_write_table : Stmt := top 46
abbrev s_is_number : Stmt := top 47
abbrev s_climb_at : Stmt := top 48
abbrev s_check_word : Stmt := top 49
abbrev s_check_end : Stmt := top 50
abbrev s_read_table : Stmt := top 51
abbrev s__law_source : Stmt := top 53
abbrev s__law_pick : Stmt := top 54
abbrev s__law_is_integer : Stmt := top 55
abbrev s__law_is_count : Stmt := top 56
abbrev s__law_rising : Stmt := top 57
abbrev s__law_raw : Stmt := top 58
abbrev s__law_end : Stmt := top 59
abbrev s__law_at : Stmt := top 60
abbrev s__law_gcd : Stmt := top 61
abbrev s__law_plain : Stmt := top 62
abbrev s__law_fit : Stmt := top 63
abbrev s__law_counts : Stmt := top 64
abbrev s__law_behind : Stmt := top 65
abbrev s__law_same : Stmt := top 66
abbrev s__law_table : Stmt := top 67
abbrev s__law_great : Stmt := top 68
abbrev s__law_text : Stmt := top 69
abbrev s__law_telling : Stmt := top 70
abbrev s_law : Stmt := top 71
def FS : List Str := ["len", "int", "abs", "range", "isinstance", "all", "bool", "tuple", "list", "zip", "divmod", "max", "min", "enumerate", "str", "sum", "sorted", "dict", "set"]
end K10
set_option Elab.async false
set_option linter.all false
set_option maxRecDepth 100000
set_option maxHeartbeats 0
namespace K10
open PySem PySem.Spec PyProof.Rows L2 He NF RZ
def e0 (K : PySem.W.Frag) : Addr := He.dflAt ("Table", some "__init__") 0 K
def fn : List Adr := ([dG "shortest_lap" s_shortest_lap, dG "plain_form" s_plain_form, dG "is_integer" s_is_integer, dG "is_count" s_is_count, dG "is_row" s_is_row, dG "is_climb" s_is_climb, dG "check_table" s_check_table, dM "Table" "__init__" "Table.__init__" s_Table_init [.adr e0, .int 0], dG "end_of" s_end_of, dG "value_at" s_value_at, dM "Table" "__call__" "Table.__call__" s_Table_call [], dP "Table" "end" "Table.end" s_Table_end, dM "Table" "__eq__" "Table.__eq__" s_Table_eq [], dG "_law_pick" s__law_pick, dG "_law_source" s__law_source, dG "_law_is_integer" s__law_is_integer, dG "_law_is_count" s__law_is_count, dG "_law_end" s__law_end, dG "_law_at" s__law_at, dG "_law_gcd" s__law_gcd] : List Adr) ++ ([dG "_law_rising" s__law_rising, dG "_law_raw" s__law_raw, dG "_law_plain" s__law_plain, dG "_law_plain" s__law_plain, dG "_law_table" s__law_table, dG "_law_same" s__law_same, dG "_law_telling" s__law_telling, dG "is_number" s_is_number, dG "climb_at" s_climb_at, dG "check_word" s_check_word, dG "check_end" s_check_end, dG "read_table" s_read_table, dG "many_at_most" s_many_at_most, dG "last_at_most" s_last_at_most, dG "values_from" s_values_from, dG "values_behind" s_values_behind, dG "settled_form" s_settled_form, dG "behind_form" s_behind_form, dM "Table" "__mul__" "Table.__mul__" s_Table_mul [], dG "_law_counts" s__law_counts] : List Adr) ++ ([dG "_law_fit" s__law_fit, dG "_law_behind" s__law_behind, dG "_law_great" s__law_great, dG "_law_text" s__law_text, dG "write_table" s_write_table, dG "law" s_law, dM "BadText" "__init__" "BadText.__init__" s_BadText_init []] : List Adr)
def gs : List Str := (["shortest_lap", "plain_form", "is_integer", "is_count", "is_row", "is_climb", "check_table", "end_of", "value_at", "_law_pick", "_law_source", "_law_is_integer", "_law_is_count", "_law_end", "_law_at", "_law_gcd", "_law_rising", "_law_raw", "_law_plain", "_law_table", "_law_same", "_law_telling", "is_number", "climb_at", "check_word"] : List Str) ++ (["check_end", "read_table", "many_at_most", "last_at_most", "values_from", "values_behind", "settled_form", "behind_form", "_law_counts", "_law_fit", "_law_behind", "_law_great", "_law_text", "write_table", "law", "NeedforthError", "Unreadable", "BadText", "BadCount", "BadTable", "Chase", "Table"] : List Str)
def exL : List (PySem.W.Frag → Bool) := [namB gs FS, bltB "gcd" "math.gcd", intB "MOST_FIGURES" 60, strB "FIGURES" "0123456789", excKB "BadText" "place", clsB "Table", fldsB "Table" ["head", "loop", "rise"], tyB "Table", mkB "Table", eqB "Table", e0B e0, callB "Table", propB "Table" "end", binB "Table" "__mul__"]
def exB (K : PySem.W.Frag) : Bool := exL.all fun f => f K
end K10
set_option Elab.async false
set_option linter.all false
set_option maxRecDepth 100000
set_option maxHeartbeats 0
namespace K10
open PySem PySem.Spec PyProof.Rows L2 He NF
abbrev R : PySem.W.OpenRow := PySem.W.OpenLaw.row PySem.Challenge.rw_needforth_k10_whole_tables_read
abbrev hk : PySem.W.Hook := hookQ 5 exB fn
def ob (s : PySem.W.SharedT) : He.AlD := obsQG 5 exB fn (HandSHeadRun.getT s)
theorem ob_eq (s : PySem.W.SharedT) : ob s = hk.obs s.abs := obsQG_eq (HandSHeadRun.getT_eq s)
def loose : List Str := (["_wall", "__name__", "NeedforthError", "Unreadable", "BadText", "BadCount", "BadTable", "FIGURES", "end_of", "value_at", "values_from", "many_at_most", "last_at_most", "shortest_lap", "plain_form", "settled_form", "spread", "ladder_of", "least_in", "first_under", "last_under", "Chase", "drift_of", "longest_head", "values_behind"] : List Str) ++ (["behind_form", "chosen", "settling", "joined_form", "both_form", "either_form", "turn_form", "is_integer", "is_count", "is_row", "is_climb", "check_table", "Table", "MOST_FIGURES", "write_table", "is_number", "climb_at", "check_word", "check_end", "read_table", "_law_source", "_law_pick", "_law_is_integer", "_law_is_count", "_law_rising"] : List Str) ++ (["_law_raw", "_law_end", "_law_at", "_law_gcd", "_law_plain", "_law_fit", "_law_counts", "_law_behind", "_law_same", "_law_table", "_law_great", "_law_text", "_law_telling"] : List Str)
theorem run (w : World) : HandSHeadRun.RunEqI R (PySem.W.view R.prog [0, 71]) hk ob 12000 loose w := by
  show _ = _
  kernel_rfl
end K10
set_option Elab.async false
set_option linter.all false
set_option maxRecDepth 100000
set_option maxHeartbeats 4000000
namespace K10
open PySem PySem.Spec PyProof.Rows L2 He NF RZ NT
/-- the shortest lap of a loop -/
def spLap (K : PySem.W.Frag) : Sp := fun vs H Q _ => ∃ (a : Addr) (l : List Int) (r : Int), vs = [.ref a, .int r] ∧ SqT K H a (vI l) ∧ l ≠ [] ∧ l.length ≤ 1000 ∧ ∀ m H', LapIs l r m → Same H H' → Q (.int (m : Int)) H'
theorem sc_shortest_lap : FnScope ["loop", "rise", "following", "steps", "many", "entry", "later"] ["loop", "rise"] (defScope s_shortest_lap) := ⟨rfl, rfl, rfl, by decide +kernel, rfl, by decide +kernel, by decide +kernel⟩
theorem following_is {l : List Int} {r : Int} (hl : l ≠ []) : cutV (vI l) (some 1) none ++ [V.int (l.getD 0 0 + r)] = vI ((List.range l.length).map fun k => walk l r (k + 1)) := by
  rw [show (1 : Int) = ((1 : Nat) : Int) from rfl, cut_from]
  have hp := len_pos hl
  refine List.ext_getElem? fun k => ?_
  simp only [vI, List.getElem?_map]
  by_cases c : k + 1 < l.length
  · rw [List.getElem?_append_left (by rw [List.length_drop, List.length_map]; omega), List.getElem?_drop, List.getElem?_map, List.getElem?_range (by omega), List.getElem?_eq_getElem (show 1 + k < l.length by omega)]
    simp only [Option.map_some]
    rw [walk_i c, List.getD_eq_getElem?_getD, List.getElem?_eq_getElem c]
    simp only [Option.getD_some, Option.some.injEq, V.int.injEq]
    congr 1
    omega
  · by_cases c2 : k + 1 = l.length
    · rw [List.getElem?_append_right (by rw [List.length_drop, List.length_map]; omega), List.length_drop, List.length_map, show k - (l.length - 1) = 0 by omega, List.getElem?_range (by omega)]
      simp only [Option.map_some, List.getElem?_cons_zero]
      rw [show k + 1 = 0 + l.length by omega, walk_add hp, walk_i hp]
    · rw [List.getElem?_eq_none (by rw [List.length_append, List.length_drop, List.length_map, List.length_singleton]; omega), List.getElem?_eq_none (by rw [List.length_range]; omega)]
      rfl
theorem steps_get {l : List Int} {r : Int} {k : Nat} (h : k < l.length) : (vI (steps l r))[k]? = some (V.int (walk l r (k + 1) - l.getD k 0)) := by
  unfold steps
  simp only [vI, List.getElem?_map]
  rw [List.getElem?_range h]
  simp only [Option.map_some, sk]
  rw [walk_i h]
section
variable {P : Program} {w : World} {K : PySem.W.Frag} {mg : Str → Option Value} {base : Heap} {gs fs : List Str}
theorem ok_shortest_lap {f : Addr} {fd : FuncData} (F : FunD K "shortest_lap" "shortest_lap" (defArgs s_shortest_lap) (defBody s_shortest_lap) (defScope s_shortest_lap) [] [] f fd) (T : Txt K mg gs fs) (hfs : fs = FS) : FnOk P w K mg base CX0 1 f fd ["loop", "rise"] (spLap K) := by
  subst hfs
  refine F.ok sc_shortest_lap (fun vs H Q E h => ?_) (fun cdv A outer s H vs Q E hr h => ?_)
  · obtain ⟨a, l, r, rfl, _⟩ := h
    rfl
  · obtain ⟨a, l, r, rfl, ha, hl, hz, q⟩ := h
    have hu : (A.deeper (envOfC "shortest_lap" (defScope s_shortest_lap) s.heap.objs.size f cdv)).units + 64 < cLine := by
      have := hr.un
      omega
    have hp := len_pos hl
    refine ⟨_, PSs.nox (pss_cons (ps_set (i := 2) sc_shortest_lap.nd rfl (Or.inl rfl) (pe_op op_catA (pe_slice sl_tupA (pv 0) (po_some pe_int) po_none) (pe_tup (pa_cons (pe_op op_add (pe_ix (ixt (K := K)) (pv 0) pe_int fun _ _ => rfl) (pv 1)) pa_nil)))) (pss_cons (ps_setLc (i := 3) (own := [("entry", 5), ("later", 6)]) rfl sc_shortest_lap.nd rfl rfl (sw_true rfl rfl rfl (by decide +kernel)) (pi_zipA rfl (T.fr _ (by decide +kernel)) (pa_cons (pv 0) (pa_cons (pv 2) pa_nil))) (blkOk_by (N := ["loop", "rise", "following", "steps", "many", "entry", "later"]) (sc := defScope s_shortest_lap) (by decide +kernel)) (fun _ _ _ _ _ => by exact (pgt (K := K) (n := 2) rfl rfl (pgs_cons (pg_name (i := 5) sc_shortest_lap.nd rfl (Or.inl rfl)) (pgs_cons (pg_name (i := 6) sc_shortest_lap.nd rfl (Or.inl rfl)) pgs_nil)))) (fun _ _ _ _ _ => by exact pts_nil) (fun _ _ _ _ _ => by exact (pe_op op_sub (pv 6) (pv 5)))) (pss_cons (ps_for PassesOwn.never rfl (pi_range2 rfl (T.fr _ (by decide +kernel)) (pa_cons pe_int (pa_cons (pe_op op_add (pe_op op_fdiv (pe_callB call_len_seq rfl (T.fr _ (by decide +kernel)) boot_len (pa_cons (pv 3) pa_nil)) pe_int) pe_int) pa_nil))) (pg_name (i := 4) sc_shortest_lap.nd rfl (Or.inl rfl)) (pss_one (ps_if (PW.pt (pw_and (pt_cmpR op_eq (pe_op op_mod (pe_callB call_len_seq rfl (T.fr _ (by decide +kernel)) boot_len (pa_cons (pv 3) pa_nil)) (pv 4)) pe_int (nomark _)) (pw_and1 (pt_cmpR (op_eqD hu) (pe_slice sl_list (pv 3) (po_some (pv 4)) po_none) (pe_slice sl_list (pv 3) po_none (po_some (pe_un un_neg (pv 4)))) (nomark _))))) (pss_one (ps_ret (pv 4))) pss_nil))) (pss_one (ps_ret (pe_callB call_len_seq rfl (T.fr _ (by decide +kernel)) boot_len (pa_cons (pv 3) pa_nil))))))), ?_⟩
    refine ⟨_, rfl, _, rfl, ?_⟩
    refine slA_from (K := K) ha fun p1 H1 s1 t1 => ?_
    refine ⟨_, rfl, a, _, 0, _, rfl, rfl, NF.Same.tup s1 ha, at_int (k := 0) rfl hp, _, rfl, _, _, rfl, rfl, (by show 1 ≤ sizeLine; decide), fun p2 hp2 => ?_⟩
    refine catA_done (NF.Same.tup (NF.Same.new (Same.refl _) hp2) t1) (SqT.of upd_same) ?_ fun p3 H3 s3 t3 => ?_
    · have : (cutV (vI l) (some 1) none).length = l.length - 1 := by
        rw [show (1 : Int) = ((1 : Nat) : Int) from rfl, cut_from, List.length_drop, List.length_map]
      rw [this]
      exact Nat.le_trans (show l.length - 1 + 1 ≤ 1001 by omega) (by decide)
    rw [following_is hl] at t3
    have s03 : Same H H3 := Same.trans s1 (Same.trans (NF.Same.new (Same.refl _) hp2) s3)
    refine ⟨_, rfl, _, rfl, a, p3, _, _, rfl, Or.inr ⟨NF.Same.tup s03 ha, t3, fun D hD => ?_⟩⟩
    have hsl : (vI (steps l r)).length = l.length := by unfold steps; simp
    refine lc_zipT (by simp) (fun i G => Same H3 G ∧ G D = some (.lst ((vI (steps l r)).take i))) ⟨NF.Same.new (Same.refl _) hD, upd_same⟩ (fun i G z => ⟨NF.Same.tup (Same.trans s03 z.1) ha, NF.Same.tup z.1 t3⟩) ?_ ?_
    · rintro i x y U G hx hy ⟨hG, hD2⟩ hU
      have hi : i < l.length := by
        have := (List.getElem?_eq_some_iff.mp hx).1
        rw [List.length_map] at this
        exact this
      obtain rfl : x = V.int (l.getD i 0) := by
        rw [List.getElem?_map, List.getElem?_eq_getElem hi] at hx
        rw [List.getD_eq_getElem?_getD, List.getElem?_eq_getElem hi]
        exact (Option.some.inj hx).symm
      obtain rfl : y = V.int (walk l r (i + 1)) := by
        rw [List.getElem?_map, List.getElem?_map, List.getElem?_range hi] at hy
        exact (Option.some.inj hy).symm
      refine ⟨U, _, rfl, SqT.of upd_same, rfl, _, _, rfl, _, _, rfl, rfl, rfl, ?_⟩
      refine ⟨_, rfl, _, rfl, _, _, rfl, rfl, (vI (steps l r)).take i, ?_, ?_, ?_, ?_⟩
      · rw [upd_ne (ne_of_none hD2 hU)]
        exact hD2
      · rw [List.length_take, hsl]
        exact Nat.lt_of_le_of_lt (show min i l.length ≤ 1000 by omega) (by decide)
      · exact NF.Same.mut (NF.Same.new hG hU) hD
      · rw [upd_same, List.take_add_one, steps_get hi]
        rfl
    · rintro G ⟨hG, hD2⟩
      rw [List.length_map, List.take_of_length_le (by rw [hsl]; exact Nat.le_refl _)] at hD2
      have hlen : (vI (steps l r)).length = l.length := hsl
      refine ⟨_, rfl, D, _, rfl, Or.inl (SqL.of hD2), _, _, rfl, rfl, ⟨by decide, by decide⟩, _, _, rfl, rfl, 1, _, rfl, ⟨by decide, by decide, ?_, ?_⟩, ?_⟩
      · rw [hlen]; omega
      · rw [hlen]; omega
      have en : (((vI (steps l r)).length : Int) / 2 + 1 - 1).toNat = l.length / 2 := by rw [hlen]; omega
      have s0G : Same H G := Same.trans s03 hG
      show (fun J H1 => _) (Itr 1 (((vI (steps l r)).length : Int) / 2 + 1 - 1).toNat) G
      rw [en]
      refine for_range (lo := 1) (n := l.length / 2) (fun i σ G' => Same G G' ∧ (∀ m', 0 < m' → m' ≤ i → m' ∣ l.length → ¬ Per (walk l r) m') ∧ ∃ v : Option V, σ = [some (.ref a), some (.int r), some (.ref p3), some (.ref D), v, none, none])
        ⟨Same.refl _, fun m' h1 h2 => by omega, none, rfl⟩ ?_ ?_
      · rintro i σ G' hi ⟨hs, hno, v, rfl⟩
        have e1 : (1 : Int) + (i : Int) = ((i + 1 : Nat) : Int) := by omega
        rw [e1]
        have hD3 := hs _ _ hD2
        refine ⟨_, rfl, D, _, rfl, Or.inl (SqL.of hD3), _, rfl, _, _, rfl, rfl, (by show (0 : Int) < ((i + 1 : Nat) : Int); omega), rfl, _, rfl, ?_⟩
        have hnext : ¬ ((i + 1 ∣ l.length) ∧ Per (walk l r) (i + 1)) → (∀ m', 0 < m' → m' ≤ i + 1 → m' ∣ l.length → ¬ Per (walk l r) m') := fun hn m' h1 h2 h3 h4 => by
          by_cases c : m' ≤ i
          · exact hno m' h1 c h3 h4
          · have : m' = i + 1 := by omega
            subst this
            exact hn ⟨h3, h4⟩
        refine ite2 (fun hc => ?_) (fun hc => ?_)
        · have hd : i + 1 ∣ l.length := by
            have hc := of_decide_eq_true hc
            injection hc with hc
            rw [hlen] at hc
            have := Int.dvd_of_emod_eq_zero hc
            exact Int.natCast_dvd_natCast.mp this
          refine ⟨_, rfl, _, rfl, _, rfl, D, _, rfl, SqL.of hD3, fun q1 hq1 => ?_⟩
          have hD4 : upd G' q1 (.lst (cutV (vI (steps l r)) (some ((i + 1 : Nat) : Int)) none)) D = some (.lst (vI (steps l r))) := by
            rw [upd_ne (ne_of_none hD3 hq1)]
            exact hD3
          refine ⟨_, rfl, _, rfl, _, rfl, _, rfl, D, _, rfl, SqL.of hD4, fun q2 hq2 => ?_⟩
          have hq3 : upd (upd G' q1 (.lst (cutV (vI (steps l r)) (some ((i + 1 : Nat) : Int)) none))) q2 (.lst (cutV (vI (steps l r)) none (some (-((i + 1 : Nat) : Int))))) q1 = some (.lst (vI ((steps l r).drop (i + 1)))) := by
            rw [upd_ne (ne_of_none upd_same hq2), upd_same, cut_from, vI_drop]
          have hq4 : upd (upd G' q1 (.lst (cutV (vI (steps l r)) (some ((i + 1 : Nat) : Int)) none))) q2 (.lst (cutV (vI (steps l r)) none (some (-((i + 1 : Nat) : Int))))) q2 = some (.lst (vI ((steps l r).take (l.length - (i + 1))))) := by
            rw [upd_same, cut_toN (by omega), hlen, vI_take]
          have hsD : Same G (upd (upd G' q1 (.lst (cutV (vI (steps l r)) (some ((i + 1 : Nat) : Int)) none))) q2 (.lst (cutV (vI (steps l r)) none (some (-((i + 1 : Nat) : Int)))))) := NF.Same.new (NF.Same.new hs hq1) hq2
          refine eqL_done (SqL.of hq3) (SqL.of hq4) ⟨_, rfl, ?_⟩
          refine ite2 (fun hc2 => ?_) (fun hc2 => ?_)
          · have hper := (cond_iff hl (Nat.succ_pos i) hd).mp (of_decide_eq_true hc2)
            exact ⟨_, rfl, q (i + 1) _ (lap_prog hl (Nat.succ_pos i) (by omega) hd hper fun m' h1 h2 h3 h4 => hno m' h1 (by omega) h3 h4) (Same.trans s0G hsD)⟩
          · refine ⟨hsD, hnext fun ⟨_, h⟩ => hc2 (decide_eq_true ((cond_iff hl (Nat.succ_pos i) hd).mpr h)), _, rfl⟩
        · refine ⟨hs, hnext fun ⟨h, _⟩ => hc (decide_eq_true ?_), _, rfl⟩
          rw [hlen]
          exact congrArg V.int (Int.emod_eq_zero_of_dvd (Int.natCast_dvd_natCast.mpr h))
      · rintro σ G' ⟨hs, hno, v, rfl⟩
        refine ⟨_, rfl, D, _, rfl, Or.inl (SqL.of (hs _ _ hD2)), ?_⟩
        rw [hlen]
        exact q l.length _ (lap_whole hl hno) (Same.trans s0G hs)
end
end K10
set_option Elab.async false
set_option linter.all false
set_option maxRecDepth 100000
set_option maxHeartbeats 4000000
namespace K10
open PySem PySem.Spec PyProof.Rows L2 He NF RZ NT
/-- a tuple of two tuples of ints and an int stands at p -/
def FormAt (K : PySem.W.Frag) (H : Hp) (p : Addr) (x : List Int × List Int × Int) : Prop := ∃ a b, SqT K H p [.ref a, .ref b, .int x.2.2] ∧ SqT K H a (vI x.1) ∧ SqT K H b (vI x.2.1)
theorem FormAt.mono {K : PySem.W.Frag} {H H' : Hp} {p : Addr} {x : List Int × List Int × Int} (h : FormAt K H p x) (s : Same H H') : FormAt K H' p x := by
  obtain ⟨a, b, h1, h2, h3⟩ := h
  exact ⟨a, b, NF.Same.tup s h1, NF.Same.tup s h2, NF.Same.tup s h3⟩
def spForm (K : PySem.W.Frag) : Sp := fun vs H Q _ => ∃ (a b : Addr) (h l : List Int) (r : Int), vs = [.ref a, .ref b, .int r] ∧ SqT K H a (vI h) ∧ SqT K H b (vI l) ∧ h.length + l.length ≤ 1000 ∧ ∀ x p H', IsPlain h l r x → Same H H' → FormAt K H' p x → Q (.ref p) H'
theorem sc_plain_form : FnScope ["head", "loop", "rise", "many", "lap_rise", "entries", "left"] ["head", "loop", "rise"] (defScope s_plain_form) := ⟨rfl, rfl, rfl, by decide +kernel, rfl, by decide +kernel, by decide +kernel⟩
section
variable {P : Program} {w : World} {K : PySem.W.Frag} {mg : Str → Option Value} {base : Heap} {gs fs : List Str}
theorem ok_plain_form {f : Addr} {fd : FuncData} (F : FunD K "plain_form" "plain_form" (defArgs s_plain_form) (defBody s_plain_form) (defScope s_plain_form) [] [] f fd) (T : Txt K mg gs fs) (hfs : fs = FS) (c_shortest_lap : Cal P w K mg base 1 "shortest_lap" (spLap K)) : FnOk P w K mg base CX0 2 f fd ["head", "loop", "rise"] (spForm K) := by
  subst hfs
  refine F.ok sc_plain_form (fun vs H Q E h => ?_) (fun cdv A outer s H vs Q E hr h => ?_)
  · obtain ⟨a, b, h, l, r, rfl, _⟩ := h
    rfl
  · obtain ⟨a, b, h, l, r, rfl, ha, hb, hz, q⟩ := h
    refine ⟨_, PSs.nox (pss_cons (ps_if (pt_not (pt_truth (pv 1) (fun _ => rfl))) (pss_one (ps_ret (pe_tup (pa_cons (pv 0) (pa_cons (pe_tup pa_nil) (pa_cons pe_int pa_nil)))))) pss_nil) (pss_cons (ps_set (i := 3) sc_plain_form.nd rfl (Or.inl rfl) (pe_c c_shortest_lap hr (by decide) rfl (pa_cons (pv 1) (pa_cons (pv 2) pa_nil)))) (pss_cons (ps_set (i := 4) sc_plain_form.nd rfl (Or.inl rfl) (pe_op op_fdiv (pe_op op_mul (pv 2) (pv 3)) (pe_callB call_len_seq rfl (T.fr _ (by decide +kernel)) boot_len (pa_cons (pv 1) pa_nil)))) (pss_cons (ps_set (i := 5) sc_plain_form.nd rfl (Or.inl rfl) (pe_op op_catA (pv 0) (pe_slice sl_tupA (pv 1) po_none (po_some (pv 3))))) (pss_cons (ps_set (i := 6) sc_plain_form.nd rfl (Or.inl rfl) (pe_callB call_len_seq rfl (T.fr _ (by decide +kernel)) boot_len (pa_cons (pv 0) pa_nil))) (pss_cons (ps_while PassesOwn.never (PW.pt (pw_and (pt_cmpR op_gt (pv 6) pe_int (nomark _)) (pw_and1 (pt_cmpR op_eq (pe_op op_add (pe_ix (ixt (K := K)) (pv 5) (pe_op op_sub (pv 6) pe_int) fun _ _ => rfl) (pv 4)) (pe_ix (ixt (K := K)) (pv 5) (pe_op op_add (pe_op op_sub (pv 6) pe_int) (pv 3)) fun _ _ => rfl) (nomark _))))) (pss_one (ps_set (i := 6) sc_plain_form.nd rfl (Or.inl rfl) (pe_op op_sub (pv 6) pe_int)))) (pss_one (ps_ret (pe_tup (pa_cons (pe_slice sl_tupA (pv 5) po_none (po_some (pv 6))) (pa_cons (pe_slice sl_tupA (pv 5) (po_some (pv 6)) (po_some (pe_op op_add (pv 6) (pv 3)))) (pa_cons (pv 4) pa_nil)))))))))))), ?_⟩
    refine ⟨_, rfl, _, tru_tup hb, ?_⟩
    by_cases hl : l = []
    · subst hl
      refine iteT ?_
      refine ⟨_, rfl, (by show 0 ≤ sizeLine; decide), fun p1 hp1 => ⟨(by show 3 ≤ sizeLine; decide), fun p2 hp2 => ?_⟩⟩
      have s1 := NF.Same.new (o := .tup []) (Same.refl H) hp1
      have s2 := NF.Same.new (o := .tup [V.ref a, V.ref p1, V.int 0]) s1 hp2
      exact q (h, [], 0) p2 _ (.inl ⟨rfl, rfl⟩) s2 ⟨a, p1, SqT.of upd_same, NF.Same.tup s2 ha, SqT.of (by rw [upd_ne (ne_of_none upd_same hp2)]; exact upd_same)⟩
    · have hne : (!l.isEmpty) = true := by cases l with
        | nil => exact absurd rfl hl
        | cons _ _ => rfl
      rw [hne]
      refine iteF ?_
      have hp := len_pos hl
      refine ⟨_, rfl, _, rfl, b, l, r, rfl, hb, hl, by omega, fun m H1 hm s1 => ?_⟩
      have hle : m ≤ l.length := Nat.le_of_dvd hp hm.dvd
      obtain ⟨t, ht⟩ := hm.dvd
      have hc := per_at hl hm.pos hm.per ht.symm
      have hb1 := NF.Same.tup s1 hb
      have t0 : 0 < t := Nat.pos_of_ne_zero fun z => by rw [z, Nat.mul_zero] at ht; omega
      have hcr : r * (m : Int) / ((vI l).length : Int) = r / (t : Int) := by
        rw [vI_len]
        have hr := per_rise hl hc ht.symm
        have e : r * (m : Int) = r / (t : Int) * (l.length : Int) := by
          rw [ht, Int.natCast_mul]
          calc r * (m : Int) = (r / (t : Int) * (t : Int)) * (m : Int) := by rw [← hr]
            _ = r / (t : Int) * ((m : Int) * (t : Int)) := by rw [Int.mul_assoc, Int.mul_comm (t : Int)]
        rw [e]
        exact Int.mul_ediv_cancel _ (by omega)
      refine ⟨_, rfl, _, rfl, _, _, rfl, rfl, Or.inr ⟨by omega, by omega⟩, ?_⟩
      refine ⟨_, rfl, b, _, rfl, Or.inr hb1, _, _, rfl, rfl, ⟨by rw [vI_len]; omega, by rw [vI_len]; omega⟩, ?_⟩
      show gName 4 (V.int (r * (m : Int) / ((vI l).length : Int))) _ _ _
      rw [hcr]
      generalize hcc : r / (t : Int) = cc at hc
      refine ⟨_, rfl, _, rfl, _, rfl, _, rfl, ?_⟩
      refine slA_done (K := K) hb1 fun p2 H2 s2 t2 => ?_
      rw [cut_to, vI_take] at t2
      refine catA_done (K := K) (NF.Same.tup (Same.trans s1 s2) ha) t2 (Nat.le_trans (show (vI h).length + (vI (l.take m)).length ≤ 1000 by rw [vI_len, vI_len, List.length_take]; omega) (by decide)) fun p3 H3 s3 t3 => ?_
      rw [vI_app] at t3
      have s03 : Same H H3 := Same.trans s1 (Same.trans s2 s3)
      refine ⟨_, rfl, a, _, rfl, Or.inr (NF.Same.tup s03 ha), ?_⟩
      rw [vI_len]
      have hel : (h ++ l.take m).length = h.length + m := by rw [List.length_append, List.length_take, Nat.min_eq_left hle]
      refine ⟨fun k σ G => G = H3 ∧ k ≤ h.length ∧ cut (h ++ l.take m) m cc h.length = cut (h ++ l.take m) m cc k ∧ σ = [some (.ref a), some (.ref b), some (.int r), some (.int (m : Int)), some (.int cc), some (.ref p3), some (.int (k : Int))], ⟨h.length, rfl, Nat.le_refl _, rfl, rfl⟩, ?_⟩
      rintro k σ G ⟨rfl, hk, hcut, rfl⟩
      -- what is handed back
      have hdone : cut (h ++ l.take m) m cc k = k → (tRet (tTup (tCons (tSl (rSlA K) (tVar 5) tNoPart (tPart (tVar 6))) (tCons (tSl (rSlA K) (tVar 5) (tPart (tVar 6)) (tPart (tOp (rI0 fun i j => .int (i + j)) (tVar 6) (tVar 3)))) (tCons (tVar 4) tNil))))) { nx := fun _ H' => Q .non H', rt := Q }
          [some (.ref a), some (.ref b), some (.int r), some (.int (m : Int)), some (.int cc), some (.ref p3), some (.int (k : Int))] G := fun hk2 => by
        refine ⟨_, rfl, _, rfl, _, rfl, ?_⟩
        refine slA_done (K := K) t3 fun p4 H4 s4 t4 => ?_
        refine ⟨_, rfl, _, rfl, _, rfl, _, rfl, _, rfl, _, _, rfl, rfl, _, rfl, ?_⟩
        refine slA_done (K := K) (NF.Same.tup s4 t3) fun p5 H5 s5 t5 => ?_
        refine ⟨_, rfl, (by show 3 ≤ sizeLine; decide), fun p6 hp6 => ?_⟩
        have s6 := NF.Same.new (o := .tup [V.ref p4, V.ref p5, V.int cc]) (Same.refl H5) hp6
        have hx := plain_is (h := h) hl hm hc
        rw [hcut, hk2] at hx
        rw [cut_to, vI_take] at t4
        rw [show (k : Int) + (m : Int) = ((k + m : Nat) : Int) by omega, cut_mid (by omega) (by rw [vI_len, hel]; omega), vI_drop, vI_take, show k + m - k = m by omega] at t5
        exact q _ p6 _ hx (Same.trans s03 (Same.trans s4 (Same.trans s5 s6))) ⟨p4, p5, SqT.of upd_same, NF.Same.tup (Same.trans s5 s6) t4, NF.Same.tup s6 t5⟩
      refine ⟨_, rfl, _, _, rfl, rfl, _, rfl, ?_⟩
      refine ite2 (fun h1 => ?_) (fun h1 => ?_)
      · have k0 : 0 < k := by
          have := of_decide_eq_true h1
          omega
        obtain ⟨j, rfl⟩ : ∃ j, k = j + 1 := ⟨k - 1, by omega⟩
        have e1 : ((j + 1 : Nat) : Int) - 1 = (j : Int) := by omega
        refine ⟨_, rfl, _, rfl, _, _, rfl, rfl, p3, _, _, _, rfl, rfl, t3, at_int (k := j) e1 (by rw [hel]; omega), _, rfl, _, _, rfl, rfl, ?_⟩
        refine ⟨_, rfl, _, rfl, _, _, rfl, rfl, _, rfl, _, _, rfl, rfl, p3, _, _, _, rfl, rfl, t3, at_int (k := j + m) (by omega) (by rw [hel]; omega), rfl, _, rfl, ?_⟩
        refine ite2 (fun h2 => ?_) (fun h2 => ?_)
        · have h2' : (h ++ l.take m).getD j 0 + cc = (h ++ l.take m).getD (j + m) 0 := by
            have := of_decide_eq_true h2
            injection this
          refine ⟨fun σ' G' => G' = G ∧ σ' = [some (.ref a), some (.ref b), some (.int r), some (.int (m : Int)), some (.int cc), some (.ref p3), some (.int (j : Int))], fun σ' G' ⟨z1, z2⟩ => ⟨j, Nat.lt_succ_self j, z1, by omega, ?_, z2⟩, ?_⟩
          · rw [hcut]
            show (if (h ++ l.take m).getD j 0 + cc = (h ++ l.take m).getD (j + m) 0 then _ else _) = _
            rw [if_pos h2']
          · refine ⟨_, rfl, _, _, rfl, rfl, rfl, ?_⟩
            show _ = _
            rw [← e1]
            rfl
        · refine hdone ?_
          show (if (h ++ l.take m).getD j 0 + cc = (h ++ l.take m).getD (j + m) 0 then _ else _) = _
          rw [if_neg fun z => h2 (decide_eq_true (congrArg V.int z))]
      · have k0 : k = 0 := by
          have : ¬ (0 : Int) < (k : Int) := fun z => h1 (decide_eq_true z)
          omega
        subst k0
        exact hdone rfl
end
end K10
set_option Elab.async false
set_option linter.all false
set_option maxRecDepth 100000
set_option maxHeartbeats 4000000
namespace K10
open PySem PySem.Spec PyProof.Rows L2 He NF RZ NT
def spIsInt : Sp := fun vs H Q _ => ∃ i : Int, vs = [.int i] ∧ Q (.bl true) H
def spIsCount : Sp := fun vs H Q _ => ∃ i : Int, vs = [.int i] ∧ Q (.bl (decide (0 ≤ i))) H
def spIsRow (K : PySem.W.Frag) : Sp := fun vs H Q _ => ∃ (a : Addr) (xs : List V), vs = [.ref a] ∧ Row K H a xs ∧ ∀ H', Same H H' → Q (.bl true) H'
def spIsClimb (K : PySem.W.Frag) : Sp := fun vs H Q _ => ∃ (a : Addr) (l : List Int), vs = [.ref a] ∧ Row K H a (vI l) ∧ climbs 0 l ∧ ∀ H', Same H H' → Q (.bl true) H'
def spCheck (K : PySem.W.Frag) : Sp := fun vs H Q _ => ∃ (a b : Addr) (h l : List Int) (r : Int), vs = [.ref a, .ref b, .int r] ∧ Row K H a (vI h) ∧ Row K H b (vI l) ∧ Good h l r ∧ ∀ H', Same H H' → Q .non H'
theorem sc_is_integer : FnScope ["thing"] ["thing"] (defScope s_is_integer) := ⟨rfl, rfl, rfl, by decide +kernel, rfl, by decide +kernel, by decide +kernel⟩
theorem sc_is_count : FnScope ["thing"] ["thing"] (defScope s_is_count) := ⟨rfl, rfl, rfl, by decide +kernel, rfl, by decide +kernel, by decide +kernel⟩
theorem sc_is_row : FnScope ["thing"] ["thing"] (defScope s_is_row) := ⟨rfl, rfl, rfl, by decide +kernel, rfl, by decide +kernel, by decide +kernel⟩
theorem sc_is_climb : FnScope ["thing", "last", "entry"] ["thing"] (defScope s_is_climb) := ⟨rfl, rfl, rfl, by decide +kernel, rfl, by decide +kernel, by decide +kernel⟩
theorem sc_check_table : FnScope ["head", "loop", "rise"] ["head", "loop", "rise"] (defScope s_check_table) := ⟨rfl, rfl, rfl, by decide +kernel, rfl, by decide +kernel, by decide +kernel⟩
theorem climbs_get : ∀ {l : List Int} {lo : Int} {i : Nat}, climbs lo l → i < l.length → (if i = 0 then lo else l.getD (i - 1) 0) ≤ l.getD i 0
  | [], _, _, _, h => by simp at h
  | x :: l, lo, 0, c, _ => c.1
  | x :: l, lo, i + 1, c, h => by
    have ih := climbs_get (i := i) c.2 (by simpa using h)
    rw [if_neg (Nat.succ_ne_zero i)]
    by_cases z : i = 0
    · subst z
      simpa using ih
    · rw [if_neg z] at ih
      obtain ⟨j, rfl⟩ : ∃ j, i = j + 1 := ⟨i - 1, by omega⟩
      simpa using ih
section
variable {P : Program} {w : World} {K : PySem.W.Frag} {mg : Str → Option Value} {base : Heap} {gs fs : List Str}
theorem ok_is_integer {f : Addr} {fd : FuncData} (F : FunD K "is_integer" "is_integer" (defArgs s_is_integer) (defBody s_is_integer) (defScope s_is_integer) [] [] f fd) (T : Txt K mg gs FS) : FnOk P w K mg base CX0 1 f fd ["thing"] spIsInt := by
  refine F.ok sc_is_integer (fun vs H Q E h => ?_) (fun cdv A outer s H vs Q E hr h => ?_)
  · obtain ⟨i, rfl, _⟩ := h
    rfl
  · obtain ⟨i, rfl, q⟩ := h
    refine ⟨_, PSs.nox (pss_one (ps_ret (pe_and (pe_callB call_isi rfl (T.fr _ (by decide +kernel)) (by decide +kernel) (pa_cons (pv 0) (pa_cons (pe_bltn (v := .ty "int") rfl (T.fr _ (by decide +kernel)) (by decide +kernel) rfl) pa_nil))) (pe_one (pe_not (pe_callB call_isi rfl (T.fr _ (by decide +kernel)) (by decide +kernel) (pa_cons (pv 0) (pa_cons (pe_bltn (v := .ty "bool") rfl (T.fr _ (by decide +kernel)) (by decide +kernel) rfl) pa_nil)))))))), ?_⟩
    exact ⟨_, rfl, _, _, _, _, true, rfl, .ty "int", .base (.int i), kit_i_i K, true, rfl, _, rfl, _, _, _, _, false, rfl, .ty "bool", .base (.int i), kit_i_b K, false, rfl, q⟩
theorem ok_is_count {f : Addr} {fd : FuncData} (F : FunD K "is_count" "is_count" (defArgs s_is_count) (defBody s_is_count) (defScope s_is_count) [] [] f fd) (T : Txt K mg gs FS) (c_is_integer : Cal P w K mg base 1 "is_integer" spIsInt) : FnOk P w K mg base CX0 2 f fd ["thing"] spIsCount := by
  refine F.ok sc_is_count (fun vs H Q E h => ?_) (fun cdv A outer s H vs Q E hr h => ?_)
  · obtain ⟨i, rfl, _⟩ := h
    rfl
  · obtain ⟨i, rfl, q⟩ := h
    refine ⟨_, PSs.nox (pss_one (ps_ret (pe_and (pe_c c_is_integer hr (by decide) rfl (pa_cons (pv 0) pa_nil)) (pe_one (pe_cmpR op_ge (pv 0) pe_int (nomark _)))))), ?_⟩
    exact ⟨_, rfl, i, rfl, true, rfl, _, rfl, _, _, rfl, rfl, q⟩
theorem ok_is_row {f : Addr} {fd : FuncData} (F : FunD K "is_row" "is_row" (defArgs s_is_row) (defBody s_is_row) (defScope s_is_row) [] [] f fd) (T : Txt K mg gs FS) : FnOk P w K mg base CX0 1 f fd ["thing"] (spIsRow K) := by
  refine F.ok sc_is_row (fun vs H Q E h => ?_) (fun cdv A outer s H vs Q E hr h => ?_)
  · obtain ⟨a, xs, rfl, _⟩ := h
    rfl
  · obtain ⟨a, xs, rfl, ha, q⟩ := h
    refine ⟨_, PSs.nox (pss_one (ps_ret (pe_callB call_isiT rfl (T.fr _ (by decide +kernel)) (by decide +kernel) (pa_cons (pv 0) (pa_cons (pe_tup (pa_cons (pe_bltn (v := .ty "tuple") rfl (T.fr _ (by decide +kernel)) (by decide +kernel) rfl) (pa_cons (pe_bltn (v := .ty "list") rfl (T.fr _ (by decide +kernel)) (by decide +kernel) rfl) pa_nil))) pa_nil))))), ?_⟩
    refine ⟨_, rfl, (by show 2 ≤ sizeLine; decide), fun p hp => ?_⟩
    have s1 := NF.Same.new (o := .tup [V.ty "tuple", V.ty "list"]) (Same.refl H) hp
    rcases ha.mono s1 with h | h
    · exact ⟨_, p, _, _, _, true, rfl, upd_same, .cons (.ty _) (.cons (.ty _) .nil), tyx_lst h, kit_l_tl K, q _ s1⟩
    · exact ⟨_, p, _, _, _, true, rfl, upd_same, .cons (.ty _) (.cons (.ty _) .nil), tyx_tup h, kit_t_tl K, q _ s1⟩
theorem ok_is_climb {f : Addr} {fd : FuncData} (F : FunD K "is_climb" "is_climb" (defArgs s_is_climb) (defBody s_is_climb) (defScope s_is_climb) [] [] f fd) (T : Txt K mg gs FS) (c_is_row : Cal P w K mg base 1 "is_row" (spIsRow K)) (c_is_integer : Cal P w K mg base 1 "is_integer" spIsInt) : FnOk P w K mg base CX0 2 f fd ["thing"] (spIsClimb K) := by
  refine F.ok sc_is_climb (fun vs H Q E h => ?_) (fun cdv A outer s H vs Q E hr h => ?_)
  · obtain ⟨a, l, rfl, _⟩ := h
    rfl
  · obtain ⟨a, l, rfl, ha, hc, q⟩ := h
    refine ⟨_, PSs.nox (pss_cons (ps_if (pt_not (pt_val (pe_c c_is_row hr (by decide) rfl (pa_cons (pv 0) pa_nil)))) (pss_one (ps_ret pe_bl)) pss_nil) (pss_cons (ps_set (i := 1) sc_is_climb.nd rfl (Or.inl rfl) pe_int) (pss_cons (ps_for PassesOwn.never rfl (pi_row (pv 0)) (pg_name (i := 2) sc_is_climb.nd rfl (Or.inl rfl)) (pss_cons (ps_if (PW.pt (pw_or (pt_not (pt_val (pe_c c_is_integer hr (by decide) rfl (pa_cons (pv 2) pa_nil)))) (pw_or1 (pt_cmpR op_lt (pv 2) (pv 1) (nomark _))))) (pss_one (ps_ret pe_bl)) pss_nil) (pss_one (ps_set (i := 1) sc_is_climb.nd rfl (Or.inl rfl) (pv 2))))) (pss_one (ps_ret pe_bl))))), ?_⟩
    refine ⟨_, rfl, a, _, rfl, ha, fun H1 s1 => ⟨true, rfl, iteF ?_⟩⟩
    refine ⟨_, rfl, a, rfl, ?_⟩
    refine for_row (ha.mono s1) (fun i σ G => Same H1 G ∧ ∃ v : Option V, σ = [some (.ref a), some (.int (if i = 0 then 0 else l.getD (i - 1) 0)), v]) ⟨Same.refl _, none, rfl⟩ (fun i σ G z => z.1) ?_ ?_
    · rintro i x σ G hx ⟨s2, v, rfl⟩
      have hi : i < l.length := by
        have := (List.getElem?_eq_some_iff.mp hx).1
        rw [List.length_map] at this
        exact this
      obtain rfl : x = V.int (l.getD i 0) := by
        rw [List.getElem?_map, List.getElem?_eq_getElem hi] at hx
        rw [List.getD_eq_getElem?_getD, List.getElem?_eq_getElem hi]
        exact (Option.some.inj hx).symm
      have hle := climbs_get hc hi
      refine ⟨_, rfl, _, rfl, true, rfl, iteF ⟨_, rfl, _, rfl, _, _, rfl, rfl, false, congrArg V.bl (decide_eq_false (by omega)), iteF ?_⟩⟩
      refine ⟨_, rfl, s2, some (V.int (l.getD i 0)), ?_⟩
      rw [if_neg (Nat.succ_ne_zero i)]
      rfl
    · rintro σ G ⟨s2, v, rfl⟩
      exact q _ (Same.trans s1 s2)
theorem ok_check_table {f : Addr} {fd : FuncData} (F : FunD K "check_table" "check_table" (defArgs s_check_table) (defBody s_check_table) (defScope s_check_table) [] [] f fd) (T : Txt K mg gs FS) (c_is_climb : Cal P w K mg base 2 "is_climb" (spIsClimb K)) (c_is_count : Cal P w K mg base 2 "is_count" spIsCount) : FnOk P w K mg base CX0 3 f fd ["head", "loop", "rise"] (spCheck K) := by
  refine F.ok sc_check_table (fun vs H Q E h => ?_) (fun cdv A outer s H vs Q E hr h => ?_)
  · obtain ⟨a, b, h, l, r, rfl, _⟩ := h
    rfl
  · obtain ⟨a, b, h, l, r, rfl, ha, hb, hg, q⟩ := h
    refine ⟨_, PSs.nox (pss_cons (ps_if (pt_not (pt_val (pe_c c_is_climb hr (by decide) rfl (pa_cons (pv 0) pa_nil)))) (pss_one ps_never) pss_nil) (pss_cons (ps_if (PW.pt (pw_or (pt_not (pt_val (pe_c c_is_climb hr (by decide) rfl (pa_cons (pv 1) pa_nil)))) (pw_or1 (PW.pt (pw_and (pt_truth (pv 1) (fun _ => rfl)) (pw_and (pt_truth (pv 0) (fun _ => rfl)) (pw_and1 (pt_cmpR op_lt (pe_ix (ixs (K := K)) (pv 1) pe_int fun _ _ => rfl) (pe_ix (ixs (K := K)) (pv 0) (pe_un un_neg pe_int) fun _ _ => rfl) (nomark _))))))))) (pss_one ps_never) pss_nil) (pss_one (ps_if (PW.pt (pw_or (pt_not (pt_val (pe_c c_is_count hr (by decide) rfl (pa_cons (pv 2) pa_nil)))) (pw_or (PW.pt (pw_and (pt_not (pt_truth (pv 1) (fun _ => rfl))) (pw_and1 (pt_cmpR op_ne (pv 2) pe_int (nomark _))))) (pw_or1 (PW.pt (pw_and (pt_truth (pv 1) (fun _ => rfl)) (pw_and1 (pt_cmpR op_gt (pe_ix (ixs (K := K)) (pv 1) (pe_un un_neg pe_int) fun _ _ => rfl) (pe_op op_add (pe_ix (ixs (K := K)) (pv 1) pe_int fun _ _ => rfl) (pv 2)) (nomark _))))))))) (pss_one ps_never) pss_nil)))), ?_⟩
    refine ⟨_, rfl, a, h, rfl, ha, hg.hd, fun H1 s1 => ⟨true, rfl, iteF ?_⟩⟩
    refine ⟨_, rfl, b, l, rfl, hb.mono s1, hg.lp, fun H2 s2 => ⟨true, rfl, iteF ?_⟩⟩
    have s02 := Same.trans s1 s2
    have ha2 := ha.mono s02
    have hb2 := hb.mono s02
    -- the rise
    have hrise : (tIfS (tOr (tNot (tB (tCall spIsCount [] E0 (tCons (tVar 2) tNil)))) (tOr (tAnd (tNot (fun σ H Q => tVar 1 σ H fun x H' => ∃ k, TruV K x H' k ∧ Q k H')) (tTest (tOp rNe (tVar 2) (tC (.int 0)))))
        (tAnd (fun σ H Q => tVar 1 σ H fun x H' => ∃ k, TruV K x H' k ∧ Q k H') (tTest (tOp (rI0 fun i j => .bl (decide (j < i))) (tOp (rIx K) (tVar 1) (tUn (rU fun i => .int (-i)) (tC (.int 1)))) (tOp (rI0 fun i j => .int (i + j)) (tOp (rIx K) (tVar 1) (tC (.int 0))) (tVar 2)))))))
        tNever tNext) { nx := fun _ H' => Q .non H', rt := Q } (start ["head", "loop", "rise"] [.ref a, .ref b, .int r]) H2 := by
      refine ⟨_, rfl, r, rfl, decide (0 ≤ r), rfl, ?_⟩
      rw [decide_eq_true hg.r0]
      refine iteF ?_
      refine ⟨_, rfl, _, tru_row hb2, ?_⟩
      by_cases hl : l = []
      · have hl2 : (!l.isEmpty) = false := by rw [hl]; rfl
        rw [hl2]
        refine iteT ⟨_, rfl, rfl, false, ?_, iteF ⟨_, rfl, _, tru_row hb2, ?_⟩⟩
        · rw [hg.rl hl]; rfl
        · rw [hl2]
          exact iteF (iteF (q _ s02))
      · have hl2 : (!l.isEmpty) = true := by cases l with
          | nil => exact absurd rfl hl
          | cons _ _ => rfl
        rw [hl2]
        refine iteF (iteF ⟨_, rfl, _, tru_row hb2, ?_⟩)
        rw [hl2]
        refine iteT ⟨_, rfl, _, rfl, ix_done hb2 (at_last (len_pos hl)) ⟨_, rfl, ix_done hb2 (at_int (k := 0) rfl (len_pos hl)) ⟨_, rfl, _, _, rfl, rfl, _, _, rfl, rfl, false, congrArg V.bl (decide_eq_false ?_), iteF (q _ s02)⟩⟩⟩
        have := hg.last hl
        omega
    refine ⟨_, rfl, _, tru_row hb2, ?_⟩
    by_cases hl : l = []
    · have hl2 : (!l.isEmpty) = false := by rw [hl]; rfl
      rw [hl2]
      exact iteF (iteF hrise)
    · have hl2 : (!l.isEmpty) = true := by cases l with
        | nil => exact absurd rfl hl
        | cons _ _ => rfl
      rw [hl2]
      refine iteT ⟨_, rfl, _, tru_row ha2, ?_⟩
      by_cases hh : h = []
      · have hh2 : (!h.isEmpty) = false := by rw [hh]; rfl
        rw [hh2]
        exact iteF (iteF hrise)
      · have hh2 : (!h.isEmpty) = true := by cases h with
          | nil => exact absurd rfl hh
          | cons _ _ => rfl
        rw [hh2]
        refine iteT ⟨_, rfl, ?_⟩
        refine ix_done hb2 (at_int (k := 0) rfl (len_pos hl)) ⟨_, rfl, _, rfl, ix_done ha2 (at_last (len_pos hh)) ⟨_, _, rfl, rfl, false, congrArg V.bl (decide_eq_false ?_), iteF hrise⟩⟩
        have := hg.join hh hl
        omega
end
end K10
set_option Elab.async false
set_option linter.all false
set_option maxRecDepth 100000
set_option maxHeartbeats 4000000
namespace K10
open PySem PySem.Spec PyProof.Rows L2 He NF RZ NT
/-- a table is told -/
def spInit (K : PySem.W.Frag) (C : Addr) : Sp := fun vs H Q _ => ∃ (x dx a b : Addr) (h l : List Int) (r : Int), vs = [.ref x, .ref a, .ref b, .int r] ∧ H x = some (.ins C dx []) ∧ Row K H a (vI h) ∧ Row K H b (vI l) ∧ Good h l r ∧ h.length + l.length ≤ 1000 ∧
  ∀ y H', IsPlain h l r y → Same (wo H x) H' → TabAt K C H' x y → Q .non H'
theorem sc_Table___init__ : FnScope ["self", "head", "loop", "rise"] ["self", "head", "loop", "rise"] (defScope s_Table_init) := ⟨rfl, rfl, rfl, by decide +kernel, rfl, by decide +kernel, by decide +kernel⟩
theorem tf_eq (a b : Addr) (r : Int) : putF "rise" (.int r) (putF "loop" (.ref b) (putF "head" (.ref a) [])) = tf a b r := by rfl
theorem few1 (a : V) : (putF "head" a []).length < 1000 := show 1 < 1000 by decide
theorem few2 (a b : V) : (putF "loop" b (putF "head" a [])).length < 1000 := show 2 < 1000 by decide
section
variable {P : Program} {w : World} {K : PySem.W.Frag} {mg : Str → Option Value} {base : Heap} {gs fs : List Str}
theorem ok_Table_init {C : Addr} {dvs : List V} {f : Addr} {fd : FuncData} (F : FunD K "__init__" "Table.__init__" (defArgs s_Table_init) (defBody s_Table_init) (defScope s_Table_init) dvs [] f fd) (T : Txt K mg gs FS) (hc : Cls K C) (n1 : NoAttr K C "head") (n2 : NoAttr K C "loop") (n3 : NoAttr K C "rise") (c_check_table : Cal P w K mg base 3 "check_table" (spCheck K)) (c_plain_form : Cal P w K mg base 2 "plain_form" (spForm K)) : FnOk P w K mg base CX0 4 f fd ["self", "head", "loop", "rise"] (spInit K C) := by
  refine F.ok sc_Table___init__ (fun vs H Q E h => ?_) (fun cdv A outer s H vs Q E hr h => ?_)
  · obtain ⟨x, dx, a, b, h, l, r, rfl, _⟩ := h
    rfl
  · obtain ⟨x, dx, a, b, h, l, r, rfl, hx, ha, hb, hg, hz, q⟩ := h
    refine ⟨_, PSs.nox (pss_cons (ps_expr (pe_c c_check_table hr (by decide) rfl (pa_cons (pv 1) (pa_cons (pv 2) (pa_cons (pv 3) pa_nil))))) (pss_one (ps_asg (pe_c c_plain_form hr (by decide) rfl (pa_cons (pe_callTy cr_tup rfl (T.fr _ (by decide +kernel)) (by decide +kernel) (pa_cons (pv 1) pa_nil)) (pa_cons (pe_callTy cr_tup rfl (T.fr _ (by decide +kernel)) (by decide +kernel) (pa_cons (pv 2) pa_nil)) (pa_cons (pv 3) pa_nil)))) (pgt (K := K) (n := 3) rfl rfl (pgs_cons (pg_fld (pv 0)) (pgs_cons (pg_fld (pv 0)) (pgs_cons (pg_fld (pv 0)) pgs_nil))))))), ?_⟩
    refine ⟨_, rfl, _, rfl, _, rfl, a, b, h, l, r, rfl, ha, hb, hg, fun H1 s1 => ?_⟩
    refine ⟨_, rfl, a, _, rfl, ha.mono s1, fun p1 H2 s2 t1 => ?_⟩
    refine ⟨_, rfl, b, _, rfl, hb.mono (Same.trans s1 s2), fun p2 H3 s3 t2 => ?_⟩
    refine ⟨_, rfl, p1, p2, h, l, r, rfl, NF.Same.tup s3 t1, t2, hz, fun y p H4 hy s4 fo => ?_⟩
    obtain ⟨u, v, f1, f2, f3⟩ := fo
    have s04 : Same H H4 := Same.trans s1 (Same.trans s2 (Same.trans s3 s4))
    have x4 := s04 _ _ hx
    refine ⟨p, _, rfl, f1, rfl, ?_⟩
    refine ⟨_, _, rfl, _, rfl, x, C, dx, _, rfl, x4, hc, n1, by decide, ?_⟩
    refine ⟨_, _, rfl, _, rfl, x, C, dx, _, rfl, upd_same, hc, n2, few1 _, ?_⟩
    refine ⟨_, _, rfl, _, rfl, x, C, dx, _, rfl, upd_same, hc, n3, few2 _ _, ?_⟩
    refine ⟨rfl, ?_⟩
    refine q y _ hy ?_ ⟨dx, u, v, ?_, ?_, ?_⟩
    · exact Same.put (Same.put (Same.put (Same.trans wo_same' s04) wo_none) wo_none) wo_none
    · rw [upd_same, ← tf_eq]
    · exact SqT.put (SqT.put (SqT.put f2 x4 trivial) upd_same trivial) upd_same trivial
    · exact SqT.put (SqT.put (SqT.put f3 x4 trivial) upd_same trivial) upd_same trivial
end
end K10
set_option Elab.async false
set_option linter.all false
set_option maxRecDepth 100000
set_option maxHeartbeats 4000000
namespace K10
open PySem PySem.Spec PyProof.Rows L2 He NF RZ NT
/-- what the class of tables is -/
structure TabC (K : PySem.W.Frag) (C : Addr) : Prop where
  cl : Cls K C
  hd : NoAttr K C "head"
  lp : NoAttr K C "loop"
  ri : NoAttr K C "rise"
  ac : PySem.W.findIn K (.ref C) "__class__" = some (some (.builtin "object.__class__"))
  ag : PySem.W.specialIn K (.builtin "object.__class__") "__get__" = some (some (.builtin "getset_descriptor.__get__"))
  at_ : PySem.W.takesIn K (.builtin "object.__class__") = some true
  am : PySem.W.mroIn K C (.type "object") = some true
  self : PySem.W.kitOne K (.ref C) (.ref C) = some true
  tup : PySem.W.kitOne K (.type "tuple") (.ref C) = some false
  int : PySem.W.kitOne K (.type "int") (.ref C) = some false
  non : PySem.W.kitOne K (.type "NoneType") (.ref C) = some false
theorem TabC.ty {K : PySem.W.Frag} {C : Addr} (c : TabC K C) {H : Hp} {a dx : Addr} {fs : List (Str × V)} (h : H a = some (.ins C dx fs)) : TyX K H (.ref a) (.ref C) := .base (.ins h c.cl c.ac c.ag c.at_ c.am)
/-- what a table must be that it can be asked -/
structure Small (y : List Int × List Int × Int) : Prop where
  h : y.1.length ≤ 1000
  l : y.2.1.length ≤ 1000
  r0 : 0 ≤ y.2.2
  r1 : y.2.2 ≤ 1000000
def spEnd (K : PySem.W.Frag) (C : Addr) : Sp := fun vs H Q _ => ∃ x y, vs = [.ref x] ∧ TabAt K C H x y ∧ Q (vO (fin_ y.2.1 y.2.2)) H
def spAt (K : PySem.W.Frag) (C : Addr) : Sp := fun vs H Q _ => ∃ x y n, vs = [.ref x, vN n] ∧ TabAt K C H x y ∧ Small y ∧ ∀ H', Same H H' → Q (vO (val_ y.1 y.2.1 y.2.2 n)) H'
/-- ==: with another table, with what is none -/
def spEq (K : PySem.W.Frag) (C : Addr) : Sp := fun vs H Q _ => ∃ x y v, vs = [.ref x, v] ∧ TabAt K C H x y ∧
  ((∃ x2 y2, v = .ref x2 ∧ TabAt K C H x2 y2 ∧ Q (.bl (decide (y = y2))) H) ∨ (∃ t, TyX K H v t ∧ PySem.W.kitOne K t (.ref C) = some false ∧ Q (.bl false) H))
theorem sc_end_of : FnScope ["table"] ["table"] (defScope s_end_of) := ⟨rfl, rfl, rfl, by decide +kernel, rfl, by decide +kernel, by decide +kernel⟩
theorem sc_value_at : FnScope ["table", "n", "lap", "at"] ["table", "n"] (defScope s_value_at) := ⟨rfl, rfl, rfl, by decide +kernel, rfl, by decide +kernel, by decide +kernel⟩
theorem sc_Table___call__ : FnScope ["self", "n"] ["self", "n"] (defScope s_Table_call) := ⟨rfl, rfl, rfl, by decide +kernel, rfl, by decide +kernel, by decide +kernel⟩
theorem sc_Table_end : FnScope ["self"] ["self"] (defScope s_Table_end) := ⟨rfl, rfl, rfl, by decide +kernel, rfl, by decide +kernel, by decide +kernel⟩
theorem sc_Table___eq__ : FnScope ["self", "other"] ["self", "other"] (defScope s_Table_eq) := ⟨rfl, rfl, rfl, by decide +kernel, rfl, by decide +kernel, by decide +kernel⟩
theorem ne_nil {l : List Int} (h : l ≠ []) : (!l.isEmpty) = true := by cases l with
  | nil => exact absurd rfl h
  | cons _ _ => rfl
theorem is_nil {l : List Int} (h : l = []) : (!l.isEmpty) = false := by rw [h]; rfl
section
variable {P : Program} {w : World} {K : PySem.W.Frag} {mg : Str → Option Value} {base : Heap} {gs fs : List Str} {C : Addr}
theorem ok_end_of {f : Addr} {fd : FuncData} (F : FunD K "end_of" "end_of" (defArgs s_end_of) (defBody s_end_of) (defScope s_end_of) [] [] f fd) (T : Txt K mg gs FS) (tc : TabC K C) : FnOk P w K mg base CX0 1 f fd ["table"] (spEnd K C) := by
  refine F.ok sc_end_of (fun vs H Q E h => ?_) (fun cdv A outer s H vs Q E hr h => ?_)
  · obtain ⟨x, y, rfl, _⟩ := h
    rfl
  · obtain ⟨x, ⟨h, l, r⟩, rfl, ⟨dx, a, b, hx, ha, hb⟩, q⟩ := h
    dsimp only at hx ha hb q
    refine ⟨_, PSs.nox (pss_cons (ps_if (PW.pt (pw_or (pt_not (pt_truth (pe_fld (pv 0) rfl) (fun _ => rfl))) (pw_or1 (pt_cmpR op_gt (pe_fld (pv 0) rfl) pe_int (nomark _))))) (pss_one (ps_ret pe_non)) pss_nil) (pss_one (ps_ret (pe_ix (ixt (K := K)) (pe_fld (pv 0) rfl) (pe_un un_neg pe_int) fun _ _ => rfl)))), ?_⟩
    refine ⟨_, rfl, x, C, dx, _, _, rfl, hx, tc.cl, tc.lp, rfl, _, tru_tup hb, ?_⟩
    by_cases hl : l = []
    · rw [is_nil hl]
      refine iteT (iteT ?_)
      unfold fin_ at q
      rw [if_pos (.inl hl)] at q
      exact q
    · rw [ne_nil hl]
      refine iteF ⟨_, rfl, x, C, dx, _, _, rfl, hx, tc.cl, tc.ri, rfl, _, _, rfl, rfl, _, rfl, ?_⟩
      refine ite2 (fun h1 => ?_) (fun h1 => ?_)
      · have h2 : (0 : Int) < r := of_decide_eq_true h1
        unfold fin_ at q
        rw [if_pos (.inr h2)] at q
        exact q
      · have h2 : ¬ (0 : Int) < r := fun z => h1 (decide_eq_true z)
        unfold fin_ at q
        rw [if_neg (fun z => z.elim hl h2)] at q
        exact ⟨_, rfl, x, C, dx, _, _, rfl, hx, tc.cl, tc.lp, rfl, _, rfl, b, _, _, _, rfl, rfl, hb, at_last (len_pos hl), q⟩
theorem ok_value_at {f : Addr} {fd : FuncData} (F : FunD K "value_at" "value_at" (defArgs s_value_at) (defBody s_value_at) (defScope s_value_at) [] [] f fd) (T : Txt K mg gs FS) (tc : TabC K C) (c_end_of : Cal P w K mg base 1 "end_of" (spEnd K C)) : FnOk P w K mg base CX0 2 f fd ["table", "n"] (spAt K C) := by
  refine F.ok sc_value_at (fun vs H Q E h => ?_) (fun cdv A outer s H vs Q E hr h => ?_)
  · obtain ⟨x, y, n, rfl, _⟩ := h
    rfl
  · obtain ⟨x, ⟨h, l, r⟩, n, rfl, tb, sm, q⟩ := h
    have tb0 := tb
    obtain ⟨dx, a, b, hx, ha, hb⟩ := tb0
    dsimp only at hx ha hb q
    refine ⟨_, PSs.nox (pss_cons (ps_if (pt_cmpR op_isN (pv 1) pe_non (nomark _)) (pss_one (ps_ret (pe_c c_end_of hr (by decide) rfl (pa_cons (pv 0) pa_nil)))) pss_nil) (pss_cons (ps_if (pt_cmpR op_eq (pv 1) pe_int (nomark _)) (pss_one (ps_ret pe_int)) pss_nil) (pss_cons (ps_if (pt_cmpR op_le (pv 1) (pe_callB call_len_seq rfl (T.fr _ (by decide +kernel)) boot_len (pa_cons (pe_fld (pv 0) rfl) pa_nil)) (nomark _)) (pss_one (ps_ret (pe_ix (ixt (K := K)) (pe_fld (pv 0) rfl) (pe_op op_sub (pv 1) pe_int) fun _ _ => rfl))) pss_nil) (pss_cons (ps_if (pt_not (pt_truth (pe_fld (pv 0) rfl) (fun _ => rfl))) (pss_one (ps_ret pe_non)) pss_nil) (pss_cons (ps_asg (pe_callB call_divmod rfl (T.fr _ (by decide +kernel)) (by decide +kernel) (pa_cons (pe_op op_sub (pe_op op_sub (pv 1) (pe_callB call_len_seq rfl (T.fr _ (by decide +kernel)) boot_len (pa_cons (pe_fld (pv 0) rfl) pa_nil))) pe_int) (pa_cons (pe_callB call_len_seq rfl (T.fr _ (by decide +kernel)) boot_len (pa_cons (pe_fld (pv 0) rfl) pa_nil)) pa_nil))) (pgt (K := K) (n := 2) rfl rfl (pgs_cons (pg_name (i := 2) sc_value_at.nd rfl (Or.inl rfl)) (pgs_cons (pg_name (i := 3) sc_value_at.nd rfl (Or.inl rfl)) pgs_nil)))) (pss_one (ps_ret (pe_op op_add (pe_ix (ixt (K := K)) (pe_fld (pv 0) rfl) (pv 3) fun _ _ => rfl) (pe_op op_mul (pv 2) (pe_fld (pv 0) rfl)))))))))), ?_⟩
    cases n with
    | none => exact ⟨_, rfl, rfl, _, rfl, iteT ⟨_, rfl, x, _, rfl, tb, q _ (Same.refl H)⟩⟩
    | some n =>
      refine ⟨_, rfl, rfl, _, rfl, iteF ?_⟩
      refine ⟨_, rfl, rfl, _, rfl, ite2 (fun h1 => ?_) (fun h1 => ?_)⟩
      · have h2 : n = 0 := by
          have := of_decide_eq_true h1
          injection this with this
          omega
        subst h2
        exact q _ (Same.refl H)
      have n0 : n ≠ 0 := fun z => h1 (by rw [z]; exact decide_eq_true rfl)
      unfold val_ at q
      dsimp only at q
      rw [if_neg n0] at q
      refine ⟨_, rfl, _, rfl, x, C, dx, _, _, rfl, hx, tc.cl, tc.hd, rfl, a, _, rfl, Or.inr ha, ?_⟩
      rw [vI_len]
      refine ⟨_, _, rfl, rfl, _, rfl, ite2 (fun h1 => ?_) (fun h1 => ?_)⟩
      · have h2 : n ≤ h.length := by
          have := of_decide_eq_true h1
          omega
        unfold at_ at q
        rw [if_pos h2] at q
        exact ⟨_, rfl, x, C, dx, _, _, rfl, hx, tc.cl, tc.hd, rfl, _, rfl, _, _, rfl, rfl, a, _, _, _, rfl, rfl, ha, at_int (k := n - 1) (by omega) (by omega), q _ (Same.refl H)⟩
      have h2 : ¬ n ≤ h.length := fun z => h1 (decide_eq_true (by omega))
      refine ⟨_, rfl, x, C, dx, _, _, rfl, hx, tc.cl, tc.lp, rfl, _, tru_tup hb, ?_⟩
      by_cases hl : l = []
      · rw [is_nil hl]
        unfold at_ at q
        rw [if_neg h2, if_pos hl] at q
        exact iteT (q _ (Same.refl H))
      rw [ne_nil hl]
      have hp := len_pos hl
      have hsl := sm.l
      dsimp only at hsl
      rw [at_loop hl (by omega)] at q
      refine iteF ?_
      refine ⟨_, rfl, _, rfl, x, C, dx, _, _, rfl, hx, tc.cl, tc.hd, rfl, a, _, rfl, Or.inr ha, _, _, rfl, rfl, _, _, rfl, rfl, ?_⟩
      refine ⟨_, rfl, x, C, dx, _, _, rfl, hx, tc.cl, tc.lp, rfl, b, _, rfl, Or.inr hb, ?_⟩
      rw [vI_len, vI_len]
      refine ⟨_, _, rfl, ⟨by omega, by omega⟩, fun p hpn => ?_⟩
      have s1 := NF.Same.new (o := .tup [V.int (((n : Int) - (h.length : Int) - 1) / (l.length : Int)), V.int (((n : Int) - (h.length : Int) - 1) % (l.length : Int))]) (Same.refl H) hpn
      refine ⟨p, _, rfl, SqT.of upd_same, rfl, _, _, rfl, ?_⟩
      refine ⟨_, _, rfl, ?_⟩
      refine ⟨rfl, ?_⟩
      have hx1 := s1 _ _ hx
      have hb1 := NF.Same.tup s1 hb
      have e1 : (n : Int) - (h.length : Int) - 1 = ((n - h.length - 1 : Nat) : Int) := by omega
      have e2 : ((n : Int) - (h.length : Int) - 1) % (l.length : Int) = (((n - h.length - 1) % l.length : Nat) : Int) := by rw [e1]; rfl
      refine ⟨_, rfl, x, C, dx, _, _, rfl, hx1, tc.cl, tc.lp, rfl, _, rfl, b, _, _, _, rfl, rfl, hb1, at_int (k := (n - h.length - 1) % l.length) e2 (Nat.mod_lt _ hp), ?_⟩
      have r0 := sm.r0
      have r1 := sm.r1
      dsimp only at r0 r1
      refine ⟨_, rfl, _, rfl, x, C, dx, _, _, rfl, hx1, tc.cl, tc.ri, rfl, _, _, rfl, rfl, Or.inr ⟨by omega, by omega⟩, ?_⟩
      refine ⟨_, _, rfl, rfl, ?_⟩
      have e3 : l.getD ((n - h.length - 1) % l.length) 0 + ((n : Int) - (h.length : Int) - 1) / (l.length : Int) * r = walk l r (n - h.length - 1) := by
        unfold walk
        rw [e1, Int.mul_comm]
        rfl
      show Q (V.int _) _
      rw [e3]
      exact q _ s1
theorem ok_Table_call {f : Addr} {fd : FuncData} (F : FunD K "__call__" "Table.__call__" (defArgs s_Table_call) (defBody s_Table_call) (defScope s_Table_call) [] [] f fd) (T : Txt K mg gs FS) (c_is_count : Cal P w K mg base 2 "is_count" spIsCount) (c_value_at : Cal P w K mg base 2 "value_at" (spAt K C)) : FnOk P w K mg base CX0 3 f fd ["self", "n"] (spAt K C) := by
  refine F.ok sc_Table___call__ (fun vs H Q E h => ?_) (fun cdv A outer s H vs Q E hr h => ?_)
  · obtain ⟨x, y, n, rfl, _⟩ := h
    rfl
  · obtain ⟨x, y, n, rfl, tb, sm, q⟩ := h
    refine ⟨_, PSs.nox (pss_cons (ps_if (PW.pt (pw_and (pt_cmpR op_notN (pv 1) pe_non (nomark _)) (pw_and1 (pt_not (pt_val (pe_c c_is_count hr (by decide) rfl (pa_cons (pv 1) pa_nil))))))) (pss_one ps_never) pss_nil) (pss_one (ps_ret (pe_c c_value_at hr (by decide) rfl (pa_cons (pv 0) (pa_cons (pv 1) pa_nil)))))), ?_⟩
    cases n with
    | none => exact ⟨_, rfl, rfl, _, rfl, iteF (iteF ⟨_, rfl, _, rfl, x, y, none, rfl, tb, sm, q⟩)⟩
    | some n =>
      refine ⟨_, rfl, rfl, _, rfl, iteT ⟨_, rfl, (n : Int), rfl, true, congrArg V.bl (decide_eq_true (by omega)), iteF ?_⟩⟩
      exact ⟨_, rfl, _, rfl, x, y, some n, rfl, tb, sm, q⟩
theorem ok_Table_end {f : Addr} {fd : FuncData} (F : FunD K "end" "Table.end" (defArgs s_Table_end) (defBody s_Table_end) (defScope s_Table_end) [] [] f fd) (T : Txt K mg gs FS) (c_end_of : Cal P w K mg base 1 "end_of" (spEnd K C)) : FnOk P w K mg base CX0 2 f fd ["self"] (spEnd K C) := by
  refine F.ok sc_Table_end (fun vs H Q E h => ?_) (fun cdv A outer s H vs Q E hr h => ?_)
  · obtain ⟨x, y, rfl, _⟩ := h
    rfl
  · obtain ⟨x, y, rfl, tb, q⟩ := h
    exact ⟨_, PSs.nox (pss_one (ps_ret (pe_c c_end_of hr (by decide) rfl (pa_cons (pv 0) pa_nil)))), _, rfl, x, y, rfl, tb, q⟩
theorem ok_Table_eq {f : Addr} {fd : FuncData} (F : FunD K "__eq__" "Table.__eq__" (defArgs s_Table_eq) (defBody s_Table_eq) (defScope s_Table_eq) [] [] f fd) (T : Txt K mg gs FS) (hT : mg "Table" = some (.ref C)) (tc : TabC K C) : FnOk P w K mg base CX0 1 f fd ["self", "other"] (spEq K C) := by
  refine F.ok sc_Table___eq__ (fun vs H Q E h => ?_) (fun cdv A outer s H vs Q E hr h => ?_)
  · obtain ⟨x, y, v, rfl, _⟩ := h
    rfl
  · obtain ⟨x, ⟨h, l, r⟩, v, rfl, ⟨dx, a, b, hx, ha, hb⟩, q⟩ := h
    have hu : (A.deeper (envOfC "Table.__eq__" (defScope s_Table_eq) s.heap.objs.size f cdv)).units + 64 < cLine := by
      have := hr.un
      omega
    refine ⟨_, PSs.nox (pss_one (ps_ret (pe_and (pe_callB call_isi rfl (T.fr _ (by decide +kernel)) (by decide +kernel) (pa_cons (pv 1) (pa_cons (pe_gl hT) pa_nil))) (pe_and (pe_cmpR (op_eqD hu) (pe_fld (pv 0) rfl) (pe_fld (pv 1) rfl) (nomark _)) (pe_and (pe_cmpR (op_eqD hu) (pe_fld (pv 0) rfl) (pe_fld (pv 1) rfl) (nomark _)) (pe_one (pe_cmpR op_eq (pe_fld (pv 0) rfl) (pe_fld (pv 1) rfl) (nomark _)))))))), ?_⟩
    rcases q with ⟨x2, ⟨h2, l2, r2⟩, rfl, ⟨dx2, a2, b2, hx2, ha2, hb2⟩, q⟩ | ⟨t, ty, hk, q⟩
    · have tx := tc.ty hx2
      dsimp only at hx ha hb hx2 ha2 hb2 q
      refine ⟨_, rfl, _, _, _, _, true, rfl, .own C, tx, tc.self, true, rfl, iteT ?_⟩
      refine ⟨_, rfl, x, C, dx, _, _, rfl, hx, tc.cl, tc.hd, rfl, _, rfl, x2, C, dx2, _, _, rfl, hx2, tc.cl, tc.hd, rfl, ?_⟩
      refine eqT_done (K := K) ha ha2 ⟨_, rfl, ite2 (fun h1 => ?_) (fun h1 => ?_)⟩
      · have e1 : h = h2 := of_decide_eq_true h1
        refine ⟨_, rfl, x, C, dx, _, _, rfl, hx, tc.cl, tc.lp, rfl, _, rfl, x2, C, dx2, _, _, rfl, hx2, tc.cl, tc.lp, rfl, ?_⟩
        refine eqT_done (K := K) hb hb2 ⟨_, rfl, ite2 (fun h3 => ?_) (fun h3 => ?_)⟩
        · have e2 : l = l2 := of_decide_eq_true h3
          refine ⟨_, rfl, x, C, dx, _, _, rfl, hx, tc.cl, tc.ri, rfl, _, rfl, x2, C, dx2, _, _, rfl, hx2, tc.cl, tc.ri, rfl, rfl, ?_⟩
          have e : decide ((h, l, r) = (h2, l2, r2)) = decide (V.int r = V.int r2) := by
            subst e1 e2
            by_cases z : r = r2
            · subst z; simp
            · rw [decide_eq_false (fun y => z (by injection y with _ y; injection y)), decide_eq_false (fun y => z (by injection y))]
          rw [← e]
          exact q
        · have e2 : l ≠ l2 := fun z => h3 (decide_eq_true z)
          rw [decide_eq_false (fun y => e2 (by injection y with _ y; injection y))] at q
          exact q
      · have e1 : h ≠ h2 := fun z => h1 (decide_eq_true z)
        rw [decide_eq_false (fun y => e1 (by injection y))] at q
        exact q
    · exact ⟨_, rfl, _, _, _, _, false, rfl, .own C, ty, hk, false, rfl, iteF q⟩
end
end K10
set_option Elab.async false
set_option linter.all false
set_option maxRecDepth 100000
set_option maxHeartbeats 4000000
namespace K10
open PySem PySem.Spec PyProof.Rows L2 He NF
section
variable {P : Program} {w : World} {K : PySem.W.Frag} {mg : Str → Option Value} {base : Heap}
theorem sc__law_pick : FnScope ["_law_source_here", "_law_many", "_law_value", "_law_digit"] ["_law_source_here", "_law_many"] (defScope s__law_pick) := ⟨rfl, rfl, rfl, by decide +kernel, rfl, by decide +kernel, by decide +kernel⟩
theorem ok_pick {f : Addr} {fd : FuncData} {gs fs : List Str} (F : FunD K "_law_pick" "_law_pick" (defArgs s__law_pick) (defBody s__law_pick) (defScope s__law_pick) [] [] f fd) (T : Txt K mg gs fs) (hi : ("int" : Str) ∈ fs) : FnOk P w K mg base CX0 1 f fd ["_law_source_here", "_law_many"] spPick := by
  refine F.ok sc__law_pick (fun vs H Q E h => ?_) (fun cdv A outer s H vs Q E hr h => ?_)
  · obtain ⟨H0, p, m, rfl, _⟩ := h
    rfl
  · obtain ⟨H0, p, m, rfl, hS, h0, ⟨a, sd, c, hp⟩, m0, m1, k⟩ := h
    refine ⟨_, PSs.nox (pss_cons (ps_if (pt_cmpR op_gt (pe_ix ix_list (pv 0) pe_int fun _ _ => rfl) pe_int (nomark _)) (pss_cons (ps_set (i := 3) sc__law_pick.nd rfl (Or.inl rfl) (pe_op op_mod (pe_callTy call_int1 rfl (T.fr _ hi) (by decide +kernel) (pa_cons (pe_ix ix_list (pv 0) pe_int fun _ _ => rfl) pa_nil)) (pv 1))) (pss_cons (ps_asg (pe_op op_fdiv (pe_ix ix_list (pv 0) pe_int fun _ _ => rfl) (pv 1)) (pg_sub (pv 0) pe_int set_list)) (pss_one (ps_ret (pv 3))))) pss_nil) (pss_cons (ps_asg (pe_op op_add (pe_ix ix_list (pv 0) pe_int fun _ _ => rfl) pe_int) (pg_sub (pv 0) pe_int set_list)) (pss_cons (ps_set (i := 2) sc__law_pick.nd rfl (Or.inl rfl) (pe_op op_mod (pe_callTy call_int1 rfl (T.fr _ hi) (by decide +kernel) (pa_cons (pe_op op_mul (pe_op op_add (pe_ix ix_list (pv 0) pe_int fun _ _ => rfl) (pe_op op_mul pe_int (pe_ix ix_list (pv 0) pe_int fun _ _ => rfl))) pe_int) pa_nil)) pe_int)) (pss_cons (ps_set (i := 2) sc__law_pick.nd rfl (Or.inl rfl) (pe_op op_mod (pe_callTy call_int1 rfl (T.fr _ hi) (by decide +kernel) (pa_cons (pe_op op_add (pe_op op_add (pe_op op_mul (pv 2) (pv 2)) (pe_op op_mul pe_int (pe_ix ix_list (pv 0) pe_int fun _ _ => rfl))) (pe_ix ix_list (pv 0) pe_int fun _ _ => rfl)) pa_nil)) pe_int)) (pss_cons (ps_set (i := 2) sc__law_pick.nd rfl (Or.inl rfl) (pe_op op_mod (pe_callTy call_int1 rfl (T.fr _ hi) (by decide +kernel) (pa_cons (pe_op op_add (pe_op op_mul (pv 2) pe_int) pe_int) pa_nil)) pe_int)) (pss_cons (ps_set (i := 2) sc__law_pick.nd rfl (Or.inl rfl) (pe_op op_mod (pe_callTy call_int1 rfl (T.fr _ hi) (by decide +kernel) (pa_cons (pe_op op_add (pe_op op_mul (pv 2) (pv 2)) (pv 2)) pa_nil)) pe_int)) (pss_one (ps_ret (pe_op op_mod (pe_callTy call_int1 rfl (T.fr _ hi) (by decide +kernel) (pa_cons (pe_op op_fdiv (pv 2) pe_int) pa_nil)) (pv 1)))))))))), ?_⟩
    refine ⟨_, rfl, p, _, _, _, rfl, rfl, SqL.of hp, at0, _, _, rfl, rfl, _, rfl, ?_⟩
    refine ite2 (fun _ => ?_) (fun _ => ?_)
    · refine ⟨_, rfl, p, _, _, _, rfl, rfl, SqL.of hp, at0, Or.inl ⟨_, rfl, _, rfl, _, _, rfl, rfl, m0, ?_⟩⟩
      refine ⟨_, rfl, p, _, _, _, rfl, rfl, SqL.of hp, at0, _, rfl, _, _, rfl, rfl, ⟨m0, m1⟩, ?_⟩
      refine ⟨_, rfl, p, _, _, 0, rfl, rfl, hp, rfl, ?_⟩
      refine ⟨_, rfl, k _ _ (Int.emod_nonneg _ (by omega)) (Int.emod_lt_of_pos _ m0) (NF.Same.put hS h0) ⟨_, _, _, upd_same⟩⟩
    · refine ⟨_, rfl, p, _, _, _, rfl, rfl, SqL.of hp, at2, _, _, rfl, rfl, ?_⟩
      refine ⟨_, rfl, p, _, _, 2, rfl, rfl, hp, rfl, ?_⟩
      have hp' : upd H p (.lst [.int a, .int sd, .int (c + 1)]) p = some (.lst [.int a, .int sd, .int (c + 1)]) := upd_same
      refine ⟨_, rfl, p, _, _, _, rfl, rfl, SqL.of hp', at1, ?_⟩
      refine ⟨_, rfl, p, _, _, _, rfl, rfl, SqL.of hp', at2, _, _, rfl, rfl, Or.inl (by decide), _, _, rfl, rfl, ?_⟩
      refine ⟨_, _, rfl, rfl, Or.inr (by decide), Or.inl ⟨_, rfl, _, _, rfl, rfl, (by first | exact (by decide : (0 : Int) < 2147483647) | exact (by decide : (0 : Int) < 2147483629) | exact (by decide : (0 : Int) < 2147483587)), ?_⟩⟩
      generalize hx : (sd + 104729 * (c + 1)) * 48271 % 2147483647 = x
      have x0 : 0 ≤ x ∧ x < 2147483647 := by omega
      refine ⟨_, rfl, _, rfl, _, _, rfl, rfl, Or.inl (by omega), ?_⟩
      refine ⟨_, rfl, p, _, _, _, rfl, rfl, SqL.of hp', at2, _, _, rfl, rfl, Or.inl (by decide), _, _, rfl, rfl, ?_⟩
      refine ⟨_, rfl, p, _, _, _, rfl, rfl, SqL.of hp', at1, _, _, rfl, rfl, Or.inl ⟨_, rfl, _, _, rfl, rfl, (by first | exact (by decide : (0 : Int) < 2147483647) | exact (by decide : (0 : Int) < 2147483629) | exact (by decide : (0 : Int) < 2147483587)), ?_⟩⟩
      generalize hy : (x * x + 7 * (c + 1) + sd) % 2147483629 = y
      have y0 : 0 ≤ y ∧ y < 2147483629 := by omega
      refine ⟨_, rfl, _, _, rfl, rfl, Or.inl (by omega), _, _, rfl, rfl, Or.inl ⟨_, rfl, _, _, rfl, rfl, (by first | exact (by decide : (0 : Int) < 2147483647) | exact (by decide : (0 : Int) < 2147483629) | exact (by decide : (0 : Int) < 2147483587)), ?_⟩⟩
      generalize hz : (y * 69621 + 5) % 2147483647 = z
      have z0 : 0 ≤ z ∧ z < 2147483647 := by omega
      refine ⟨_, rfl, _, rfl, _, _, rfl, rfl, Or.inl (by omega), ?_⟩
      refine ⟨_, rfl, _, _, rfl, rfl, Or.inl ⟨_, rfl, _, _, rfl, rfl, (by first | exact (by decide : (0 : Int) < 2147483647) | exact (by decide : (0 : Int) < 2147483629) | exact (by decide : (0 : Int) < 2147483587)), ?_⟩⟩
      refine ⟨_, rfl, _, _, rfl, rfl, ⟨by decide, by decide⟩, Or.inl ⟨_, rfl, _, rfl, _, _, rfl, rfl, m0, ?_⟩⟩
      exact k _ _ (Int.emod_nonneg _ (by omega)) (Int.emod_lt_of_pos _ m0) (NF.Same.put hS h0) ⟨_, _, _, hp'⟩
end
end K10
set_option Elab.async false
set_option linter.all false
set_option maxRecDepth 100000
set_option maxHeartbeats 4000000
namespace K10
open PySem PySem.Spec PyProof.Rows L2 He NF
theorem sc__law_source : FnScope ["_law_script", "_law_place", "_law_cell", "_law_seed", "_law_one", "_law_number"] ["_law_script", "_law_place"] (defScope s__law_source) := ⟨rfl, rfl, rfl, by decide +kernel, rfl, by decide +kernel, by decide +kernel⟩
theorem natAbs_bits {x : Int} {n : Nat} (h : x.natAbs < 2 ^ n) : Builtin.Int.intBits x ≤ n := by
  unfold Builtin.Int.intBits
  by_cases e : x = 0
  · rw [if_pos (by rw [e]; rfl)]
    exact Nat.zero_le _
  · rw [if_neg (by simpa using e)]
    exact (Nat.log2_lt (by omega)).mpr h
theorem bits_le {x y : Int} (h : x.natAbs ≤ y.natAbs) : Builtin.Int.intBits x ≤ Builtin.Int.intBits y := by
  refine natAbs_bits (Nat.lt_of_le_of_lt h ?_)
  unfold Builtin.Int.intBits
  by_cases e : y = 0
  · rw [if_pos (by rw [e]; rfl), e]
    decide
  · rw [if_neg (by simpa using e)]
    exact Nat.lt_log2_self
theorem bits_small {x : Int} (h0 : 0 ≤ x) (h : x < 1000000) : Builtin.Int.intBits x ≤ 1048576 := Nat.le_trans (natAbs_bits (n := 20) (by omega)) (by decide)
section
variable {P : Program} {w : World} {K : PySem.W.Frag} {mg : Str → Option Value} {base : Heap}
theorem ok_source {f : Addr} {fd : FuncData} {gs fs : List Str} (F : FunD K "_law_source" "_law_source" (defArgs s__law_source) (defBody s__law_source) (defScope s__law_source) [] [] f fd) (T : Txt K mg gs fs) (hl : ("len" : Str) ∈ fs) (hi : ("int" : Str) ∈ fs) (ha : ("abs" : Str) ∈ fs) : FnOk P w K mg base CX0 1 f fd ["_law_script", "_law_place"] (spSource K) := by
  refine F.ok sc__law_source (fun vs H Q E h => ?_) (fun cdv A outer s H vs Q E hr h => ?_)
  · obtain ⟨l, ns, i, rfl, _⟩ := h
    rfl
  · obtain ⟨l, ns, i, rfl, hS, hn, hb, hi', k⟩ := h
    refine ⟨_, PSs.nox (pss_cons (ps_set (i := 2) sc__law_source.nd rfl (Or.inl rfl) (pe_ifExp (pt_cmpR op_lt (pv 1) (pe_callB call_len_seq rfl (T.fr _ hl) boot_len (pa_cons (pv 0) pa_nil)) (nomark _)) (pe_ix ix_list (pv 0) (pv 1) fun _ _ => rfl) (pe_op op_add (pe_op op_mul pe_int (pv 1)) pe_int))) (pss_cons (ps_set (i := 3) sc__law_source.nd rfl (Or.inl rfl) (pe_op op_mod (pe_callTy call_int1 rfl (T.fr _ hi) (by decide +kernel) (pa_cons (pe_op op_add (pe_op op_mod (pe_callTy call_int1 rfl (T.fr _ hi) (by decide +kernel) (pa_cons (pv 2) pa_nil)) pe_int) (pe_op op_mul pe_int (pv 1))) pa_nil)) pe_int)) (pss_cons (ps_for PassesOwn.never rfl (pi_list (pe_slice sl_list (pv 0) po_none (po_some pe_int))) (pg_name (i := 4) sc__law_source.nd rfl (Or.inl rfl)) (pss_one (ps_set (i := 3) sc__law_source.nd rfl (Or.inl rfl) (pe_op op_mod (pe_callTy call_int1 rfl (T.fr _ hi) (by decide +kernel) (pa_cons (pe_op op_add (pe_op op_mul (pv 3) pe_int) (pe_op op_mod (pe_callTy call_int1 rfl (T.fr _ hi) (by decide +kernel) (pa_cons (pv 4) pa_nil)) pe_int)) pa_nil)) pe_int)))) (pss_cons (ps_set (i := 5) sc__law_source.nd rfl (Or.inl rfl) (pe_callB call_abs rfl (T.fr _ ha) (by decide +kernel) (pa_cons (pv 2) pa_nil))) (pss_cons (ps_if (pt_cmpR op_lt (pv 5) (pe_op op_pow pe_int pe_int) (nomark _)) (pss_one (ps_ret (pe_lst (pa_cons pe_int (pa_cons (pv 3) (pa_cons pe_int pa_nil)))))) pss_nil) (pss_cons (ps_if (pt_cmpR op_gt (pe_op op_shr (pv 5) pe_int) pe_int (nomark _)) (pss_one (ps_set (i := 5) sc__law_source.nd rfl (Or.inl rfl) (pe_op op_sub (pv 5) (pe_op op_shlW (pe_op op_shr (pv 5) pe_int) pe_int)))) pss_nil) (pss_one (ps_ret (pe_lst (pa_cons (pv 5) (pa_cons (pv 3) (pa_cons pe_int pa_nil)))))))))))), ?_⟩
    -- the cell: what stands at the place, or a number by the place
    have hcell : ∀ (Q1 : VK), (∀ c : Int, Builtin.Int.intBits c ≤ 1048576 → Q1 (.int c) H) →
        (if decide ((i : Int) < ((ns.map V.int).length : Int)) = true then tOp (rIxL K) (tVar 0) (tVar 1) (start ["_law_script", "_law_place", "_law_cell", "_law_seed", "_law_one", "_law_number"] [.ref l, .int (i : Int)]) H Q1
          else tOp (rI0 fun i j => .int (i + j)) (tOp (rI CMul fun i j => .int (i * j)) (tC (.int 3)) (tVar 1)) (tC (.int 1)) (start ["_law_script", "_law_place", "_law_cell", "_law_seed", "_law_one", "_law_number"] [.ref l, .int (i : Int)]) H Q1) := by
      intro Q1 q
      rw [List.length_map]
      by_cases hlt : i < ns.length
      · rw [decide_eq_true (show (i : Int) < (ns.length : Int) by omega), if_pos rfl]
        have e : (ns.map V.int)[i]? = some (V.int ns[i]) := by rw [List.getElem?_map, List.getElem?_eq_getElem hlt] <;> rfl
        exact ⟨_, rfl, _, rfl, l, _, _, _, rfl, rfl, hS, atI_nat e, q _ (hb _ (List.getElem_mem hlt))⟩
      · rw [decide_eq_false (show ¬ (i : Int) < (ns.length : Int) by omega), if_neg Bool.false_ne_true]
        refine ⟨_, rfl, _, _, rfl, rfl, Or.inl (by decide), _, _, rfl, rfl, q _ ?_⟩
        exact bits_small (by omega) (by omega)
    refine ⟨_, rfl, _, rfl, l, _, rfl, Or.inl hS, _, _, rfl, rfl, _, rfl, hcell _ fun c hc => ?_⟩
    refine ⟨_, rfl, Or.inl ⟨_, rfl, _, _, rfl, rfl, (by exact (by decide : (0 : Int) < 2147483629)), ?_⟩⟩
    refine ⟨_, rfl, _, _, rfl, rfl, Or.inl (by decide), _, _, rfl, rfl, Or.inl ⟨_, rfl, _, _, rfl, rfl, (by exact (by decide : (0 : Int) < 2147483629)), ?_⟩⟩
    refine ⟨_, rfl, _, rfl, l, _, rfl, hS, fun p hp => ⟨p, rfl, ⟨_, SqL.of upd_same⟩, ?_⟩⟩
    have hpl : H p = none := hp
    obtain ⟨cs, hcs⟩ : ∃ cs : List Int, cutV (ns.map V.int) none (some 2) = cs.map V.int := ⟨(ns.drop (HT.sIx (ns.map V.int).length 0 none)).take (HT.sIx (ns.map V.int).length (ns.map V.int).length (some 2) - HT.sIx (ns.map V.int).length 0 none), by unfold cutV; rw [List.map_take, List.map_drop]⟩
    refine for_list (K := K) (a := p) (xs := cs.map V.int) (fun j σ H' => H' = upd H p (.lst (cs.map V.int)) ∧ ∃ (sd : Int) (v : Option V), σ = [some (.ref l), some (.int (i : Int)), some (.int c), some (.int sd), v, none])
      ⟨by rw [hcs], _, _, rfl⟩ (fun j σ H' _ z => by rw [z.1]; exact SqL.of upd_same) ?_ ?_
    · rintro j y σ H' hj ⟨rfl, sd, v, rfl⟩
      obtain ⟨z, rfl⟩ : ∃ z, y = V.int z := by
        rw [List.getElem?_map] at hj
        cases e : cs[j]? with
        | none =>
          rw [e] at hj
          cases hj
        | some z =>
          rw [e] at hj
          exact ⟨z, (Option.some.inj hj).symm⟩
      refine ⟨_, rfl, _, _, rfl, rfl, Or.inr (by decide), _, rfl, Or.inl ⟨_, rfl, _, _, rfl, rfl, (by exact (by decide : (0 : Int) < 1000003)), ?_⟩⟩
      refine ⟨_, _, rfl, rfl, Or.inl ⟨_, rfl, _, _, rfl, rfl, (by exact (by decide : (0 : Int) < 2147483629)), ?_⟩⟩
      exact ⟨rfl, _, _, rfl⟩
    · rintro σ H' ⟨rfl, sd, v, rfl⟩
      have hS1 : Same H (upd H p (.lst (cs.map V.int))) := NF.Same.new (Same.refl H) hp
      have hend : ∀ (a sd : Int) (q : Addr), upd H p (.lst (cs.map V.int)) q = none → Q (.ref q) (upd (upd H p (.lst (cs.map V.int))) q (.lst [.int a, .int sd, .int 0])) := fun a sd q hq =>
        k q _ (NF.Same.new hS1 hq) (L2.Same.free hS1 hq) ⟨_, _, _, upd_same⟩
      refine ⟨_, rfl, _, rfl, ?_⟩
      have hab : Builtin.Int.intBits (if c < 0 then -c else c) ≤ 1048576 := Nat.le_trans (bits_le (by split <;> omega)) hc
      generalize hm : (if c < 0 then -c else c) = m at hab ⊢
      have m0 : 0 ≤ m := by rw [← hm]; split <;> omega
      refine ⟨_, rfl, _, _, rfl, rfl, ⟨by decide, by decide, by decide⟩, _, _, rfl, rfl, _, rfl, ?_⟩
      refine ite2 (fun _ => ?_) (fun _ => ?_)
      · exact ⟨_, rfl, (by show 3 ≤ sizeLine; decide), fun q hq => hend _ _ q hq⟩
      · refine ⟨_, rfl, _, _, rfl, rfl, (by exact (by decide : (0 : Int) ≤ 4000)), _, _, rfl, rfl, _, rfl, ?_⟩
        refine ite2 (fun _ => ?_) (fun _ => ?_)
        · refine ⟨_, rfl, _, rfl, _, _, rfl, rfl, (by exact (by decide : (0 : Int) ≤ 4000)), _, _, rfl, rfl, ⟨(by exact (by decide : (0 : Int) ≤ 4000)), ?_⟩, _, _, rfl, rfl, ?_⟩
          · have hd : Builtin.Int.intBits (m / 2 ^ (4000 : Int).toNat) ≤ Builtin.Int.intBits m := bits_le (by
              have h1 : 0 ≤ m / 2 ^ (4000 : Int).toNat := Int.ediv_nonneg m0 (Int.le_of_lt (Int.pow_pos (by decide)))
              have h2 : m / 2 ^ (4000 : Int).toNat ≤ m := Int.ediv_le_self _ m0
              omega)
            have h27 : (1048576 : Int) + 4000 ≤ 2 ^ 27 := by decide
            omega
          · exact ⟨_, rfl, _, rfl, (by show 3 ≤ sizeLine; decide), fun q hq => hend _ _ q hq⟩
        · exact ⟨_, rfl, _, rfl, (by show 3 ≤ sizeLine; decide), fun q hq => hend _ _ q hq⟩
end
end K10
set_option Elab.async false
set_option linter.all false
set_option maxRecDepth 100000
set_option maxHeartbeats 4000000
namespace K10
open PySem PySem.Spec PyProof.Rows L2 He NF RZ NT
def spLEnd (K : PySem.W.Frag) : Sp := fun vs H Q _ => ∃ p y, vs = [.ref p] ∧ FormAt K H p y ∧ Q (vO (fin_ y.2.1 y.2.2)) H
def spLAt (K : PySem.W.Frag) : Sp := fun vs H Q _ => ∃ p y n, vs = [.ref p, vN n] ∧ FormAt K H p y ∧ Small y ∧ Q (vO (val_ y.1 y.2.1 y.2.2 n)) H
def spGcd : Sp := fun vs H Q _ => ∃ a b : Nat, vs = [.int (a : Int), .int (b : Int)] ∧ ∀ H', Same H H' → Q (.int ((Nat.gcd a b : Nat) : Int)) H'
theorem iteT' {b : Bool} {A B : Prop} (e : b = true) (h : A) : if b = true then A else B := by rw [e]; exact iteT h
theorem iteF' {b : Bool} {A B : Prop} (e : b = false) (h : B) : if b = true then A else B := by rw [e]; exact iteF h
theorem sc__law_is_integer : FnScope ["_law_thing"] ["_law_thing"] (defScope s__law_is_integer) := ⟨rfl, rfl, rfl, by decide +kernel, rfl, by decide +kernel, by decide +kernel⟩
theorem sc__law_is_count : FnScope ["_law_thing"] ["_law_thing"] (defScope s__law_is_count) := ⟨rfl, rfl, rfl, by decide +kernel, rfl, by decide +kernel, by decide +kernel⟩
theorem sc__law_end : FnScope ["_law_raw_here"] ["_law_raw_here"] (defScope s__law_end) := ⟨rfl, rfl, rfl, by decide +kernel, rfl, by decide +kernel, by decide +kernel⟩
theorem sc__law_at : FnScope ["_law_raw_here", "_law_place", "_law_rest"] ["_law_raw_here", "_law_place"] (defScope s__law_at) := ⟨rfl, rfl, rfl, by decide +kernel, rfl, by decide +kernel, by decide +kernel⟩
theorem sc__law_gcd : FnScope ["_law_one", "_law_other"] ["_law_one", "_law_other"] (defScope s__law_gcd) := ⟨rfl, rfl, rfl, by decide +kernel, rfl, by decide +kernel, by decide +kernel⟩
section
variable {P : Program} {w : World} {K : PySem.W.Frag} {mg : Str → Option Value} {base : Heap} {gs : List Str}
theorem ok__law_is_integer {f : Addr} {fd : FuncData} (F : FunD K "_law_is_integer" "_law_is_integer" (defArgs s__law_is_integer) (defBody s__law_is_integer) (defScope s__law_is_integer) [] [] f fd) (T : Txt K mg gs FS) : FnOk P w K mg base CX0 1 f fd ["_law_thing"] spIsInt := by
  refine F.ok sc__law_is_integer (fun vs H Q E h => ?_) (fun cdv A outer s H vs Q E hr h => ?_)
  · obtain ⟨i, rfl, _⟩ := h
    rfl
  · obtain ⟨i, rfl, q⟩ := h
    refine ⟨_, PSs.nox (pss_one (ps_ret (pe_and (pe_callB call_isi rfl (T.fr _ (by decide +kernel)) (by decide +kernel) (pa_cons (pv 0) (pa_cons (pe_bltn (v := .ty "int") rfl (T.fr _ (by decide +kernel)) (by decide +kernel) rfl) pa_nil))) (pe_one (pe_not (pe_callB call_isi rfl (T.fr _ (by decide +kernel)) (by decide +kernel) (pa_cons (pv 0) (pa_cons (pe_bltn (v := .ty "bool") rfl (T.fr _ (by decide +kernel)) (by decide +kernel) rfl) pa_nil)))))))), ?_⟩
    exact ⟨_, rfl, _, _, _, _, true, rfl, .ty "int", .base (.int i), kit_i_i K, true, rfl, _, rfl, _, _, _, _, false, rfl, .ty "bool", .base (.int i), kit_i_b K, false, rfl, q⟩
theorem ok__law_is_count {f : Addr} {fd : FuncData} (F : FunD K "_law_is_count" "_law_is_count" (defArgs s__law_is_count) (defBody s__law_is_count) (defScope s__law_is_count) [] [] f fd) (T : Txt K mg gs FS) (c__law_is_integer : Cal P w K mg base 1 "_law_is_integer" spIsInt) : FnOk P w K mg base CX0 2 f fd ["_law_thing"] spIsCount := by
  refine F.ok sc__law_is_count (fun vs H Q E h => ?_) (fun cdv A outer s H vs Q E hr h => ?_)
  · obtain ⟨i, rfl, _⟩ := h
    rfl
  · obtain ⟨i, rfl, q⟩ := h
    refine ⟨_, PSs.nox (pss_one (ps_ret (pe_and (pe_c c__law_is_integer hr (by decide) rfl (pa_cons (pv 0) pa_nil)) (pe_one (pe_cmpR op_ge (pv 0) pe_int (nomark _)))))), ?_⟩
    exact ⟨_, rfl, i, rfl, true, rfl, _, rfl, _, _, rfl, rfl, q⟩
theorem ok__law_end {f : Addr} {fd : FuncData} (F : FunD K "_law_end" "_law_end" (defArgs s__law_end) (defBody s__law_end) (defScope s__law_end) [] [] f fd) (T : Txt K mg gs FS) : FnOk P w K mg base CX0 1 f fd ["_law_raw_here"] (spLEnd K) := by
  refine F.ok sc__law_end (fun vs H Q E h => ?_) (fun cdv A outer s H vs Q E hr h => ?_)
  · obtain ⟨p, y, rfl, _⟩ := h
    rfl
  · obtain ⟨p, ⟨h, l, r⟩, rfl, ⟨a, b, hp, ha, hb⟩, q⟩ := h
    dsimp only at hp ha hb q
    refine ⟨_, PSs.nox (pss_cons (ps_if (PW.pt (pw_or (pt_cmpR op_eq (pe_callB call_len_seq rfl (T.fr _ (by decide +kernel)) boot_len (pa_cons (pe_ix (ixt (K := K)) (pv 0) pe_int fun _ _ => rfl) pa_nil)) pe_int (nomark _)) (pw_or1 (pt_cmpR op_gt (pe_ix (ixt (K := K)) (pv 0) pe_int fun _ _ => rfl) pe_int (nomark _))))) (pss_one (ps_ret pe_non)) pss_nil) (pss_one (ps_ret (pe_ix (ixt (K := K)) (pe_ix (ixt (K := K)) (pv 0) pe_int fun _ _ => rfl) (pe_un un_neg pe_int) fun _ _ => rfl)))), ?_⟩
    refine ⟨_, rfl, p, _, _, _, rfl, rfl, hp, at1, b, _, rfl, Or.inr hb, rfl, _, rfl, ?_⟩
    by_cases hl : l = []
    · refine (iteT' (decide_eq_true (by rw [hl]; rfl)) ?_)
      refine iteT ?_
      unfold fin_ at q
      rw [if_pos (.inl hl)] at q
      exact q
    · refine (iteF' (decide_eq_false (fun z => hl ?_)) ?_)
      · injection z with z
        rw [vI_len] at z
        exact List.eq_nil_of_length_eq_zero (by omega)
      refine ⟨_, rfl, p, _, _, _, rfl, rfl, hp, at2, _, _, rfl, rfl, _, rfl, ?_⟩
      refine ite2 (fun h1 => ?_) (fun h1 => ?_)
      · have h2 : (0 : Int) < r := of_decide_eq_true h1
        unfold fin_ at q
        rw [if_pos (.inr h2)] at q
        exact q
      · have h2 : ¬ (0 : Int) < r := fun z => h1 (decide_eq_true z)
        unfold fin_ at q
        rw [if_neg (fun z => z.elim hl h2)] at q
        exact ⟨_, rfl, p, _, _, _, rfl, rfl, hp, at1, _, rfl, b, _, _, _, rfl, rfl, hb, at_last (len_pos hl), q⟩
theorem ok__law_at {f : Addr} {fd : FuncData} (F : FunD K "_law_at" "_law_at" (defArgs s__law_at) (defBody s__law_at) (defScope s__law_at) [] [] f fd) (T : Txt K mg gs FS) (c__law_end : Cal P w K mg base 1 "_law_end" (spLEnd K)) : FnOk P w K mg base CX0 2 f fd ["_law_raw_here", "_law_place"] (spLAt K) := by
  refine F.ok sc__law_at (fun vs H Q E h => ?_) (fun cdv A outer s H vs Q E hr h => ?_)
  · obtain ⟨x, y, n, rfl, _⟩ := h
    rfl
  · obtain ⟨p, ⟨h, l, r⟩, n, rfl, fo, sm, q⟩ := h
    have fo0 := fo
    obtain ⟨a, b, hp, ha, hb⟩ := fo0
    dsimp only at hp ha hb q
    refine ⟨_, PSs.nox (pss_cons (ps_if (pt_cmpR op_isN (pv 1) pe_non (nomark _)) (pss_one (ps_ret (pe_c c__law_end hr (by decide) rfl (pa_cons (pv 0) pa_nil)))) pss_nil) (pss_cons (ps_if (pt_cmpR op_eq (pv 1) pe_int (nomark _)) (pss_one (ps_ret pe_int)) pss_nil) (pss_cons (ps_if (pt_cmpR op_le (pv 1) (pe_callB call_len_seq rfl (T.fr _ (by decide +kernel)) boot_len (pa_cons (pe_ix (ixt (K := K)) (pv 0) pe_int fun _ _ => rfl) pa_nil)) (nomark _)) (pss_one (ps_ret (pe_ix (ixt (K := K)) (pe_ix (ixt (K := K)) (pv 0) pe_int fun _ _ => rfl) (pe_op op_sub (pv 1) pe_int) fun _ _ => rfl))) pss_nil) (pss_cons (ps_if (pt_cmpR op_eq (pe_callB call_len_seq rfl (T.fr _ (by decide +kernel)) boot_len (pa_cons (pe_ix (ixt (K := K)) (pv 0) pe_int fun _ _ => rfl) pa_nil)) pe_int (nomark _)) (pss_one (ps_ret pe_non)) pss_nil) (pss_cons (ps_set (i := 2) sc__law_at.nd rfl (Or.inl rfl) (pe_op op_sub (pe_op op_sub (pv 1) (pe_callB call_len_seq rfl (T.fr _ (by decide +kernel)) boot_len (pa_cons (pe_ix (ixt (K := K)) (pv 0) pe_int fun _ _ => rfl) pa_nil))) pe_int)) (pss_one (ps_ret (pe_op op_add (pe_ix (ixt (K := K)) (pe_ix (ixt (K := K)) (pv 0) pe_int fun _ _ => rfl) (pe_op op_mod (pv 2) (pe_callB call_len_seq rfl (T.fr _ (by decide +kernel)) boot_len (pa_cons (pe_ix (ixt (K := K)) (pv 0) pe_int fun _ _ => rfl) pa_nil))) fun _ _ => rfl) (pe_op op_mul (pe_ix (ixt (K := K)) (pv 0) pe_int fun _ _ => rfl) (pe_op op_fdiv (pv 2) (pe_callB call_len_seq rfl (T.fr _ (by decide +kernel)) boot_len (pa_cons (pe_ix (ixt (K := K)) (pv 0) pe_int fun _ _ => rfl) pa_nil)))))))))))), ?_⟩
    cases n with
    | none => exact ⟨_, rfl, rfl, _, rfl, iteT ⟨_, rfl, p, _, rfl, fo, q⟩⟩
    | some n =>
      refine ⟨_, rfl, rfl, _, rfl, iteF ?_⟩
      refine ⟨_, rfl, rfl, _, rfl, ite2 (fun h1 => ?_) (fun h1 => ?_)⟩
      · have h2 : n = 0 := by
          have := of_decide_eq_true h1
          injection this with this
          omega
        subst h2
        exact q
      have n0 : n ≠ 0 := fun z => h1 (by rw [z]; exact decide_eq_true rfl)
      unfold val_ at q
      dsimp only at q
      rw [if_neg n0] at q
      refine ⟨_, rfl, _, rfl, p, _, _, _, rfl, rfl, hp, at0, a, _, rfl, Or.inr ha, ?_⟩
      rw [vI_len]
      refine ⟨_, _, rfl, rfl, _, rfl, ite2 (fun h1 => ?_) (fun h1 => ?_)⟩
      · have h2 : n ≤ h.length := by
          have := of_decide_eq_true h1
          omega
        unfold at_ at q
        rw [if_pos h2] at q
        exact ⟨_, rfl, p, _, _, _, rfl, rfl, hp, at0, _, rfl, _, _, rfl, rfl, a, _, _, _, rfl, rfl, ha, at_int (k := n - 1) (by omega) (by omega), q⟩
      have h2 : ¬ n ≤ h.length := fun z => h1 (decide_eq_true (by omega))
      refine ⟨_, rfl, p, _, _, _, rfl, rfl, hp, at1, b, _, rfl, Or.inr hb, rfl, _, rfl, ?_⟩
      by_cases hl : l = []
      · refine (iteT' (decide_eq_true (by rw [hl]; rfl)) ?_)
        unfold at_ at q
        rw [if_neg h2, if_pos hl] at q
        exact q
      have hp0 := len_pos hl
      have hsl := sm.l
      dsimp only at hsl
      rw [at_loop hl (by omega)] at q
      refine (iteF' (decide_eq_false (fun z => hl ?_)) ?_)
      · injection z with z
        rw [vI_len] at z
        exact List.eq_nil_of_length_eq_zero (by omega)
      refine ⟨_, rfl, _, rfl, p, _, _, _, rfl, rfl, hp, at0, a, _, rfl, Or.inr ha, _, _, rfl, rfl, _, _, rfl, rfl, ?_⟩
      rw [vI_len]
      refine ⟨_, rfl, p, _, _, _, rfl, rfl, hp, at1, _, rfl, _, rfl, p, _, _, _, rfl, rfl, hp, at1, b, _, rfl, Or.inr hb, _, _, rfl, rfl, (by rw [vI_len]; show (0 : Int) < (l.length : Int); omega), ?_⟩
      rw [vI_len]
      have e1 : (n : Int) - (h.length : Int) - 1 = ((n - h.length - 1 : Nat) : Int) := by omega
      have e2 : ((n : Int) - (h.length : Int) - 1) % (l.length : Int) = (((n - h.length - 1) % l.length : Nat) : Int) := by rw [e1]; rfl
      refine ⟨b, _, _, _, rfl, rfl, hb, at_int (k := (n - h.length - 1) % l.length) e2 (Nat.mod_lt _ hp0), ?_⟩
      have r0 := sm.r0
      have r1 := sm.r1
      dsimp only at r0 r1
      refine ⟨_, rfl, p, _, _, _, rfl, rfl, hp, at2, _, rfl, _, rfl, p, _, _, _, rfl, rfl, hp, at1, b, _, rfl, Or.inr hb, ?_⟩
      rw [vI_len]
      refine ⟨_, _, rfl, rfl, ⟨by omega, by omega⟩, _, _, rfl, rfl, Or.inl ⟨by omega, by omega⟩, _, _, rfl, rfl, ?_⟩
      have e3 : l.getD ((n - h.length - 1) % l.length) 0 + r * (((n : Int) - (h.length : Int) - 1) / (l.length : Int)) = walk l r (n - h.length - 1) := by
        unfold walk
        rw [e1]
        rfl
      show Q (V.int _) _
      rw [e3]
      exact q
theorem ok__law_gcd {f : Addr} {fd : FuncData} (F : FunD K "_law_gcd" "_law_gcd" (defArgs s__law_gcd) (defBody s__law_gcd) (defScope s__law_gcd) [] [] f fd) (T : Txt K mg gs FS) : FnOk P w K mg base CX0 1 f fd ["_law_one", "_law_other"] spGcd := by
  refine F.ok sc__law_gcd (fun vs H Q E h => ?_) (fun cdv A outer s H vs Q E hr h => ?_)
  · obtain ⟨a, b, rfl, _⟩ := h
    rfl
  · obtain ⟨a, b, rfl, q⟩ := h
    refine ⟨_, PSs.nox (pss_cons (ps_while PassesOwn.never (pt_cmpR op_gt (pv 1) pe_int (nomark _)) (pss_one (ps_par (i := 0) (j := 1) (by rfl) sc__law_gcd.nd rfl rfl (by decide) rfl rfl (pa_cons (pv 1) (pa_cons (pe_op op_mod (pe_callTy call_int1 rfl (T.fr _ (by decide +kernel)) (by decide +kernel) (pa_cons (pv 0) pa_nil)) (pv 1)) pa_nil)) (by rfl)))) (pss_one (ps_ret (pv 0)))), ?_⟩
    refine ⟨fun k σ G => Same H G ∧ ∃ a' : Nat, Nat.gcd a' k = Nat.gcd a b ∧ σ = [some (.int (a' : Int)), some (.int (k : Int))], ⟨b, Same.refl H, a, rfl, rfl⟩, ?_⟩
    rintro k σ G ⟨s1, a', hg, rfl⟩
    refine ⟨_, rfl, _, _, rfl, rfl, _, rfl, ite2 (fun h1 => ?_) (fun h1 => ?_)⟩
    · have k0 : 0 < k := by
        have := of_decide_eq_true h1
        omega
      refine ⟨fun σ' G' => Same H G' ∧ σ' = [some (.int (k : Int)), some (.int ((a' % k : Nat) : Int))], fun σ' G' ⟨z1, z2⟩ => ⟨a' % k, Nat.mod_lt _ k0, z1, k, ?_, z2⟩, ?_⟩
      · rw [← hg, Nat.gcd_comm a' k]
        exact (Nat.gcd_comm _ _).trans ((Nat.gcd_rec k a').symm)
      · refine ⟨_, rfl, _, rfl, Or.inl ⟨_, rfl, _, rfl, _, _, rfl, rfl, (by show (0 : Int) < (k : Int); omega), ?_⟩⟩
        exact ⟨_, _, rfl, s1, rfl⟩
    · have k0 : k = 0 := by
        have : ¬ (0 : Int) < (k : Int) := fun z => h1 (decide_eq_true z)
        omega
      subst k0
      rw [Nat.gcd_zero_right] at hg
      subst hg
      exact ⟨_, rfl, q _ s1⟩
end
end K10
set_option Elab.async false
set_option linter.all false
set_option maxRecDepth 100000
set_option maxHeartbeats 4000000
namespace NT
theorem climbs_snoc : ∀ {l : List Int} {lo v : Int}, climbs lo l → (if l.length = 0 then lo else l.getD (l.length - 1) 0) ≤ v → climbs lo (l ++ [v])
  | [], lo, v, _, h => ⟨by simpa using h, trivial⟩
  | x :: l, lo, v, c, h => by
    refine ⟨c.1, climbs_snoc c.2 ?_⟩
    rw [if_neg (by simp)] at h
    by_cases z : l.length = 0
    · rw [if_pos z]
      have : l = [] := List.eq_nil_of_length_eq_zero z
      subst this
      simpa using h
    · rw [if_neg z]
      obtain ⟨j, hj⟩ : ∃ j, l.length = j + 1 := ⟨l.length - 1, by omega⟩
      rw [List.length_cons, hj] at h
      rw [hj]
      simpa using h
theorem climbs_low : ∀ {l : List Int} {lo : Int} {i : Nat}, climbs lo l → i < l.length → lo ≤ l.getD i 0
  | [], _, _, _, h => by simp at h
  | x :: l, lo, 0, c, _ => c.1
  | x :: l, lo, i + 1, c, h => by
    have := climbs_low (i := i) c.2 (by simpa using h)
    have := c.1
    show lo ≤ l.getD i 0
    omega
theorem climbs_le {l : List Int} {lo lo' : Int} (h : climbs lo l) (e : lo' ≤ lo) : climbs lo' l := by
  cases l with
  | nil => trivial
  | cons x l => exact ⟨Int.le_trans e h.1, h.2⟩
structure RawOk (x : List Int × List Int × Int) : Prop where
  g : Good x.1 x.2.1 x.2.2
  h : x.1.length ≤ 400
  l : x.2.1.length ≤ 400
  r : x.2.2 ≤ 100000
/-- as it is drawn -/
structure Raw0 (x : List Int × List Int × Int) : Prop where
  g : Good x.1 x.2.1 x.2.2
  h : x.1.length ≤ 4
  l : x.2.1.length ≤ 4
  r : x.2.2 ≤ 1000
  f : (x.1 ++ x.2.1 ++ [5]).getD 0 0 ≤ 1000
  bh : ∀ i, i < x.1.length → x.1.getD i 0 ≤ 100
  bl : ∀ i, i < x.2.1.length → x.2.1.getD i 0 ≤ 100
theorem Raw0.ok {x : List Int × List Int × Int} (a : Raw0 x) : RawOk x := ⟨a.g, Nat.le_trans a.h (by decide), Nat.le_trans a.l (by decide), Int.le_trans a.r (by decide)⟩
theorem first_le {h l : List Int} (h1 : h ≠ [] → h.getD 0 0 ≤ 1000) (h2 : h = [] → l ≠ [] → l.getD 0 0 ≤ 1000) : (h ++ l ++ [5]).getD 0 0 ≤ 1000 := by
  cases h with
  | cons x h => exact h1 (by simp)
  | nil => cases l with
    | cons y l => exact h2 rfl (by simp)
    | nil => decide
end NT
namespace K10
open PySem PySem.Spec PyProof.Rows L2 He NF RZ NT
def spRising : Sp := fun vs H Q _ => ∃ (H0 : Hp) (p : Addr) (m : Nat) (lo st : Int), vs = [.ref p, .int (m : Int), .int lo, .int st] ∧ Same H0 H ∧ H0 p = none ∧ Src H p ∧ m ≤ 200 ∧ 0 ≤ lo ∧ 0 < st ∧ st < 1073741824 ∧
  ∀ q l H', Same H0 H' → Src H' p → H' q = some (.lst (vI l)) → H0 q = none → q ≠ p → l.length = m → climbs lo l → (∀ i, i < m → l.getD i 0 ≤ lo + st * ((i : Int) + 1)) → Q (.ref q) H'
def spRaw (K : PySem.W.Frag) : Sp := fun vs H Q _ => ∃ (H0 : Hp) (p : Addr), vs = [.ref p, .bl false] ∧ Same H0 H ∧ H0 p = none ∧ Src H p ∧
  ∀ q x H', Same H0 H' → Src H' p → Raw0 x → FormAt K H' q x → Q (.ref q) H'
theorem sc__law_rising : FnScope ["_law_source_here", "_law_many", "_law_low", "_law_steps", "_law_told", "_law_value", "_law_k"] ["_law_source_here", "_law_many", "_law_low", "_law_steps"] (defScope s__law_rising) := ⟨rfl, rfl, rfl, by decide +kernel, rfl, by decide +kernel, by decide +kernel⟩
theorem sc__law_raw : FnScope ["_law_source_here", "_law_steady", "_law_head", "_law_low", "_law_many", "_law_loop", "_law_more", "_law_rise"] ["_law_source_here", "_law_steady"] (defScope s__law_raw) := ⟨rfl, rfl, rfl, by decide +kernel, rfl, by decide +kernel, by decide +kernel⟩
theorem getD_snoc {l : List Int} {v : Int} {i : Nat} : (l ++ [v]).getD i 0 = if i < l.length then l.getD i 0 else if i = l.length then v else 0 := by
  by_cases h : i < l.length
  · rw [if_pos h, getD_app1 h]
  · rw [if_neg h, getD_app2 (by omega)]
    by_cases z : i = l.length
    · rw [if_pos z, z, Nat.sub_self]; rfl
    · rw [if_neg z]
      obtain ⟨j, hj⟩ : ∃ j, i - l.length = j + 1 := ⟨i - l.length - 1, by omega⟩
      rw [hj]; rfl
theorem last_snoc {l : List Int} {lo v : Int} : (if (l ++ [v]).length = 0 then lo else (l ++ [v]).getD ((l ++ [v]).length - 1) 0) = v := by
  have e : (l ++ [v]).length = l.length + 1 := by simp
  rw [e, if_neg (Nat.succ_ne_zero _), Nat.add_sub_cancel, getD_snoc, if_neg (Nat.lt_irrefl _), if_pos rfl]
theorem src_ne {H : Hp} {p q : Addr} {o : HO} (hs : Src H p) (hq : H q = none) : q ≠ p := fun z => by
  obtain ⟨_, _, _, h⟩ := hs
  rw [z, h] at hq
  cases hq
theorem src_put {H : Hp} {p q : Addr} {o : HO} (hs : Src H p) (n : q ≠ p) : Src (upd H q o) p := by
  obtain ⟨a, b, c, h⟩ := hs
  exact ⟨a, b, c, by rw [upd_ne (Ne.symm n)]; exact h⟩
theorem same_none {H0 H : Hp} {q : Addr} (s : Same H0 H) (h : H q = none) : H0 q = none := L2.Same.free s h
section
variable {P : Program} {w : World} {K : PySem.W.Frag} {mg : Str → Option Value} {base : Heap} {gs : List Str}
theorem ok__law_rising {f : Addr} {fd : FuncData} (F : FunD K "_law_rising" "_law_rising" (defArgs s__law_rising) (defBody s__law_rising) (defScope s__law_rising) [] [] f fd) (T : Txt K mg gs FS) (c__law_pick : Cal P w K mg base 1 "_law_pick" spPick) : FnOk P w K mg base CX0 2 f fd ["_law_source_here", "_law_many", "_law_low", "_law_steps"] spRising := by
  refine F.ok sc__law_rising (fun vs H Q E h => ?_) (fun cdv A outer s H vs Q E hr h => ?_)
  · obtain ⟨H0, p, m, lo, st, rfl, _⟩ := h
    rfl
  · obtain ⟨H0, p, m, lo, st, rfl, s0, n0, hs, hm, hlo, hst, hst2, q⟩ := h
    refine ⟨_, PSs.nox (pss_cons (ps_set (i := 4) sc__law_rising.nd rfl (Or.inl rfl) (pe_lst pa_nil)) (pss_cons (ps_set (i := 5) sc__law_rising.nd rfl (Or.inl rfl) (pv 2)) (pss_cons (ps_for PassesOwn.never rfl (pi_range1 rfl (T.fr _ (by decide +kernel)) (pa_cons (pv 1) pa_nil)) (pg_name (i := 6) sc__law_rising.nd rfl (Or.inl rfl)) (pss_cons (ps_set (i := 5) sc__law_rising.nd rfl (Or.inl rfl) (pe_op op_add (pv 5) (pe_c c__law_pick hr (by decide) rfl (pa_cons (pv 0) (pa_cons (pv 3) pa_nil))))) (pss_one (ps_expr (pe_bm PySem.F.plainAttrs_list PySem.F.slot_list_append PySem.F.type_list_append mt_append (pv 4) (pa_cons (pv 5) pa_nil)))))) (pss_one (ps_ret (pv 4)))))), ?_⟩
    refine ⟨(by show 0 ≤ sizeLine; decide), fun t ht => ?_⟩
    have htp : t ≠ p := src_ne (o := .lst []) hs ht
    have h0t := same_none s0 ht
    refine ⟨_, rfl, ?_⟩
    refine ⟨_, rfl, (m : Int), rfl, by omega, by omega, ?_⟩
    refine for_range (lo := 0) (n := m) (fun i σ G => Same H0 G ∧ Src G p ∧ ∃ l : List Int, G t = some (.lst (vI l)) ∧ l.length = i ∧ climbs lo l ∧ (∀ j, j < i → l.getD j 0 ≤ lo + st * ((j : Int) + 1)) ∧
      ∃ k : Option V, σ = [some (.ref p), some (.int (m : Int)), some (.int lo), some (.int st), some (.ref t), some (.int (if l.length = 0 then lo else l.getD (l.length - 1) 0)), k])
      ⟨NF.Same.put s0 h0t, src_put hs htp, [], upd_same, rfl, trivial, fun j hj => by omega, none, rfl⟩ ?_ ?_
    · rintro i σ G hi ⟨s1, hs1, l, hl, hlen, hc, hb, k, rfl⟩
      refine ⟨_, rfl, _, rfl, _, rfl, wo G p, p, st, rfl, wo_same', wo_none, hs1, hst, hst2, fun d G' d0 d1 s2 hs2 => ?_⟩
      refine ⟨_, _, rfl, rfl, ?_⟩
      have hl2 : G' t = some (.lst (vI l)) := s2 _ _ ((wo_ne htp).trans hl)
      refine ⟨_, rfl, Or.inl ⟨rfl, _, SqL.of hl2⟩, _, rfl, t, _, _, rfl, rfl, hl2, ?_, ?_⟩
      · rw [vI_len, hlen]
        exact Nat.lt_of_le_of_lt (show i ≤ 200 by omega) (by decide)
      have hlast : (if l.length = 0 then lo else l.getD (l.length - 1) 0) ≤ lo + st * (i : Int) := by
        by_cases z : l.length = 0
        · rw [if_pos z, ← hlen, z]
          simp
        · rw [if_neg z]
          have := hb (l.length - 1) (by omega)
          have e : ((l.length - 1 : Nat) : Int) + 1 = (i : Int) := by omega
          rw [e] at this
          exact this
      refine ⟨NF.Same.put (wo_same s1 n0 s2) h0t, src_put hs2 htp, l ++ [(if l.length = 0 then lo else l.getD (l.length - 1) 0) + d], ?_, ?_, climbs_snoc hc (by omega), fun j hj => ?_, some (.int ((0 : Int) + (i : Int))), ?_⟩
      · rw [upd_same, ← vI_app]
        rfl
      · rw [List.length_append, hlen]; rfl
      · rw [getD_snoc]
        by_cases z : j < l.length
        · rw [if_pos z]
          exact hb j (by omega)
        · rw [if_neg z, if_pos (by omega)]
          have e : st * ((j : Int) + 1) = st * (i : Int) + st := by
            have : j = i := by omega
            rw [this, Int.mul_add, Int.mul_one]
          omega
      · rw [last_snoc]
        rfl
    · rintro σ G ⟨s1, hs1, l, hl, hlen, hc, hb, k, rfl⟩
      exact ⟨_, rfl, q t l G s1 hs1 hl h0t htp hlen hc hb⟩
theorem idx_k {l : List Int} {d lo hi : Int} {n : Nat} (h0 : 0 ≤ d) (h1 : d < (n : Int)) (hl : l.length = n) (hb : ∀ k, k < n → lo ≤ l.getD k 0 ∧ l.getD k 0 ≤ hi) : ∃ v : Int, atI (vI l) d = some (.int v) ∧ lo ≤ v ∧ v ≤ hi :=
  ⟨l.getD d.toNat 0, at_int (by omega) (by omega), hb _ (by omega)⟩
theorem more_le {m : Int} (h0 : 1 ≤ m) (h1 : m ≤ 4) : ∀ k, k < 8 → 0 ≤ ([1, 2, 1, 0, 3, m, 2, 1] : List Int).getD k 0 ∧ ([1, 2, 1, 0, 3, m, 2, 1] : List Int).getD k 0 ≤ 4
  | 0, _ => by simp
  | 1, _ => by simp
  | 2, _ => by simp
  | 3, _ => by simp
  | 4, _ => by simp
  | 5, _ => ⟨by show 0 ≤ m; omega, by show m ≤ 4; omega⟩
  | 6, _ => by simp
  | 7, _ => by simp
  | n + 8, h => by omega
theorem climbs_last : ∀ {l : List Int} {lo : Int}, climbs lo l → l ≠ [] → l.getD 0 0 ≤ l.getD (l.length - 1) 0
  | [], _, _, h => absurd rfl h
  | [x], _, _, _ => Int.le_refl _
  | x :: y :: l, lo, c, _ => climbs_low (l := y :: l) (i := l.length) c.2 (by simp)
theorem ok__law_raw {f : Addr} {fd : FuncData} (F : FunD K "_law_raw" "_law_raw" (defArgs s__law_raw) (defBody s__law_raw) (defScope s__law_raw) [] [] f fd) (T : Txt K mg gs FS) (c__law_pick : Cal P w K mg base 1 "_law_pick" spPick) (c__law_rising : Cal P w K mg base 2 "_law_rising" spRising) : FnOk P w K mg base CX0 3 f fd ["_law_source_here", "_law_steady"] (spRaw K) := by
  refine F.ok sc__law_raw (fun vs H Q E h => ?_) (fun cdv A outer s H vs Q E hr h => ?_)
  · obtain ⟨H0, p, rfl, _⟩ := h
    rfl
  · obtain ⟨H0, p, rfl, s0, n0, hs, q⟩ := h
    refine ⟨_, PSs.nox (pss_cons (ps_set (i := 2) sc__law_raw.nd rfl (Or.inl rfl) (pe_c c__law_rising hr (by decide) rfl (pa_cons (pv 0) (pa_cons (pe_ix (ixl (K := K)) (pe_lst (pa_cons pe_int (pa_cons pe_int (pa_cons pe_int (pa_cons pe_int (pa_cons pe_int (pa_cons pe_int (pa_cons pe_int (pa_cons pe_int pa_nil))))))))) (pe_c c__law_pick hr (by decide) rfl (pa_cons (pv 0) (pa_cons pe_int pa_nil))) fun _ _ => rfl) (pa_cons pe_int (pa_cons pe_int pa_nil)))))) (pss_cons (ps_set (i := 3) sc__law_raw.nd rfl (Or.inl rfl) (pe_ifExp (pt_cmpR op_gt (pe_callB call_len_seq rfl (T.fr _ (by decide +kernel)) boot_len (pa_cons (pv 2) pa_nil)) pe_int (nomark _)) (pe_ix (ixl (K := K)) (pv 2) (pe_un un_neg pe_int) fun _ _ => rfl) pe_int)) (pss_cons (ps_if (PW.pt (pw_and (pt_not (pt_val (pv 1))) (pw_and1 (pt_cmpR op_eq (pe_c c__law_pick hr (by decide) rfl (pa_cons (pv 0) (pa_cons pe_int pa_nil))) pe_int (nomark _))))) (pss_one (ps_ret (pe_tup (pa_cons (pe_callTy cr_tup rfl (T.fr _ (by decide +kernel)) (by decide +kernel) (pa_cons (pv 2) pa_nil)) (pa_cons (pe_tup pa_nil) (pa_cons pe_int pa_nil)))))) pss_nil) (pss_cons (ps_set (i := 4) sc__law_raw.nd rfl (Or.inl rfl) (pe_ix (ixl (K := K)) (pe_lst (pa_cons pe_int (pa_cons pe_int (pa_cons pe_int (pa_cons pe_int (pa_cons pe_int (pa_cons pe_int (pa_cons pe_int (pa_cons pe_int pa_nil))))))))) (pe_c c__law_pick hr (by decide) rfl (pa_cons (pv 0) (pa_cons pe_int pa_nil))) fun _ _ => rfl)) (pss_cons (ps_set (i := 5) sc__law_raw.nd rfl (Or.inl rfl) (pe_c c__law_rising hr (by decide) rfl (pa_cons (pv 0) (pa_cons (pv 4) (pa_cons (pv 3) (pa_cons pe_int pa_nil)))))) (pss_cons (ps_set (i := 6) sc__law_raw.nd rfl (Or.inl rfl) (pe_ix (ixl (K := K)) (pe_lst (pa_cons pe_int (pa_cons pe_int (pa_cons pe_int (pa_cons pe_int (pa_cons pe_int (pa_cons (pv 4) (pa_cons pe_int (pa_cons pe_int pa_nil))))))))) (pe_c c__law_pick hr (by decide) rfl (pa_cons (pv 0) (pa_cons pe_int pa_nil))) fun _ _ => rfl)) (pss_cons (ps_set (i := 7) sc__law_raw.nd rfl (Or.inl rfl) (pe_op op_add (pe_op op_sub (pe_ix (ixl (K := K)) (pv 5) (pe_un un_neg pe_int) fun _ _ => rfl) (pe_ix (ixl (K := K)) (pv 5) pe_int fun _ _ => rfl)) (pv 6))) (pss_cons (ps_if (PW.pt (pw_and (pt_val (pv 1)) (pw_and1 (pt_cmpR op_eq (pv 7) pe_int (nomark _))))) (pss_one (ps_set (i := 7) sc__law_raw.nd rfl (Or.inl rfl) pe_int)) pss_nil) (pss_one (ps_ret (pe_tup (pa_cons (pe_callTy cr_tup rfl (T.fr _ (by decide +kernel)) (by decide +kernel) (pa_cons (pv 2) pa_nil)) (pa_cons (pe_callTy cr_tup rfl (T.fr _ (by decide +kernel)) (by decide +kernel) (pa_cons (pv 5) pa_nil)) (pa_cons (pv 7) pa_nil)))))))))))))), ?_⟩
    -- the head
    refine ⟨_, rfl, (by show 8 ≤ sizeLine; decide), fun t ht => ?_⟩
    have htp : t ≠ p := src_ne (o := .lst []) hs ht
    have hs1 : Src (upd H t (.lst (vI [0, 1, 2, 0, 3, 1, 4, 2]))) p := src_put hs htp
    have s1 : Same H0 (upd H t (.lst (vI [0, 1, 2, 0, 3, 1, 4, 2]))) := NF.Same.put s0 (same_none s0 ht)
    have ht1 : upd H t (.lst (vI [0, 1, 2, 0, 3, 1, 4, 2])) t = some (.lst (vI [0, 1, 2, 0, 3, 1, 4, 2])) := upd_same
    refine ⟨_, rfl, wo _ p, p, 8, rfl, wo_same', wo_none, hs1, by decide, by decide, fun d G2 d0 d1 s2 hs2 => ?_⟩
    obtain ⟨v, hv, v0, v1⟩ := idx_k (l := [0, 1, 2, 0, 3, 1, 4, 2]) (n := 8) (lo := 0) (hi := 4) d0 d1 rfl (by decide)
    have s02 := wo_same s1 n0 s2
    refine ⟨t, _, _, _, rfl, rfl, SqL.of (s2 _ _ ((wo_ne htp).trans ht1)), hv, ?_⟩
    refine ⟨wo G2 p, p, v.toNat, 0, 3, by rw [Int.toNat_of_nonneg v0]; rfl, wo_same', wo_none, hs2, by omega, by decide, by decide, by decide, fun th h G3 s3 hs3 hh hh0 hhp hlen hc hb => ?_⟩
    have s03 := wo_same s02 n0 s3
    -- the low
    have hlow : ∀ {W : VK}, (∀ lo : Int, 0 ≤ lo → (h ≠ [] → lo = h.getD (h.length - 1) 0) → (h = [] → lo = 0) → W (.int lo) G3) →
        (tIf (tTest (tOp (rI0 fun i j => .bl (decide (j < i))) (tCB (fun xs H Q => ∃ a ys, xs = [.ref a] ∧ (SqL K H a ys ∨ SqT K H a ys) ∧ Q (.int (ys.length : Int)) H) (tCons (tVar 2) tNil)) (tC (.int 0)))) (tOp (rIxL K) (tVar 2) (tUn (rU fun i => .int (-i)) (tC (.int 1)))) (tC (.int 0))) [some (V.ref p), some (V.bl false), some (V.ref th), none, none, none, none, none] G3 W := by
      intro W hW
      refine ⟨_, rfl, th, _, rfl, Or.inl (SqL.of hh), _, _, rfl, rfl, _, rfl, ite2 (fun h1 => ?_) (fun h1 => ?_)⟩
      · have h2 : 0 < h.length := by
          have := of_decide_eq_true h1
          rw [vI_len] at this
          omega
        have hne : h ≠ [] := fun z => by rw [z] at h2; simp at h2
        exact ⟨_, rfl, _, rfl, th, _, _, _, rfl, rfl, SqL.of hh, at_last h2, hW _ (climbs_low hc (by omega)) (fun _ => rfl) fun z => absurd z hne⟩
      · have h2 : h = [] := by
          have : ¬ (0 : Int) < ((vI h).length : Int) := fun z => h1 (decide_eq_true z)
          rw [vI_len] at this
          exact List.eq_nil_of_length_eq_zero (by omega)
        exact hW 0 (Int.le_refl _) (fun z => absurd h2 z) fun _ => rfl
    refine hlow fun lo lo0 hlo hlo2 => ?_
    have lo12 : lo ≤ 12 := by
      by_cases z : h = []
      · rw [hlo2 z]; decide
      · rw [hlo z]
        have := hb (h.length - 1) (by have := len_pos z; omega)
        omega
    have hf1 : h ≠ [] → h.getD 0 0 ≤ 1000 := fun z => by
      have := hb 0 (by have := len_pos z; omega)
      omega
    -- ended
    refine ⟨_, rfl, false, rfl, iteT ?_⟩
    refine ⟨_, rfl, wo G3 p, p, 7, rfl, wo_same', wo_none, hs3, by decide, by decide, fun d G4 _ _ s4 hs4 => ?_⟩
    have s04 := wo_same s03 n0 s4
    have hh4 : G4 th = some (.lst (vI h)) := s4 _ _ ((wo_ne hhp).trans hh)
    have hh100 : h.length ≤ 4 := by omega
    have hbh : ∀ i, i < h.length → h.getD i 0 ≤ 100 := fun i hi => by
      have := hb i (by omega)
      omega
    refine ⟨rfl, _, rfl, ite2 (fun _ => ?_) (fun _ => ?_)⟩
    · refine ⟨_, rfl, th, _, rfl, Or.inl (SqL.of hh4), fun p1 G5 s5 t5 => ?_⟩
      refine ⟨(by show 0 ≤ sizeLine; decide), fun p2 hp2 => ?_⟩
      refine ⟨(by show 3 ≤ sizeLine; decide), fun p3 hp3 => ?_⟩
      have s6 := NF.Same.new (o := .tup []) (Same.refl G5) hp2
      have s7 := NF.Same.new (o := .tup [V.ref p1, V.ref p2, V.int 0]) s6 hp3
      refine q p3 (h, [], 0) _ (Same.trans s04 (Same.trans s5 s7)) (Src.mono hs4 (Same.trans s5 s7)) ⟨⟨hc, trivial, fun _ z => absurd rfl z, Int.le_refl _, fun _ => rfl, fun z => absurd rfl z⟩, hh100, by simp, by simp, first_le hf1 fun _ z => absurd rfl z, hbh, fun i hi => absurd hi (by simp)⟩ ⟨p1, p2, SqT.of upd_same, NF.Same.tup s7 t5, ?_⟩
      exact SqT.of (by rw [upd_ne (ne_of_none upd_same hp3)]; exact upd_same)
    -- the loop
    refine ⟨(by show 8 ≤ sizeLine; decide), fun u hu => ?_⟩
    have hup : u ≠ p := src_ne (o := .lst []) hs4 hu
    have hs5 : Src (upd G4 u (.lst (vI [1, 2, 1, 3, 2, 1, 4, 3]))) p := src_put hs4 hup
    have s45 : Same G4 (upd G4 u (.lst (vI [1, 2, 1, 3, 2, 1, 4, 3]))) := NF.Same.new (Same.refl _) hu
    have ht5 : upd G4 u (.lst (vI [1, 2, 1, 3, 2, 1, 4, 3])) u = some (.lst (vI [1, 2, 1, 3, 2, 1, 4, 3])) := upd_same
    refine ⟨_, rfl, wo _ p, p, 8, rfl, wo_same', wo_none, hs5, by decide, by decide, fun d G6 d0 d1 s6 hs6 => ?_⟩
    obtain ⟨m, hm, m0, m1⟩ := idx_k (l := [1, 2, 1, 3, 2, 1, 4, 3]) (n := 8) (lo := 1) (hi := 4) d0 d1 rfl (by decide)
    have s06 := wo_same (Same.trans s04 s45) n0 s6
    have hh6 : G6 th = some (.lst (vI h)) := s6 _ _ ((wo_ne hhp).trans (s45 _ _ hh4))
    refine ⟨u, _, _, _, rfl, rfl, SqL.of (s6 _ _ ((wo_ne hup).trans ht5)), hm, ?_⟩
    refine ⟨_, rfl, _, rfl, _, rfl, wo G6 p, p, m.toNat, lo, 3, by rw [Int.toNat_of_nonneg (by omega)]; rfl, wo_same', wo_none, hs6, by omega, lo0, by decide, by decide, fun tl l G7 s7 hs7 hl7 hl0 hlp hllen hlc hlb => ?_⟩
    have s07 := wo_same s06 n0 s7
    have hh7 : G7 th = some (.lst (vI h)) := s7 _ _ ((wo_ne hhp).trans hh6)
    have hl0' : 0 < l.length := by omega
    have hlne : l ≠ [] := fun z => by rw [z] at hl0'; simp at hl0'
    -- more
    refine ⟨_, rfl, (by show 8 ≤ sizeLine; decide), fun u2 hu2 => ?_⟩
    have hup2 : u2 ≠ p := src_ne (o := .lst []) hs7 hu2
    have hs8 : Src (upd G7 u2 (.lst (vI [1, 2, 1, 0, 3, m, 2, 1]))) p := src_put hs7 hup2
    have s78 : Same G7 (upd G7 u2 (.lst (vI [1, 2, 1, 0, 3, m, 2, 1]))) := NF.Same.new (Same.refl _) hu2
    have ht8 : upd G7 u2 (.lst (vI [1, 2, 1, 0, 3, m, 2, 1])) u2 = some (.lst (vI [1, 2, 1, 0, 3, m, 2, 1])) := upd_same
    refine ⟨_, rfl, wo _ p, p, 8, rfl, wo_same', wo_none, hs8, by decide, by decide, fun d G9 d0 d1 s9 hs9 => ?_⟩
    obtain ⟨e, he, e0, e1⟩ := idx_k (l := [1, 2, 1, 0, 3, m, 2, 1]) (n := 8) (lo := 0) (hi := 4) d0 d1 rfl (more_le m0 m1)
    have s09 := wo_same (Same.trans s07 s78) n0 s9
    have hh9 : G9 th = some (.lst (vI h)) := s9 _ _ ((wo_ne hhp).trans (s78 _ _ hh7))
    have hl9 : G9 tl = some (.lst (vI l)) := s9 _ _ ((wo_ne hlp).trans (s78 _ _ hl7))
    refine ⟨u2, _, _, _, rfl, rfl, SqL.of (s9 _ _ ((wo_ne hup2).trans ht8)), he, ?_⟩
    -- the rise
    refine ⟨_, rfl, _, rfl, tl, _, _, _, rfl, rfl, SqL.of hl9, at_last hl0', ?_⟩
    refine ⟨_, rfl, tl, _, _, _, rfl, rfl, SqL.of hl9, at_int (k := 0) rfl hl0', _, _, rfl, rfl, _, rfl, _, _, rfl, rfl, ?_⟩
    refine ⟨_, rfl, false, rfl, iteF (iteF ?_)⟩
    have f1 := climbs_last hlc hlne
    have f2 := hlb (l.length - 1) (by omega)
    have f3 := climbs_low hlc hl0'
    refine ⟨_, rfl, th, _, rfl, Or.inl (SqL.of hh9), fun p1 G10 s10 t10 => ?_⟩
    refine ⟨_, rfl, tl, _, rfl, Or.inl (SqL.of (s10 _ _ hl9)), fun p2 G11 s11 t11 => ?_⟩
    refine ⟨_, rfl, (by show 3 ≤ sizeLine; decide), fun p3 hp3 => ?_⟩
    have s12 := NF.Same.new (o := .tup [V.ref p1, V.ref p2, V.int (l.getD (l.length - 1) 0 - l.getD 0 0 + e)]) (Same.refl G11) hp3
    refine q p3 (h, l, l.getD (l.length - 1) 0 - l.getD 0 0 + e) _ (Same.trans s09 (Same.trans s10 (Same.trans s11 s12))) (Src.mono hs9 (Same.trans s10 (Same.trans s11 s12))) ⟨⟨hc, climbs_le hlc lo0, fun z _ => ?_, by dsimp only; omega, fun z => absurd z hlne, fun _ => by dsimp only; omega⟩, hh100, by show l.length ≤ 4; omega, by dsimp only; omega, first_le hf1 fun z _ => by have := hlo2 z; have := hlb 0 (by omega); dsimp only; omega, hbh, fun i hi => by have := hlb i (by dsimp only at hi; omega); dsimp only at hi ⊢; omega⟩ ⟨p1, p2, SqT.of upd_same, NF.Same.tup (Same.trans s11 s12) t10, NF.Same.tup s12 t11⟩
    rw [← hlo z]
    exact f3
end
end K10
set_option Elab.async false
set_option linter.all false
set_option maxHeartbeats 4000000
namespace NT
variable {h l : List Int} {r : Int}
theorem climbs_lo : ∀ {l : List Int} {lo : Int} {i : Nat}, climbs lo l → i < l.length → lo ≤ l.getD i 0
  | [], _, _, _, h => by simp at h
  | x :: l, lo, 0, c, _ => c.1
  | x :: l, lo, i + 1, c, h => by
    have := climbs_lo (i := i) c.2 (by simpa using h)
    have := c.1
    show lo ≤ l.getD i 0
    omega
theorem climbs_up : ∀ {l : List Int} {lo : Int} {i : Nat}, climbs lo l → i + 1 < l.length → l.getD i 0 ≤ l.getD (i + 1) 0
  | [], _, _, _, h => by simp at h
  | x :: l, lo, 0, c, h => climbs_lo (i := 0) c.2 (by simpa using h)
  | x :: l, lo, i + 1, c, h => climbs_up (i := i) c.2 (by simpa using h)
theorem climbs_of : ∀ {l : List Int} {lo : Int}, (∀ i, i < l.length → lo ≤ l.getD i 0) → (∀ i, i + 1 < l.length → l.getD i 0 ≤ l.getD (i + 1) 0) → climbs lo l
  | [], _, _, _ => trivial
  | x :: l, lo, h1, h2 => by
    refine ⟨h1 0 (by simp), climbs_of (fun i hi => ?_) fun i hi => h2 (i + 1) (by simpa using hi)⟩
    induction i with
    | zero => exact h2 0 (by simpa using hi)
    | succ i ih => exact Int.le_trans (ih (by omega)) (h2 (i + 1) (by simpa using hi))
/-- the value at n as a number -/
def num (h l : List Int) (r : Int) (n : Nat) : Int := (at_ h l r n).getD 0
theorem walk_up (g : Good h l r) (hl : l ≠ []) (k : Nat) : walk l r k ≤ walk l r (k + 1) := by
  have hp := len_pos hl
  have e : k = k % l.length + l.length * (k / l.length) := (Nat.mod_add_div k _).symm
  have hi : k % l.length < l.length := Nat.mod_lt _ hp
  generalize k % l.length = a at e hi
  generalize k / l.length = b at e
  subst e
  rw [walk_add_mul hp, show a + l.length * b + 1 = (a + 1) + l.length * b by omega, walk_add_mul hp, walk_lt hi]
  by_cases c : a + 1 < l.length
  · rw [walk_lt c]
    have := climbs_up g.lp c
    omega
  · have : a + 1 = 0 + l.length := by omega
    rw [this, walk_add hp, walk_lt hp]
    have := g.last hl
    have e : l.length - 1 = a := by omega
    rw [e] at this
    omega
theorem at_some (n : Nat) (hn : n ≤ h.length ∨ l ≠ []) : at_ h l r n = some (num h l r n) := by
  unfold num at_
  by_cases c : n ≤ h.length
  · rw [if_pos c]; rfl
  · rw [if_neg c, if_neg (hn.resolve_left c)]; rfl
theorem num_up (g : Good h l r) (n : Nat) (hn : 1 ≤ n) (hs : n + 1 ≤ h.length ∨ l ≠ []) : num h l r n ≤ num h l r (n + 1) := by
  unfold num at_
  by_cases c : n + 1 ≤ h.length
  · rw [if_pos c, if_pos (by omega)]
    show h.getD (n - 1) 0 ≤ h.getD (n + 1 - 1) 0
    have := climbs_up (i := n - 1) g.hd (by omega)
    rw [show n - 1 + 1 = n + 1 - 1 by omega] at this
    exact this
  · have hl := hs.resolve_left c
    have e1 : (if n + 1 ≤ h.length then some (h.getD (n + 1 - 1) 0) else if l = [] then none else some (walk l r (n + 1 - h.length - 1))).getD 0 = walk l r (n + 1 - h.length - 1) := by rw [if_neg c, if_neg hl]; rfl
    rw [e1]
    by_cases c2 : n ≤ h.length
    · rw [if_pos c2]
      have e : n = h.length := by omega
      subst e
      show h.getD (h.length - 1) 0 ≤ walk l r (h.length + 1 - h.length - 1)
      rw [show h.length + 1 - h.length - 1 = 0 by omega, walk_lt (len_pos hl)]
      exact g.join (fun z => by rw [z] at hn; simp at hn) hl
    · rw [if_neg c2, if_neg hl]
      show walk l r (n - h.length - 1) ≤ walk l r (n + 1 - h.length - 1)
      rw [show n + 1 - h.length - 1 = (n - h.length - 1) + 1 by omega]
      exact walk_up g hl _
theorem walk_ge (g : Good h l r) (hl : l ≠ []) (k : Nat) : 0 ≤ walk l r k := by
  induction k with
  | zero =>
    rw [walk_lt (len_pos hl)]
    exact climbs_lo g.lp (len_pos hl)
  | succ k ih => exact Int.le_trans ih (walk_up g hl k)
theorem num_ge (g : Good h l r) (n : Nat) (hn : 1 ≤ n) : 0 ≤ num h l r n := by
  unfold num at_
  by_cases c : n ≤ h.length
  · rw [if_pos c]
    exact climbs_lo (i := n - 1) g.hd (by omega)
  · rw [if_neg c]
    by_cases hl : l = []
    · rw [if_pos hl]; exact Int.le_refl _
    · rw [if_neg hl]; exact walk_ge g hl _
theorem walk_mono (g : Good h l r) (hl : l ≠ []) (k d : Nat) : walk l r k ≤ walk l r (k + d) := by
  induction d with
  | zero => exact Int.le_refl _
  | succ d ih => exact Int.le_trans ih (walk_up g hl (k + d))
/-- the plain form is made of counts -/
theorem plain_counts (g : Good h l r) {x : List Int × List Int × Int} (hx : IsPlain h l r x) : (∀ i, i ∈ x.1 ++ x.2.1 → 0 ≤ i) ∧ 0 ≤ x.2.2 := by
  have hz := plain_size hx
  refine ⟨fun i hi => ?_, (hz.2.2.2.2.1 g.r0).1⟩
  have all : ∀ n, 1 ≤ n → ∀ v, at_ x.1 x.2.1 x.2.2 n = some v → 0 ≤ v := by
    rcases hx with ⟨rfl, rfl⟩ | ⟨_, _, _, _, e⟩
    · intro n hn v hv
      unfold at_ at hv
      by_cases c : n ≤ h.length
      · rw [if_pos c] at hv
        injection hv with hv
        rw [← hv]
        exact climbs_lo (l := h) (i := n - 1) g.hd (by omega)
      · rw [if_neg c, if_pos rfl] at hv
        cases hv
    · intro n hn v hv
      rw [e n hn] at hv
      have := num_ge g n hn
      unfold num at this
      rw [hv] at this
      exact this
  rcases List.mem_append.mp hi with h1 | h1
  · obtain ⟨k, hk, rfl⟩ := List.getElem_of_mem h1
    refine all (k + 1) (by omega) _ ?_
    unfold at_
    rw [if_pos (by omega), Nat.add_sub_cancel, List.getD_eq_getElem?_getD, List.getElem?_eq_getElem hk]
    rfl
  · obtain ⟨k, hk, rfl⟩ := List.getElem_of_mem h1
    have hne : x.2.1 ≠ [] := fun z => by rw [z] at hk; simp at hk
    refine all (x.1.length + k + 1) (by omega) _ ?_
    rw [at_loop hne (by omega), show x.1.length + k + 1 - x.1.length - 1 = k by omega, walk_lt hk, List.getD_eq_getElem?_getD, List.getElem?_eq_getElem hk]
    rfl
/-! ### the same table with more values in the head and a longer loop -/
def tell (h l : List Int) (r : Int) (n : Nat) : List Int := (List.range n).map fun k => num h l r (k + 1)
theorem tell_len (n : Nat) : (tell h l r n).length = n := by unfold tell; rw [List.length_map, List.length_range]
theorem tell_get {n k : Nat} (hk : k < n) : (tell h l r n).getD k 0 = num h l r (k + 1) := by
  unfold tell
  rw [List.getD_eq_getElem?_getD, List.getElem?_map, List.getElem?_range hk]
  rfl
theorem getD_take' {l : List Int} {m i : Nat} (h : i < m) : (l.take m).getD i 0 = l.getD i 0 := getD_take h
theorem tell_good (g : Good h l r) {more t : Nat} (hm : l = [] → more = 0) (ht : 0 < t) :
    Good ((tell h l r (h.length + more + l.length * t)).take (h.length + more)) ((tell h l r (h.length + more + l.length * t)).drop (h.length + more)) (r * (t : Int)) := by
  generalize hN : h.length + more + l.length * t = N
  generalize hc : h.length + more = c
  have some_ : ∀ n, n ≤ N → n ≤ h.length ∨ l ≠ [] := fun n hn => by
    by_cases hl : l = []
    · left
      have := hm hl
      have : l.length = 0 := by rw [hl]; rfl
      rw [this, Nat.zero_mul] at hN
      omega
    · exact .inr hl
  have cle : c ≤ N := by omega
  have hlt : ((tell h l r N).take c).length = c := by rw [List.length_take, tell_len]; omega
  have hld : ((tell h l r N).drop c).length = N - c := by rw [List.length_drop, tell_len]
  refine ⟨climbs_of (fun i hi => ?_) (fun i hi => ?_), climbs_of (fun i hi => ?_) (fun i hi => ?_), fun h1 h2 => ?_, ?_, fun hl => ?_, fun hl => ?_⟩
  · rw [hlt] at hi
    rw [getD_take hi, tell_get (by omega)]
    exact num_ge g _ (by omega)
  · rw [hlt] at hi
    rw [getD_take (by omega), getD_take hi, tell_get (by omega), tell_get (by omega)]
    exact num_up g _ (by omega) (some_ _ (by omega))
  · rw [hld] at hi
    rw [getD_drop, tell_get (by omega)]
    exact num_ge g _ (by omega)
  · rw [hld] at hi
    rw [getD_drop, getD_drop, tell_get (by omega), tell_get (by omega)]
    have := num_up g (c + i + 1) (by omega) (some_ _ (by omega))
    exact this
  · have c0 : 0 < c := by
      rcases Nat.eq_zero_or_pos c with z | z
      · rw [z] at h1; exact absurd rfl h1
      · exact z
    have d0 : 0 < N - c := by rw [← hld]; exact len_pos h2
    rw [hlt, getD_take (by omega), getD_drop, tell_get (by omega), tell_get (by omega)]
    have := num_up g c (by omega) (some_ _ (by omega))
    rw [show c - 1 + 1 = c by omega, show c + 0 + 1 = c + 1 by omega]
    exact this
  · exact Int.mul_nonneg g.r0 (by omega)
  · have z : N - c = 0 := by rw [← hld, hl]; rfl
    have z2 : l.length * t = 0 := by omega
    have z3 : l.length = 0 := by
      rcases Nat.mul_eq_zero.mp z2 with q | q
      · exact q
      · omega
    rw [g.rl (List.eq_nil_of_length_eq_zero z3), Int.zero_mul]
  · have d0 : 0 < N - c := by rw [← hld]; exact len_pos hl
    have hl2 : l ≠ [] := fun z => by
      have : l.length = 0 := by rw [z]; rfl
      rw [this, Nat.zero_mul] at hN
      omega
    rw [hld, getD_drop, getD_drop, tell_get (by omega), tell_get (by omega)]
    have w : ∀ j, num h l r (c + j + 1) = walk l r (more + j) := fun j => by
      unfold num
      rw [at_loop hl2 (by omega), show c + j + 1 - h.length - 1 = more + j by omega]
      rfl
    rw [w (N - c - 1), w 0, ← walk_add_mul (len_pos hl2)]
    have e : more + 0 + l.length * t = (more + (N - c - 1)) + 1 := by omega
    rw [e]
    exact walk_mono g hl2 _ 1
theorem tell_at {more t : Nat} (hm : l = [] → more = 0) (ht : 0 < t) (n : Nat) (hn : 1 ≤ n) :
    at_ ((tell h l r (h.length + more + l.length * t)).take (h.length + more)) ((tell h l r (h.length + more + l.length * t)).drop (h.length + more)) (r * (t : Int)) n = at_ h l r n := by
  by_cases hl : l = []
  · subst hl
    have hm := hm rfl
    subst hm
    have e : h.length + 0 + ([] : List Int).length * t = h.length := by simp
    rw [e, Nat.add_zero]
    unfold at_
    have e1 : ((tell h [] r h.length).take h.length).length = h.length := by rw [List.length_take, tell_len]; omega
    have e2 : (tell h [] r h.length).drop h.length = [] := List.drop_of_length_le (by rw [tell_len]; exact Nat.le_refl _)
    rw [e1, e2]
    by_cases c : n ≤ h.length
    · rw [if_pos c, if_pos c, getD_take (by omega), tell_get (by omega)]
      unfold num at_
      rw [show n - 1 + 1 = n by omega, if_pos c]
      rfl
    · rw [if_neg c, if_neg c, if_pos rfl, if_pos rfl]
  · have hp := len_pos hl
    generalize hN : h.length + more + l.length * t = N
    generalize hc : h.length + more = c
    have lt0 : 0 < l.length * t := Nat.mul_pos hp ht
    have hlt : ((tell h l r N).take c).length = c := by rw [List.length_take, tell_len]; omega
    have hld : ((tell h l r N).drop c).length = l.length * t := by rw [List.length_drop, tell_len]; omega
    have hne : (tell h l r N).drop c ≠ [] := fun z => by rw [z] at hld; simp at hld; omega
    by_cases q : n ≤ c
    · have : at_ h l r n = some (num h l r n) := at_some n (.inr hl)
      rw [this]
      unfold at_
      rw [hlt, if_pos q, getD_take (by omega), tell_get (by omega), show n - 1 + 1 = n by omega]
    · rw [at_loop hne (by rw [hlt]; omega), hlt, at_loop hl (by omega)]
      congr 1
      unfold walk
      rw [hld]
      generalize hk : n - c - 1 = k
      have hi : k % (l.length * t) < l.length * t := Nat.mod_lt _ lt0
      have w : ∀ j, num h l r (c + j + 1) = walk l r (more + j) := fun j => by
        unfold num
        rw [at_loop hl (by omega), show c + j + 1 - h.length - 1 = more + j by omega]
        rfl
      rw [getD_drop, tell_get (by omega), w]
      have e : n - h.length - 1 = (more + k % (l.length * t)) + l.length * (t * (k / (l.length * t))) := by
        have := Nat.mod_add_div k (l.length * t)
        rw [← Nat.mul_assoc]
        omega
      have e2 : walk l r (n - h.length - 1) = walk l r (more + k % (l.length * t)) + r * ((t * (k / (l.length * t)) : Nat) : Int) := by rw [e, walk_add_mul hp]
      have e3 : walk l r (n - h.length - 1) = l.getD ((n - h.length - 1) % l.length) 0 + r * (((n - h.length - 1) / l.length : Nat) : Int) := rfl
      rw [← e3, e2, Int.natCast_mul, Int.mul_assoc]
end NT
set_option Elab.async false
set_option linter.all false
set_option maxRecDepth 100000
set_option maxHeartbeats 4000000
namespace K10
open PySem PySem.Spec PyProof.Rows L2 He NF RZ NT
def spPlain (K : PySem.W.Frag) : Sp := fun vs H Q _ => ∃ (a b : Addr) (h l : List Int) (r : Int), vs = [.ref a, .ref b, .int r] ∧ SqT K H a (vI h) ∧ SqT K H b (vI l) ∧ h.length ≤ 1000 ∧ l.length ≤ 1000 ∧ ∀ p x H', IsPlain h l r x → Same H H' → FormAt K H' p x → Q (.ref p) H'
theorem sc__law_plain : FnScope ["_law_head", "_law_loop", "_law_rise", "_law_size", "_law_many", "_law_row", "_law_turns", "_law_step", "_law_k"] ["_law_head", "_law_loop", "_law_rise"] (defScope s__law_plain) := ⟨rfl, rfl, rfl, by decide +kernel, rfl, by decide +kernel, by decide +kernel⟩
theorem all_range {n : Nat} {f : Nat → Bool} : ((List.range n).map f).all id = true ↔ ∀ k, k < n → f k = true := by
  rw [List.all_eq_true]
  constructor
  · intro h k hk
    exact h _ (List.mem_map.mpr ⟨k, List.mem_range.mpr hk, rfl⟩)
  · intro h x hx
    obtain ⟨k, hk, rfl⟩ := List.mem_map.mp hx
    exact h k (List.mem_range.mp hk)
theorem at_neg {l : List Int} {i : Int} {n : Nat} (e : i + (l.length : Int) = (n : Int)) (h0 : i < 0) (h : n < l.length) : atI (vI l) i = some (V.int (l.getD n 0)) := by
  unfold atI ixN
  rw [if_neg (by omega), List.length_map, if_pos (by omega)]
  show (vI l)[(i + (l.length : Int)).toNat]? = _
  rw [show (i + (l.length : Int)).toNat = n by omega, List.getElem?_map, List.getElem?_eq_getElem h, List.getD_eq_getElem?_getD, List.getElem?_eq_getElem h] <;> rfl
section
variable {P : Program} {w : World} {K : PySem.W.Frag} {mg : Str → Option Value} {base : Heap} {gs : List Str}
theorem ok__law_plain {f : Addr} {fd : FuncData} (F : FunD K "_law_plain" "_law_plain" (defArgs s__law_plain) (defBody s__law_plain) (defScope s__law_plain) [] [] f fd) (T : Txt K mg gs FS) : FnOk P w K mg base CX0 1 f fd ["_law_head", "_law_loop", "_law_rise"] (spPlain K) := by
  refine F.ok sc__law_plain (fun vs H Q E h => ?_) (fun cdv A outer s H vs Q E hr h => ?_)
  · obtain ⟨a, b, h, l, r, rfl, _⟩ := h
    rfl
  · obtain ⟨a, b, h, l, r, rfl, ha, hb, hh, hll, q⟩ := h
    refine ⟨_, PSs.nox (pss_cons (ps_if (pt_cmpR op_eq (pe_callB call_len_seq rfl (T.fr _ (by decide +kernel)) boot_len (pa_cons (pv 1) pa_nil)) pe_int (nomark _)) (pss_one (ps_ret (pe_tup (pa_cons (pe_callTy cr_tup rfl (T.fr _ (by decide +kernel)) (by decide +kernel) (pa_cons (pv 0) pa_nil)) (pa_cons (pe_tup pa_nil) (pa_cons pe_int pa_nil)))))) pss_nil) (pss_cons (ps_set (i := 3) sc__law_plain.nd rfl (Or.inl rfl) (pe_callB call_len_seq rfl (T.fr _ (by decide +kernel)) boot_len (pa_cons (pv 1) pa_nil))) (pss_cons (ps_for PassesOwn.never rfl (pi_range3 rfl (T.fr _ (by decide +kernel)) (pa_cons (pe_callB call_len_seq rfl (T.fr _ (by decide +kernel)) boot_len (pa_cons (pv 1) pa_nil)) (pa_cons pe_int (pa_cons (pe_un un_neg pe_int) pa_nil)))) (pg_name (i := 4) sc__law_plain.nd rfl (Or.inr rfl)) (pss_cons (ps_set (i := 6) sc__law_plain.nd rfl (Or.inl rfl) (pe_op op_fdiv (pe_callB call_len_seq rfl (T.fr _ (by decide +kernel)) boot_len (pa_cons (pv 1) pa_nil)) (pv 4))) (pss_cons (ps_if (PW.pt (pw_or (pt_cmpR op_ne (pe_op op_mul (pv 6) (pv 4)) (pe_callB call_len_seq rfl (T.fr _ (by decide +kernel)) boot_len (pa_cons (pv 1) pa_nil)) (nomark _)) (pw_or1 (pt_cmpR op_ne (pe_op op_mod (pe_callTy call_int1 rfl (T.fr _ (by decide +kernel)) (by decide +kernel) (pa_cons (pv 2) pa_nil)) (pv 6)) pe_int (nomark _))))) (pss_one ps_continue) pss_nil) (pss_cons (ps_set (i := 7) sc__law_plain.nd rfl (Or.inr rfl) (pe_op op_fdiv (pv 2) (pv 6))) (pss_one (ps_if (pt_val (pe_callB (cr_all rfl) rfl (T.fr _ (by decide +kernel)) (by decide +kernel) (pa_cons (pe_lc (own := [("_law_k", 8)]) rfl sc__law_plain.nd (pi_range1 rfl (T.fr _ (by decide +kernel)) (pa_cons (pe_op op_sub (pe_callB call_len_seq rfl (T.fr _ (by decide +kernel)) boot_len (pa_cons (pv 1) pa_nil)) (pv 4)) pa_nil)) (blkOk_by (N := ["_law_head", "_law_loop", "_law_rise", "_law_size", "_law_many", "_law_row", "_law_turns", "_law_step", "_law_k"]) (sc := defScope s__law_plain) (by decide +kernel)) (fun _ _ _ _ _ => by exact (pg_name (i := 8) sc__law_plain.nd rfl (Or.inl rfl))) (fun _ _ _ _ _ => by exact pts_nil) (fun _ _ _ _ _ => by exact (pe_cmpR op_eq (pe_ix (ixt (K := K)) (pv 1) (pe_op op_add (pv 8) (pv 4)) fun _ _ => rfl) (pe_op op_add (pe_ix (ixt (K := K)) (pv 1) (pv 8) fun _ _ => rfl) (pv 7)) (nomark _)))) pa_nil))) (pss_one (ps_set (i := 3) sc__law_plain.nd rfl (Or.inl rfl) (pv 4))) pss_nil)))))) (pss_cons (ps_set (i := 2) sc__law_plain.nd rfl (Or.inl rfl) (pe_op op_fdiv (pv 2) (pe_op op_fdiv (pe_callB call_len_seq rfl (T.fr _ (by decide +kernel)) boot_len (pa_cons (pv 1) pa_nil)) (pv 3)))) (pss_cons (ps_set (i := 5) sc__law_plain.nd rfl (Or.inl rfl) (pe_op op_cat (pe_callTy call_list_of rfl (T.fr _ (by decide +kernel)) (by decide +kernel) (pa_cons (pv 0) pa_nil)) (pe_callTy call_list_of rfl (T.fr _ (by decide +kernel)) (by decide +kernel) (pa_cons (pe_slice sl_tupA (pv 1) po_none (po_some (pv 3))) pa_nil)))) (pss_cons (ps_while PassesOwn.never (PW.pt (pw_and (pt_cmpR op_gt (pe_callB call_len_seq rfl (T.fr _ (by decide +kernel)) boot_len (pa_cons (pv 5) pa_nil)) (pv 3) (nomark _)) (pw_and1 (pt_cmpR op_eq (pe_ix (ixl (K := K)) (pv 5) (pe_op op_sub (pe_un un_neg pe_int) (pv 3)) fun _ _ => rfl) (pe_op op_sub (pe_ix (ixl (K := K)) (pv 5) (pe_un un_neg pe_int) fun _ _ => rfl) (pv 2)) (nomark _))))) (pss_one (ps_set (i := 5) sc__law_plain.nd rfl (Or.inl rfl) (pe_slice sl_list (pv 5) po_none (po_some (pe_un un_neg pe_int)))))) (pss_one (ps_ret (pe_tup (pa_cons (pe_callTy cr_tup rfl (T.fr _ (by decide +kernel)) (by decide +kernel) (pa_cons (pe_slice sl_list (pv 5) po_none (po_some (pe_op op_sub (pe_callB call_len_seq rfl (T.fr _ (by decide +kernel)) boot_len (pa_cons (pv 5) pa_nil)) (pv 3)))) pa_nil)) (pa_cons (pe_callTy cr_tup rfl (T.fr _ (by decide +kernel)) (by decide +kernel) (pa_cons (pe_slice sl_list (pv 5) (po_some (pe_op op_sub (pe_callB call_len_seq rfl (T.fr _ (by decide +kernel)) boot_len (pa_cons (pv 5) pa_nil)) (pv 3))) po_none) pa_nil)) (pa_cons (pv 2) pa_nil)))))))))))), ?_⟩
    refine ⟨_, rfl, b, _, rfl, Or.inr hb, rfl, _, rfl, ?_⟩
    by_cases hl : l = []
    · refine (iteT' (decide_eq_true (by rw [hl]; rfl)) ?_)
      subst hl
      refine ⟨_, rfl, a, _, rfl, Or.inr ha, fun p1 G1 s1 t1 => ?_⟩
      refine ⟨(by show 0 ≤ sizeLine; decide), fun p2 hp2 => ?_⟩
      refine ⟨(by show 3 ≤ sizeLine; decide), fun p3 hp3 => ?_⟩
      have s6 := NF.Same.new (o := .tup []) (Same.refl G1) hp2
      have s7 := NF.Same.new (o := .tup [V.ref p1, V.ref p2, V.int 0]) s6 hp3
      exact q p3 (h, [], 0) _ (.inl ⟨rfl, rfl⟩) (Same.trans s1 s7) ⟨p1, p2, SqT.of upd_same, NF.Same.tup s7 t1, SqT.of (by rw [upd_ne (ne_of_none upd_same hp3)]; exact upd_same)⟩
    refine (iteF' (decide_eq_false (fun z => hl ?_)) ?_)
    · injection z with z
      rw [vI_len] at z
      exact List.eq_nil_of_length_eq_zero (by omega)
    have hp := len_pos hl
    refine ⟨_, rfl, b, _, rfl, Or.inr hb, ?_⟩
    refine ⟨_, rfl, b, _, rfl, Or.inr hb, _, rfl, _, _, _, l.length, rfl, ?_, ?_⟩
    · have := RgC.neg (i := ((vI l).length : Int)) (j := 0) (by rw [vI_len]; omega) (by rw [vI_len]; omega) (by omega) (by omega)
      rw [vI_len, Int.sub_zero, Int.toNat_natCast] at this
      rw [vI_len]
      exact this
    -- the shortest lap
    refine for_rangeC (n := l.length) (fun i σ G => Same H G ∧ ∃ s : Nat, (0 < s ∧ s ∣ l.length ∧ Per (walk l r) s ∧ ∀ m', l.length - i < m' → m' ∣ l.length → Per (walk l r) m' → s ≤ m') ∧ ∃ v1 v2 v3 : Option V, σ = [some (.ref a), some (.ref b), some (.int r), some (.int (s : Int)), v1, none, v2, v3, none])
      ⟨Same.refl _, l.length, ⟨hp, Nat.dvd_refl _, per_self hl, fun m' h1 _ _ => by omega⟩, none, none, none, ?_⟩ ?_ ?_
    · rw [vI_len]
      rfl
    · rintro i σ G hi ⟨s1, sz, ⟨z0, z1, z2, z3⟩, v1, v2, v3, rfl⟩
      have hb1 := NF.Same.tup s1 hb
      obtain ⟨m, hm⟩ : ∃ m : Nat, m = l.length - i := ⟨_, rfl⟩
      have m0 : 0 < m := by omega
      have mle : m ≤ l.length := by omega
      have e1 : ((vI l).length : Int) + (i : Int) * (-1) = (m : Int) := by rw [vI_len]; omega
      rw [e1]
      obtain ⟨t, htt⟩ : ∃ t : Nat, t = l.length / m := ⟨_, rfl⟩
      have t0 : 0 < t := by rw [htt]; exact Nat.div_pos mle m0
      have tle : t ≤ l.length := by rw [htt]; exact Nat.div_le_self _ _
      have e2 : ((vI l).length : Int) / (m : Int) = (t : Int) := by rw [vI_len, htt]; rfl
      refine ⟨_, rfl, b, _, rfl, Or.inr hb1, _, rfl, _, _, rfl, rfl, ⟨by omega, by omega⟩, ?_⟩
      show gName 6 (V.int (((vI l).length : Int) / (m : Int))) _ _ _
      rw [e2]
      have hnext : ∀ {v3' : Option V}, ¬ (m ∣ l.length ∧ Per (walk l r) m) → (fun σ G => Same H G ∧ ∃ s : Nat, (0 < s ∧ s ∣ l.length ∧ Per (walk l r) s ∧ ∀ m', l.length - (i + 1) < m' → m' ∣ l.length → Per (walk l r) m' → s ≤ m') ∧ ∃ v1 v2 v3 : Option V, σ = [some (.ref a), some (.ref b), some (.int r), some (.int (s : Int)), v1, none, v2, v3, none])
          [some (.ref a), some (.ref b), some (.int r), some (.int (sz : Int)), some (.int (m : Int)), none, some (.int (t : Int)), v3', none] G := fun hn => by
        refine ⟨s1, sz, ⟨z0, z1, z2, fun m' h1 h2 h3 => ?_⟩, _, _, _, rfl⟩
        by_cases c : m' = m
        · subst c
          exact absurd ⟨h2, h3⟩ hn
        · exact z3 m' (by omega) h2 h3
      refine ⟨_, rfl, _, rfl, _, _, rfl, rfl, Or.inr ⟨by omega, by omega⟩, _, rfl, b, _, rfl, Or.inr hb1, rfl, _, rfl, ?_⟩
      by_cases hd : ¬ m ∣ l.length
      · refine iteT' ?_ (iteT (hnext fun z => hd z.1))
        rw [decide_eq_false (fun z => hd ?_)]
        · rfl
        injection z with z
        rw [vI_len] at z
        have z' : t * m = l.length := Int.ofNat.inj (by rw [← Int.natCast_mul] at z; exact z)
        exact ⟨t, by rw [Nat.mul_comm]; exact z'.symm⟩
      have hd := Classical.not_not.mp hd
      have hmt : m * t = l.length := by rw [htt]; exact Nat.mul_div_cancel' hd
      refine iteF' ?_ ?_
      · rw [decide_eq_true]
        · rfl
        rw [vI_len, ← hmt, Int.natCast_mul, Int.mul_comm]
      have hiff := law_iff (r := r) hl m0 hmt
      refine ⟨_, rfl, Or.inl ⟨_, rfl, _, rfl, _, _, rfl, rfl, (by show (0 : Int) < (t : Int); omega), rfl, _, rfl, ?_⟩⟩
      by_cases hrt : ¬ r % (t : Int) = 0
      · refine iteT' ?_ (hnext fun z => hrt (hiff.mpr z.2).1)
        rw [decide_eq_false (fun z => hrt (by injection z))]
        rfl
      have hrt := Classical.not_not.mp hrt
      refine iteF' ?_ ?_
      · rw [decide_eq_true (congrArg V.int hrt)]
        rfl
      refine ⟨_, rfl, _, rfl, _, _, rfl, rfl, ⟨by omega, by omega⟩, ?_⟩
      -- all
      refine ⟨_, rfl, b, _, rfl, Or.inr hb1, _, rfl, _, _, rfl, rfl, _, rfl, ?_⟩
      rw [vI_len]
      refine ⟨by omega, by omega, fun D hD => ?_⟩
      have en : ((l.length : Int) - (m : Int)).toNat = l.length - m := by omega
      rw [en]
      refine lc_range (lo := 0) (n := l.length - m) (fun j G' => Same G G' ∧ G' D = some (.lst (((List.range j).map fun k => decide (V.int (l.getD (k + m) 0) = V.int (l.getD k 0 + r / (t : Int)))).map V.bl))) ⟨NF.Same.new (Same.refl G) hD, upd_same⟩ ?_ ?_
      · rintro j G' hj ⟨hG, hD2⟩
        have e1 : (0 : Int) + (j : Int) = (j : Int) := Int.zero_add _
        rw [e1]
        have hb2 := NF.Same.tup hG hb1
        refine ⟨rfl, _, rfl, _, rfl, _, rfl, _, _, rfl, rfl, b, _, _, _, rfl, rfl, hb2, at_int (k := j + m) (by omega) (by omega), ?_⟩
        refine ⟨_, rfl, _, rfl, b, _, _, _, rfl, rfl, hb2, at_int (k := j) rfl (by omega), _, rfl, _, _, rfl, rfl, rfl, ?_⟩
        refine ⟨_, hD2, by rw [List.length_map, List.length_map, List.length_range]; exact Nat.lt_of_lt_of_le (show j < 1000 by omega) (by decide), NF.Same.mut hG hD, ?_⟩
        rw [upd_same, List.range_succ, List.map_append, List.map_append]
        rfl
      · rintro G' ⟨hG, hD2⟩
        refine ⟨D, _, rfl, SqL.of hD2, _, rfl, ?_⟩
        have s2 := Same.trans s1 hG
        have hcond : ((List.range (l.length - m)).map fun k => decide (V.int (l.getD (k + m) 0) = V.int (l.getD k 0 + r / (t : Int)))).all id = true ↔ ∀ k, k + m < l.length → l.getD (k + m) 0 = l.getD k 0 + r / (t : Int) := by
          rw [all_range]
          constructor
          · intro hk k hk2
            have := of_decide_eq_true (hk k (by omega))
            injection this
          · intro hk k hk2
            exact decide_eq_true (congrArg V.int (hk k (by omega)))
        refine ite2 (fun hc => ?_) (fun hc => ?_)
        · have hper := hiff.mp ⟨hrt, hcond.mp hc⟩
          refine ⟨_, rfl, s2, m, ⟨m0, hd, hper, fun m' h1 _ _ => by omega⟩, _, _, _, rfl⟩
        · refine ⟨s2, sz, ⟨z0, z1, z2, fun m' h1 h2 h3 => ?_⟩, _, _, _, rfl⟩
          by_cases c : m' = m
          · subst c
            exact absurd (hcond.mpr (hiff.mpr h3).2) hc
          · exact z3 m' (by omega) h2 h3
    · rintro σ G ⟨s1, m, ⟨z0, z1, z2, z3⟩, v1, v2, v3, rfl⟩
      have hm : LapIs l r m := ⟨z0, z1, z2, fun m' h1 h2 h3 => z3 m' (by omega) h2 h3⟩
      have hle : m ≤ l.length := Nat.le_of_dvd hp z1
      obtain ⟨t, ht⟩ := z1
      have t0 : 0 < t := Nat.pos_of_ne_zero fun z => by rw [z, Nat.mul_zero] at ht; omega
      have hc := per_at hl z0 z2 ht.symm
      have ha1 := NF.Same.tup s1 ha
      have hb1 := NF.Same.tup s1 hb
      have e2 : ((vI l).length : Int) / (m : Int) = (t : Int) := by
        rw [vI_len, ht, Int.natCast_mul, Int.mul_ediv_cancel_left _ (by omega)]
      have tle : t ≤ l.length := by rw [ht]; exact Nat.le_mul_of_pos_left _ z0
      refine ⟨_, rfl, _, rfl, b, _, rfl, Or.inr hb1, _, rfl, _, _, rfl, rfl, ⟨by omega, by omega⟩, ?_⟩
      show rI CDiv _ (V.int r) (V.int (((vI l).length : Int) / (m : Int))) _ _
      rw [e2]
      refine ⟨_, _, rfl, rfl, ⟨by omega, by omega⟩, ?_⟩
      show gName 2 (V.int (r / (t : Int))) _ _ _
      generalize hcc : r / (t : Int) = cc at hc
      refine ⟨_, rfl, a, _, rfl, Or.inr ha1, fun q1 hq1 => ?_⟩
      have s2 := NF.Same.new (o := .lst (vI h)) s1 hq1
      refine ⟨_, rfl, _, rfl, _, rfl, ?_⟩
      refine slA_done (K := K) (NF.Same.tup (NF.Same.new (o := .lst (vI h)) (Same.refl G) hq1) hb1) fun p2 G2 s3 t2 => ?_
      rw [cut_to, vI_take] at t2
      refine ⟨p2, _, rfl, Or.inr t2, fun q2 hq2 => ?_⟩
      have hq1' : upd G2 q2 (.lst (vI (l.take m))) q1 = some (.lst (vI h)) := by
        have := s3 _ _ (upd_same (H := G) (a := q1) (o := .lst (vI h)))
        rw [upd_ne (ne_of_none this hq2)]
        exact this
      have hel : (h ++ l.take m).length = h.length + m := by rw [List.length_append, List.length_take, Nat.min_eq_left hle]
      refine ⟨q1, q2, _, _, rfl, rfl, hq1', upd_same, ?_, fun q3 hq3 => ?_⟩
      · rw [vI_len, vI_len, List.length_take]
        exact Nat.le_trans (show h.length + min m l.length ≤ 2000 by omega) (by decide)
      rw [vI_app]
      have s4 : Same H (upd (upd G2 q2 (.lst (vI (l.take m)))) q3 (.lst (vI (h ++ l.take m)))) := NF.Same.new (NF.Same.new (Same.trans s2 s3) hq2) hq3
      refine ⟨fun k σ G' => Same H G' ∧ k ≤ h.length ∧ cut (h ++ l.take m) m cc h.length = cut (h ++ l.take m) m cc k ∧ ∃ pr, G' pr = some (.lst (vI ((h ++ l.take m).take (k + m)))) ∧ σ = [some (.ref a), some (.ref b), some (.int cc), some (.int (m : Int)), v1, some (.ref pr), v2, v3, none],
        ⟨h.length, s4, Nat.le_refl _, rfl, q3, by rw [upd_same, show (h ++ l.take m).take (h.length + m) = h ++ l.take m from List.take_of_length_le (by omega)], rfl⟩, ?_⟩
      rintro k σ G' ⟨s5, hk, hcut, pr, hpr, rfl⟩
      have hlen : ((h ++ l.take m).take (k + m)).length = k + m := by rw [List.length_take, hel]; omega
      -- what is handed back
      have hdone : cut (h ++ l.take m) m cc k = k → (tRet (tTup (tCons (tCB (rTupOf K) (tCons (tSl (rSlL K) (tVar 5) tNoPart (tPart (tOp (rI0 fun i j => .int (i - j)) (tCB (fun xs H Q => ∃ a ys, xs = [.ref a] ∧ (SqL K H a ys ∨ SqT K H a ys) ∧ Q (.int (ys.length : Int)) H) (tCons (tVar 5) tNil)) (tVar 3)))) tNil))
          (tCons (tCB (rTupOf K) (tCons (tSl (rSlL K) (tVar 5) (tPart (tOp (rI0 fun i j => .int (i - j)) (tCB (fun xs H Q => ∃ a ys, xs = [.ref a] ∧ (SqL K H a ys ∨ SqT K H a ys) ∧ Q (.int (ys.length : Int)) H) (tCons (tVar 5) tNil)) (tVar 3))) tNoPart) tNil)) (tCons (tVar 2) tNil))))) { nx := fun _ H' => Q .non H', rt := Q }
          [some (.ref a), some (.ref b), some (.int cc), some (.int (m : Int)), v1, some (.ref pr), v2, v3, none] G' := fun hk2 => by
        have e5 : ((vI ((h ++ l.take m).take (k + m))).length : Int) - (m : Int) = (k : Int) := by rw [vI_len, hlen]; omega
        refine ⟨_, rfl, _, rfl, pr, _, rfl, Or.inl (SqL.of hpr), _, rfl, _, _, rfl, rfl, _, rfl, ?_⟩
        rw [e5]
        refine ⟨pr, _, rfl, SqL.of hpr, fun q1 hq1 => ?_⟩
        rw [cut_to, vI_take, List.take_take, Nat.min_eq_left (by omega)]
        refine ⟨q1, _, rfl, Or.inl (SqL.of upd_same), fun p1 G1 s6 t1 => ?_⟩
        have s06 : Same G' G1 := Same.trans (NF.Same.new (Same.refl G') hq1) s6
        have hpr1 := s06 _ _ hpr
        refine ⟨_, rfl, _, rfl, pr, _, rfl, Or.inl (SqL.of hpr1), _, rfl, _, _, rfl, rfl, _, rfl, ?_⟩
        rw [e5]
        refine ⟨pr, _, rfl, SqL.of hpr1, fun q2 hq2 => ?_⟩
        rw [cut_from, vI_drop]
        refine ⟨q2, _, rfl, Or.inl (SqL.of upd_same), fun p2 G2 s7 t2 => ?_⟩
        have s17 : Same G1 G2 := Same.trans (NF.Same.new (Same.refl G1) hq2) s7
        refine ⟨_, rfl, (by show 3 ≤ sizeLine; decide), fun p6 hp6 => ?_⟩
        have s8 := NF.Same.new (o := .tup [V.ref p1, V.ref p2, V.int cc]) (Same.refl G2) hp6
        have hx := plain_is (h := h) hl hm hc
        rw [hcut, hk2] at hx
        have ew : ((h ++ l.take m).take (k + m)).drop k = win (h ++ l.take m) k m := by
          unfold win
          rw [List.drop_take, Nat.add_sub_cancel_left]
        rw [ew] at t2
        exact q p6 _ _ hx (Same.trans s5 (Same.trans s06 (Same.trans s17 s8))) ⟨p1, p2, SqT.of upd_same, NF.Same.tup (Same.trans s17 s8) t1, NF.Same.tup s8 t2⟩
      refine ⟨_, rfl, pr, _, rfl, Or.inl (SqL.of hpr), _, rfl, _, _, rfl, rfl, _, rfl, ?_⟩
      refine ite2 (fun h1 => ?_) (fun h1 => ?_)
      · have k0 : 0 < k := by
          have := of_decide_eq_true h1
          rw [vI_len, hlen] at this
          omega
        obtain ⟨j, rfl⟩ : ∃ j, k = j + 1 := ⟨k - 1, by omega⟩
        have g1 : ((h ++ l.take m).take (j + 1 + m)).getD j 0 = (h ++ l.take m).getD j 0 := getD_take (by omega)
        have g2 : ((h ++ l.take m).take (j + 1 + m)).getD (j + m) 0 = (h ++ l.take m).getD (j + m) 0 := getD_take (by omega)
        refine ⟨_, rfl, _, rfl, _, rfl, _, _, rfl, rfl, pr, _, _, _, rfl, rfl, SqL.of hpr, at_neg (n := j) (by rw [hlen]; omega) (by omega) (by rw [hlen]; omega), ?_⟩
        refine ⟨_, rfl, _, rfl, pr, _, _, _, rfl, rfl, SqL.of hpr, at_neg (n := j + m) (by rw [hlen]; omega) (by omega) (by rw [hlen]; omega), _, rfl, _, _, rfl, rfl, rfl, _, rfl, ?_⟩
        rw [g1, g2]
        refine ite2 (fun h2 => ?_) (fun h2 => ?_)
        · have h2' : (h ++ l.take m).getD j 0 + cc = (h ++ l.take m).getD (j + m) 0 := by
            have := of_decide_eq_true h2
            injection this
            omega
          refine ⟨fun σ' G2 => Same H G2 ∧ ∃ pr', G2 pr' = some (.lst (vI ((h ++ l.take m).take (j + m)))) ∧ σ' = [some (.ref a), some (.ref b), some (.int cc), some (.int (m : Int)), v1, some (.ref pr'), v2, v3, none], fun σ' G2 ⟨z1, pr', z2, z3⟩ => ⟨j, Nat.lt_succ_self j, z1, by omega, ?_, pr', z2, z3⟩, ?_⟩
          · rw [hcut]
            show (if (h ++ l.take m).getD j 0 + cc = (h ++ l.take m).getD (j + m) 0 then _ else _) = _
            rw [if_pos h2']
          · refine ⟨_, rfl, _, rfl, _, rfl, pr, _, rfl, SqL.of hpr, fun q4 hq4 => ?_⟩
            refine ⟨NF.Same.new s5 hq4, q4, ?_, rfl⟩
            rw [upd_same]
            show some (HO.lst (cutV _ none (some (-((1 : Nat) : Int))))) = _
            rw [cut_toN (by decide), vI_len, hlen, vI_take, List.take_take, Nat.min_eq_left (by omega)]
            congr 4
            omega
        · refine hdone ?_
          show (if (h ++ l.take m).getD j 0 + cc = (h ++ l.take m).getD (j + m) 0 then _ else _) = _
          rw [if_neg fun z => h2 (decide_eq_true (congrArg V.int (by omega)))]
      · have k0 : k = 0 := by
          have : ¬ (m : Int) < ((vI ((h ++ l.take m).take (k + m))).length : Int) := fun z => h1 (decide_eq_true z)
          rw [vI_len, hlen] at this
          omega
        subst k0
        exact hdone rfl
end
end K10
set_option Elab.async false
set_option linter.all false
set_option maxRecDepth 100000
set_option maxHeartbeats 4000000
namespace K10
open PySem PySem.Spec PyProof.Rows L2 He NF RZ NT
def Counts (y : List Int × List Int × Int) : Prop := (∀ i, i ∈ y.1 ++ y.2.1 → 0 ≤ i) ∧ 0 ≤ y.2.2
def spSame (K : PySem.W.Frag) (C : Addr) : Sp := fun vs H Q _ => ∃ x p y, vs = [.ref x, .ref p] ∧ TabAt K C H x y ∧ FormAt K H p y ∧ Small y ∧ Counts y ∧ ∀ H', Same H H' → Q (.bl true) H'
def spLTable (K : PySem.W.Frag) (C : Addr) : Sp := fun vs H Q _ => ∃ p y, vs = [.ref p] ∧ FormAt K H p y ∧ RawOk y ∧ ∀ x z H', IsPlain y.1 y.2.1 y.2.2 z → Same H H' → TabAt K C H' x z → Q (.ref x) H'
/-- the same table told with more values ahead and a longer loop -/
def Told (x y : List Int × List Int × Int) : Prop := ∃ more t : Nat, more ≤ 4 ∧ (x.2.1 = [] → more = 0) ∧ 0 < t ∧ t ≤ 3 ∧ y = ((tell x.1 x.2.1 x.2.2 (x.1.length + more + x.2.1.length * t)).take (x.1.length + more), (tell x.1 x.2.1 x.2.2 (x.1.length + more + x.2.1.length * t)).drop (x.1.length + more), x.2.2 * (t : Int))
/-- what is told again: short -/
structure Tel0 (x : List Int × List Int × Int) : Prop where
  g : Good x.1 x.2.1 x.2.2
  h : x.1.length ≤ 200
  l : x.2.1.length ≤ 4
  r : x.2.2 ≤ 1000
def spTelling (K : PySem.W.Frag) : Sp := fun vs H Q _ => ∃ (H0 : Hp) (p q : Addr) (x : List Int × List Int × Int), vs = [.ref p, .ref q] ∧ Same H0 H ∧ H0 p = none ∧ Src H p ∧ FormAt K H0 q x ∧ Tel0 x ∧
  ∀ q' y H', Same H0 H' → Src H' p → Told x y → FormAt K H' q' y → Q (.ref q') H'
theorem sc__law_same : FnScope ["_law_table_here", "_law_raw_here", "_law_one"] ["_law_table_here", "_law_raw_here"] (defScope s__law_same) := ⟨rfl, rfl, rfl, by decide +kernel, rfl, by decide +kernel, by decide +kernel⟩
theorem sc__law_table : FnScope ["_law_raw_here"] ["_law_raw_here"] (defScope s__law_table) := ⟨rfl, rfl, rfl, by decide +kernel, rfl, by decide +kernel, by decide +kernel⟩
theorem sc__law_telling : FnScope ["_law_source_here", "_law_raw_here", "_law_more", "_law_turns", "_law_cut", "_law_values", "_law_n"] ["_law_source_here", "_law_raw_here"] (defScope s__law_telling) := ⟨rfl, rfl, rfl, by decide +kernel, rfl, by decide +kernel, by decide +kernel⟩
theorem same_made {H H' : Hp} {x dx : Addr} {o o' : HO} (nx : H x = none) (nd : H dx = none) (s : Same (wo (upd (upd H dx o) x o') x) H') : Same H H' := fun b u e =>
  s b u (by rw [wo_ne (ne_of_none e nx), upd_ne (ne_of_none e nx), upd_ne (ne_of_none e nd)]; exact e)
theorem row_made {K : PySem.W.Frag} {H : Hp} {x dx a : Addr} {o o' : HO} {xs : List V} (nx : H x = none) (nd : H dx = none) (h : Row K H a xs) : Row K (upd (upd H dx o) x o') a xs := h.mono fun b u e => by
  rw [upd_ne (ne_of_none e nx), upd_ne (ne_of_none e nd)]
  exact e
section
variable {P : Program} {w : World} {K : PySem.W.Frag} {mg : Str → Option Value} {base : Heap} {gs : List Str} {C : Addr}
theorem ok__law_table {f : Addr} {fd : FuncData} (F : FunD K "_law_table" "_law_table" (defArgs s__law_table) (defBody s__law_table) (defScope s__law_table) [] [] f fd) (T : Txt K mg gs FS) (m_Table : Mak P w K mg base 4 0 "Table" C (spInit K C) []) : FnOk P w K mg base CX0 6 f fd ["_law_raw_here"] (spLTable K C) := by
  refine F.ok sc__law_table (fun vs H Q E h => ?_) (fun cdv A outer s H vs Q E hr h => ?_)
  · obtain ⟨p, y, rfl, _⟩ := h
    rfl
  · obtain ⟨p, ⟨h, l, r⟩, rfl, ⟨a, b, hp, ha, hb⟩, ok, q⟩ := h
    refine ⟨_, PSs.nox (pss_one (ps_ret (pe_mk m_Table hr (by decide) rfl (pa_cons (pe_ix (ixt (K := K)) (pv 0) pe_int fun _ _ => rfl) (pa_cons (pe_ix (ixt (K := K)) (pv 0) pe_int fun _ _ => rfl) (pa_cons (pe_ix (ixt (K := K)) (pv 0) pe_int fun _ _ => rfl) pa_nil)))))), ?_⟩
    refine ⟨_, rfl, p, _, _, _, rfl, rfl, hp, at0, _, rfl, p, _, _, _, rfl, rfl, hp, at1, _, rfl, p, _, _, _, rfl, rfl, hp, at2, ?_⟩
    intro x dx nx nd ne
    have o1 := ok.h
    have o2 := ok.l
    dsimp only at o1 o2 ha hb q
    exact ⟨x, dx, a, b, h, l, r, rfl, upd_same, row_made nx nd (.inr ha), row_made nx nd (.inr hb), ok.g, by omega, fun z H' hz s tb => ⟨rfl, q x z H' hz (same_made nx nd s) tb⟩⟩
theorem ok__law_same {f : Addr} {fd : FuncData} (F : FunD K "_law_same" "_law_same" (defArgs s__law_same) (defBody s__law_same) (defScope s__law_same) [] [] f fd) (T : Txt K mg gs FS) (hT : mg "Table" = some (.ref C)) (tc : TabC K C) (c__law_is_count : Cal P w K mg base 2 "_law_is_count" spIsCount) : FnOk P w K mg base CX0 3 f fd ["_law_table_here", "_law_raw_here"] (spSame K C) := by
  refine F.ok sc__law_same (fun vs H Q E h => ?_) (fun cdv A outer s H vs Q E hr h => ?_)
  · obtain ⟨x, p, y, rfl, _⟩ := h
    rfl
  · obtain ⟨x, p, ⟨h, l, r⟩, rfl, ⟨dx, a, b, hx, ha, hb⟩, ⟨a2, b2, hp, ha2, hb2⟩, sm, ⟨ct, c0⟩, q⟩ := h
    have hu : (A.deeper (envOfC "_law_same" (defScope s__law_same) s.heap.objs.size f cdv)).units + 64 < cLine := by
      have := hr.un
      omega
    have sm1 := sm.h
    have sm2 := sm.l
    dsimp only at hx ha hb hp ha2 hb2 sm1 sm2 ct c0
    refine ⟨_, PSs.nox (pss_cons (ps_if (PW.pt (pw_or (pt_not (pt_val (pe_callB call_isi rfl (T.fr _ (by decide +kernel)) (by decide +kernel) (pa_cons (pv 0) (pa_cons (pe_gl hT) pa_nil))))) (pw_or (pt_cmpR (op_neD hu) (pe_fld (pv 0) rfl) (pe_ix (ixt (K := K)) (pv 1) pe_int fun _ _ => rfl) (nomark _)) (pw_or1 (pt_cmpR (op_neD hu) (pe_fld (pv 0) rfl) (pe_ix (ixt (K := K)) (pv 1) pe_int fun _ _ => rfl) (nomark _)))))) (pss_one (ps_ret pe_bl)) pss_nil) (pss_cons (ps_if (PW.pt (pw_or (pt_not (pt_val (pe_callB call_isi rfl (T.fr _ (by decide +kernel)) (by decide +kernel) (pa_cons (pe_fld (pv 0) rfl) (pa_cons (pe_bltn (v := .ty "tuple") rfl (T.fr _ (by decide +kernel)) (by decide +kernel) rfl) pa_nil))))) (pw_or1 (pt_not (pt_val (pe_callB call_isi rfl (T.fr _ (by decide +kernel)) (by decide +kernel) (pa_cons (pe_fld (pv 0) rfl) (pa_cons (pe_bltn (v := .ty "tuple") rfl (T.fr _ (by decide +kernel)) (by decide +kernel) rfl) pa_nil)))))))) (pss_one (ps_ret pe_bl)) pss_nil) (pss_cons (ps_if (pt_not (pt_val (pe_callB (cr_all rfl) rfl (T.fr _ (by decide +kernel)) (by decide +kernel) (pa_cons (pe_lc (own := [("_law_one", 2)]) rfl sc__law_same.nd (pi_tup (pe_op op_catA (pe_fld (pv 0) rfl) (pe_fld (pv 0) rfl))) (blkOk_by (N := ["_law_table_here", "_law_raw_here", "_law_one"]) (sc := defScope s__law_same) (by decide +kernel)) (fun _ _ _ _ _ => by exact (pg_name (i := 2) sc__law_same.nd rfl (Or.inl rfl))) (fun _ _ _ _ _ => by exact pts_nil) (fun _ _ _ _ _ => by exact (pe_c c__law_is_count hr (by decide) rfl (pa_cons (pv 2) pa_nil)))) pa_nil)))) (pss_one (ps_ret pe_bl)) pss_nil) (pss_one (ps_ret (pe_and (pe_c c__law_is_count hr (by decide) rfl (pa_cons (pe_fld (pv 0) rfl) pa_nil)) (pe_one (pe_cmpR op_eq (pe_fld (pv 0) rfl) (pe_ix (ixt (K := K)) (pv 1) pe_int fun _ _ => rfl) (nomark _))))))))), ?_⟩
    refine ⟨_, rfl, _, _, _, _, true, rfl, .own C, tc.ty hx, tc.self, true, rfl, iteF ?_⟩
    refine ⟨_, rfl, x, C, dx, _, _, rfl, hx, tc.cl, tc.hd, rfl, _, rfl, p, _, _, _, rfl, rfl, hp, at0, ?_⟩
    refine neT_done (K := K) ha ha2 ⟨_, rfl, iteF' (by simp) ?_⟩
    refine ⟨_, rfl, x, C, dx, _, _, rfl, hx, tc.cl, tc.lp, rfl, _, rfl, p, _, _, _, rfl, rfl, hp, at1, ?_⟩
    refine neT_done (K := K) hb hb2 ⟨_, rfl, iteF' (by simp) ?_⟩
    refine ⟨_, rfl, x, C, dx, _, _, rfl, hx, tc.cl, tc.hd, rfl, _, _, _, _, true, rfl, .ty "tuple", tyx_tup ha, kit_t_t K, true, rfl, iteF ?_⟩
    refine ⟨_, rfl, x, C, dx, _, _, rfl, hx, tc.cl, tc.lp, rfl, _, _, _, _, true, rfl, .ty "tuple", tyx_tup hb, kit_t_t K, true, rfl, iteF ?_⟩
    refine ⟨_, rfl, x, C, dx, _, _, rfl, hx, tc.cl, tc.hd, rfl, _, rfl, x, C, dx, _, _, rfl, hx, tc.cl, tc.lp, rfl, ?_⟩
    refine catA_done (K := K) ha hb (by rw [vI_len, vI_len]; exact Nat.le_trans (show h.length + l.length ≤ 2000 by omega) (by decide)) fun p3 G1 s1 t1 => ?_
    rw [vI_app] at t1
    refine ⟨p3, rfl, ⟨_, t1⟩, fun D hD => ?_⟩
    refine lc_tup (xs := vI (h ++ l)) (fun j G => Same G1 G ∧ G D = some (.lst ((List.replicate j true).map V.bl))) ⟨NF.Same.new (Same.refl G1) hD, upd_same⟩ (fun i G _ z => NF.Same.tup z.1 t1) ?_ ?_
    · rintro j v G hv ⟨hG, hD2⟩
      have hj := (List.getElem?_eq_some_iff.mp hv).1
      rw [vI_len] at hj
      obtain rfl : V.int ((h ++ l)[j]) = v := by
        rw [List.getElem?_map, List.getElem?_eq_getElem hj] at hv
        exact Option.some.inj hv
      refine ⟨rfl, _, rfl, _, rfl, ?_⟩
      have hc := ct _ (List.getElem_mem hj)
      have hjl : j < 2000 := by
        rw [List.length_append] at hj
        omega
      rw [decide_eq_true hc]
      refine ⟨_, hD2, by rw [List.length_map, List.length_replicate]; exact Nat.lt_of_lt_of_le hjl (by decide), NF.Same.mut hG hD, ?_⟩
      rw [upd_same, List.replicate_succ', List.map_append] <;> rfl
    · rintro G ⟨hG, hD2⟩
      refine ⟨D, _, rfl, SqL.of hD2, true, ?_, iteF ?_⟩
      · rw [List.all_replicate]
        simp
      have s2 := Same.trans s1 hG
      have hx2 := s2 _ _ hx
      have hp2 := NF.Same.tup s2 hp
      refine ⟨_, rfl, x, C, dx, _, _, rfl, hx2, tc.cl, tc.ri, rfl, r, rfl, ?_⟩
      rw [decide_eq_true c0]
      refine ⟨true, rfl, iteT ⟨_, rfl, x, C, dx, _, _, rfl, hx2, tc.cl, tc.ri, rfl, _, rfl, p, _, _, _, rfl, rfl, hp2, at2, rfl, ?_⟩⟩
      show Q (V.bl (decide (V.int r = V.int r))) G
      rw [decide_eq_true rfl]
      exact q _ s2
end
end K10
set_option Elab.async false
set_option linter.all false
set_option maxHeartbeats 4000000
/-! Rows of values that climb and may come to never: their tellings; the values of one table at the values of another one. -/
namespace NT
structure Asc (F : Nat → Option Int) : Prop where
  ge : ∀ n v, 1 ≤ n → F n = some v → 0 ≤ v
  up : ∀ n v, 1 ≤ n → F (n + 1) = some v → ∃ u, F n = some u ∧ u ≤ v
def numF (F : Nat → Option Int) (n : Nat) : Int := (F n).getD 0
def seg (F : Nat → Option Int) (a m : Nat) : List (Option Int) := (List.range m).map fun k => F (a + k + 1)
def segN (F : Nat → Option Int) (a m : Nat) : List Int := (List.range m).map fun k => numF F (a + k + 1)
variable {F : Nat → Option Int}
theorem seg_succ {a m : Nat} : seg F a (m + 1) = seg F a m ++ [F (a + m + 1)] := by
  unfold seg
  rw [List.range_succ, List.map_append]
  rfl
theorem segN_succ {a m : Nat} : segN F a (m + 1) = segN F a m ++ [numF F (a + m + 1)] := by
  unfold segN
  rw [List.range_succ, List.map_append]
  rfl
theorem seg_len {a m : Nat} : (seg F a m).length = m := by unfold seg; rw [List.length_map, List.length_range]
theorem segN_len {a m : Nat} : (segN F a m).length = m := by unfold segN; rw [List.length_map, List.length_range]
theorem segN_get {a m k : Nat} (hk : k < m) : (segN F a m).getD k 0 = numF F (a + k + 1) := by
  unfold segN
  rw [List.getD_eq_getElem?_getD, List.getElem?_map, List.getElem?_range hk]
  rfl
theorem Asc.below (A : Asc F) {m d : Nat} (hm : 1 ≤ m) : ∀ {v : Int}, F (m + d) = some v → ∃ u, F m = some u ∧ u ≤ v := by
  induction d with
  | zero => exact fun {v} h => ⟨v, h, Int.le_refl _⟩
  | succ d ih =>
    intro v h
    obtain ⟨u, hu, le⟩ := A.up (m + d) v (by omega) h
    obtain ⟨u2, h2, le2⟩ := ih hu
    exact ⟨u2, h2, Int.le_trans le2 le⟩
theorem Asc.none_up (A : Asc F) {m n : Nat} (hm : 1 ≤ m) (h : F m = none) (le : m ≤ n) : F n = none := by
  cases e : F n with
  | none => rfl
  | some v =>
    obtain ⟨d, rfl⟩ : ∃ d, n = m + d := ⟨n - m, by omega⟩
    obtain ⟨u, hu, _⟩ := A.below hm e
    rw [h] at hu
    cases hu
theorem numF_some {n : Nat} (h : F n ≠ none) : F n = some (numF F n) := by
  unfold numF
  cases e : F n with
  | none => exact absurd e h
  | some v => rfl
theorem Asc.mono (A : Asc F) {m n : Nat} (hm : 1 ≤ m) (le : m ≤ n) (h : F n ≠ none) : numF F m ≤ numF F n := by
  obtain ⟨d, rfl⟩ : ∃ d, n = m + d := ⟨n - m, by omega⟩
  obtain ⟨u, hu, le2⟩ := A.below hm (numF_some h)
  have : numF F m = u := by unfold numF; rw [hu]; rfl
  rw [this]
  exact le2
theorem Asc.nonneg (A : Asc F) {n : Nat} (hn : 1 ≤ n) (h : F n ≠ none) : 0 ≤ numF F n := A.ge n _ hn (numF_some h)
/-- those that are counts -/
theorem cnt_ex (A : Asc F) (N : Nat) : ∃ M, M ≤ N ∧ (seg F 0 N).filterMap id = segN F 0 M ∧ (∀ n, 1 ≤ n → n ≤ M → F n ≠ none) ∧ (∀ n, M < n → n ≤ N → F n = none) := by
  induction N with
  | zero => exact ⟨0, Nat.le_refl _, rfl, fun n h1 h2 => by omega, fun n h1 h2 => by omega⟩
  | succ N ih =>
    obtain ⟨M, hM, e, s, z⟩ := ih
    cases h : F (N + 1) with
    | none =>
      refine ⟨M, by omega, ?_, s, fun n h1 h2 => ?_⟩
      · rw [seg_succ, List.filterMap_append, e, show 0 + N + 1 = N + 1 by omega, h]
        simp
      · by_cases c : n ≤ N
        · exact z n h1 c
        · rw [show n = N + 1 by omega, h]
    | some v =>
      have hall : M = N := by
        rcases Nat.lt_or_ge M N with c | c
        · have := z (M + 1) (by omega) (by omega)
          have := A.none_up (by omega) this (show M + 1 ≤ N + 1 by omega)
          rw [h] at this
          cases this
        · omega
      subst hall
      refine ⟨M + 1, Nat.le_refl _, ?_, fun n h1 h2 => ?_, fun n h1 h2 => by omega⟩
      · rw [seg_succ, List.filterMap_append, e, segN_succ, show 0 + M + 1 = M + 1 by omega, h]
        unfold numF
        rw [h]
        rfl
      · by_cases c : n ≤ M
        · exact s n h1 c
        · rw [show n = M + 1 by omega, h]
          exact fun y => by cases y
theorem ended (A : Asc F) {M : Nat} (s : ∀ n, 1 ≤ n → n ≤ M → F n ≠ none) : Good (segN F 0 M) [] 0 := by
  refine ⟨climbs_of (fun i hi => ?_) (fun i hi => ?_), trivial, fun _ z => absurd rfl z, Int.le_refl _, fun _ => rfl, fun z => absurd rfl z⟩
  · rw [segN_len] at hi
    rw [segN_get hi]
    exact A.nonneg (by omega) (s _ (by omega) (by omega))
  · rw [segN_len] at hi
    rw [segN_get (by omega), segN_get hi]
    exact A.mono (by omega) (by omega) (s _ (by omega) (by omega))
theorem at_ended {M : Nat} (s : ∀ n, 1 ≤ n → n ≤ M → F n ≠ none) (z : ∀ n, M < n → F n = none) {n : Nat} (hn : 1 ≤ n) : at_ (segN F 0 M) [] 0 n = F n := by
  unfold at_
  rw [segN_len]
  by_cases c : n ≤ M
  · rw [if_pos c, segN_get (by omega), show 0 + (n - 1) + 1 = n by omega]
    exact (numF_some (s n hn c)).symm
  · rw [if_neg c, if_pos rfl]
    exact (z n (by omega)).symm
theorem per_num {N m : Nat} {c : Int} (p : ∀ n, N < n → numF F (n + m) = numF F n + c) (i j : Nat) : numF F (N + 1 + i + m * j) = numF F (N + 1 + i) + c * (j : Int) := by
  induction j with
  | zero => simp
  | succ j ih =>
    have e : N + 1 + i + m * (j + 1) = (N + 1 + i + m * j) + m := by rw [Nat.mul_succ]; omega
    rw [e, p _ (by omega), ih, Int.natCast_succ, Int.mul_add]
    omega
theorem looped (A : Asc F) {N m : Nat} {c : Int} (hm : 0 < m) (s : ∀ n, 1 ≤ n → F n ≠ none) (p : ∀ n, N < n → numF F (n + m) = numF F n + c) :
    Good (segN F 0 N) (segN F N m) c ∧ ∀ n, 1 ≤ n → at_ (segN F 0 N) (segN F N m) c n = F n := by
  have hl : segN F N m ≠ [] := fun z => by
    have := congrArg List.length z
    rw [segN_len] at this
    simp at this
    omega
  refine ⟨⟨climbs_of (fun i hi => ?_) (fun i hi => ?_), climbs_of (fun i hi => ?_) (fun i hi => ?_), fun h1 _ => ?_, ?_, fun z => absurd z hl, fun _ => ?_⟩, fun n hn => ?_⟩
  · rw [segN_len] at hi
    rw [segN_get hi]
    exact A.nonneg (by omega) (s _ (by omega))
  · rw [segN_len] at hi
    rw [segN_get (by omega), segN_get hi]
    exact A.mono (by omega) (by omega) (s _ (by omega))
  · rw [segN_len] at hi
    rw [segN_get hi]
    exact A.nonneg (by omega) (s _ (by omega))
  · rw [segN_len] at hi
    rw [segN_get (by omega), segN_get hi]
    exact A.mono (by omega) (by omega) (s _ (by omega))
  · have : 0 < N := by
      rcases Nat.eq_zero_or_pos N with z | z
      · subst z; exact absurd rfl h1
      · exact z
    rw [segN_len, segN_get (by omega), segN_get hm]
    exact A.mono (by omega) (by omega) (s _ (by omega))
  · have e := p (N + 1) (by omega)
    have := A.mono (m := N + 1) (n := N + 1 + m) (by omega) (by omega) (s _ (by omega))
    omega
  · rw [segN_len, segN_get (by omega), segN_get hm]
    have e := p (N + 0 + 1) (by omega)
    have := A.mono (m := N + (m - 1) + 1) (n := N + 0 + 1 + m) (by omega) (by omega) (s _ (by omega))
    omega
  · by_cases q : n ≤ N
    · unfold at_
      rw [segN_len, if_pos q, segN_get (by omega), show 0 + (n - 1) + 1 = n by omega]
      exact (numF_some (s n hn)).symm
    · rw [at_loop hl (by rw [segN_len]; omega), segN_len, numF_some (s n hn)]
      congr 1
      unfold walk
      rw [segN_len, segN_get (Nat.mod_lt _ hm)]
      have e := per_num p ((n - N - 1) % m) ((n - N - 1) / m)
      have e2 : N + 1 + (n - N - 1) % m + m * ((n - N - 1) / m) = n := by
        have := Nat.mod_add_div (n - N - 1) m
        omega
      rw [e2] at e
      rw [e, show N + (n - N - 1) % m + 1 = N + 1 + (n - N - 1) % m by omega]
/-- how the program tells a table that comes to an end -/
def settled (vs : List (Option Int)) : Option Int → List Int × List Int × Int
  | none => (vs.filterMap id, [], 0)
  | some v => if (vs.filterMap id).length < vs.length then (vs.filterMap id, [], 0) else (vs.filterMap id, [v], 0)
theorem settled_ok (A : Asc F) {N : Nat} {t : Option Int} (ht : ∀ n, N < n → F n = t) :
    Good (settled (seg F 0 N) t).1 (settled (seg F 0 N) t).2.1 (settled (seg F 0 N) t).2.2 ∧ (∀ n, 1 ≤ n → at_ (settled (seg F 0 N) t).1 (settled (seg F 0 N) t).2.1 (settled (seg F 0 N) t).2.2 n = F n) ∧
      (settled (seg F 0 N) t).1.length ≤ N ∧ (settled (seg F 0 N) t).2.1.length ≤ 1 := by
  obtain ⟨M, hM, e, s, z⟩ := cnt_ex A N
  have short : M < N ∨ t = none → Good (segN F 0 M) [] 0 ∧ (∀ n, 1 ≤ n → at_ (segN F 0 M) [] 0 n = F n) ∧ (segN F 0 M).length ≤ N ∧ ([] : List Int).length ≤ 1 := fun h => by
    refine ⟨ended A s, fun n hn => at_ended s (fun k hk => ?_) hn, by rw [segN_len]; exact hM, Nat.zero_le _⟩
    rcases h with h | h
    · exact A.none_up (m := M + 1) (by omega) (z (M + 1) (by omega) (by omega)) (by omega)
    · by_cases c : k ≤ N
      · exact z k hk c
      · rw [ht k (by omega), h]
  unfold settled
  cases t with
  | none =>
    dsimp only
    rw [e]
    exact short (.inr rfl)
  | some v =>
    dsimp only
    rw [e, seg_len, segN_len]
    by_cases c : M < N
    · rw [if_pos c]
      exact short (.inl c)
    · rw [if_neg c]
      have hMN : M = N := by omega
      subst hMN
      have sall : ∀ n, 1 ≤ n → F n ≠ none := fun n hn => by
        by_cases q : n ≤ M
        · exact s n hn q
        · rw [ht n (by omega)]
          exact fun y => by cases y
      have el : segN F M 1 = [v] := by
        unfold segN
        show [numF F (M + 0 + 1)] = [v]
        unfold numF
        rw [ht _ (by omega)]
        rfl
      have g := looped A (N := M) (m := 1) (c := 0) (by decide) sall (fun n hn => by
        unfold numF
        rw [ht n hn, ht (n + 1) (by omega)]
        simp)
      rw [el] at g
      exact ⟨g.1, g.2, by rw [segN_len]; exact Nat.le_refl _, Nat.le_refl _⟩
/-! ### a table's own values -/
section
variable {h l : List Int} {r : Int}
theorem asc_at (g : Good h l r) : Asc (at_ h l r) := by
  have some_of : ∀ n v, at_ h l r n = some v → n ≤ h.length ∨ l ≠ [] := fun n v e => by
    by_cases c : n ≤ h.length
    · exact .inl c
    · refine .inr fun z => ?_
      unfold at_ at e
      rw [if_neg c, if_pos z] at e
      cases e
  refine ⟨fun n v hn e => ?_, fun n v hn e => ?_⟩
  · have := num_ge g n hn
    unfold num at this
    rw [e] at this
    exact this
  · have c := some_of _ _ e
    have e1 := at_some (h := h) (l := l) (r := r) n (c.imp (fun q => by omega) id)
    refine ⟨_, e1, ?_⟩
    have := num_up g n hn c
    have e2 : num h l r (n + 1) = v := by unfold num; rw [e]; rfl
    omega
theorem good_of (A : Asc (at_ h l r)) (r0 : 0 ≤ r) (rl : l = [] → r = 0) : Good h l r := by
  have ah : ∀ i, i < h.length → at_ h l r (i + 1) = some (h.getD i 0) := fun i hi => by
    unfold at_
    rw [if_pos (by omega), Nat.add_sub_cancel]
  have al : ∀ i, i < l.length → at_ h l r (h.length + i + 1) = some (l.getD i 0) := fun i hi => by
    have hl : l ≠ [] := fun z => by rw [z] at hi; simp at hi
    rw [at_loop hl (by omega), show h.length + i + 1 - h.length - 1 = i by omega, walk_lt hi]
  refine ⟨climbs_of (fun i hi => A.ge _ _ (by omega) (ah i hi)) (fun i hi => ?_), climbs_of (fun i hi => A.ge _ _ (by omega) (al i hi)) (fun i hi => ?_), fun h1 h2 => ?_, r0, rl, fun hl => ?_⟩
  · obtain ⟨u, hu, le⟩ := A.up _ _ (by omega) (ah (i + 1) hi)
    rw [ah i (by omega)] at hu
    injection hu with hu
    omega
  · obtain ⟨u, hu, le⟩ := A.up _ _ (by omega) (al (i + 1) hi)
    rw [show h.length + (i + 1) = h.length + i + 1 by omega, al i (by omega)] at hu
    injection hu with hu
    omega
  · have h0 := len_pos h1
    obtain ⟨u, hu, le⟩ := A.up _ _ (by omega) (al 0 (len_pos h2))
    have := ah (h.length - 1) (by omega)
    rw [show h.length - 1 + 1 = h.length by omega] at this
    rw [this] at hu
    injection hu with hu
    omega
  · have l0 := len_pos hl
    have e : at_ h l r (h.length + (l.length - 1) + 1 + 1) = some (l.getD 0 0 + r) := by
      rw [at_loop hl (by omega), show h.length + (l.length - 1) + 1 + 1 - h.length - 1 = 0 + l.length by omega, walk_add l0, walk_lt l0]
    obtain ⟨u, hu, le⟩ := A.up _ _ (by omega) e
    rw [al (l.length - 1) (by omega)] at hu
    injection hu with hu
    omega
theorem at_fin (g : Good h l r) (c : l = [] ∨ r = 0) {n : Nat} (hn : h.length < n) : at_ h l r n = fin_ l r := by
  unfold fin_
  by_cases hl : l = []
  · rw [if_pos (.inl hl)]
    unfold at_
    rw [if_neg (by omega), if_pos hl]
  · have hr := c.resolve_left hl
    rw [if_neg (fun z => z.elim hl fun z => by omega), at_loop hl hn]
    have l0 := len_pos hl
    congr 1
    unfold walk
    rw [hr, Int.zero_mul, Int.add_zero]
    have hi := Nat.mod_lt (n - h.length - 1) l0
    generalize (n - h.length - 1) % l.length = i at hi
    have up : ∀ i d, i + d < l.length → l.getD i 0 ≤ l.getD (i + d) 0 := fun i d => by
      induction d with
      | zero => exact fun _ => Int.le_refl _
      | succ d ih => exact fun q => Int.le_trans (ih (by omega)) (climbs_up g.lp q)
    have e1 := up 0 i (by omega)
    have e2 := up i (l.length - 1 - i) (by omega)
    rw [Nat.zero_add] at e1
    rw [show i + (l.length - 1 - i) = l.length - 1 by omega] at e2
    have := g.last hl
    omega
theorem val_mono (g : Good h l r) {a b : Nat} (le : a ≤ b) {v : Int} (e : val_ h l r (some b) = some v) : ∃ u, val_ h l r (some a) = some u ∧ u ≤ v ∧ 0 ≤ u := by
  have A := asc_at g
  unfold val_ at e ⊢
  dsimp only at e ⊢
  by_cases ha : a = 0
  · rw [if_pos ha]
    refine ⟨0, rfl, ?_, Int.le_refl _⟩
    by_cases hb : b = 0
    · rw [if_pos hb] at e
      injection e with e
      omega
    · rw [if_neg hb] at e
      exact A.ge _ _ (by omega) e
  · rw [if_neg ha]
    rw [if_neg (by omega)] at e
    obtain ⟨d, rfl⟩ : ∃ d, b = a + d := ⟨b - a, by omega⟩
    obtain ⟨u, hu, le2⟩ := A.below (by omega) e
    exact ⟨u, hu, le2, A.ge _ _ (by omega) hu⟩
theorem val_fin (g : Good h l r) {v : Int} (e : fin_ l r = some v) (a : Nat) : ∃ u, val_ h l r (some a) = some u ∧ u ≤ v ∧ 0 ≤ u := by
  have c : l = [] ∨ r = 0 := by
    unfold fin_ at e
    by_cases q : l = [] ∨ 0 < r
    · rw [if_pos q] at e
      cases e
    · have := g.r0
      right
      have : ¬ 0 < r := fun z => q (.inr z)
      omega
  refine val_mono g (b := a + h.length + 1) (by omega) ?_
  unfold val_
  dsimp only
  rw [if_neg (by omega), at_fin g c (by omega), e]
end
/-! ### the values of one table at the values of another one -/
section
variable {h1 l1 h2 l2 : List Int} {r1 r2 : Int}
def beh (h1 l1 : List Int) (r1 : Int) (h2 l2 : List Int) (r2 : Int) (n : Nat) : Option Int := val_ h1 l1 r1 ((at_ h2 l2 r2 n).map Int.toNat)
theorem beh_asc (g1 : Good h1 l1 r1) (g2 : Good h2 l2 r2) : Asc (beh h1 l1 r1 h2 l2 r2) := by
  have A := asc_at g2
  refine ⟨fun n v hn e => ?_, fun n v hn e => ?_⟩
  · unfold beh at e
    cases q : at_ h2 l2 r2 n with
    | none =>
      rw [q] at e
      obtain ⟨u, _, h, h'⟩ := val_fin g1 e 0
      omega
    | some k =>
      rw [q] at e
      obtain ⟨u, h0, _, h⟩ := val_mono g1 (Nat.le_refl _) e
      have : some u = some v := h0.symm.trans e
      injection this with this
      omega
  · unfold beh at e ⊢
    cases q : at_ h2 l2 r2 (n + 1) with
    | none =>
      rw [q] at e
      cases q2 : at_ h2 l2 r2 n with
      | none => exact ⟨v, e, Int.le_refl _⟩
      | some k =>
        obtain ⟨u, h0, h, _⟩ := val_fin g1 e k.toNat
        exact ⟨u, h0, h⟩
    | some k =>
      rw [q] at e
      obtain ⟨j, hj, le⟩ := A.up n k hn q
      rw [hj]
      obtain ⟨u, h0, h, _⟩ := val_mono g1 (show j.toNat ≤ k.toNat by omega) e
      exact ⟨u, h0, h⟩
theorem beh_end (g2 : Good h2 l2 r2) (c : l2 = [] ∨ r2 = 0) {n : Nat} (hn : h2.length < n) : beh h1 l1 r1 h2 l2 r2 n = val_ h1 l1 r1 ((fin_ l2 r2).map Int.toNat) := by
  unfold beh
  rw [at_fin g2 c hn]
theorem beh_far {n : Nat} {v : Int} (e : at_ h2 l2 r2 n = some v) (hv : (h1.length : Int) < v) : beh h1 l1 r1 h2 l2 r2 n = at_ h1 l1 r1 v.toNat := by
  unfold beh
  rw [e]
  show val_ h1 l1 r1 (some v.toNat) = _
  unfold val_
  dsimp only
  rw [if_neg (by omega)]
theorem beh_flat (g1 : Good h1 l1 r1) (c : l1 = [] ∨ r1 = 0) {n : Nat} {v : Int} (e : at_ h2 l2 r2 n = some v) (hv : (h1.length : Int) < v) : beh h1 l1 r1 h2 l2 r2 n = fin_ l1 r1 := by
  rw [beh_far e hv, at_fin g1 c (by omega)]
theorem beh_some (n1 : l1 ≠ []) (n2 : l2 ≠ []) (n : Nat) : beh h1 l1 r1 h2 l2 r2 n ≠ none := by
  unfold beh
  rw [at_some n (.inr n2)]
  show val_ h1 l1 r1 (some _) ≠ none
  unfold val_
  dsimp only
  by_cases c : (num h2 l2 r2 n).toNat = 0
  · rw [if_pos c]
    exact fun z => by cases z
  · rw [if_neg c, at_some _ (.inr n1)]
    exact fun z => by cases z
theorem beh_per (n1 : l1 ≠ []) (n2 : l2 ≠ []) {lead q : Nat} {rq gg : Nat} (hq : l1.length = gg * q) (hr : r2 = ((gg * rq : Nat) : Int)) (hl : h2.length ≤ lead) (far : ∀ n, lead < n → ∃ v, at_ h2 l2 r2 n = some v ∧ (h1.length : Int) < v) (n : Nat) (hn : lead < n) :
    numF (beh h1 l1 r1 h2 l2 r2) (n + l2.length * q) = numF (beh h1 l1 r1 h2 l2 r2) n + r1 * (rq : Int) := by
  obtain ⟨v, hv, lv⟩ := far n hn
  obtain ⟨v', hv', lv'⟩ := far (n + l2.length * q) (by omega)
  have e : v' = v + (l1.length : Int) * (rq : Int) := by
    have a := at_loop n2 (r := r2) (h := h2) (n := n) (by omega)
    have b := at_loop n2 (r := r2) (h := h2) (n := n + l2.length * q) (by omega)
    rw [hv] at a
    rw [hv', show n + l2.length * q - h2.length - 1 = (n - h2.length - 1) + l2.length * q by omega, walk_add_mul (len_pos n2)] at b
    injection a with a
    injection b with b
    rw [b, a, hr, hq, Int.natCast_mul, Int.natCast_mul, Int.mul_assoc, Int.mul_assoc, Int.mul_comm (rq : Int) (q : Int)]
  unfold numF
  rw [beh_far hv lv, beh_far hv' lv', at_loop n1 (by omega), at_loop n1 (by omega)]
  show walk l1 r1 _ = walk l1 r1 _ + _
  have e3 : v'.toNat - h1.length - 1 = (v.toNat - h1.length - 1) + l1.length * rq := by
    have : (l1.length : Int) * (rq : Int) = ((l1.length * rq : Nat) : Int) := (Int.natCast_mul _ _).symm
    omega
  rw [e3, walk_add_mul (len_pos n1)]
end
end NT
namespace NT
section
variable {h l : List Int} {r : Int}
theorem at_bound {B R : Int} (hh : ∀ i, i < h.length → h.getD i 0 ≤ B) (hl : ∀ i, i < l.length → l.getD i 0 ≤ B) (r0 : 0 ≤ r) (hr : r ≤ R) (R0 : 0 ≤ R) {n : Nat} (hn : 1 ≤ n) {v : Int} (e : at_ h l r n = some v) : v ≤ B + R * (n : Int) := by
  have Rn : 0 ≤ R * (n : Int) := Int.mul_nonneg R0 (by omega)
  unfold at_ at e
  by_cases c : n ≤ h.length
  · rw [if_pos c] at e
    injection e with e
    have := hh (n - 1) (by omega)
    omega
  · rw [if_neg c] at e
    by_cases z : l = []
    · rw [if_pos z] at e
      cases e
    · rw [if_neg z] at e
      injection e with e
      unfold walk at e
      have a := hl ((n - h.length - 1) % l.length) (Nat.mod_lt _ (len_pos z))
      have b : (n - h.length - 1) / l.length ≤ n := Nat.le_trans (Nat.div_le_self _ _) (by omega)
      have c1 : r * (((n - h.length - 1) / l.length : Nat) : Int) ≤ R * (n : Int) := Int.mul_le_mul hr (Int.ofNat_le.mpr b) (Int.natCast_nonneg _) R0
      omega
/-- all that a form names is less than a bound -/
structure Few (x : List Int × List Int × Int) (B : Int) : Prop where
  v : ∀ n v, 1 ≤ n → n ≤ x.1.length + x.2.1.length → at_ x.1 x.2.1 x.2.2 n = some v → 0 ≤ v ∧ v < B
  r0 : 0 ≤ x.2.2
  r1 : x.2.2 < B
theorem plain_at {x : List Int × List Int × Int} (p : IsPlain h l r x) (n : Nat) (hn : 1 ≤ n) : at_ x.1 x.2.1 x.2.2 n = at_ h l r n := by
  rcases p with ⟨rfl, rfl⟩ | ⟨_, _, _, _, e⟩
  · rfl
  · exact e n hn
theorem plain_few {x : List Int × List Int × Int} {B : Int} (p : IsPlain h l r x) (f : Few (h, l, r) B) : Few x B := by
  have z := plain_size p
  refine ⟨fun n v hn h2 e => f.v n v hn ?_ ((plain_at p n hn).symm.trans e), (z.2.2.2.2.1 f.r0).1, Int.lt_of_le_of_lt (z.2.2.2.2.1 f.r0).2 f.r1⟩
  have := z.1
  have := z.2.1
  dsimp only
  omega
theorem few_head {x : List Int × List Int × Int} {B : Int} (f : Few x B) {i : Nat} (hi : i < x.1.length) : 0 ≤ x.1.getD i 0 ∧ x.1.getD i 0 < B := by
  refine f.v (i + 1) _ (by omega) (by omega) ?_
  unfold at_
  rw [if_pos (by omega), Nat.add_sub_cancel]
theorem few_loop {x : List Int × List Int × Int} {B : Int} (f : Few x B) {i : Nat} (hi : i < x.2.1.length) : 0 ≤ x.2.1.getD i 0 ∧ x.2.1.getD i 0 < B := by
  refine f.v (x.1.length + i + 1) _ (by omega) (by omega) ?_
  rw [at_loop (fun z => by rw [z] at hi; simp at hi) (by omega), show x.1.length + i + 1 - x.1.length - 1 = i by omega, walk_lt hi]
theorem plain_fin {x : List Int × List Int × Int} (g : Good h l r) (p : IsPlain h l r x) : Good x.1 x.2.1 x.2.2 ∧ fin_ x.2.1 x.2.2 = fin_ l r := by
  have z := plain_size p
  have gx : Good x.1 x.2.1 x.2.2 := by
    refine good_of ?_ (z.2.2.2.2.1 g.r0).1 fun hl => ?_
    · have A := asc_at g
      refine ⟨fun n v hn e => A.ge n v hn ((plain_at p n hn).symm.trans e), fun n v hn e => ?_⟩
      obtain ⟨u, hu, le⟩ := A.up n v hn ((plain_at p (n + 1) (by omega)).symm.trans e)
      exact ⟨u, (plain_at p n hn).trans hu, le⟩
    · by_cases q : l = []
      · rw [z.2.2.2.2.2.2 q]
      · exact absurd hl (z.2.2.1 q)
  refine ⟨gx, ?_⟩
  by_cases q : l = []
  · have hx := z.2.2.2.1 q
    unfold fin_
    rw [if_pos (.inl hx), if_pos (.inl q)]
  · have hx := z.2.2.1 q
    have hr := z.2.2.2.2.2.1 q
    by_cases q2 : 0 < r
    · unfold fin_
      rw [if_pos (.inr (hr.mp q2)), if_pos (.inr q2)]
    · have r0 : r = 0 := by have := g.r0; omega
      have rx : x.2.2 = 0 := by
        have := gx.r0
        have : ¬ 0 < x.2.2 := fun y => q2 (hr.mpr y)
        omega
      rw [← at_fin gx (.inr rx) (n := x.1.length + h.length + 1) (by omega), ← at_fin g (.inr r0) (n := x.1.length + h.length + 1) (by omega)]
      exact plain_at p _ (by omega)
theorem val_plain {x : List Int × List Int × Int} (g : Good h l r) (p : IsPlain h l r x) (n : Option Nat) : val_ x.1 x.2.1 x.2.2 n = val_ h l r n := by
  unfold val_
  cases n with
  | none => exact (plain_fin g p).2
  | some n =>
    dsimp only
    by_cases c : n = 0
    · rw [if_pos c, if_pos c]
    · rw [if_neg c, if_neg c]
      exact plain_at p n (by omega)
end
theorem beh_plain {h1 l1 h2 l2 : List Int} {r1 r2 : Int} {x y : List Int × List Int × Int} (g1 : Good h1 l1 r1) (p1 : IsPlain h1 l1 r1 x) (p2 : IsPlain h2 l2 r2 y) (n : Nat) (hn : 1 ≤ n) : beh x.1 x.2.1 x.2.2 y.1 y.2.1 y.2.2 n = beh h1 l1 r1 h2 l2 r2 n := by
  unfold beh
  rw [plain_at p2 n hn, val_plain g1 p1]
/-- what is not after a place at which a bound is passed -/
theorem far_of {h l : List Int} {r : Int} (g : Good h l r) (hl : l ≠ []) {lead : Nat} {lim : Int} (e : lim < num h l r (lead + 1)) (n : Nat) (hn : lead < n) : ∃ v, at_ h l r n = some v ∧ lim < v := by
  refine ⟨_, at_some n (.inr hl), ?_⟩
  have := (asc_at g).mono (m := lead + 1) (n := n) (by omega) (by omega) (by rw [at_some n (.inr hl)]; exact fun z => by cases z)
  exact Int.lt_of_lt_of_le e this
end NT
set_option Elab.async false
set_option linter.all false
set_option maxRecDepth 100000
set_option maxHeartbeats 4000000
namespace NT
/-- as it is told: short, no number beyond 60 figures by far -/
structure Gr (y : List Int × List Int × Int) : Prop where
  g : Good y.1 y.2.1 y.2.2
  h : y.1.length ≤ 200
  l : y.2.1.length ≤ 4
  r : y.2.2 ≤ 1000
  bh : ∀ i, i < y.1.length → y.1.getD i 0 ≤ 10 ^ 59 + 2000
  bl : ∀ i, i < y.2.1.length → y.2.1.getD i 0 ≤ 10 ^ 59 + 2000
theorem Raw0.gr {x : List Int × List Int × Int} (a : Raw0 x) : Gr x := ⟨a.g, Nat.le_trans a.h (by decide), a.l, a.r, fun i hi => Int.le_trans (a.bh i hi) (by decide), fun i hi => Int.le_trans (a.bl i hi) (by decide)⟩
theorem lift_get {l : List Int} {c : Int} {i : Nat} (hi : i < l.length) : (l.map (· + c)).getD i 0 = l.getD i 0 + c := by
  rw [List.getD_eq_getElem?_getD, List.getD_eq_getElem?_getD, List.getElem?_map, List.getElem?_eq_getElem hi]
  rfl
theorem good_lift {h l : List Int} {r c : Int} (g : Good h l r) (hc : 0 ≤ c) : Good h (l.map (· + c)) r := by
  refine ⟨g.hd, climbs_of (fun i hi => ?_) (fun i hi => ?_), fun h1 h2 => ?_, g.r0, fun z => g.rl (List.map_eq_nil_iff.mp z), fun hl => ?_⟩
  · rw [List.length_map] at hi
    rw [lift_get hi]
    have := climbs_lo g.lp hi
    omega
  · rw [List.length_map] at hi
    rw [lift_get (by omega), lift_get hi]
    have := climbs_up g.lp hi
    omega
  · have hl : l ≠ [] := fun z => h2 (by rw [z]; rfl)
    rw [lift_get (len_pos hl)]
    have := g.join h1 hl
    omega
  · have hl' : l ≠ [] := fun z => hl (by rw [z]; rfl)
    have := len_pos hl'
    rw [List.length_map, lift_get (by omega), lift_get (by omega)]
    have := g.last hl'
    omega
end NT
namespace K10
open PySem PySem.Spec PyProof.Rows L2 He NF RZ NT
def spGreat (K : PySem.W.Frag) : Sp := fun vs H Q _ => ∃ (H0 : Hp) (p q : Addr) (x : List Int × List Int × Int), vs = [.ref p, .ref q] ∧ Same H0 H ∧ H0 p = none ∧ Src H p ∧ FormAt K H0 q x ∧ Raw0 x ∧
  ∀ q' y H', Same H0 H' → Src H' p → Gr y → FormAt K H' q' y → Q (.ref q') H'
theorem sc__law_great : FnScope ["_law_source_here", "_law_raw_here", "_law_way", "_law_high", "_law_one"] ["_law_source_here", "_law_raw_here"] (defScope s__law_great) := ⟨rfl, rfl, rfl, by decide +kernel, rfl, by decide +kernel, by decide +kernel⟩
section
variable {P : Program} {w : World} {K : PySem.W.Frag} {mg : Str → Option Value} {base : Heap} {gs fs : List Str} {C : Addr}
theorem ok__law_great {f : Addr} {fd : FuncData} (F : FunD K "_law_great" "_law_great" (defArgs s__law_great) (defBody s__law_great) (defScope s__law_great) [] [] f fd) (T : Txt K mg gs FS) (c__law_pick : Cal P w K mg base 1 "_law_pick" spPick) (c__law_rising : Cal P w K mg base 2 "_law_rising" spRising) : FnOk P w K mg base CX0 3 f fd ["_law_source_here", "_law_raw_here"] (spGreat K) := by
  refine F.ok sc__law_great (fun vs H Q E h => ?_) (fun cdv A outer s H vs Q E hr h => ?_)
  · obtain ⟨H0, p, q, x, rfl, _⟩ := h
    rfl
  · obtain ⟨H0, p, q, ⟨h, l, r⟩, rfl, s0, n0, hs, fo, ok, k⟩ := h
    obtain ⟨a, b, hq, ha, hb⟩ := id fo
    dsimp only at hq ha hb
    refine ⟨_, PSs.nox (pss_cons (ps_set (i := 2) sc__law_great.nd rfl (Or.inl rfl) (pe_c c__law_pick hr (by decide) rfl (pa_cons (pv 0) (pa_cons pe_int pa_nil)))) (pss_cons (ps_if (pt_cmpR op_eq (pv 2) pe_int (nomark _)) (pss_cons (ps_set (i := 3) sc__law_great.nd rfl (Or.inr rfl) (pe_op op_add (pe_op op_pow pe_int pe_int) (pe_c c__law_pick hr (by decide) rfl (pa_cons (pv 0) (pa_cons pe_int pa_nil))))) (pss_one (ps_ret (pe_tup (pa_cons (pe_ix (ixt (K := K)) (pv 1) pe_int fun _ _ => rfl) (pa_cons (pe_callTy cr_tup rfl (T.fr _ (by decide +kernel)) (by decide +kernel) (pa_cons (pe_lc (own := [("_law_one", 4)]) rfl sc__law_great.nd (pi_tup (pe_ix (ixt (K := K)) (pv 1) pe_int fun _ _ => rfl)) (blkOk_by (N := ["_law_source_here", "_law_raw_here", "_law_way", "_law_high", "_law_one"]) (sc := defScope s__law_great) (by decide +kernel)) (fun _ _ _ _ _ => by exact (pg_name (i := 4) sc__law_great.nd rfl (Or.inl rfl))) (fun _ _ _ _ _ => by exact pts_nil) (fun _ _ _ _ _ => by exact (pe_op op_add (pv 4) (pv 3)))) pa_nil)) (pa_cons (pe_ix (ixt (K := K)) (pv 1) pe_int fun _ _ => rfl) pa_nil))))))) pss_nil) (pss_cons (ps_if (pt_cmpR op_eq (pv 2) pe_int (nomark _)) (pss_one (ps_ret (pe_tup (pa_cons (pe_callTy cr_tup rfl (T.fr _ (by decide +kernel)) (by decide +kernel) (pa_cons (pe_c c__law_rising hr (by decide) rfl (pa_cons (pv 0) (pa_cons pe_int (pa_cons pe_int (pa_cons pe_int pa_nil))))) pa_nil)) (pa_cons (pe_tup pa_nil) (pa_cons pe_int pa_nil)))))) pss_nil) (pss_one (ps_ret (pv 1)))))), ?_⟩
    refine ⟨_, rfl, wo H p, p, 6, rfl, wo_same', wo_none, hs, by decide, by decide, fun d G d0 d1 s1 hs1 => ?_⟩
    have sG : Same H0 G := wo_same s0 n0 s1
    refine ⟨_, rfl, rfl, _, rfl, ite2 (fun h1 => ?_) (fun h1 => ?_)⟩
    · refine ⟨_, _, rfl, rfl, ⟨by decide, by decide, by decide⟩, ?_⟩
      refine ⟨_, rfl, wo G p, p, 1000, rfl, wo_same', wo_none, hs1, by decide, by decide, fun e G2 e0 e1 s2 hs2 => ?_⟩
      have sG2 : Same H0 G2 := wo_same sG n0 s2
      refine ⟨_, _, rfl, rfl, ?_⟩
      obtain ⟨c, hc⟩ : ∃ c : Int, c = 10 ^ (59 : Int).toNat + e := ⟨_, rfl⟩
      show gName 3 (V.int (10 ^ (59 : Int).toNat + e)) _ _ _
      rw [← hc]
      have c0 : 0 ≤ c := by
        have : (0 : Int) ≤ 10 ^ (59 : Int).toNat := by decide
        omega
      have c1 : c ≤ 10 ^ 59 + 1000 := by
        have : (10 : Int) ^ (59 : Int).toNat = 10 ^ 59 := by decide
        omega
      refine ⟨_, rfl, q, _, _, _, rfl, rfl, NF.Same.tup sG2 hq, at0, _, rfl, q, _, _, _, rfl, rfl, NF.Same.tup sG2 hq, at1, b, rfl, ⟨_, NF.Same.tup sG2 hb⟩, fun D hD => ?_⟩
      refine lc_tup (xs := vI l) (fun j G' => Same G2 G' ∧ G' D = some (.lst (vI ((l.take j).map (· + c))))) ⟨NF.Same.new (Same.refl G2) hD, upd_same⟩ (fun i G' _ z => NF.Same.tup (Same.trans sG2 z.1) hb) ?_ ?_
      · rintro j v G' hv ⟨sG', hG⟩
        have hj := (List.getElem?_eq_some_iff.mp hv).1
        rw [vI_len] at hj
        obtain rfl : V.int (l[j]) = v := by
          rw [List.getElem?_map, List.getElem?_eq_getElem hj] at hv
          exact Option.some.inj hv
        refine ⟨rfl, _, rfl, _, rfl, _, _, rfl, rfl, _, hG, ?_, NF.Same.mut sG' hD, ?_⟩
        · rw [vI_len, List.length_map, List.length_take]
          have := ok.l
          dsimp only at this
          exact Nat.lt_of_le_of_lt (show min j l.length ≤ 4 by omega) (by decide)
        · rw [upd_same, List.take_add_one, List.getElem?_eq_getElem hj, List.map_append, ← vI_app]
          rfl
      · rintro G' ⟨sG', hG⟩
        have et : l.take (vI l).length = l := by rw [vI_len]; exact List.take_length
        rw [et] at hG
        have sH : Same H0 G' := Same.trans sG2 sG'
        refine ⟨D, _, rfl, Or.inl (SqL.of hG), fun p1 G4 s4 t4 => ?_⟩
        have sH4 : Same H0 G4 := Same.trans sH s4
        refine ⟨_, rfl, q, _, _, _, rfl, rfl, NF.Same.tup sH4 hq, at2, (by show 3 ≤ sizeLine; decide), fun p5 hp5 => ?_⟩
        have s5 := NF.Same.new (o := .tup [V.ref a, V.ref p1, V.int r]) (Same.refl G4) hp5
        refine k p5 (h, l.map (· + c), r) _ (Same.trans sH4 s5) (Src.mono hs2 (Same.trans sG' (Same.trans s4 s5))) ⟨good_lift ok.g c0, ?_, ?_, ok.r, fun i hi => Int.le_trans (ok.bh i hi) (by decide), fun i hi => ?_⟩ ⟨a, p1, SqT.of upd_same, NF.Same.tup (Same.trans sH4 s5) ha, NF.Same.tup s5 t4⟩
        · exact Nat.le_trans ok.h (by decide)
        · show (l.map (· + c)).length ≤ 4
          rw [List.length_map]
          exact ok.l
        · rw [List.length_map] at hi
          show (l.map (· + c)).getD i 0 ≤ 10 ^ 59 + 2000
          rw [lift_get hi]
          have : l.getD i 0 ≤ 100 := ok.bl i hi
          omega
    · refine ⟨_, rfl, rfl, _, rfl, ite2 (fun h2 => ?_) (fun h2 => ?_)⟩
      · refine ⟨_, rfl, wo G p, p, 200, 0, 2, rfl, wo_same', wo_none, hs1, by decide, by decide, by decide, by decide, fun q1 l1 G2 s2 hs2 hq1 nq1 ne1 len1 c1 b1 => ?_⟩
        have sG2 : Same H0 G2 := wo_same sG n0 s2
        refine ⟨q1, _, rfl, Or.inl (SqL.of hq1), fun p1 G4 s4 t4 => ?_⟩
        have sH4 : Same H0 G4 := Same.trans sG2 s4
        refine ⟨(by show 0 ≤ sizeLine; decide), fun p5 h5 => ⟨(by show 3 ≤ sizeLine; decide), fun p6 h6 => ?_⟩⟩
        have s5 := NF.Same.new (o := .tup []) (Same.refl G4) h5
        have s6 := NF.Same.new (o := .tup [V.ref p1, V.ref p5, V.int 0]) s5 h6
        refine k p6 (l1, [], 0) _ (Same.trans sH4 s6) (Src.mono hs2 (Same.trans s4 s6)) ⟨⟨c1, trivial, fun _ z => absurd rfl z, Int.le_refl _, fun _ => rfl, fun z => absurd rfl z⟩, ?_, Nat.zero_le _, (show (0 : Int) ≤ 1000 by decide), fun i hi => ?_, fun i hi => absurd hi (Nat.not_lt_zero _)⟩ ⟨p1, p5, SqT.of upd_same, NF.Same.tup s6 t4, SqT.of (by rw [upd_ne (ne_of_none upd_same h6)]; exact upd_same)⟩
        · show l1.length ≤ 200
          omega
        · have hi' : i < 200 := by
            have : i < l1.length := hi
            omega
          have := b1 i hi'
          show l1.getD i 0 ≤ 10 ^ 59 + 2000
          omega
      · exact ⟨_, rfl, k q (h, l, r) G sG hs1 ok.gr (fo.mono sG)⟩
end
end K10
set_option Elab.async false
set_option linter.all false
set_option maxRecDepth 100000
set_option maxHeartbeats 4000000
namespace K10
open PySem PySem.Spec PyProof.Rows L2 He NF RZ NT
def spMany (K : PySem.W.Frag) : Sp := fun vs H Q _ => ∃ (a : Addr) (c : List Int) (lo lim : Int), vs = [.ref a, .int lim] ∧ SqT K H a (vI c) ∧ climbs lo c ∧ c.length ≤ 1000 ∧
  ∀ (n : Nat) H', n ≤ c.length → (∀ i, i < n → c.getD i 0 ≤ lim) → (∀ i, n ≤ i → i < c.length → lim < c.getD i 0) → Same H H' → Q (.int (n : Int)) H'
/-- the last place with a value of at most so much, of a table that goes on to rise -/
def spLast (K : PySem.W.Frag) (C : Addr) : Sp := fun vs H Q _ => ∃ (x : Addr) (y : List Int × List Int × Int) (lim : Nat), vs = [.ref x, .int (lim : Int)] ∧ TabAt K C H x y ∧ Good y.1 y.2.1 y.2.2 ∧ y.2.1 ≠ [] ∧ 0 < y.2.2 ∧ y.2.2 ≤ 1000000 ∧ y.1.length ≤ 20 ∧ y.2.1.length ≤ 20 ∧ lim ≤ 20 ∧
  ∀ (n : Nat) H', n ≤ 460 → ((lim : Int) < num y.1 y.2.1 y.2.2 (max y.1.length n + 1)) → Same H H' → Q (.int (n : Int)) H'
theorem sc_many_at_most : FnScope ["climb", "limit", "low", "high", "middle"] ["climb", "limit"] (defScope s_many_at_most) := ⟨rfl, rfl, rfl, by decide +kernel, rfl, by decide +kernel, by decide +kernel⟩
theorem sc_last_at_most : FnScope ["table", "limit", "many", "lap", "rest"] ["table", "limit"] (defScope s_last_at_most) := ⟨rfl, rfl, rfl, by decide +kernel, rfl, by decide +kernel, by decide +kernel⟩
theorem climbs_all {c : List Int} {lo : Int} (h : climbs lo c) {i j : Nat} (le : i ≤ j) (hj : j < c.length) : c.getD i 0 ≤ c.getD j 0 := by
  obtain ⟨d, rfl⟩ : ∃ d, j = i + d := ⟨j - i, by omega⟩
  induction d with
  | zero => exact Int.le_refl _
  | succ d ih => exact Int.le_trans (ih (by omega) (by omega)) (climbs_up h hj)
section
variable {P : Program} {w : World} {K : PySem.W.Frag} {mg : Str → Option Value} {base : Heap} {gs fs : List Str} {C : Addr}
theorem ok_many_at_most {f : Addr} {fd : FuncData} (F : FunD K "many_at_most" "many_at_most" (defArgs s_many_at_most) (defBody s_many_at_most) (defScope s_many_at_most) [] [] f fd) (T : Txt K mg gs FS) : FnOk P w K mg base CX0 1 f fd ["climb", "limit"] (spMany K) := by
  refine F.ok sc_many_at_most (fun vs H Q E h => ?_) (fun cdv A outer s H vs Q E hr h => ?_)
  · obtain ⟨a, c, lo, lim, rfl, _⟩ := h
    rfl
  · obtain ⟨a, c, lo, lim, rfl, ha, hc, hl, q⟩ := h
    refine ⟨_, PSs.nox (pss_cons (ps_set (i := 2) sc_many_at_most.nd rfl (Or.inl rfl) pe_int) (pss_cons (ps_set (i := 3) sc_many_at_most.nd rfl (Or.inl rfl) (pe_callB call_len_seq rfl (T.fr _ (by decide +kernel)) boot_len (pa_cons (pv 0) pa_nil))) (pss_cons (ps_while PassesOwn.never (pt_cmpR op_lt (pv 2) (pv 3) (nomark _)) (pss_cons (ps_set (i := 4) sc_many_at_most.nd rfl (Or.inl rfl) (pe_op op_fdiv (pe_op op_add (pv 2) (pv 3)) pe_int)) (pss_one (ps_if (pt_cmpR op_le (pe_ix (ixt (K := K)) (pv 0) (pv 4) fun _ _ => rfl) (pv 1) (nomark _)) (pss_one (ps_set (i := 2) sc_many_at_most.nd rfl (Or.inl rfl) (pe_op op_add (pv 4) pe_int))) (pss_one (ps_set (i := 3) sc_many_at_most.nd rfl (Or.inl rfl) (pv 4))))))) (pss_one (ps_ret (pv 2)))))), ?_⟩
    refine ⟨_, rfl, a, _, rfl, Or.inr ha, ?_⟩
    rw [vI_len]
    refine ⟨fun k σ G => Same H G ∧ ∃ (i j : Nat) (m : Option V), k = j - i ∧ i ≤ j ∧ j ≤ c.length ∧ (∀ t, t < i → c.getD t 0 ≤ lim) ∧ (∀ t, j ≤ t → t < c.length → lim < c.getD t 0) ∧ σ = [some (.ref a), some (.int lim), some (.int (i : Int)), some (.int (j : Int)), m], ⟨c.length, Same.refl H, 0, c.length, none, by omega, Nat.zero_le _, Nat.le_refl _, fun t z => by omega, fun t z1 z2 => by omega, rfl⟩, ?_⟩
    rintro k σ G ⟨s1, i, j, m, rfl, hij, hj, lo1, hi1, rfl⟩
    refine ⟨_, rfl, _, rfl, _, _, rfl, rfl, _, rfl, ite2 (fun h1 => ?_) (fun h1 => ?_)⟩
    · have lt : i < j := by
        have := of_decide_eq_true h1
        omega
      have em : ((i : Int) + (j : Int)) / 2 = (((i + j) / 2 : Nat) : Int) := by omega
      have hmid : (i + j) / 2 < c.length := by omega
      refine ⟨fun σ' G' => G' = G ∧ ((c.getD ((i + j) / 2) 0 ≤ lim ∧ σ' = [some (.ref a), some (.int lim), some (.int (((i + j) / 2 + 1 : Nat) : Int)), some (.int (j : Int)), some (.int (((i + j) / 2 : Nat) : Int))]) ∨ (lim < c.getD ((i + j) / 2) 0 ∧ σ' = [some (.ref a), some (.int lim), some (.int (i : Int)), some (.int (((i + j) / 2 : Nat) : Int)), some (.int (((i + j) / 2 : Nat) : Int))])), fun σ' G' z => ?_, ?_⟩
      · obtain ⟨rfl, z⟩ := z
        rcases z with ⟨z1, rfl⟩ | ⟨z1, rfl⟩
        · exact ⟨j - ((i + j) / 2 + 1), by omega, s1, _, _, _, rfl, by omega, hj, fun t ht => Int.le_trans (climbs_all hc (show t ≤ (i + j) / 2 by omega) hmid) z1, hi1, rfl⟩
        · exact ⟨(i + j) / 2 - i, by omega, s1, _, _, _, rfl, by omega, by omega, lo1, fun t h1 h2 => Int.lt_of_lt_of_le z1 (climbs_all hc h1 h2), rfl⟩
      · refine ⟨_, rfl, _, rfl, _, _, rfl, rfl, _, _, rfl, rfl, ⟨by omega, by omega⟩, ?_⟩
        show gName 4 (V.int (((i : Int) + (j : Int)) / 2)) _ _ _
        rw [em]
        refine ⟨_, rfl, _, rfl, a, _, _, _, rfl, rfl, NF.Same.tup s1 ha, at_int rfl hmid, _, rfl, _, _, rfl, rfl, _, rfl, ite2 (fun h2 => ?_) (fun h2 => ?_)⟩
        · exact ⟨_, rfl, _, _, rfl, rfl, rfl, .inl ⟨of_decide_eq_true h2, rfl⟩⟩
        · refine ⟨_, rfl, rfl, .inr ⟨?_, rfl⟩⟩
          have : ¬ c.getD ((i + j) / 2) 0 ≤ lim := fun z => h2 (decide_eq_true z)
          omega
    · have e : i = j := by
        have : ¬ (i : Int) < (j : Int) := fun z => h1 (decide_eq_true z)
        omega
      subst e
      exact ⟨_, rfl, q i _ hj lo1 hi1 s1⟩
theorem last_far {h l : List Int} {r : Int} (g : Good h l r) (hl : l ≠ []) (hr : 0 < r) {lim : Int} (h0 : l.getD 0 0 ≤ lim) {n2 : Nat} (hn : n2 ≤ l.length) (hi : ∀ i, n2 ≤ i → i < l.length → l.getD 0 0 + (lim - l.getD 0 0) % r < l.getD i 0) :
    lim < num h l r (h.length + ((lim - l.getD 0 0) / r).toNat * l.length + n2 + 1) := by
  have l0 := len_pos hl
  have d0 : 0 ≤ (lim - l.getD 0 0) / r := Int.ediv_nonneg (by omega) (by omega)
  have e := Int.mul_ediv_add_emod (lim - l.getD 0 0) r
  have m1 := Int.emod_lt_of_pos (lim - l.getD 0 0) hr
  generalize hq : (lim - l.getD 0 0) / r = q at *
  generalize hm : (lim - l.getD 0 0) % r = m at *
  obtain ⟨k, rfl⟩ : ∃ k : Nat, q = (k : Int) := ⟨q.toNat, by omega⟩
  unfold num
  rw [at_loop hl (by omega), show h.length + (k : Int).toNat * l.length + n2 + 1 - h.length - 1 = n2 + l.length * k by rw [Int.toNat_natCast, Nat.mul_comm]; omega, walk_add_mul l0]
  show lim < walk l r n2 + r * (k : Int)
  rcases Nat.lt_or_ge n2 l.length with c | c
  · rw [walk_lt c]
    have := hi n2 (Nat.le_refl _) c
    omega
  · have : n2 = 0 + l.length := by omega
    rw [this, walk_add l0, walk_lt l0]
    omega
theorem ok_last_at_most {f : Addr} {fd : FuncData} (F : FunD K "last_at_most" "last_at_most" (defArgs s_last_at_most) (defBody s_last_at_most) (defScope s_last_at_most) [] [] f fd) (T : Txt K mg gs FS) (tc : TabC K C) (c_many_at_most : Cal P w K mg base 1 "many_at_most" (spMany K)) : FnOk P w K mg base CX0 2 f fd ["table", "limit"] (spLast K C) := by
  refine F.ok sc_last_at_most (fun vs H Q E h => ?_) (fun cdv A outer s H vs Q E hr h => ?_)
  · obtain ⟨x, y, lim, rfl, _⟩ := h
    rfl
  · obtain ⟨x, ⟨h, l, r⟩, lim, rfl, ⟨dx, a, b, hx, ha, hb⟩, g, hl, r0, r1, lh, ll, llim, q⟩ := h
    dsimp only at hx ha hb g hl r0 r1 lh ll q
    have A := asc_at g
    have l0 := len_pos hl
    have sm : ∀ n, at_ h l r n ≠ none := fun n => by rw [at_some n (.inr hl)]; exact fun z => by cases z
    have e1 : num h l r (h.length + 1) = l.getD 0 0 := by
      unfold num
      rw [at_loop hl (by omega), show h.length + 1 - h.length - 1 = 0 by omega, walk_lt l0]
      rfl
    refine ⟨_, PSs.nox (pss_cons (ps_set (i := 2) sc_last_at_most.nd rfl (Or.inl rfl) (pe_c c_many_at_most hr (by decide) rfl (pa_cons (pe_fld (pv 0) rfl) (pa_cons (pv 1) pa_nil)))) (pss_cons (ps_if (PW.pt (pw_or (pt_cmpR op_lt (pv 2) (pe_callB call_len_seq rfl (T.fr _ (by decide +kernel)) boot_len (pa_cons (pe_fld (pv 0) rfl) pa_nil)) (nomark _)) (pw_or1 (pt_not (pt_truth (pe_fld (pv 0) rfl) (fun _ => rfl)))))) (pss_one (ps_ret (pv 2))) pss_nil) (pss_cons (ps_if (pt_cmpR op_lt (pv 1) (pe_ix (ixt (K := K)) (pe_fld (pv 0) rfl) pe_int fun _ _ => rfl) (nomark _)) (pss_one (ps_ret (pv 2))) pss_nil) (pss_cons (ps_if (pt_cmpR op_eq (pe_fld (pv 0) rfl) pe_int (nomark _)) (pss_one (ps_ret pe_non)) pss_nil) (pss_cons (ps_asg (pe_callB call_divmod rfl (T.fr _ (by decide +kernel)) (by decide +kernel) (pa_cons (pe_op op_sub (pv 1) (pe_ix (ixt (K := K)) (pe_fld (pv 0) rfl) pe_int fun _ _ => rfl)) (pa_cons (pe_fld (pv 0) rfl) pa_nil))) (pgt (K := K) (n := 2) rfl rfl (pgs_cons (pg_name (i := 3) sc_last_at_most.nd rfl (Or.inl rfl)) (pgs_cons (pg_name (i := 4) sc_last_at_most.nd rfl (Or.inl rfl)) pgs_nil)))) (pss_one (ps_ret (pe_op op_add (pe_op op_add (pv 2) (pe_op op_mul (pv 3) (pe_callB call_len_seq rfl (T.fr _ (by decide +kernel)) boot_len (pa_cons (pe_fld (pv 0) rfl) pa_nil)))) (pe_c c_many_at_most hr (by decide) rfl (pa_cons (pe_fld (pv 0) rfl) (pa_cons (pe_op op_add (pe_ix (ixt (K := K)) (pe_fld (pv 0) rfl) pe_int fun _ _ => rfl) (pv 4)) pa_nil))))))))))), ?_⟩
    refine ⟨_, rfl, x, C, dx, _, _, rfl, hx, tc.cl, tc.hd, rfl, _, rfl, a, h, 0, (lim : Int), rfl, ha, g.hd, by omega, fun n H1 hn lo1 hi1 s1 => ?_⟩
    have hx1 := s1 _ _ hx
    have ha1 := NF.Same.tup s1 ha
    have hb1 := NF.Same.tup s1 hb
    refine ⟨_, rfl, _, rfl, x, C, dx, _, _, rfl, hx1, tc.cl, tc.hd, rfl, a, _, rfl, Or.inr ha1, ?_⟩
    rw [vI_len]
    refine ⟨_, _, rfl, rfl, _, rfl, ?_⟩
    by_cases c : n < h.length
    · refine iteT' (decide_eq_true (by omega)) (iteT ?_)
      refine ⟨_, rfl, q n _ (by omega) ?_ s1⟩
      rw [Nat.max_eq_left (by omega), e1]
      exact Int.lt_of_lt_of_le (Int.lt_of_lt_of_le (hi1 n (Nat.le_refl _) c) (climbs_all g.hd (show n ≤ h.length - 1 by omega) (by omega))) (g.join (fun z => by rw [z] at c; simp at c) hl)
    have en : n = h.length := by omega
    subst en
    refine iteF' (decide_eq_false (by omega)) ?_
    refine ⟨_, rfl, x, C, dx, _, _, rfl, hx1, tc.cl, tc.lp, rfl, _, tru_tup hb1, ?_⟩
    rw [ne_nil hl]
    refine iteF ?_
    refine ⟨_, rfl, _, rfl, x, C, dx, _, _, rfl, hx1, tc.cl, tc.lp, rfl, b, _, _, _, rfl, rfl, hb1, at_int (k := 0) rfl l0, _, _, rfl, rfl, _, rfl, ite2 (fun h2 => ?_) (fun h2 => ?_)⟩
    · have h3 := of_decide_eq_true h2
      refine ⟨_, rfl, q h.length _ (by omega) ?_ s1⟩
      rw [Nat.max_self, e1]
      exact h3
    have h3 : l.getD 0 0 ≤ (lim : Int) := by
      have : ¬ (lim : Int) < l.getD 0 0 := fun z => h2 (decide_eq_true z)
      omega
    refine ⟨_, rfl, x, C, dx, _, _, rfl, hx1, tc.cl, tc.ri, rfl, rfl, _, rfl, iteF' (decide_eq_false fun z => ?_) ?_⟩
    · injection z with z
      omega
    have b0 : 0 ≤ l.getD 0 0 := climbs_lo g.lp l0
    refine ⟨_, rfl, _, rfl, x, C, dx, _, _, rfl, hx1, tc.cl, tc.lp, rfl, b, _, _, _, rfl, rfl, hb1, at_int (k := 0) rfl l0, _, _, rfl, rfl, ?_⟩
    refine ⟨_, rfl, x, C, dx, _, _, rfl, hx1, tc.cl, tc.ri, rfl, ?_⟩
    refine ⟨_, _, rfl, ⟨by omega, by omega⟩, fun p hpn => ?_⟩
    have s2 := Same.trans s1 (NF.Same.new (o := .tup [V.int (((lim : Int) - l.getD 0 0) / r), V.int (((lim : Int) - l.getD 0 0) % r)]) (Same.refl H1) hpn)
    have hx2 := s2 _ _ hx
    have hb2 := NF.Same.tup s2 hb
    refine ⟨p, _, rfl, SqT.of upd_same, rfl, _, _, rfl, ?_⟩
    refine ⟨_, _, rfl, ?_⟩
    refine ⟨rfl, ?_⟩
    have d0 : 0 ≤ ((lim : Int) - l.getD 0 0) / r := Int.ediv_nonneg (by omega) (by omega)
    have d1 : ((lim : Int) - l.getD 0 0) / r ≤ 20 := Int.le_trans (Int.ediv_le_self _ (by omega)) (by omega)
    refine ⟨_, rfl, _, rfl, _, rfl, x, C, dx, _, _, rfl, hx2, tc.cl, tc.lp, rfl, b, _, rfl, Or.inr hb2, ?_⟩
    rw [vI_len]
    refine ⟨_, _, rfl, rfl, Or.inr ⟨by omega, by omega⟩, _, _, rfl, rfl, ?_⟩
    refine ⟨_, rfl, x, C, dx, _, _, rfl, hx2, tc.cl, tc.lp, rfl, _, rfl, x, C, dx, _, _, rfl, hx2, tc.cl, tc.lp, rfl, b, _, _, _, rfl, rfl, hb2, at_int (k := 0) rfl l0, _, rfl, _, _, rfl, rfl, ?_⟩
    refine ⟨b, l, 0, _, rfl, hb2, g.lp, by omega, fun n2 H3 hn2 lo2 hi2 s3 => ?_⟩
    refine ⟨_, _, rfl, rfl, ?_⟩
    have far := last_far g hl r0 h3 hn2 hi2
    obtain ⟨k, hk⟩ : ∃ k : Nat, ((lim : Int) - l.getD 0 0) / r = (k : Int) := ⟨(((lim : Int) - l.getD 0 0) / r).toNat, by omega⟩
    rw [hk] at far
    rw [Int.toNat_natCast] at far
    have kl : k * l.length ≤ 20 * 20 := Nat.mul_le_mul (by omega) ll
    have := q (h.length + k * l.length + n2) H3 (by omega) (by rw [Nat.max_eq_right (by omega)]; exact far) (Same.trans s2 s3)
    show Q (V.int ((h.length : Int) + ((lim : Int) - l.getD 0 0) / r * (l.length : Int) + (n2 : Int))) H3
    rw [hk, ← Int.natCast_mul, ← Int.natCast_add, ← Int.natCast_add]
    exact this
end
end K10
set_option Elab.async false
set_option linter.all false
set_option maxRecDepth 100000
set_option maxHeartbeats 4000000
/-! A comprehension with two fors: the outer one, the inner one. -/
namespace NF
open PySem PySem.Spec PyProof.Rows L2
theorem pi_tupK {X : Cx} {K : PySem.W.Frag} {tg l : Expr} {tl : TE} (hl : PE X l tl) (h : X.K = K := by rfl) : PI X tg l (iTup K tl) := h ▸ pi_tup hl
theorem pi_listK {X : Cx} {K : PySem.W.Frag} {tg l : Expr} {tl : TE} (hl : PE X l tl) (h : X.K = K := by rfl) : PI X tg l (iList K tl) := h ▸ pi_list hl
theorem pe_fldK {X : Cx} {K : PySem.W.Frag} {e : Expr} {f : Str} {pos : Pos} {ta : TE} (he : PE X e ta) (hb : attributeBase e f X.env (eval e X.env) = eval e X.env) (h : X.K = K := by rfl) : PE X (.Attribute e f pos) (tFld K ta f) := h ▸ pe_fld he hb
theorem lc2_range {lo : Int} {n : Nat} {g g1 : TG} {tt tt1 : TT} {wi1 : TI} {te : TE} {vs vs1 : List Nat} {σ : L2.St} {H1 : Hp} {D : Addr} {Qd : Hp → Prop} (Pv : Nat → Hp → Prop) (h0 : Pv 0 (upd H1 D (.lst [])))
    (hs : ∀ i H, i < n → Pv i H → g (.int (lo + i)) (wipe σ vs) H fun σ2 H2 => wipe σ2 vs = wipe σ vs ∧ tt σ2 H2 fun b H3 =>
      if b = true then wi1 σ2 H3 fun J1 H4 => ∃ W1 : Nat → Nat → Hp → Prop, (∃ m, W1 0 m H4) ∧ ∀ j k H, W1 j k H →
        (J1.stop j H ∧ Pv (i + 1) H) ∨ (J1.go j H ∧ ∃ Nx1 : Hp → Prop, (∀ H', Nx1 H' → ∃ k', k' < k ∧ W1 (j + 1) k' H') ∧ ∀ x H', J1.yld j H x H' → g1 x (wipe σ2 vs1) H' fun σ3 H5 => wipe σ3 vs1 = wipe σ2 vs1 ∧ tt1 σ3 H5 fun b H6 =>
          if b = true then te σ3 H6 fun y H7 => ∃ acc, H7 D = some (.lst acc) ∧ acc.length < sizeLine ∧ Nx1 (upd H7 D (.lst (acc ++ [y]))) else Nx1 H6)
      else Pv (i + 1) H3) (hd : ∀ H, Pv n H → Qd H) :
    ∃ W : Nat → Nat → Hp → Prop, (∃ m, W 0 m (upd H1 D (.lst []))) ∧ ∀ i m H, W i m H →
      ((Itr lo n).stop i H ∧ Qd H) ∨ ((Itr lo n).go i H ∧ ∃ Nx : Hp → Prop, (∀ H', Nx H' → ∃ m', m' < m ∧ W (i + 1) m' H') ∧ ∀ x H', (Itr lo n).yld i H x H' → g x (wipe σ vs) H' fun σ2 H2 => wipe σ2 vs = wipe σ vs ∧ tt σ2 H2 fun b H3 =>
        if b = true then wi1 σ2 H3 fun J1 H4 => ∃ W1 : Nat → Nat → Hp → Prop, (∃ m, W1 0 m H4) ∧ ∀ j k H, W1 j k H →
          (J1.stop j H ∧ Nx H) ∨ (J1.go j H ∧ ∃ Nx1 : Hp → Prop, (∀ H', Nx1 H' → ∃ k', k' < k ∧ W1 (j + 1) k' H') ∧ ∀ x H', J1.yld j H x H' → g1 x (wipe σ2 vs1) H' fun σ3 H5 => wipe σ3 vs1 = wipe σ2 vs1 ∧ tt1 σ3 H5 fun b H6 =>
            if b = true then te σ3 H6 fun y H7 => ∃ acc, H7 D = some (.lst acc) ∧ acc.length < sizeLine ∧ Nx1 (upd H7 D (.lst (acc ++ [y]))) else Nx1 H6)
        else Nx H3) := by
  refine ⟨fun i m H => m = n - i ∧ i ≤ n ∧ Pv i H, ⟨n, by simp, Nat.zero_le _, h0⟩, ?_⟩
  rintro i m H ⟨rfl, hi, p⟩
  by_cases hlt : i < n
  · refine .inr ⟨hlt, Pv (i + 1), fun H' p' => ⟨n - (i + 1), by omega, rfl, hlt, p'⟩, fun x H' y => ?_⟩
    obtain ⟨e, y⟩ := y
    subst e y
    exact hs i _ hlt p
  · have e : i = n := by omega
    subst e
    exact .inl ⟨Nat.le_refl _, hd H p⟩
theorem in_it {J : It} {n : Nat} {G : Hp → Prop} {Y : Nat → Hp → V → Hp → Prop} (w : Walk J n G Y) {g : TG} {tt : TT} {te : TE} {vs : List Nat} {σ : L2.St} {H4 : Hp} {D : Addr} {Qd : Hp → Prop} (Pv : Nat → Hp → Prop) (h0 : Pv 0 H4) (hG : ∀ i H, i ≤ n → Pv i H → G H)
    (hs : ∀ i x H H', i < n → Pv i H → Y i H x H' → g x (wipe σ vs) H' fun σ2 H2 => wipe σ2 vs = wipe σ vs ∧ tt σ2 H2 fun b H3 =>
      if b = true then te σ2 H3 fun y H4 => ∃ acc, H4 D = some (.lst acc) ∧ acc.length < sizeLine ∧ Pv (i + 1) (upd H4 D (.lst (acc ++ [y]))) else Pv (i + 1) H3) (hd : ∀ H, Pv n H → Qd H) :
    ∃ W : Nat → Nat → Hp → Prop, (∃ m, W 0 m H4) ∧ ∀ i m H, W i m H →
      (J.stop i H ∧ Qd H) ∨ (J.go i H ∧ ∃ Nx : Hp → Prop, (∀ H', Nx H' → ∃ m', m' < m ∧ W (i + 1) m' H') ∧ ∀ x H', J.yld i H x H' → g x (wipe σ vs) H' fun σ2 H2 => wipe σ2 vs = wipe σ vs ∧ tt σ2 H2 fun b H3 =>
        if b = true then te σ2 H3 fun y H4 => ∃ acc, H4 D = some (.lst acc) ∧ acc.length < sizeLine ∧ Nx (upd H4 D (.lst (acc ++ [y]))) else Nx H3) := by
  refine ⟨fun i m H => m = n - i ∧ i ≤ n ∧ Pv i H, ⟨n, by simp, Nat.zero_le _, h0⟩, ?_⟩
  rintro i m H ⟨rfl, hi, p⟩
  have q := hG i H hi p
  by_cases hlt : i < n
  · exact .inr ⟨w.goes i H hlt q, Pv (i + 1), fun H' p' => ⟨n - (i + 1), by omega, rfl, hlt, p'⟩, fun x H' y => hs i x H H' hlt p (w.yields i H x H' hlt q y)⟩
  · have e : i = n := by omega
    subst e
    exact .inl ⟨w.stops H q, hd H p⟩
end NF
set_option Elab.async false
set_option linter.all false
set_option maxRecDepth 100000
set_option maxHeartbeats 4000000
namespace NF
open PySem PySem.Spec PyProof.Rows L2 He RZ NT
theorem cut_nm {xs : List V} {a b : Nat} : cutV xs (some (a : Int)) (some (b : Int)) = (xs.drop a).take (b - a) := by
  unfold cutV
  rw [HT.sIx_nat, HT.sIx_nat]
  by_cases ha : a ≤ xs.length
  · rw [Nat.min_eq_left ha]
    by_cases hb : b ≤ xs.length
    · rw [Nat.min_eq_left hb]
    · rw [Nat.min_eq_right (show xs.length ≤ b by omega), List.take_of_length_le (by rw [List.length_drop]; omega), List.take_of_length_le (by rw [List.length_drop]; omega)]
  · rw [Nat.min_eq_right (show xs.length ≤ a by omega), List.drop_of_length_le (Nat.le_refl _), List.drop_of_length_le (show xs.length ≤ a by omega)]
    simp
end NF
namespace NT
theorem segN_add {F : Nat → Option Int} {s a b : Nat} : segN F s (a + b) = segN F s a ++ segN F (s + a) b := by
  induction b with
  | zero => simp [segN]
  | succ b ih => rw [← Nat.add_assoc, segN_succ, ih, segN_succ, List.append_assoc, show s + (a + b) + 1 = s + a + b + 1 by omega]
theorem seg_head {h l : List Int} {r : Int} {s a : Nat} (le : s + a ≤ h.length) : (h.drop s).take a = segN (at_ h l r) s a := by
  refine List.ext_getElem (by rw [List.length_take, List.length_drop, segN_len]; omega) fun i h1 h2 => ?_
  rw [segN_len] at h2
  have e := segN_get (F := at_ h l r) (a := s) h2
  rw [List.getD_eq_getElem?_getD, List.getElem?_eq_getElem (by rw [segN_len]; exact h2)] at e
  refine Eq.trans ?_ (show _ = (segN (at_ h l r) s a)[i]'(by rw [segN_len]; exact h2) from e.symm)
  rw [List.getElem_take, List.getElem_drop]
  unfold numF at_
  rw [if_pos (by omega), show s + i + 1 - 1 = s + i by omega, List.getD_eq_getElem?_getD, List.getElem?_eq_getElem (show s + i < h.length by omega)]
  rfl
def wlk (l : List Int) (r : Int) (b n : Nat) : List Int := (List.range n).map fun t => walk l r (b + t)
theorem wlk_len {l : List Int} {r : Int} {b n : Nat} : (wlk l r b n).length = n := by unfold wlk; rw [List.length_map, List.length_range]
theorem wlk_succ {l : List Int} {r : Int} {b n : Nat} : wlk l r b (n + 1) = wlk l r b n ++ [walk l r (b + n)] := by
  unfold wlk
  rw [List.range_succ, List.map_append]
  rfl
theorem seg_loop {h l : List Int} {r : Int} {s b : Nat} (hl : l ≠ []) (le : h.length ≤ s) : segN (at_ h l r) s b = wlk l r (s - h.length) b := by
  induction b with
  | zero => rfl
  | succ b ih =>
    rw [segN_succ, wlk_succ, ih]
    congr 2
    unfold numF
    rw [at_loop hl (by omega), show s + b + 1 - h.length - 1 = s - h.length + b by omega]
    rfl
theorem wlk_cut {l : List Int} {r : Int} {b n a m : Nat} (le : a + m ≤ n) : ((wlk l r b n).drop a).take m = wlk l r (b + a) m := by
  refine List.ext_getElem (by rw [List.length_take, List.length_drop, wlk_len, wlk_len]; omega) fun i h1 h2 => ?_
  rw [wlk_len] at h2
  have g : ∀ (b n i : Nat) (hi : i < n), (wlk l r b n)[i]'(by rw [wlk_len]; exact hi) = walk l r (b + i) := fun b n i hi => by simp [wlk]
  rw [List.getElem_take, List.getElem_drop, g _ _ _ (by omega), g _ _ _ h2, Nat.add_assoc]
end NT
namespace K10
open PySem PySem.Spec PyProof.Rows L2 He NF RZ NT
/-- the values of a table with a loop, from a place on -/
def spFrom (K : PySem.W.Frag) (C : Addr) : Sp := fun vs H Q _ => ∃ (x : Addr) (y : List Int × List Int × Int) (s m : Nat), vs = [.ref x, .int ((s + 1 : Nat) : Int), .int (m : Int)] ∧ TabAt K C H x y ∧ y.2.1 ≠ [] ∧ 0 ≤ y.2.2 ∧ y.2.2 ≤ 1000000 ∧ y.1.length ≤ 1000 ∧ y.2.1.length ≤ 1000 ∧ s ≤ 1000 ∧ m ≤ 1000 ∧
  ∀ q H', Same H H' → H' q = some (.lst (vI (segN (at_ y.1 y.2.1 y.2.2) s m))) → Q (.ref q) H'
theorem sc_values_from : FnScope ["table", "start", "many", "found", "rest", "laps", "turned", "lap", "at", "k", "entry"] ["table", "start", "many"] (defScope s_values_from) := ⟨rfl, rfl, rfl, by decide +kernel, rfl, by decide +kernel, by decide +kernel⟩
section
variable {P : Program} {w : World} {K : PySem.W.Frag} {mg : Str → Option Value} {base : Heap} {gs fs : List Str} {C : Addr}
theorem ok_values_from {f : Addr} {fd : FuncData} (F : FunD K "values_from" "values_from" (defArgs s_values_from) (defBody s_values_from) (defScope s_values_from) [] [] f fd) (T : Txt K mg gs FS) (tc : TabC K C) : FnOk P w K mg base CX0 2 f fd ["table", "start", "many"] (spFrom K C) := by
  refine F.ok sc_values_from (fun vs H Q E h => ?_) (fun cdv A outer s H vs Q E hr h => ?_)
  · obtain ⟨x, y, s, m, rfl, _⟩ := h
    rfl
  · obtain ⟨x, ⟨h, l, r⟩, s0, m, rfl, ⟨dx, a, b, hx, ha, hb⟩, hl, r0, r1, lh, ll, ls, lm, q⟩ := h
    dsimp only at hx ha hb hl r0 r1 lh ll q
    have l0 := len_pos hl
    refine ⟨_, PSs.nox (pss_cons (ps_set (i := 3) sc_values_from.nd rfl (Or.inl rfl) (pe_callTy call_list_of rfl (T.fr _ (by decide +kernel)) (by decide +kernel) (pa_cons (pe_slice sl_tupA (pe_fld (pv 0) rfl) (po_some (pe_op op_sub (pv 1) pe_int)) (po_some (pe_op op_add (pe_op op_sub (pv 1) pe_int) (pv 2)))) pa_nil))) (pss_cons (ps_set (i := 4) sc_values_from.nd rfl (Or.inl rfl) (pe_op op_sub (pv 2) (pe_callB call_len_seq rfl (T.fr _ (by decide +kernel)) boot_len (pa_cons (pv 3) pa_nil)))) (pss_cons (ps_if (pt_cmpR op_eq (pv 4) pe_int (nomark _)) (pss_one (ps_ret (pv 3))) pss_nil) (pss_cons (ps_if (pt_not (pt_truth (pe_fld (pv 0) rfl) (fun _ => rfl))) (pss_one (ps_ret (pe_op op_cat (pv 3) (pe_op op_rep (pe_lst (pa_cons pe_non pa_nil)) (pv 4))))) pss_nil) (pss_cons (ps_asg (pe_callB call_divmod rfl (T.fr _ (by decide +kernel)) (by decide +kernel) (pa_cons (pe_op op_sub (pe_op op_sub (pe_op op_add (pv 1) (pe_callB call_len_seq rfl (T.fr _ (by decide +kernel)) boot_len (pa_cons (pv 3) pa_nil))) (pe_callB call_len_seq rfl (T.fr _ (by decide +kernel)) boot_len (pa_cons (pe_fld (pv 0) rfl) pa_nil))) pe_int) (pa_cons (pe_callB call_len_seq rfl (T.fr _ (by decide +kernel)) boot_len (pa_cons (pe_fld (pv 0) rfl) pa_nil)) pa_nil))) (pgt (K := K) (n := 2) rfl rfl (pgs_cons (pg_name (i := 7) sc_values_from.nd rfl (Or.inl rfl)) (pgs_cons (pg_name (i := 8) sc_values_from.nd rfl (Or.inl rfl)) pgs_nil)))) (pss_cons (ps_set (i := 5) sc_values_from.nd rfl (Or.inl rfl) (pe_op op_add (pe_op op_fdiv (pe_op op_sub (pe_op op_add (pv 8) (pv 4)) pe_int) (pe_callB call_len_seq rfl (T.fr _ (by decide +kernel)) boot_len (pa_cons (pe_fld (pv 0) rfl) pa_nil))) pe_int)) (pss_cons (ps_setLc2 (i := 6) (own := [("k", 9), ("entry", 10)]) (vs1 := [10]) rfl sc_values_from.nd rfl rfl (sw_true rfl rfl rfl (by decide +kernel)) (pi_range2 rfl (T.fr _ (by decide +kernel)) (pa_cons (pv 7) (pa_cons (pe_op op_add (pv 7) (pv 5)) pa_nil))) (blkOk_by (N := ["table", "start", "many", "found", "rest", "laps", "turned", "lap", "at", "k", "entry"]) (sc := defScope s_values_from) (by decide +kernel)) (by decide) (fun _ _ _ _ _ => by exact (pg_name (i := 9) sc_values_from.nd rfl (Or.inl rfl))) (fun _ _ _ _ _ => by exact pts_nil) (fun _ _ _ _ _ => by exact (pi_tupK (K := K) (pe_fldK (K := K) (pv 0) rfl))) (fun _ _ _ _ _ => by exact (pg_name (i := 10) sc_values_from.nd rfl (Or.inl rfl))) (fun _ _ _ _ _ => by exact pts_nil) (fun _ _ _ _ _ => by exact (pe_op op_add (pv 10) (pe_op op_mul (pv 9) (pe_fldK (K := K) (pv 0) rfl))))) (pss_one (ps_ret (pe_op op_cat (pv 3) (pe_slice sl_list (pv 6) (po_some (pv 8)) (po_some (pe_op op_add (pv 8) (pv 4)))))))))))))), ?_⟩
    refine ⟨_, rfl, x, C, dx, _, _, rfl, hx, tc.cl, tc.hd, rfl, _, rfl, _, _, rfl, rfl, _, rfl, _, rfl, _, _, rfl, rfl, _, rfl, _, _, rfl, rfl, _, rfl, ?_⟩
    refine slA_done (K := K) ha fun p1 H1 s1 t1 => ?_
    have e1 : ((s0 + 1 : Nat) : Int) - 1 = (s0 : Int) := by omega
    have e2 : (s0 : Int) + (m : Int) = ((s0 + m : Nat) : Int) := by omega
    rw [e1, e2, cut_nm, vI_drop, vI_take, show s0 + m - s0 = m by omega] at t1
    obtain ⟨u, hu⟩ : ∃ u, u = min m (h.length - s0) := ⟨_, rfl⟩
    have ef : (h.drop s0).take m = segN (at_ h l r) s0 u := by
      by_cases c : s0 ≤ h.length
      · rw [← seg_head (show s0 + u ≤ h.length by omega)]
        rw [List.take_eq_take_iff.mpr]
        rw [List.length_drop]
        omega
      · rw [List.drop_of_length_le (by omega), show u = 0 by omega]
        simp [segN]
    rw [ef] at t1
    refine ⟨p1, _, rfl, Or.inr t1, fun q1 hq1 => ?_⟩
    have s2 : Same H (upd H1 q1 (.lst (vI (segN (at_ h l r) s0 u)))) := Same.trans s1 (NF.Same.new (Same.refl H1) hq1)
    have hq2 : (upd H1 q1 (.lst (vI (segN (at_ h l r) s0 u)))) q1 = some (.lst (vI (segN (at_ h l r) s0 u))) := upd_same
    generalize upd H1 q1 (.lst (vI (segN (at_ h l r) s0 u))) = H2 at s2 hq2
    have hx2 := s2 _ _ hx
    have ha2 := NF.Same.tup s2 ha
    have hb2 := NF.Same.tup s2 hb
    refine ⟨_, rfl, _, rfl, q1, _, rfl, Or.inl (SqL.of hq2), ?_⟩
    rw [vI_len, segN_len]
    refine ⟨_, _, rfl, rfl, ?_⟩
    obtain ⟨rest, hrest⟩ : ∃ rest, rest = m - u := ⟨_, rfl⟩
    have erest : (m : Int) - (u : Int) = (rest : Int) := by omega
    show gName 4 (V.int ((m : Int) - (u : Int))) _ _ _
    rw [erest]
    refine ⟨_, rfl, rfl, _, rfl, ite2 (fun h1 => ?_) (fun h1 => ?_)⟩
    · have h2 : u = m := by
        have := of_decide_eq_true h1
        injection this with this
        omega
      subst h2
      exact ⟨_, rfl, q q1 H2 s2 hq2⟩
    have hum : u < m := by
      have : rest ≠ 0 := fun z => h1 (decide_eq_true (by rw [z]; rfl))
      omega
    have hs0 : h.length ≤ s0 + u := by omega
    refine ⟨_, rfl, x, C, dx, _, _, rfl, hx2, tc.cl, tc.lp, rfl, _, tru_tup hb2, ?_⟩
    rw [ne_nil hl]
    refine iteF ?_
    refine ⟨_, rfl, _, rfl, q1, _, rfl, Or.inl (SqL.of hq2), _, _, rfl, rfl, ?_⟩
    rw [vI_len, segN_len]
    refine ⟨_, rfl, x, C, dx, _, _, rfl, hx2, tc.cl, tc.hd, rfl, a, _, rfl, Or.inr ha2, _, _, rfl, rfl, _, _, rfl, rfl, ?_⟩
    refine ⟨_, rfl, x, C, dx, _, _, rfl, hx2, tc.cl, tc.lp, rfl, b, _, rfl, Or.inr hb2, ?_⟩
    rw [vI_len, vI_len]
    obtain ⟨d, hd⟩ : ∃ d, d = s0 + u - h.length := ⟨_, rfl⟩
    have ed : ((s0 + 1 : Nat) : Int) + (u : Int) - (h.length : Int) - 1 = (d : Int) := by omega
    refine ⟨_, _, rfl, ⟨by omega, by omega⟩, fun p hpn => ?_⟩
    have s3 := Same.trans s2 (NF.Same.new (o := .tup [V.int ((((s0 + 1 : Nat) : Int) + (u : Int) - (h.length : Int) - 1) / (l.length : Int)), V.int ((((s0 + 1 : Nat) : Int) + (u : Int) - (h.length : Int) - 1) % (l.length : Int))]) (Same.refl H2) hpn)
    have hx3 := s3 _ _ hx
    have hb3 := NF.Same.tup s3 hb
    have hq3 := (NF.Same.new (o := .tup [V.int ((((s0 + 1 : Nat) : Int) + (u : Int) - (h.length : Int) - 1) / (l.length : Int)), V.int ((((s0 + 1 : Nat) : Int) + (u : Int) - (h.length : Int) - 1) % (l.length : Int))]) (Same.refl H2) hpn) _ _ hq2
    refine ⟨p, _, rfl, SqT.of upd_same, rfl, _, _, rfl, ?_⟩
    refine ⟨_, _, rfl, ?_⟩
    refine ⟨rfl, ?_⟩
    rw [ed] at s3 hq3 hx3 hb3 ⊢
    generalize upd H2 p (.tup [V.int ((d : Int) / (l.length : Int)), V.int ((d : Int) % (l.length : Int))]) = G0 at s3 hq3 hx3 hb3
    have ea : (d : Int) % (l.length : Int) = ((d % l.length : Nat) : Int) := rfl
    have el : (d : Int) / (l.length : Int) = ((d / l.length : Nat) : Int) := rfl
    rw [ea, el]
    have at_lt := Nat.mod_lt d l0
    have dle : d / l.length ≤ d := Nat.div_le_self _ _
    have dme := Nat.mod_add_div d l.length
    generalize hat : d % l.length = at' at *
    generalize hlap : d / l.length = lap at *
    obtain ⟨laps, hlaps⟩ : ∃ laps, laps = (at' + rest - 1) / l.length + 1 := ⟨_, rfl⟩
    have lapsle : laps ≤ 3000 := by
      have : (at' + rest - 1) / l.length ≤ at' + rest - 1 := Nat.div_le_self _ _
      omega
    have elaps : ((at' : Int) + (rest : Int) - 1) / (l.length : Int) + 1 = (laps : Int) := by
      have : (at' : Int) + (rest : Int) - 1 = ((at' + rest - 1 : Nat) : Int) := by omega
      rw [this, hlaps]
      rfl
    have enough : at' + rest ≤ laps * l.length := by
      have e := Nat.mod_add_div (at' + rest - 1) l.length
      have lt := Nat.mod_lt (at' + rest - 1) l0
      have : laps * l.length = l.length * ((at' + rest - 1) / l.length) + l.length := by rw [hlaps, Nat.add_mul, Nat.mul_comm, Nat.one_mul]
      omega
    refine ⟨_, rfl, _, rfl, _, _, rfl, rfl, _, _, rfl, rfl, _, rfl, x, C, dx, _, _, rfl, hx3, tc.cl, tc.lp, rfl, b, _, rfl, Or.inr hb3, ?_⟩
    rw [vI_len]
    refine ⟨_, _, rfl, rfl, ⟨by omega, by omega⟩, _, _, rfl, rfl, ?_⟩
    show gName 5 (V.int (((at' : Int) + (rest : Int) - 1) / (l.length : Int) + 1)) _ _ _
    rw [elaps]
    refine ⟨_, rfl, _, rfl, _, rfl, _, _, rfl, rfl, _, _, rfl, ⟨by omega, by omega, by omega, by omega⟩, fun D hD => ?_⟩
    have en : ((lap : Int) + (laps : Int) - (lap : Int)).toNat = laps := by omega
    rw [en]
    refine lc2_range (lo := (lap : Int)) (n := laps) (fun i G => Same G0 G ∧ G D = some (.lst (vI (wlk l r (lap * l.length) (i * l.length))))) ⟨NF.Same.new (Same.refl _) hD, by rw [upd_same, Nat.zero_mul]; rfl⟩ ?_ ?_
    · rintro i G hi ⟨hG, hD2⟩
      refine ⟨rfl, _, rfl, x, C, dx, _, _, rfl, hG _ _ hx3, tc.cl, tc.lp, rfl, b, rfl, ⟨_, NF.Same.tup hG hb3⟩, ?_⟩
      refine in_it (walk_tup (xs := vI l)) (fun j G' => Same G0 G' ∧ G' D = some (.lst (vI (wlk l r (lap * l.length) (i * l.length + j))))) ⟨hG, hD2⟩ (fun j G' _ z => NF.Same.tup z.1 hb3) ?_ ?_
      · rintro j v G' G'' hj ⟨hG', hD'⟩ ⟨rfl, hv⟩
        rw [vI_len] at hj
        obtain rfl : v = V.int (l.getD j 0) := by
          rw [List.getElem?_map, List.getElem?_eq_getElem hj] at hv
          rw [List.getD_eq_getElem?_getD, List.getElem?_eq_getElem hj]
          exact (Option.some.inj hv).symm
        refine ⟨rfl, _, rfl, _, rfl, _, rfl, x, C, dx, _, _, rfl, hG' _ _ hx3, tc.cl, tc.ri, rfl, _, _, rfl, rfl, Or.inr ⟨by omega, by omega⟩, _, _, rfl, rfl, _, hD', ?_, NF.Same.mut hG' hD, ?_⟩
        · rw [vI_len, wlk_len]
          have : i * l.length ≤ 3000 * 1000 := Nat.mul_le_mul (by omega) ll
          exact Nat.lt_of_le_of_lt (show i * l.length + j ≤ 3001000 by omega) (by decide)
        · have ev : l.getD j 0 + ((lap : Int) + (i : Int)) * r = walk l r (lap * l.length + (i * l.length + j)) := by
            have : lap * l.length + (i * l.length + j) = j + l.length * (lap + i) := by rw [Nat.mul_add, Nat.mul_comm lap, Nat.mul_comm i]; omega
            rw [this, walk_add_mul l0, walk_lt hj, Int.natCast_add, Int.mul_comm r]
          rw [upd_same, ← Nat.add_assoc, wlk_succ, ← vI_app, ← ev]
          rfl
      · rintro G' ⟨hG', hD'⟩
        rw [vI_len] at hD'
        exact ⟨hG', by rw [hD', Nat.add_mul, Nat.one_mul]⟩
    · rintro G ⟨hG, hD2⟩
      refine ⟨_, rfl, _, rfl, _, rfl, _, rfl, _, rfl, _, rfl, _, _, rfl, rfl, _, rfl, D, _, rfl, SqL.of hD2, fun p2 hp2 => ?_⟩
      have e3 : (at' : Int) + (rest : Int) = ((at' + rest : Nat) : Int) := by omega
      rw [e3, cut_nm, vI_drop, vI_take, show at' + rest - at' = rest by omega, wlk_cut enough]
      have s5 : Same G0 (upd G p2 (.lst (vI (wlk l r (lap * l.length + at') rest)))) := Same.trans hG (NF.Same.new (Same.refl G) hp2)
      refine ⟨q1, p2, _, _, rfl, rfl, s5 _ _ hq3, upd_same, ?_, fun q2 hq2' => ?_⟩
      · rw [vI_len, vI_len, segN_len, wlk_len]
        exact Nat.le_trans (show u + rest ≤ 2000 by omega) (by decide)
      · refine q q2 _ (Same.trans s3 (Same.trans s5 (NF.Same.new (Same.refl _) hq2'))) ?_
        rw [upd_same, vI_app, show m = u + rest by omega, segN_add, seg_loop hl hs0, ← hd, ← dme, Nat.mul_comm l.length lap, Nat.add_comm at']
end
end K10
set_option Elab.async false
set_option linter.all false
set_option maxRecDepth 100000
set_option maxHeartbeats 4000000
namespace NT
theorem seg_map {h1 l1 h2 l2 : List Int} {r1 r2 : Int} {s m : Nat} (c : ∀ k, k < m → at_ h2 l2 r2 (s + k + 1) ≠ none) : (segN (at_ h2 l2 r2) s m).map (fun i => val_ h1 l1 r1 (some i.toNat)) = seg (beh h1 l1 r1 h2 l2 r2) s m := by
  induction m with
  | zero => rfl
  | succ m ih =>
    rw [segN_succ, seg_succ, List.map_append, ih fun k hk => c k (by omega)]
    congr 1
    show [_] = [_]
    unfold beh
    rw [numF_some (c m (by omega))]
    rfl
theorem head_seg {h l : List Int} {r : Int} : h = segN (at_ h l r) 0 h.length := by
  rw [← seg_head (show 0 + h.length ≤ h.length by omega), List.drop_zero, List.take_length]
end NT
namespace K10
open PySem PySem.Spec PyProof.Rows L2 He NF RZ NT
/-- the values of a table at several places -/
def spBehV (K : PySem.W.Frag) (C : Addr) : Sp := fun vs H Q _ => ∃ (x pl : Addr) (y : List Int × List Int × Int) (c : List Int), vs = [.ref x, .ref pl] ∧ TabAt K C H x y ∧ Small y ∧ Row K H pl (vI c) ∧ (∀ i ∈ c, 0 ≤ i) ∧ c.length ≤ 2000 ∧
  ∀ q H', Same H H' → H' q = some (.lst ((c.map fun i => val_ y.1 y.2.1 y.2.2 (some i.toNat)).map vO)) → Q (.ref q) H'
def spSettled (K : PySem.W.Frag) : Sp := fun vs H Q _ => ∃ (a : Addr) (os : List (Option Int)) (t : Option Int), vs = [.ref a, vO t] ∧ SqL K H a (os.map vO) ∧ os.length ≤ 2000 ∧ ∀ p H', Same H H' → FormAt K H' p (settled os t) → Q (.ref p) H'
theorem sc_values_behind : FnScope ["table", "places", "n"] ["table", "places"] (defScope s_values_behind) := ⟨rfl, rfl, rfl, by decide +kernel, rfl, by decide +kernel, by decide +kernel⟩
theorem sc_settled_form : FnScope ["values", "tail", "counts", "value"] ["values", "tail"] (defScope s_settled_form) := ⟨rfl, rfl, rfl, by decide +kernel, rfl, by decide +kernel, by decide +kernel⟩
section
variable {P : Program} {w : World} {K : PySem.W.Frag} {mg : Str → Option Value} {base : Heap} {gs fs : List Str} {C : Addr}
theorem ok_values_behind {f : Addr} {fd : FuncData} (F : FunD K "values_behind" "values_behind" (defArgs s_values_behind) (defBody s_values_behind) (defScope s_values_behind) [] [] f fd) (T : Txt K mg gs FS) (c_value_at : Cal P w K mg base 2 "value_at" (spAt K C)) : FnOk P w K mg base CX0 3 f fd ["table", "places"] (spBehV K C) := by
  refine F.ok sc_values_behind (fun vs H Q E h => ?_) (fun cdv A outer s H vs Q E hr h => ?_)
  · obtain ⟨x, pl, y, c, rfl, _⟩ := h
    rfl
  · obtain ⟨x, pl, y, c, rfl, tb, sm, hr2, cn, cl, q⟩ := h
    refine ⟨_, PSs.nox (pss_one (ps_ret (pe_lc (own := [("n", 2)]) rfl sc_values_behind.nd (pi_row (pv 1)) (blkOk_by (N := ["table", "places", "n"]) (sc := defScope s_values_behind) (by decide +kernel)) (fun _ _ _ _ _ => by exact (pg_name (i := 2) sc_values_behind.nd rfl (Or.inl rfl))) (fun _ _ _ _ _ => by exact pts_nil) (fun _ _ _ _ _ => by exact (pe_c c_value_at hr (by decide) rfl (pa_cons (pv 0) (pa_cons (pv 2) pa_nil))))))), ?_⟩
    have Pv := fun (D : Addr) (j : Nat) (G : Hp) => Same H G ∧ G D = some (.lst (((c.take j).map fun i => val_ y.1 y.2.1 y.2.2 (some i.toNat)).map vO))
    have step : ∀ (D : Addr) (hD : H D = none) (j : Nat) (v : V) (G : Hp), (vI c)[j]? = some v → (Same H G ∧ G D = some (.lst (((c.take j).map fun i => val_ y.1 y.2.1 y.2.2 (some i.toNat)).map vO))) → ∃ (k : Nat), j < c.length ∧ v = vN (some k) ∧ ∀ G', Same G G' → G' D = some (.lst (((c.take j).map fun i => val_ y.1 y.2.1 y.2.2 (some i.toNat)).map vO)) ∧ (((c.take j).map fun i => val_ y.1 y.2.1 y.2.2 (some i.toNat)).map vO).length < sizeLine ∧ Same H (upd G' D (.lst ((((c.take j).map fun i => val_ y.1 y.2.1 y.2.2 (some i.toNat)).map vO) ++ [vO (val_ y.1 y.2.1 y.2.2 (some k))]))) ∧
        (upd G' D (.lst ((((c.take j).map fun i => val_ y.1 y.2.1 y.2.2 (some i.toNat)).map vO) ++ [vO (val_ y.1 y.2.1 y.2.2 (some k))]))) D = some (.lst (((c.take (j + 1)).map fun i => val_ y.1 y.2.1 y.2.2 (some i.toNat)).map vO)) := fun D hD j v G hv hG => by
      have hj := (List.getElem?_eq_some_iff.mp hv).1
      rw [vI_len] at hj
      obtain rfl : V.int (c[j]) = v := by
        rw [List.getElem?_map, List.getElem?_eq_getElem hj] at hv
        exact Option.some.inj hv
      have c0 := cn _ (List.getElem_mem hj)
      refine ⟨(c[j]).toNat, hj, congrArg V.int (show c[j] = ((c[j]).toNat : Int) by omega), fun G' s2 => ⟨s2 _ _ hG.2, ?_, NF.Same.mut (Same.trans hG.1 s2) hD, ?_⟩⟩
      · rw [List.length_map, List.length_map, List.length_take]
        exact Nat.lt_of_le_of_lt (show min j c.length ≤ 2000 by omega) (by decide)
      · rw [upd_same, List.take_add_one, List.getElem?_eq_getElem hj, List.map_append, List.map_append]
        rfl
    have fin : ∀ (D : Addr) (G : Hp), (Same H G ∧ G D = some (.lst (((c.take (vI c).length).map fun i => val_ y.1 y.2.1 y.2.2 (some i.toNat)).map vO))) → Q (.ref D) G := fun D G hG => by
      have := hG.2
      rw [vI_len, List.take_length] at this
      exact q D G hG.1 this
    rcases hr2 with ha | ha
    · refine ⟨_, rfl, pl, rfl, Or.inl ⟨⟨_, ha⟩, fun D hD => ?_⟩⟩
      refine lc_list (xs := vI c) (fun j G => Same H G ∧ G D = some (.lst (((c.take j).map fun i => val_ y.1 y.2.1 y.2.2 (some i.toNat)).map vO))) ⟨NF.Same.new (Same.refl H) hD, upd_same⟩ (fun i G _ z => L2.Same.seq z.1 ha) ?_ (fun G hG => fin D G hG)
      intro j v G hv hG
      obtain ⟨k, hj, rfl, nx⟩ := step D hD j v G hv hG
      refine ⟨rfl, _, rfl, _, rfl, x, y, some k, rfl, tb.mono hG.1, sm, fun G' s2 => ?_⟩
      obtain ⟨n1, n2, n3, n4⟩ := nx G' s2
      exact ⟨_, n1, n2, n3, n4⟩
    · refine ⟨_, rfl, pl, rfl, Or.inr ⟨⟨_, ha⟩, fun D hD => ?_⟩⟩
      refine lc_tup (xs := vI c) (fun j G => Same H G ∧ G D = some (.lst (((c.take j).map fun i => val_ y.1 y.2.1 y.2.2 (some i.toNat)).map vO))) ⟨NF.Same.new (Same.refl H) hD, upd_same⟩ (fun i G _ z => NF.Same.tup z.1 ha) ?_ (fun G hG => fin D G hG)
      intro j v G hv hG
      obtain ⟨k, hj, rfl, nx⟩ := step D hD j v G hv hG
      refine ⟨rfl, _, rfl, _, rfl, x, y, some k, rfl, tb.mono hG.1, sm, fun G' s2 => ?_⟩
      obtain ⟨n1, n2, n3, n4⟩ := nx G' s2
      exact ⟨_, n1, n2, n3, n4⟩
theorem ok_settled_form {f : Addr} {fd : FuncData} (F : FunD K "settled_form" "settled_form" (defArgs s_settled_form) (defBody s_settled_form) (defScope s_settled_form) [] [] f fd) (T : Txt K mg gs FS) : FnOk P w K mg base CX0 1 f fd ["values", "tail"] (spSettled K) := by
  refine F.ok sc_settled_form (fun vs H Q E h => ?_) (fun cdv A outer s H vs Q E hr h => ?_)
  · obtain ⟨a, os, t, rfl, _⟩ := h
    rfl
  · obtain ⟨a, os, t, rfl, ha, ol, q⟩ := h
    refine ⟨_, PSs.nox (pss_cons (ps_set (i := 2) sc_settled_form.nd rfl (Or.inl rfl) (pe_callTy cr_tup rfl (T.fr _ (by decide +kernel)) (by decide +kernel) (pa_cons (pe_lc (own := [("value", 3)]) rfl sc_settled_form.nd (pi_list (pv 0)) (blkOk_by (N := ["values", "tail", "counts", "value"]) (sc := defScope s_settled_form) (by decide +kernel)) (fun _ _ _ _ _ => by exact (pg_name (i := 3) sc_settled_form.nd rfl (Or.inl rfl))) (fun _ _ _ _ _ => by exact (pts_one (pt_cmpR op_notN (pv 3) pe_non (nomark _)))) (fun _ _ _ _ _ => by exact (pv 3))) pa_nil))) (pss_cons (ps_if (PW.pt (pw_or (pt_cmpR op_isN (pv 1) pe_non (nomark _)) (pw_or1 (pt_cmpR op_lt (pe_callB call_len_seq rfl (T.fr _ (by decide +kernel)) boot_len (pa_cons (pv 2) pa_nil)) (pe_callB call_len_seq rfl (T.fr _ (by decide +kernel)) boot_len (pa_cons (pv 0) pa_nil)) (nomark _))))) (pss_one (ps_ret (pe_tup (pa_cons (pv 2) (pa_cons (pe_tup pa_nil) (pa_cons pe_int pa_nil)))))) pss_nil) (pss_one (ps_ret (pe_tup (pa_cons (pv 2) (pa_cons (pe_tup (pa_cons (pv 1) pa_nil)) (pa_cons pe_int pa_nil)))))))), ?_⟩
    refine ⟨_, rfl, a, rfl, ⟨_, ha⟩, fun D hD => ?_⟩
    refine lc_list (xs := os.map vO) (fun j G => Same H G ∧ G D = some (.lst (vI ((os.take j).filterMap id)))) ⟨NF.Same.new (Same.refl H) hD, upd_same⟩ (fun i G _ z => L2.Same.seq z.1 ha) ?_ ?_
    · rintro j v G hv ⟨sG, hG⟩
      have hj := (List.getElem?_eq_some_iff.mp hv).1
      rw [List.length_map] at hj
      obtain rfl : vO (os[j]) = v := by
        rw [List.getElem?_map, List.getElem?_eq_getElem hj] at hv
        exact Option.some.inj hv
      have et : (os.take (j + 1)).filterMap id = (os.take j).filterMap id ++ [os[j]].filterMap id := by
        rw [List.take_add_one, List.getElem?_eq_getElem hj, List.filterMap_append]
        rfl
      cases ho : os[j] with
      | none =>
        rw [ho] at et
        refine ⟨rfl, _, rfl, rfl, _, rfl, ?_⟩
        refine ⟨sG, by rw [hG, et]; simp⟩
      | some i =>
        rw [ho] at et
        refine ⟨rfl, _, rfl, rfl, _, rfl, ?_⟩
        refine ⟨_, rfl, _, hG, ?_, NF.Same.mut sG hD, ?_⟩
        · rw [vI_len]
          have : ((os.take j).filterMap id).length ≤ (os.take j).length := List.length_filterMap_le _ _
          rw [List.length_take] at this
          exact Nat.lt_of_le_of_lt (show _ ≤ 2000 by omega) (by decide)
        · rw [upd_same, et, ← vI_app]
          rfl
    · rintro G ⟨sG, hG⟩
      rw [List.length_map, List.take_length] at hG
      refine ⟨D, _, rfl, Or.inl (SqL.of hG), fun p1 G1 s1 t1 => ?_⟩
      have sG1 : Same H G1 := Same.trans sG s1
      have done0 : ∀ (p2 p3 : Addr), G1 p2 = none → (upd G1 p2 (.tup [])) p3 = none → settled os t = (os.filterMap id, [], 0) → Q (.ref p3) (upd (upd G1 p2 (.tup [])) p3 (.tup [V.ref p1, V.ref p2, V.int 0])) := fun p2 p3 h2 h3 e => by
        have s2 := NF.Same.new (o := .tup []) (Same.refl G1) h2
        have s3 := NF.Same.new (o := .tup [V.ref p1, V.ref p2, V.int 0]) s2 h3
        refine q p3 _ (Same.trans sG1 s3) ?_
        rw [e]
        exact ⟨p1, p2, SqT.of upd_same, NF.Same.tup s3 t1, SqT.of (by rw [upd_ne (ne_of_none upd_same h3)]; exact upd_same)⟩
      cases t with
      | none =>
        refine ⟨_, rfl, rfl, _, rfl, iteT (iteT ?_)⟩
        exact ⟨_, rfl, (by show 0 ≤ sizeLine; decide), fun p2 h2 => ⟨(by show 3 ≤ sizeLine; decide), fun p3 h3 => done0 p2 p3 h2 h3 rfl⟩⟩
      | some v =>
        refine ⟨_, rfl, rfl, _, rfl, iteF ?_⟩
        refine ⟨_, rfl, p1, _, rfl, Or.inr t1, _, rfl, a, _, rfl, Or.inl (L2.Same.seq sG1 ha), ?_⟩
        rw [vI_len, List.length_map]
        refine ⟨_, _, rfl, rfl, _, rfl, ite2 (fun h1 => ?_) (fun h1 => ?_)⟩
        · have c : (os.filterMap id).length < os.length := by
            have := of_decide_eq_true h1
            omega
          exact ⟨_, rfl, (by show 0 ≤ sizeLine; decide), fun p2 h2 => ⟨(by show 3 ≤ sizeLine; decide), fun p3 h3 => done0 p2 p3 h2 h3 (if_pos c)⟩⟩
        · have c : ¬ (os.filterMap id).length < os.length := fun z => h1 (decide_eq_true (by omega))
          refine ⟨_, rfl, _, rfl, (by show 1 ≤ sizeLine; decide), fun p2 h2 => ⟨(by show 3 ≤ sizeLine; decide), fun p3 h3 => ?_⟩⟩
          have s2 := NF.Same.new (o := .tup [V.int v]) (Same.refl G1) h2
          have s3 := NF.Same.new (o := .tup [V.ref p1, V.ref p2, V.int 0]) s2 h3
          have e : settled os (some v) = (os.filterMap id, [v], 0) := if_neg c
          refine q p3 _ (Same.trans sG1 s3) ?_
          rw [e]
          exact ⟨p1, p2, SqT.of upd_same, NF.Same.tup s3 t1, SqT.of (by rw [upd_ne (ne_of_none upd_same h3)]; exact upd_same)⟩
end
end K10
set_option Elab.async false
set_option linter.all false
set_option maxRecDepth 100000
set_option maxHeartbeats 4000000
namespace NF
open PySem PySem.Spec PyProof.Rows L2 He RZ NT
theorem both1 {X R : Prop} (h1 : R → X) (h2 : R) : X := h1 h2
theorem vO_vN {o : Option Int} (h : ∀ i, o = some i → 0 ≤ i) : vO o = vN (o.map Int.toNat) := by
  cases o with
  | none => rfl
  | some i =>
    have := h i rfl
    exact congrArg V.int (show i = ((i.toNat : Nat) : Int) by omega)
end NF
namespace NT
theorem fin_ge {h l : List Int} {r : Int} (g : Good h l r) : ∀ i, fin_ l r = some i → 0 ≤ i := fun i e => by
  obtain ⟨u, _, h1, h2⟩ := val_fin g e 0
  omega
theorem climbs_mem : ∀ {l : List Int} {lo : Int}, climbs lo l → ∀ i ∈ l, lo ≤ i
  | [], _, _, _, h => nomatch h
  | x :: l, lo, c, i, h => by
    rcases List.mem_cons.mp h with rfl | h
    · exact c.1
    · exact Int.le_trans c.1 (climbs_mem c.2 i h)
theorem seg_all {F : Nat → Option Int} (h : ∀ n, F n ≠ none) {a m : Nat} : (seg F a m).map NF.vO = NF.vI (segN F a m) := by
  unfold seg segN NF.vI
  rw [List.map_map, List.map_map]
  refine List.map_congr_left fun k _ => ?_
  show NF.vO (F (a + k + 1)) = .int (numF F (a + k + 1))
  rw [numF_some (h (a + k + 1))]
  rfl
end NT
namespace K10
open PySem PySem.Spec PyProof.Rows L2 He NF RZ NT
/-- a table that can be put together with others: short -/
structure Put (y : List Int × List Int × Int) : Prop where
  g : Good y.1 y.2.1 y.2.2
  h : y.1.length ≤ 20
  l : y.2.1.length ≤ 20
  r : y.2.2 ≤ 1000000
theorem Put.small {y : List Int × List Int × Int} (p : Put y) : Small y := ⟨Nat.le_trans p.h (by decide), Nat.le_trans p.l (by decide), p.g.r0, p.r⟩
def Tells (y1 y2 x : List Int × List Int × Int) : Prop := Good x.1 x.2.1 x.2.2 ∧ (∀ n, 1 ≤ n → at_ x.1 x.2.1 x.2.2 n = beh y1.1 y1.2.1 y1.2.2 y2.1 y2.2.1 y2.2.2 n) ∧ x.1.length + x.2.1.length ≤ 1000
def spBehind (K : PySem.W.Frag) (C : Addr) : Sp := fun vs H Q _ => ∃ (x1 x2 : Addr) (y1 y2 : List Int × List Int × Int), vs = [.ref x1, .ref x2] ∧ TabAt K C H x1 y1 ∧ TabAt K C H x2 y2 ∧ Put y1 ∧ Put y2 ∧
  ∀ p x H', Same H H' → Tells y1 y2 x → FormAt K H' p x → Q (.ref p) H'
theorem sc_behind_form : FnScope ["first", "second", "lead", "head", "common", "many", "loop"] ["first", "second"] (defScope s_behind_form) := ⟨rfl, rfl, rfl, by decide +kernel, rfl, by decide +kernel, by decide +kernel⟩
section
variable {P : Program} {w : World} {K : PySem.W.Frag} {mg : Str → Option Value} {base : Heap} {gs fs : List Str} {C : Addr}
theorem ok_behind_form {f : Addr} {fd : FuncData} (F : FunD K "behind_form" "behind_form" (defArgs s_behind_form) (defBody s_behind_form) (defScope s_behind_form) [] [] f fd) (T : Txt K mg gs FS) (h_gcd : mg "gcd" = some (.builtin "math.gcd")) (tc : TabC K C) (c_end_of : Cal P w K mg base 1 "end_of" (spEnd K C)) (c_value_at : Cal P w K mg base 2 "value_at" (spAt K C)) (c_last_at_most : Cal P w K mg base 2 "last_at_most" (spLast K C)) (c_values_from : Cal P w K mg base 2 "values_from" (spFrom K C))
    (c_values_behind : Cal P w K mg base 3 "values_behind" (spBehV K C)) (c_settled_form : Cal P w K mg base 1 "settled_form" (spSettled K)) : FnOk P w K mg base CX0 4 f fd ["first", "second"] (spBehind K C) := by
  refine F.ok sc_behind_form (fun vs H Q E h => ?_) (fun cdv A outer s H vs Q E hr h => ?_)
  · obtain ⟨x1, x2, y1, y2, rfl, _⟩ := h
    rfl
  · obtain ⟨x1, x2, ⟨h1, l1, r1⟩, ⟨h2, l2, r2⟩, rfl, tb1, tb2, p1, p2, q⟩ := h
    have sm1 := p1.small
    have g1 := p1.g
    have g2 := p2.g
    have lh1 := p1.h
    have ll1 := p1.l
    have lr1 := p1.r
    have lh2 := p2.h
    have ll2 := p2.l
    have lr2 := p2.r
    have tb10 := tb1
    have tb20 := tb2
    obtain ⟨dx1, a1, b1, hx1, ha1, hb1⟩ := tb10
    obtain ⟨dx2, a2, b2, hx2, ha2, hb2⟩ := tb20
    have A := beh_asc g1 g2
    dsimp only at hx1 ha1 hb1 hx2 ha2 hb2 g1 g2 lh1 ll1 lr1 lh2 ll2 lr2 A q
    have r20 := g2.r0
    have r10 := g1.r0
    refine ⟨_, PSs.nox (pss_cons (ps_if (PW.pt (pw_or (pt_not (pt_truth (pe_fld (pv 1) rfl) (fun _ => rfl))) (pw_or1 (pt_cmpR op_eq (pe_fld (pv 1) rfl) pe_int (nomark _))))) (pss_one (ps_ret (pe_c c_settled_form hr (by decide) rfl (pa_cons (pe_c c_values_behind hr (by decide) rfl (pa_cons (pv 0) (pa_cons (pe_fld (pv 1) rfl) pa_nil))) (pa_cons (pe_c c_value_at hr (by decide) rfl (pa_cons (pv 0) (pa_cons (pe_c c_end_of hr (by decide) rfl (pa_cons (pv 1) pa_nil)) pa_nil))) pa_nil))))) pss_nil) (pss_cons (ps_set (i := 2) sc_behind_form.nd rfl (Or.inl rfl) (pe_callB (call_max2 rfl) rfl (T.fr _ (by decide +kernel)) (by decide +kernel) (pa_cons (pe_callB call_len_seq rfl (T.fr _ (by decide +kernel)) boot_len (pa_cons (pe_fld (pv 1) rfl) pa_nil)) (pa_cons (pe_c c_last_at_most hr (by decide) rfl (pa_cons (pv 1) (pa_cons (pe_callB call_len_seq rfl (T.fr _ (by decide +kernel)) boot_len (pa_cons (pe_fld (pv 0) rfl) pa_nil)) pa_nil))) pa_nil)))) (pss_cons (ps_set (i := 3) sc_behind_form.nd rfl (Or.inl rfl) (pe_c c_values_behind hr (by decide) rfl (pa_cons (pv 0) (pa_cons (pe_c c_values_from hr (by decide) rfl (pa_cons (pv 1) (pa_cons pe_int (pa_cons (pv 2) pa_nil)))) pa_nil)))) (pss_cons (ps_if (PW.pt (pw_or (pt_not (pt_truth (pe_fld (pv 0) rfl) (fun _ => rfl))) (pw_or1 (pt_cmpR op_eq (pe_fld (pv 0) rfl) pe_int (nomark _))))) (pss_one (ps_ret (pe_c c_settled_form hr (by decide) rfl (pa_cons (pv 3) (pa_cons (pe_c c_end_of hr (by decide) rfl (pa_cons (pv 0) pa_nil)) pa_nil))))) pss_nil) (pss_cons (ps_set (i := 4) sc_behind_form.nd rfl (Or.inl rfl) (pe_callBfun cr_gcd rfl h_gcd (pa_cons (pe_callB call_len_seq rfl (T.fr _ (by decide +kernel)) boot_len (pa_cons (pe_fld (pv 0) rfl) pa_nil)) (pa_cons (pe_fld (pv 1) rfl) pa_nil)))) (pss_cons (ps_set (i := 5) sc_behind_form.nd rfl (Or.inl rfl) (pe_op op_fdiv (pe_op op_mul (pe_callB call_len_seq rfl (T.fr _ (by decide +kernel)) boot_len (pa_cons (pe_fld (pv 1) rfl) pa_nil)) (pe_callB call_len_seq rfl (T.fr _ (by decide +kernel)) boot_len (pa_cons (pe_fld (pv 0) rfl) pa_nil))) (pv 4))) (pss_cons (ps_set (i := 6) sc_behind_form.nd rfl (Or.inl rfl) (pe_c c_values_behind hr (by decide) rfl (pa_cons (pv 0) (pa_cons (pe_c c_values_from hr (by decide) rfl (pa_cons (pv 1) (pa_cons (pe_op op_add (pv 2) pe_int) (pa_cons (pv 5) pa_nil)))) pa_nil)))) (pss_one (ps_ret (pe_tup (pa_cons (pe_callTy cr_tup rfl (T.fr _ (by decide +kernel)) (by decide +kernel) (pa_cons (pv 3) pa_nil)) (pa_cons (pe_callTy cr_tup rfl (T.fr _ (by decide +kernel)) (by decide +kernel) (pa_cons (pv 6) pa_nil)) (pa_cons (pe_op op_fdiv (pe_op op_mul (pe_fld (pv 0) rfl) (pe_fld (pv 1) rfl)) (pv 4)) pa_nil))))))))))))), ?_⟩
    by_cases cA : l2 = [] ∨ r2 = 0
    · refine' both1 (fun kA => ?A1) ?B1
      case A1 =>
        refine ⟨_, rfl, x2, C, dx2, _, _, rfl, hx2, tc.cl, tc.lp, rfl, _, tru_tup hb2, ?_⟩
        by_cases hl : l2 = []
        · rw [is_nil hl]
          exact iteT (iteT kA)
        · rw [ne_nil hl]
          refine iteF ⟨_, rfl, x2, C, dx2, _, _, rfl, hx2, tc.cl, tc.ri, rfl, rfl, _, rfl, iteT' (decide_eq_true (congrArg V.int (cA.resolve_left hl))) kA⟩
      case B1 =>
        refine ⟨_, rfl, _, rfl, x2, C, dx2, _, _, rfl, hx2, tc.cl, tc.hd, rfl, x1, a2, _, h2, rfl, tb1, sm1, .inr ha2, climbs_mem g2.hd, by omega, fun q1 H1 s1 hq1 => ?_⟩
        refine ⟨_, rfl, _, rfl, x2, _, rfl, tb2.mono s1, x1, _, (fin_ l2 r2).map Int.toNat, congrArg (fun z => [V.ref x1, z]) (vO_vN (fin_ge g2)), tb1.mono s1, sm1, fun H2 s2 => ?_⟩
        have eos : (h2.map fun i => val_ h1 l1 r1 (some i.toNat)) = seg (beh h1 l1 r1 h2 l2 r2) 0 h2.length := by
          have := seg_map (h1 := h1) (l1 := l1) (r1 := r1) (h2 := h2) (l2 := l2) (r2 := r2) (s := 0) (m := h2.length) fun k hk => by
            rw [at_some _ (.inl (by omega))]
            exact fun z => by cases z
          rw [← head_seg] at this
          exact this
        refine ⟨q1, h2.map (fun i => val_ h1 l1 r1 (some i.toNat)), val_ h1 l1 r1 ((fin_ l2 r2).map Int.toNat), rfl, SqL.of (s2 _ _ hq1), by rw [List.length_map]; omega, fun p H3 s3 fo => ?_⟩
        rw [eos] at fo
        obtain ⟨z1, z2, z3, z4⟩ := settled_ok A (N := h2.length) (t := val_ h1 l1 r1 ((fin_ l2 r2).map Int.toNat)) fun n hn => beh_end g2 cA hn
        exact q p _ H3 (Same.trans s1 (Same.trans s2 s3)) ⟨z1, z2, by omega⟩ fo
    · have hl2 : l2 ≠ [] := fun z => cA (.inl z)
      have r2p : 0 < r2 := by
        have : r2 ≠ 0 := fun z => cA (.inr z)
        omega
      have l20 := len_pos hl2
      refine ⟨_, rfl, x2, C, dx2, _, _, rfl, hx2, tc.cl, tc.lp, rfl, _, tru_tup hb2, ?_⟩
      rw [ne_nil hl2]
      refine iteF ⟨_, rfl, x2, C, dx2, _, _, rfl, hx2, tc.cl, tc.ri, rfl, rfl, _, rfl, iteF' (decide_eq_false fun z => ?_) ?_⟩
      · injection z with z
        omega
      refine ⟨_, rfl, x2, C, dx2, _, _, rfl, hx2, tc.cl, tc.hd, rfl, a2, _, rfl, Or.inr ha2, ?_⟩
      rw [vI_len]
      refine ⟨_, rfl, _, rfl, x1, C, dx1, _, _, rfl, hx1, tc.cl, tc.hd, rfl, a1, _, rfl, Or.inr ha1, ?_⟩
      rw [vI_len]
      refine ⟨x2, _, h1.length, rfl, tb2, g2, hl2, r2p, lr2, lh2, ll2, lh1, fun n H1 hn far1 s1 => ?_⟩
      obtain ⟨lead, hlead⟩ : ∃ lead, lead = max h2.length n := ⟨_, rfl⟩
      have elead : (if (n : Int) > (h2.length : Int) then (n : Int) else (h2.length : Int)) = (lead : Int) := by
        by_cases c : (n : Int) > (h2.length : Int)
        · rw [if_pos c]; omega
        · rw [if_neg c]; omega
      refine ⟨_, _, rfl, ?_⟩
      show gName 2 (V.int (if (n : Int) > (h2.length : Int) then (n : Int) else (h2.length : Int))) _ _ _
      rw [elead]
      rw [← hlead] at far1
      have far := far_of g2 hl2 far1
      have sall : ∀ k, at_ h2 l2 r2 k ≠ none := fun k => by
        rw [at_some _ (.inr hl2)]
        exact fun z => by cases z
      have tb1' := tb1.mono s1
      have tb2' := tb2.mono s1
      have hx1' := s1 _ _ hx1
      have hb1' := NF.Same.tup s1 hb1
      refine ⟨_, rfl, _, rfl, _, rfl, x2, _, 0, lead, rfl, tb2', hl2, r20, lr2, by dsimp only; omega, by dsimp only; omega, by omega, by omega, fun q1 H2 s2 hq1 => ?_⟩
      refine ⟨x1, q1, _, segN (at_ h2 l2 r2) 0 lead, rfl, tb1'.mono s2, sm1, .inl (SqL.of hq1), ?_, by rw [segN_len]; omega, fun q2 H3 s3 hq2 => ?_⟩
      · intro i hi
        unfold segN at hi
        obtain ⟨k, _, rfl⟩ := List.mem_map.mp hi
        exact (asc_at g2).nonneg (by omega) (sall _)
      rw [seg_map fun k hk => sall _] at hq2
      have s13 : Same H H3 := Same.trans s1 (Same.trans s2 s3)
      have tb1c := tb1.mono s13
      have tb2c := tb2.mono s13
      have hx1c := s13 _ _ hx1
      have hb1c := NF.Same.tup s13 hb1
      have hx2c := s13 _ _ hx2
      have hb2c := NF.Same.tup s13 hb2
      by_cases cB : l1 = [] ∨ r1 = 0
      · refine' both1 (fun kA => ?A2) ?B2
        case A2 =>
          refine ⟨_, rfl, x1, C, dx1, _, _, rfl, hx1c, tc.cl, tc.lp, rfl, _, tru_tup hb1c, ?_⟩
          by_cases hl : l1 = []
          · rw [is_nil hl]
            exact iteT (iteT kA)
          · rw [ne_nil hl]
            refine iteF ⟨_, rfl, x1, C, dx1, _, _, rfl, hx1c, tc.cl, tc.ri, rfl, rfl, _, rfl, iteT' (decide_eq_true (congrArg V.int (cB.resolve_left hl))) kA⟩
        case B2 =>
          refine ⟨_, rfl, _, rfl, x1, _, rfl, tb1c, q2, seg (beh h1 l1 r1 h2 l2 r2) 0 lead, fin_ l1 r1, rfl, SqL.of hq2, by rw [seg_len]; omega, fun p H4 s4 fo => ?_⟩
          obtain ⟨z1, z2, z3, z4⟩ := settled_ok A (N := lead) (t := fin_ l1 r1) fun n hn => by
            obtain ⟨v, hv, lv⟩ := far n hn
            exact beh_flat g1 cB hv lv
          exact q p _ H4 (Same.trans s13 s4) ⟨z1, z2, by omega⟩ fo
      · have hl1 : l1 ≠ [] := fun z => cB (.inl z)
        have l10 := len_pos hl1
        refine ⟨_, rfl, x1, C, dx1, _, _, rfl, hx1c, tc.cl, tc.lp, rfl, _, tru_tup hb1c, ?_⟩
        rw [ne_nil hl1]
        refine iteF ⟨_, rfl, x1, C, dx1, _, _, rfl, hx1c, tc.cl, tc.ri, rfl, rfl, _, rfl, iteF' (decide_eq_false fun z => ?_) ?_⟩
        · injection z with z
          exact cB (.inr z)
        obtain ⟨rn, hrn⟩ : ∃ rn : Nat, r2 = (rn : Int) := ⟨r2.toNat, by omega⟩
        obtain ⟨gg, hgg⟩ : ∃ gg, gg = Nat.gcd l1.length rn := ⟨_, rfl⟩
        have gg0 : 0 < gg := by rw [hgg]; exact Nat.gcd_pos_of_pos_left _ l10
        have gg1 : gg ≤ l1.length := by rw [hgg]; exact Nat.gcd_le_left _ l10
        obtain ⟨qq, hqq⟩ : gg ∣ l1.length := by rw [hgg]; exact Nat.gcd_dvd_left _ _
        obtain ⟨rq, hrq⟩ : gg ∣ rn := by rw [hgg]; exact Nat.gcd_dvd_right _ _
        have qq0 : 0 < qq := by
          rcases Nat.eq_zero_or_pos qq with z | z
          · rw [z] at hqq; omega
          · exact z
        have qq1 : qq ≤ l1.length := by rw [hqq]; exact Nat.le_mul_of_pos_left _ gg0
        refine ⟨_, rfl, x1, C, dx1, _, _, rfl, hx1c, tc.cl, tc.lp, rfl, b1, _, rfl, Or.inr hb1c, ?_⟩
        rw [vI_len]
        refine ⟨_, rfl, x2, C, dx2, _, _, rfl, hx2c, tc.cl, tc.ri, rfl, _, _, rfl, ?_⟩
        have eg : ((Nat.gcd ((l1.length : Nat) : Int).natAbs r2.natAbs : Nat) : Int) = (gg : Int) := by rw [hgg, hrn, Int.natAbs_natCast, Int.natAbs_natCast]
        show gName 4 (V.int ((Nat.gcd ((l1.length : Nat) : Int).natAbs r2.natAbs : Nat) : Int)) _ _ _
        rw [eg]
        refine ⟨_, rfl, x2, C, dx2, _, _, rfl, hx2c, tc.cl, tc.lp, rfl, b2, _, rfl, Or.inr hb2c, _, rfl, x1, C, dx1, _, _, rfl, hx1c, tc.cl, tc.lp, rfl, b1, _, rfl, Or.inr hb1c, ?_⟩
        rw [vI_len, vI_len]
        refine ⟨_, _, rfl, rfl, Or.inr ⟨by omega, by omega⟩, _, rfl, _, _, rfl, rfl, ⟨by omega, by omega⟩, ?_⟩
        obtain ⟨many, hmany⟩ : ∃ many, many = l2.length * qq := ⟨_, rfl⟩
        have manyle : many ≤ 400 := by rw [hmany]; exact Nat.mul_le_mul (show l2.length ≤ 20 by omega) (show qq ≤ 20 by omega)
        have many0 : 0 < many := by rw [hmany]; exact Nat.mul_pos l20 qq0
        have em : (l2.length : Int) * (l1.length : Int) / (gg : Int) = (many : Int) := by
          rw [hqq, hmany, Int.natCast_mul, Int.natCast_mul, Int.mul_comm (gg : Int), ← Int.mul_assoc]
          exact Int.mul_ediv_cancel _ (by omega)
        show gName 5 (V.int ((l2.length : Int) * (l1.length : Int) / (gg : Int))) _ _ _
        rw [em]
        refine ⟨_, rfl, _, rfl, _, rfl, _, _, rfl, rfl, _, rfl, x2, _, lead, many, rfl, tb2c, hl2, r20, lr2, by dsimp only; omega, by dsimp only; omega, by omega, by omega, fun q3 H4 s4 hq3 => ?_⟩
        refine ⟨x1, q3, _, segN (at_ h2 l2 r2) lead many, rfl, tb1c.mono s4, sm1, .inl (SqL.of hq3), ?_, by rw [segN_len]; omega, fun q4 H5 s5 hq4 => ?_⟩
        · intro i hi
          unfold segN at hi
          obtain ⟨k, _, rfl⟩ := List.mem_map.mp hi
          exact (asc_at g2).nonneg (by omega) (sall _)
        rw [seg_map fun k hk => sall _] at hq4
        have ball := fun n => beh_some (h1 := h1) (l1 := l1) (r1 := r1) (h2 := h2) (l2 := l2) (r2 := r2) hl1 hl2 n
        have s35 : Same H3 H5 := Same.trans s4 s5
        have hq2' := s35 _ _ hq2
        rw [seg_all ball] at hq2' hq4
        refine ⟨_, rfl, q2, _, rfl, .inl (SqL.of hq2'), fun p1 G1 s6 t6 => ?_⟩
        refine ⟨_, rfl, q4, _, rfl, .inl (SqL.of (s6 _ _ hq4)), fun p2 G2 s7 t7 => ?_⟩
        have s37 : Same H3 G2 := Same.trans s35 (Same.trans s6 s7)
        refine ⟨_, rfl, x1, C, dx1, _, _, rfl, s37 _ _ hx1c, tc.cl, tc.ri, rfl, _, rfl, x2, C, dx2, _, _, rfl, s37 _ _ hx2c, tc.cl, tc.ri, rfl, _, _, rfl, rfl, Or.inr ⟨by omega, by omega⟩, _, rfl, _, _, rfl, rfl, ⟨by omega, by omega⟩, (by show 3 ≤ sizeLine; decide), fun p3 hp3 => ?_⟩
        have s8 := NF.Same.new (o := .tup [V.ref p1, V.ref p2, V.int (r1 * r2 / (gg : Int))]) (Same.refl G2) hp3
        have er : r1 * r2 / (gg : Int) = r1 * (rq : Int) := by
          rw [hrn, hrq, Int.natCast_mul, Int.mul_comm (gg : Int), ← Int.mul_assoc]
          exact Int.mul_ediv_cancel _ (by omega)
        have L := looped A (N := lead) (m := many) (c := r1 * (rq : Int)) many0 (fun n _ => ball n) (fun n hn => by
          rw [hmany]
          exact beh_per hl1 hl2 hqq (by rw [hrn, hrq]) (show h2.length ≤ lead by omega) far n hn)
        refine q p3 (segN (beh h1 l1 r1 h2 l2 r2) 0 lead, segN (beh h1 l1 r1 h2 l2 r2) lead many, r1 * (rq : Int)) _ (Same.trans s13 (Same.trans s37 s8)) ⟨L.1, L.2, by dsimp only; rw [segN_len, segN_len]; omega⟩ ⟨p1, p2, ?_, NF.Same.tup (Same.trans s7 s8) t6, NF.Same.tup s8 t7⟩
        dsimp only
        rw [← er]
        exact SqT.of upd_same
end
end K10
set_option linter.all false
/-! Reading a table's words: the program's way and the law's machine say the same. -/
namespace NT
section
variable {α : Type} (num : α → Option Int) (nev thn up_ : α → Bool)
/-- numbers that climb -/
def climbW (m : Int) : List α → List Int
  | [] => []
  | w :: ws => match num w with
    | some v => if v < m then [] else v :: climbW v ws
    | none => []
def lastD (m : Int) (l : List Int) : Int := if l = [] then m else l.getD (l.length - 1) 0
/-- the program's reading: a place that is wrong, or the table -/
inductive Rd where
  | bad (k : Nat)
  | ok (h l : List Int) (r : Int)
def readW (ws : List α) : Rd :=
  let h := climbW num 0 ws
  match ws.drop h.length with
  | [] => .bad h.length
  | w :: r1 => if nev w = true then (if r1 = [] then .ok h [] 0 else .bad (h.length + 1))
    else if thn w = true then
      let l := climbW num (lastD 0 h) r1
      if l = [] then .bad (h.length + 1)
      else match r1.drop l.length with
        | [] => .bad (h.length + 1 + l.length)
        | u :: r2 => if up_ u = true then
            match climbW num (l.getD (l.length - 1) 0 - l.getD 0 0) r2 with
            | [] => .bad (h.length + 1 + l.length + 1)
            | v :: _ => if 1 < r2.length then .bad (h.length + 1 + l.length + 2) else .ok h l v
          else .bad (h.length + 1 + l.length)
    else .bad h.length
inductive St where
  | head | loop | rise | fin
/-- the law's machine; m: the greatest number so far, or 0 -/
def scan : St → Int → List Int → List Int → Int → Nat → List α → Option Nat × List Int × List Int × Int
  | s, _, h, l, r, k, [] => ((match s with | .fin => none | _ => some k), h, l, r)
  | .fin, _, h, l, r, k, _ :: _ => (some k, h, l, r)
  | .rise, m, h, l, r, k, w :: ws => (match num w with
    | none => (some k, h, l, r)
    | some v => if v < l.getD (l.length - 1) 0 - l.getD 0 0 then (some k, h, l, r) else scan .fin m h l v (k + 1) ws)
  | .head, m, h, l, r, k, w :: ws => (match num w with
    | some v => if v < m then (some k, h, l, r) else scan .head v (h ++ [v]) l r (k + 1) ws
    | none => if nev w = true then scan .fin m h l r (k + 1) ws else if thn w = true then scan .loop m h l r (k + 1) ws else (some k, h, l, r))
  | .loop, m, h, l, r, k, w :: ws => (match num w with
    | some v => if v < m then (some k, h, l, r) else scan .loop v h (l ++ [v]) r (k + 1) ws
    | none => if up_ w = true ∧ l ≠ [] then scan .rise m h l r (k + 1) ws else (some k, h, l, r))
variable {num nev thn up_}
theorem lastD_cons {m v : Int} {l : List Int} : lastD m (v :: l) = lastD v l := by
  unfold lastD
  rw [if_neg (by simp)]
  cases l with
  | nil => rfl
  | cons a l =>
    rw [if_neg (by simp)]
    rfl
/-- what stands where the climb stops -/
def Stops (m : Int) (ws : List α) : Prop := ∀ w r, ws = w :: r → ∀ v, num w = some v → v < m
theorem climb_stops : ∀ (ws : List α) (m : Int), Stops (num := num) (lastD m (climbW num m ws)) (ws.drop (climbW num m ws).length)
  | [], m, w, r, e => by simp at e
  | w :: ws, m, u, r, e => by
    intro v hv
    unfold climbW at e ⊢
    cases q : num w with
    | none =>
      rw [q] at e
      injection e with e1 e2
      subst e1
      rw [q] at hv
      cases hv
    | some x =>
      rw [q] at e
      dsimp only at e ⊢
      by_cases c : x < m
      · rw [if_pos c] at e ⊢
        injection e with e1 e2
        subst e1
        rw [q] at hv
        cases hv
        exact c
      · rw [if_neg c] at e ⊢
        rw [lastD_cons]
        exact climb_stops ws x u r e v hv
theorem scan_head : ∀ (ws : List α) (m : Int) (h l : List Int) (r : Int) (k : Nat),
    scan num nev thn up_ .head m h l r k ws = scan num nev thn up_ .head (lastD m (climbW num m ws)) (h ++ climbW num m ws) l r (k + (climbW num m ws).length) (ws.drop (climbW num m ws).length)
  | [], m, h, l, r, k => by simp [climbW, lastD]
  | w :: ws, m, h, l, r, k => by
    cases q : num w with
    | none =>
      have e : climbW num m (w :: ws) = [] := by unfold climbW; rw [q]
      rw [e]
      simp [lastD]
    | some x =>
      by_cases c : x < m
      · have e : climbW num m (w :: ws) = [] := by unfold climbW; rw [q]; simp [c]
        rw [e]
        simp [lastD]
      · have e : climbW num m (w :: ws) = x :: climbW num x ws := by
          conv => lhs; unfold climbW
          rw [q]
          simp [c]
        rw [e, lastD_cons]
        have ih := scan_head ws x (h ++ [x]) l r (k + 1)
        conv => lhs; unfold scan
        rw [q]
        dsimp only
        rw [if_neg c, ih, List.append_assoc, List.length_cons, List.drop_succ_cons, List.singleton_append]
        congr 1
        omega
theorem scan_loop : ∀ (ws : List α) (m : Int) (h l : List Int) (r : Int) (k : Nat),
    scan num nev thn up_ .loop m h l r k ws = scan num nev thn up_ .loop (lastD m (climbW num m ws)) h (l ++ climbW num m ws) r (k + (climbW num m ws).length) (ws.drop (climbW num m ws).length)
  | [], m, h, l, r, k => by simp [climbW, lastD]
  | w :: ws, m, h, l, r, k => by
    cases q : num w with
    | none =>
      have e : climbW num m (w :: ws) = [] := by unfold climbW; rw [q]
      rw [e]
      simp [lastD]
    | some x =>
      by_cases c : x < m
      · have e : climbW num m (w :: ws) = [] := by unfold climbW; rw [q]; simp [c]
        rw [e]
        simp [lastD]
      · have e : climbW num m (w :: ws) = x :: climbW num x ws := by
          conv => lhs; unfold climbW
          rw [q]
          simp [c]
        rw [e, lastD_cons]
        have ih := scan_loop ws x h (l ++ [x]) r (k + 1)
        conv => lhs; unfold scan
        rw [q]
        dsimp only
        rw [if_neg c, ih, List.append_assoc, List.length_cons, List.drop_succ_cons, List.singleton_append]
        congr 1
        omega
/-- no word is both a number and a word of the form -/
structure Apart (num : α → Option Int) (nev thn up_ : α → Bool) : Prop where
  n : ∀ w, nev w = true → num w = none
  t : ∀ w, thn w = true → num w = none
  u : ∀ w, up_ w = true → num w = none
/-- the law's machine over what the program reads -/
theorem scan_read (A : Apart num nev thn up_) (ws : List α) : match readW num nev thn up_ ws with
    | .bad k => (scan num nev thn up_ .head 0 [] [] 0 0 ws).1 = some k
    | .ok h l r => scan num nev thn up_ .head 0 [] [] 0 0 ws = (none, h, l, r) := by
  have st := climb_stops (num := num) ws 0
  rw [scan_head]
  unfold readW
  dsimp only
  generalize climbW num 0 ws = h at st ⊢
  rw [List.nil_append, Nat.zero_add]
  generalize hd : ws.drop h.length = rest at st ⊢
  cases rest with
  | nil => rfl
  | cons w r1 =>
    dsimp only
    by_cases c1 : nev w = true
    · have q := A.n w c1
      by_cases c2 : r1 = []
      · simp only [c1, c2, if_true, scan, q]
      · obtain ⟨x, y, rfl⟩ : ∃ x y, r1 = x :: y := by
          cases r1 with
          | nil => exact absurd rfl c2
          | cons x y => exact ⟨x, y, rfl⟩
        simp only [c1, c2, if_true, if_false, scan, q]
    · by_cases c2 : thn w = true
      · have q := A.t w c2
        simp only [if_neg c1, c2, if_true]
        have e1 : scan num nev thn up_ .head (lastD 0 h) h [] 0 h.length (w :: r1) = scan num nev thn up_ .loop (lastD 0 h) h [] 0 (h.length + 1) r1 := by
          conv => lhs; unfold scan
          rw [q]
          dsimp only
          rw [if_neg c1, if_pos c2]
        rw [e1, scan_loop]
        have st2 := climb_stops (num := num) r1 (lastD 0 h)
        generalize climbW num (lastD 0 h) r1 = l at st2 ⊢
        rw [List.nil_append]
        by_cases c3 : l = []
        · subst c3
          simp only [if_true]
          cases r1 with
          | nil => rfl
          | cons u r2 =>
            show (scan num nev thn up_ .loop _ h [] 0 _ (u :: r2)).1 = _
            conv => lhs; unfold scan
            cases qu : num u with
            | none =>
              dsimp only
              rw [if_neg (by simp)] <;> rfl
            | some v =>
              dsimp only
              have : v < lastD (lastD 0 h) [] := st2 u r2 rfl v qu
              rw [if_pos this] <;> rfl
        · rw [if_neg c3]
          generalize r1.drop l.length = rest2 at st2 ⊢
          cases rest2 with
          | nil => rfl
          | cons u r2 =>
            dsimp only
            by_cases c4 : up_ u = true
            · have qu := A.u u c4
              rw [if_pos c4]
              have e2 : scan num nev thn up_ .loop (lastD (lastD 0 h) l) h l 0 (h.length + 1 + l.length) (u :: r2) = scan num nev thn up_ .rise (lastD (lastD 0 h) l) h l 0 (h.length + 1 + l.length + 1) r2 := by
                conv => lhs; unfold scan
                rw [qu]
                dsimp only
                rw [if_pos ⟨c4, c3⟩]
              rw [e2]
              cases r2 with
              | nil => simp only [climbW, scan]
              | cons x y =>
                unfold climbW
                cases qx : num x with
                | none =>
                  dsimp only
                  unfold scan
                  rw [qx]
                | some v =>
                  dsimp only
                  by_cases c5 : v < l.getD (l.length - 1) 0 - l.getD 0 0
                  · rw [if_pos c5]
                    dsimp only
                    unfold scan
                    rw [qx]
                    dsimp only
                    rw [if_pos c5]
                  · rw [if_neg c5]
                    dsimp only
                    have e3 : scan num nev thn up_ .rise (lastD (lastD 0 h) l) h l 0 (h.length + 1 + l.length + 1) (x :: y) = scan num nev thn up_ .fin (lastD (lastD 0 h) l) h l v (h.length + 1 + l.length + 2) y := by
                      conv => lhs; unfold scan
                      rw [qx]
                      dsimp only
                      rw [if_neg c5]
                    rw [e3]
                    cases y with
                    | nil => simp [scan]
                    | cons y1 y2 => simp [scan]
            · rw [if_neg c4]
              dsimp only
              unfold scan
              cases qu : num u with
              | none =>
                dsimp only
                rw [if_neg (fun z => c4 z.1)]
              | some v =>
                dsimp only
                rw [if_pos (st2 u r2 rfl v qu)]
      · simp only [if_neg c1, if_neg c2]
        unfold scan
        cases q : num w with
        | none =>
          dsimp only
          rw [if_neg c1, if_neg c2]
        | some v =>
          dsimp only
          rw [if_pos (st w r1 rfl v q)]
theorem scan_head_s {w : α} {ws : List α} {m v r : Int} {h l : List Int} {k : Nat} (q : num w = some v) : scan num nev thn up_ .head m h l r k (w :: ws) = if v < m then (some k, h, l, r) else scan num nev thn up_ .head v (h ++ [v]) l r (k + 1) ws := by
  conv => lhs; unfold scan
  rw [q]
theorem scan_head_n {w : α} {ws : List α} {m r : Int} {h l : List Int} {k : Nat} (q : num w = none) : scan num nev thn up_ .head m h l r k (w :: ws) = if nev w = true then scan num nev thn up_ .fin m h l r (k + 1) ws else if thn w = true then scan num nev thn up_ .loop m h l r (k + 1) ws else (some k, h, l, r) := by
  conv => lhs; unfold scan
  rw [q]
theorem scan_loop_s {w : α} {ws : List α} {m v r : Int} {h l : List Int} {k : Nat} (q : num w = some v) : scan num nev thn up_ .loop m h l r k (w :: ws) = if v < m then (some k, h, l, r) else scan num nev thn up_ .loop v h (l ++ [v]) r (k + 1) ws := by
  conv => lhs; unfold scan
  rw [q]
theorem scan_loop_n {w : α} {ws : List α} {m r : Int} {h l : List Int} {k : Nat} (q : num w = none) : scan num nev thn up_ .loop m h l r k (w :: ws) = if up_ w = true ∧ l ≠ [] then scan num nev thn up_ .rise m h l r (k + 1) ws else (some k, h, l, r) := by
  conv => lhs; unfold scan
  rw [q]
theorem scan_rise_s {w : α} {ws : List α} {m v r : Int} {h l : List Int} {k : Nat} (q : num w = some v) : scan num nev thn up_ .rise m h l r k (w :: ws) = if v < l.getD (l.length - 1) 0 - l.getD 0 0 then (some k, h, l, r) else scan num nev thn up_ .fin m h l v (k + 1) ws := by
  conv => lhs; unfold scan
  rw [q]
theorem scan_rise_n {w : α} {ws : List α} {m r : Int} {h l : List Int} {k : Nat} (q : num w = none) : scan num nev thn up_ .rise m h l r k (w :: ws) = (some k, h, l, r) := by
  conv => lhs; unfold scan
  rw [q]
/-! ### what is read is a table -/
theorem climb_climbs : ∀ (ws : List α) (m : Int), climbs m (climbW num m ws)
  | [], _ => trivial
  | w :: ws, m => by
    unfold climbW
    cases q : num w with
    | none => trivial
    | some v =>
      dsimp only
      by_cases c : v < m
      · rw [if_pos c]; trivial
      · rw [if_neg c]
        exact ⟨by omega, climb_climbs ws v⟩
theorem climb_len : ∀ (ws : List α) (m : Int), (climbW num m ws).length ≤ ws.length
  | [], _ => Nat.le_refl _
  | w :: ws, m => by
    unfold climbW
    cases q : num w with
    | none => exact Nat.zero_le _
    | some v =>
      dsimp only
      by_cases c : v < m
      · rw [if_pos c]; exact Nat.zero_le _
      · rw [if_neg c]
        have := climb_len ws v
        simp only [List.length_cons]
        omega
theorem climbs_lowR : ∀ {l : List Int} {a b : Int}, a ≤ b → climbs b l → climbs a l
  | [], _, _, _, _ => trivial
  | x :: l, a, b, h, c => ⟨Int.le_trans h c.1, c.2⟩
theorem last_ge : ∀ {l : List Int} {m : Int}, climbs m l → m ≤ lastD m l
  | [], m, _ => by simp [lastD]
  | x :: l, m, c => by
    rw [lastD_cons]
    exact Int.le_trans c.1 (last_ge c.2)
theorem read_good {ws : List α} {h l : List Int} {r : Int} (e : readW num nev thn up_ ws = .ok h l r) : Good h l r ∧ h.length + l.length ≤ ws.length := by
  unfold readW at e
  dsimp only at e
  have c0 := climb_climbs (num := num) ws 0
  generalize climbW num 0 ws = h0 at c0 e
  split at e
  · cases e
  · rename_i w r1 hd
    have zr : r1.length + 1 + h0.length ≤ ws.length := by
      have := congrArg List.length hd
      rw [List.length_drop, List.length_cons] at this
      omega
    split at e
    · split at e
      · injection e with e1 e2 e3
        subst e1 e2 e3
        exact ⟨⟨c0, trivial, fun _ z => absurd rfl z, Int.le_refl _, fun _ => rfl, fun z => absurd rfl z⟩, by simp; omega⟩
      · cases e
    · split at e
      · have c1 := climb_climbs (num := num) r1 (lastD 0 h0)
        have z1 := climb_len (num := num) r1 (lastD 0 h0)
        generalize climbW num (lastD 0 h0) r1 = l0 at c1 z1 e
        split at e
        · cases e
        · rename_i hl
          split at e
          · cases e
          · rename_i u r2 hd2
            split at e
            · split at e
              · cases e
              · rename_i v tl hv
                split at e
                · cases e
                · injection e with e1 e2 e3
                  subst e1 e2 e3
                  have c2 := climb_climbs (num := num) r2 (l0.getD (l0.length - 1) 0 - l0.getD 0 0)
                  rw [hv] at c2
                  have hge := last_ge c0
                  have hp := len_pos hl
                  have hmono : ∀ i, i < l0.length → l0.getD 0 0 ≤ l0.getD i 0 := fun i hi => by
                    cases l0 with
                    | nil => exact absurd rfl hl
                    | cons a l =>
                      cases i with
                      | zero => exact Int.le_refl _
                      | succ i =>
                        have := climbs_lo (l := l) (lo := a) (i := i) c1.2 (by simpa using hi)
                        simpa using this
                  have hr : 0 ≤ v := by
                    have := hmono (l0.length - 1) (by omega)
                    have := c2.1
                    omega
                  refine ⟨⟨c0, climbs_lowR hge c1, fun hh _ => ?_, hr, fun z => absurd z hl, fun _ => ?_⟩, by omega⟩
                  · cases l0 with
                    | nil => exact absurd rfl hl
                    | cons a l =>
                      have := c1.1
                      unfold lastD at this
                      rw [if_neg hh] at this
                      simpa using this
                  · have := c2.1
                    omega
            · cases e
      · cases e
end
end NT
set_option Elab.async false
set_option linter.all false
set_option maxRecDepth 100000
set_option maxHeartbeats 4000000
/-! Texts: words that are numbers, a text times a number. -/
namespace NF
open PySem PySem.Spec PyProof.Rows L2 He RZ NT
theorem op_mul_str {X : Cx} : OpR X (binaryOp .Mult) (fun x y H Q => ∃ (z : Str) (n : Int), x = .str z ∧ y = .int n ∧ MulOk z n ∧ Q (.str (Txt.mul z n)) H) := by
  intro pins s σ H x y v u Q I rx ry h
  obtain ⟨z, n, rfl, rfl, hm, q⟩ := h
  obtain ⟨t, rfl⟩ := rx
  obtain ⟨t', rfl⟩ := ry
  exact SB.mul hm fun t' tk => ⟨.str _, H, I.tok _, ⟨_, rfl⟩, q⟩
/-- a figure -/
def dig (c : Nat) : Bool := decide (c ∈ ("0123456789" : Str).cps.toList)
theorem dig_iff (c : Nat) : dig c = true ↔ (48 ≤ c ∧ c ≤ 57) := by
  have e : ("0123456789" : Str).cps.toList = [48, 49, 50, 51, 52, 53, 54, 55, 56, 57] := by decide +kernel
  unfold dig
  rw [e, decide_eq_true_eq]
  simp only [List.mem_cons, List.not_mem_nil, or_false]
  omega
/-- is the word a number: 1 to 60 figures, no leading nought -/
def numOk (w : Str) : Bool := decide (1 ≤ w.length) && decide (w.length ≤ 60) && !(decide (1 < w.length) && decide (w.cps.toList.getD 0 0 = 48)) && w.cps.toList.all dig
def numW (w : Str) : Option Int := if numOk w = true then PySem.intText? w else none
theorem cps_len (w : Str) : w.cps.toList.length = w.length := Array.length_toList
theorem num_some {w : Str} (h : numOk w = true) : ∃ n : Nat, PySem.intText? w = some (n : Int) ∧ w.length ≤ 60 := by
  unfold numOk at h
  simp only [Bool.and_eq_true, decide_eq_true_eq] at h
  obtain ⟨⟨⟨h1, h2⟩, _⟩, h3⟩ := h
  have ha : PySem.NumText.AllDigits w.cps.toList := fun c hc => (dig_iff c).mp (List.all_eq_true.mp h3 c hc)
  have hn : w.cps.toList ≠ [] := fun z => by
    have := cps_len w
    rw [z] at this
    simp at this
    omega
  exact ⟨_, PySem.intText_digits ha hn (by omega), h2⟩
theorem numW_some {w : Str} (h : numOk w = true) : ∃ n : Nat, numW w = some (n : Int) ∧ PySem.intText? w = some (n : Int) ∧ w.length ≤ 60 := by
  obtain ⟨n, h1, h2⟩ := num_some h
  refine ⟨n, ?_, h1, h2⟩
  unfold numW
  rw [if_pos h, h1]
theorem numW_none {w : Str} (h : numOk w = false) : numW w = none := by
  unfold numW
  rw [if_neg (by rw [h]; decide)]
def isW (x : Str) (w : Str) : Bool := decide (w = x)
theorem apart : Apart numW (isW "never") (isW "then") (isW "up") := by
  constructor <;> intro w h <;> (have e := of_decide_eq_true h; subst e; exact numW_none (by decide +kernel))
theorem nil_of_len {w : Str} (h : w.length = 0) : numOk w = false := by
  unfold numOk
  rw [decide_eq_false (by omega)]
  rfl
end NF
set_option Elab.async false
set_option linter.all false
set_option maxRecDepth 100000
set_option maxHeartbeats 4000000
/-! The text of a form: its words, that they are read back. -/
namespace NF
open PySem PySem.Spec PyProof.Rows L2 He RZ NT
/-- the word of a number -/
def strN (i : Int) : Str := Str.ofString (toString i)
theorem strN_cps (m : Nat) : (strN (m : Int)).cps.toList = (Nat.toDigits 10 m).map Char.toNat := PySem.W.KIN.signs_num m
theorem digs {m : Nat} : PySem.NumText.AllDigits ((Nat.toDigits 10 m).map Char.toNat) := by
  intro c hc
  obtain ⟨ch, hch, e⟩ := List.mem_map.mp hc
  have r := PyProof.Rows.digit_range (Nat.isDigit_of_mem_toDigits (by decide) (by decide) hch)
  rw [← e]
  exact r
theorem digs_ne (m : Nat) : Nat.toDigits 10 m ≠ [] := fun e => by
  have h := PySem.toDigits_len_ge 10 m
  rw [e] at h
  exact absurd h (by decide)
theorem digs_head (m : Nat) (h : 0 < m) : ((Nat.toDigits 10 m).map Char.toNat).getD 0 0 ≠ 48 := by
  induction m using Nat.strongRecOn with
  | _ m ih =>
    by_cases c : m < 10
    · rw [Nat.toDigits_of_lt_base c]
      have : ∀ d : Nat, d < 10 → (d = 0 ∨ (Nat.digitChar d).toNat ≠ 48) := by decide
      exact (this m c).resolve_left (by omega)
    · have t : Nat.toDigits 10 (m / 10) ++ Nat.toDigits 10 (m % 10) = Nat.toDigits 10 (10 * (m / 10) + m % 10) := Nat.toDigits_append_toDigits (by decide) (by omega) (Nat.mod_lt m (by decide))
      rw [Nat.div_add_mod] at t
      have z := ih (m / 10) (by omega) (by omega)
      have ne := digs_ne (m / 10)
      rw [← t, List.map_append]
      cases e : Nat.toDigits 10 (m / 10) with
      | nil => exact absurd e ne
      | cons a as =>
        rw [e] at z
        exact z
theorem strN_len {m k : Nat} (hk : 0 < k) (h : m < 10 ^ k) : (strN (m : Int)).length ≤ k := by
  have : (strN (m : Int)).length = (Nat.toDigits 10 m).length := by
    rw [← cps_len, strN_cps, List.length_map]
  rw [this]
  exact digits10_le hk h
theorem strN_num {i : Int} (h0 : 0 ≤ i) (h1 : i < 10 ^ 60) : numW (strN i) = some i := by
  obtain ⟨m, rfl⟩ := Int.eq_ofNat_of_zero_le h0
  have hm : m < 10 ^ 60 := by omega
  have hlen := strN_len (k := 60) (by decide) hm
  have hl1 : 1 ≤ (strN (m : Int)).length := by
    rw [← cps_len, strN_cps, List.length_map]
    exact List.length_pos_iff.mpr (digs_ne m)
  have hd : PySem.NumText.AllDigits (strN (m : Int)).cps.toList := by rw [strN_cps]; exact digs
  have hok : numOk (strN (m : Int)) = true := by
    unfold numOk
    rw [Bool.and_eq_true, Bool.and_eq_true, Bool.and_eq_true]
    refine ⟨⟨⟨decide_eq_true hl1, decide_eq_true hlen⟩, ?_⟩, List.all_eq_true.mpr fun c hc => (dig_iff c).mpr (hd c hc)⟩
    by_cases z : m = 0
    · subst z
      decide +kernel
    · have := digs_head m (by omega)
      rw [strN_cps, decide_eq_false this, Bool.and_false]
      rfl
  unfold numW
  rw [if_pos hok, PySem.intText_digits hd (by rw [strN_cps]; exact fun e => digs_ne m (List.map_eq_nil_iff.mp e)) (by omega), strN_cps, PySem.W.KIN.val_back]
theorem strN_free {i : Int} (h0 : 0 ≤ i) : 32 ∉ (strN i).cps.toList := by
  obtain ⟨m, rfl⟩ := Int.eq_ofNat_of_zero_le h0
  rw [strN_cps]
  intro h
  have := digs 32 h
  omega
/-- the words of a form -/
def wordsF (x : List Int × List Int × Int) : List Str :=
  if x.2.1 = [] then x.1.map strN ++ ([("never" : Str)] : List Str) else x.1.map strN ++ ([("then" : Str)] : List Str) ++ x.2.1.map strN ++ ([("up" : Str), strN x.2.2] : List Str)
def textF (x : List Int × List Int × Int) : Str := Txt.join " " (wordsF x)
theorem climb_words {m : Int} {l : List Int} (c : climbs m l) (hl : ∀ v ∈ l, numW (strN v) = some v) {rest : List Str} (hr : ∀ w r, rest = w :: r → numW w = none) : climbW numW m (l.map strN ++ rest) = l := by
  induction l generalizing m with
  | nil =>
    cases rest with
    | nil => rfl
    | cons w r =>
      show climbW numW m (w :: r) = []
      unfold climbW
      rw [hr w r rfl]
  | cons v l ih =>
    show climbW numW m (strN v :: (l.map strN ++ rest)) = v :: l
    unfold climbW
    rw [hl v (List.mem_cons_self ..)]
    dsimp only
    rw [if_neg (by have := c.1; omega), ih c.2 fun u hu => hl u (List.mem_cons_of_mem _ hu)]
theorem drop_words {l : List Int} {rest : List Str} : (l.map strN ++ rest).drop l.length = rest := by
  have := List.drop_left (l₁ := l.map strN) (l₂ := rest)
  rw [List.length_map] at this
  exact this
theorem read_words {x : List Int × List Int × Int} (g : Good x.1 x.2.1 x.2.2) (f : Few x (10 ^ 60)) : readW numW (isW "never") (isW "then") (isW "up") (wordsF x) = .ok x.1 x.2.1 x.2.2 := by
  obtain ⟨h, l, r⟩ := x
  have memD : ∀ {l : List Int} {v : Int}, v ∈ l → ∃ i, i < l.length ∧ l.getD i 0 = v := fun {l v} hv => by
    obtain ⟨i, hi, e⟩ := List.getElem_of_mem hv
    exact ⟨i, hi, by rw [List.getD_eq_getElem?_getD, List.getElem?_eq_getElem hi]; exact e⟩
  have nh : ∀ v ∈ h, numW (strN v) = some v := fun v hv => by
    obtain ⟨i, hi, rfl⟩ := memD hv
    have := few_head f hi
    exact strN_num this.1 this.2
  have nl : ∀ v ∈ l, numW (strN v) = some v := fun v hv => by
    obtain ⟨i, hi, rfl⟩ := memD hv
    have := few_loop f hi
    exact strN_num this.1 this.2
  have nr := strN_num f.r0 f.r1
  have e1 : numW "never" = none := numW_none (by decide +kernel)
  have e2 : numW "then" = none := numW_none (by decide +kernel)
  have e3 : numW "up" = none := numW_none (by decide +kernel)
  unfold wordsF
  dsimp only at g nr ⊢
  by_cases hl : l = []
  · rw [if_pos hl]
    have eh := climb_words (rest := [("never" : Str)]) g.hd nh fun w r z => by
      injection z with z _
      rw [← z]
      exact e1
    unfold readW
    dsimp only
    rw [eh, drop_words]
    dsimp only
    rw [if_pos (show isW "never" "never" = true from by decide +kernel), if_pos rfl, g.rl hl, hl]
  · rw [if_neg hl]
    have er : h.map strN ++ ([("then" : Str)] : List Str) ++ l.map strN ++ ([("up" : Str), strN r] : List Str) = h.map strN ++ (("then" : Str) :: (l.map strN ++ ([("up" : Str), strN r] : List Str))) := by simp
    rw [er]
    have eh := climb_words (rest := ("then" : Str) :: (l.map strN ++ ([("up" : Str), strN r] : List Str))) g.hd nh fun w r z => by
      injection z with z _
      rw [← z]
      exact e2
    have cl : climbs (lastD 0 h) l := by
      unfold lastD
      by_cases z : h = []
      · rw [if_pos z]
        exact g.lp
      · rw [if_neg z]
        have j := g.join z hl
        have lp := g.lp
        cases l with
        | nil => exact absurd rfl hl
        | cons a as => exact ⟨j, lp.2⟩
    have el := climb_words (rest := ([("up" : Str), strN r] : List Str)) cl nl fun w r z => by
      injection z with z _
      rw [← z]
      exact e3
    have eu : climbW numW (l.getD (l.length - 1) 0 - l.getD 0 0) [strN r] = [r] := by
      unfold climbW
      rw [nr]
      dsimp only
      have := g.last hl
      rw [if_neg (by omega)]
      rfl
    unfold readW
    dsimp only
    rw [eh, drop_words]
    dsimp only
    rw [if_neg (show ¬ isW "never" "then" = true from by decide +kernel), if_pos (show isW "then" "then" = true from by decide +kernel), el, if_neg hl, drop_words]
    dsimp only
    rw [if_pos (show isW "up" "up" = true from by decide +kernel), eu]
    dsimp only
    rw [if_neg (by simp)]
theorem words_free {x : List Int × List Int × Int} (f : Few x (10 ^ 60)) : ∀ w ∈ wordsF x, 32 ∉ w.cps.toList := by
  obtain ⟨h, l, r⟩ := x
  have memD : ∀ {l : List Int} {v : Int}, v ∈ l → ∃ i, i < l.length ∧ l.getD i 0 = v := fun {l v} hv => by
    obtain ⟨i, hi, e⟩ := List.getElem_of_mem hv
    exact ⟨i, hi, by rw [List.getD_eq_getElem?_getD, List.getElem?_eq_getElem hi]; exact e⟩
  have nh : ∀ w ∈ h.map strN, 32 ∉ w.cps.toList := fun w hw => by
    obtain ⟨v, hv, rfl⟩ := List.mem_map.mp hw
    obtain ⟨i, hi, rfl⟩ := memD hv
    exact strN_free (few_head f hi).1
  have nl : ∀ w ∈ l.map strN, 32 ∉ w.cps.toList := fun w hw => by
    obtain ⟨v, hv, rfl⟩ := List.mem_map.mp hw
    obtain ⟨i, hi, rfl⟩ := memD hv
    exact strN_free (few_loop f hi).1
  have nr : 32 ∉ (strN r).cps.toList := strN_free f.r0
  unfold wordsF
  dsimp only
  intro w hw
  by_cases hl : l = []
  · rw [if_pos hl] at hw
    rcases List.mem_append.mp hw with z | z
    · exact nh w z
    · rw [List.mem_singleton.mp z]
      decide +kernel
  · rw [if_neg hl] at hw
    rcases List.mem_append.mp hw with z | z
    · rcases List.mem_append.mp z with z | z
      · rcases List.mem_append.mp z with z | z
        · exact nh w z
        · rw [List.mem_singleton.mp z]
          decide +kernel
      · exact nl w z
    · rcases List.mem_cons.mp z with rfl | z
      · decide +kernel
      · rw [List.mem_singleton.mp z]
        exact nr
theorem words_ne {x : List Int × List Int × Int} : wordsF x ≠ [] := by
  unfold wordsF
  by_cases hl : x.2.1 = []
  · rw [if_pos hl]
    simp
  · rw [if_neg hl]
    simp
theorem text_words {x : List Int × List Int × Int} (f : Few x (10 ^ 60)) : Txt.split (textF x) " " = wordsF x :=
  TL.split_join (y := " ") (s := 32) (S := []) (by decide +kernel) (by decide +kernel) words_ne fun p hp => words_free f p hp
end NF
set_option Elab.async false
set_option linter.all false
set_option maxRecDepth 100000
set_option maxHeartbeats 4000000
namespace NF
open PySem PySem.Spec PyProof.Rows L2 He RZ NT
theorem log_okN {i : Int} (h0 : 0 ≤ i) (h1 : i < 10 ^ 60) : i.natAbs.log2 < 1920 := by
  by_cases z : i.natAbs = 0
  · rw [z]; decide
  · refine (Nat.log2_lt z).mpr ?_
    have : i.natAbs < 10 ^ 60 := by omega
    exact Nat.lt_trans this (by decide +kernel)
theorem strN_le {i : Int} (h0 : 0 ≤ i) (h1 : i < 10 ^ 60) : (strN i).length ≤ 60 := by
  obtain ⟨m, rfl⟩ := Int.eq_ofNat_of_zero_le h0
  exact strN_len (by decide) (by omega)
theorem mem_getD {l : List Int} {v : Int} (hv : v ∈ l) : ∃ i, i < l.length ∧ l.getD i 0 = v := by
  obtain ⟨i, hi, e⟩ := List.getElem_of_mem hv
  exact ⟨i, hi, by rw [List.getD_eq_getElem?_getD, List.getElem?_eq_getElem hi]; exact e⟩
theorem few_h {x : List Int × List Int × Int} {B : Int} (f : Few x B) {v : Int} (hv : v ∈ x.1) : 0 ≤ v ∧ v < B := by
  obtain ⟨i, hi, rfl⟩ := mem_getD hv
  exact few_head f hi
theorem few_l {x : List Int × List Int × Int} {B : Int} (f : Few x B) {v : Int} (hv : v ∈ x.2.1) : 0 ≤ v ∧ v < B := by
  obtain ⟨i, hi, rfl⟩ := mem_getD hv
  exact few_loop f hi
theorem words_le {x : List Int × List Int × Int} (f : Few x (10 ^ 60)) {n : Nat} (hn : x.1.length + x.2.1.length ≤ n) : (wordsF x).length ≤ n + 3 ∧ ∀ w ∈ wordsF x, w.length ≤ 60 := by
  have nh : ∀ w ∈ x.1.map strN, w.length ≤ 60 := fun w hw => by
    obtain ⟨v, hv, rfl⟩ := List.mem_map.mp hw
    exact strN_le (few_h f hv).1 (few_h f hv).2
  have nl : ∀ w ∈ x.2.1.map strN, w.length ≤ 60 := fun w hw => by
    obtain ⟨v, hv, rfl⟩ := List.mem_map.mp hw
    exact strN_le (few_l f hv).1 (few_l f hv).2
  have nr := strN_le f.r0 f.r1
  unfold wordsF
  by_cases hl : x.2.1 = []
  · rw [if_pos hl]
    refine ⟨?_, fun w hw => ?_⟩
    · rw [List.length_append, List.length_map]
      show x.1.length + 1 ≤ n + 3
      omega
    · rcases List.mem_append.mp hw with z | z
      · exact nh w z
      · rw [List.mem_singleton.mp z]
        decide +kernel
  · rw [if_neg hl]
    refine ⟨?_, fun w hw => ?_⟩
    · rw [List.length_append, List.length_append, List.length_append, List.length_map, List.length_map]
      show x.1.length + 1 + x.2.1.length + 2 ≤ n + 3
      omega
    · rcases List.mem_append.mp hw with z | z
      · rcases List.mem_append.mp z with z | z
        · rcases List.mem_append.mp z with z | z
          · exact nh w z
          · rw [List.mem_singleton.mp z]
            decide +kernel
        · exact nl w z
      · rcases List.mem_cons.mp z with rfl | z
        · decide +kernel
        · rw [List.mem_singleton.mp z]
          exact nr
theorem join_few {ws : List Str} {n : Nat} (h1 : ws.length ≤ n) (h2 : ∀ w ∈ ws, w.length ≤ 60) : (Txt.join " " ws).length ≤ n * 61 ∧ (ws.map (·.length)).sum + ws.length * (" " : Str).length ≤ n * 61 := by
  have e1 : (" " : Str).length = 1 := by decide +kernel
  have hs : ∀ l : List Str, (∀ w ∈ l, w.length ≤ 60) → (l.map (·.length)).sum ≤ l.length * 60 := by
    intro l
    induction l with
    | nil => intro _; simp
    | cons x l ih =>
      intro hl
      have h1 := hl x (List.mem_cons_self ..)
      have h2 := ih fun w hw => hl w (List.mem_cons_of_mem _ hw)
      simp only [List.map_cons, List.sum_cons, List.length_cons]
      omega
  have g1 := hs ws h2
  have g3 := StrLaws.join_length_le " " ws
  have e2 : Txt.join " " ws = Str.join " " ws := StrLaws.glued_eq_join " " ws
  rw [e1] at g3 ⊢
  rw [e2]
  have h4 : ws.length * 60 ≤ n * 60 := Nat.mul_le_mul_right _ h1
  omega
end NF
namespace K10
open PySem PySem.Spec PyProof.Rows L2 He NF RZ NT
def spText (K : PySem.W.Frag) : Sp := fun vs H Q _ => ∃ q x, vs = [.ref q] ∧ FormAt K H q x ∧ Few x (10 ^ 60) ∧ x.1.length + x.2.1.length ≤ 1000 ∧ ∀ H', Same H H' → Q (.str (textF x)) H'
def spWrite (K : PySem.W.Frag) (C : Addr) : Sp := fun vs H Q _ => ∃ q x, vs = [.ref q] ∧ TabAt K C H q x ∧ Few x (10 ^ 60) ∧ x.1.length + x.2.1.length ≤ 1000 ∧ ∀ H', Same H H' → Q (.str (textF x)) H'
theorem sc__law_text : FnScope ["_law_raw_here", "_law_words", "_law_one"] ["_law_raw_here"] (defScope s__law_text) := ⟨rfl, rfl, rfl, by decide +kernel, rfl, by decide +kernel, by decide +kernel⟩
theorem sc_write_table : FnScope ["table", "words", "entry"] ["table"] (defScope s_write_table) := ⟨rfl, rfl, rfl, by decide +kernel, rfl, by decide +kernel, by decide +kernel⟩
section
variable {P : Program} {w : World} {K : PySem.W.Frag} {mg : Str → Option Value} {base : Heap} {gs : List Str} {C : Addr}
theorem ok__law_text {f : Addr} {fd : FuncData} (F : FunD K "_law_text" "_law_text" (defArgs s__law_text) (defBody s__law_text) (defScope s__law_text) [] [] f fd) (T : Txt K mg gs FS) : FnOk P w K mg base CX0 1 f fd ["_law_raw_here"] (spText K) := by
  refine F.ok sc__law_text (fun vs H Q E h => ?_) (fun cdv A outer s H vs Q E hr h => ?_)
  · obtain ⟨q, x, rfl, _⟩ := h
    rfl
  · obtain ⟨q, ⟨h, l, r⟩, rfl, fo, few, hsz, k⟩ := h
    obtain ⟨a, b, hq, ha, hb⟩ := id fo
    have hh : ∀ v ∈ h, 0 ≤ v ∧ v < 10 ^ 60 := fun v hv => few_h few hv
    have hl : ∀ v ∈ l, 0 ≤ v ∧ v < 10 ^ 60 := fun v hv => few_l few hv
    have o5 := few.r0
    have o6 := few.r1
    have wk := words_le few (Nat.le_refl _)
    have jf := join_few wk.1 wk.2
    dsimp only at hq ha hb hsz o5 o6 wk jf
    have jb : ∀ {n : Nat}, n ≤ 1003 → n * 61 ≤ 16777216 := fun {n} hn => Nat.le_trans (Nat.mul_le_mul_right _ hn) (by decide)
    refine ⟨_, PSs.nox (pss_cons (ps_setLc (i := 1) (own := [("_law_one", 2)]) rfl sc__law_text.nd rfl rfl (sw_true rfl rfl rfl (by decide +kernel)) (pi_tup (pe_ix (ixt (K := K)) (pv 0) pe_int fun _ _ => rfl)) (blkOk_by (N := ["_law_raw_here", "_law_words", "_law_one"]) (sc := defScope s__law_text) (by decide +kernel)) (fun _ _ _ _ _ => by exact (pg_name (i := 2) sc__law_text.nd rfl (Or.inl rfl))) (fun _ _ _ _ _ => by exact pts_nil) (fun _ _ _ _ _ => by exact (pe_callTy call_str_int rfl (T.fr _ (by decide +kernel)) (by decide +kernel) (pa_cons (pv 2) pa_nil)))) (pss_cons (ps_if (pt_cmpR op_eq (pe_callB call_len_seq rfl (T.fr _ (by decide +kernel)) boot_len (pa_cons (pe_ix (ixt (K := K)) (pv 0) pe_int fun _ _ => rfl) pa_nil)) pe_int (nomark _)) (pss_one (ps_ret (pe_join pe_str (pe_op op_cat (pv 1) (pe_lst (pa_cons pe_str pa_nil)))))) pss_nil) (pss_one (ps_ret (pe_join pe_str (pe_op op_cat (pe_op op_cat (pe_op op_cat (pv 1) (pe_lst (pa_cons pe_str pa_nil))) (pe_lc (own := [("_law_one", 2)]) rfl sc__law_text.nd (pi_tup (pe_ix (ixt (K := K)) (pv 0) pe_int fun _ _ => rfl)) (blkOk_by (N := ["_law_raw_here", "_law_words", "_law_one"]) (sc := defScope s__law_text) (by decide +kernel)) (fun _ _ _ _ _ => by exact (pg_name (i := 2) sc__law_text.nd rfl (Or.inl rfl))) (fun _ _ _ _ _ => by exact pts_nil) (fun _ _ _ _ _ => by exact (pe_callTy call_str_int rfl (T.fr _ (by decide +kernel)) (by decide +kernel) (pa_cons (pv 2) pa_nil))))) (pe_lst (pa_cons pe_str (pa_cons (pe_callTy call_str_int rfl (T.fr _ (by decide +kernel)) (by decide +kernel) (pa_cons (pe_ix (ixt (K := K)) (pv 0) pe_int fun _ _ => rfl) pa_nil)) pa_nil))))))))), ?_⟩
    refine ⟨_, rfl, q, _, _, _, rfl, rfl, hq, at0, a, rfl, ⟨_, ha⟩, fun D hD => ?_⟩
    refine lc_tup (xs := vI h) (fun j G => Same H G ∧ G D = some (.lst (((h.take j).map strN).map V.str))) ⟨NF.Same.new (Same.refl H) hD, upd_same⟩ (fun i G _ z => NF.Same.tup z.1 ha) ?_ ?_
    · rintro j v G hv ⟨sG, hG⟩
      have hj := (List.getElem?_eq_some_iff.mp hv).1
      rw [vI_len] at hj
      obtain rfl : V.int (h[j]) = v := by
        rw [List.getElem?_map, List.getElem?_eq_getElem hj] at hv
        exact Option.some.inj hv
      have hb := hh _ (List.getElem_mem hj)
      refine ⟨rfl, _, rfl, _, rfl, log_okN hb.1 hb.2, _, hG, ?_, NF.Same.mut sG hD, ?_⟩
      · rw [List.length_map, List.length_map, List.length_take]
        exact Nat.lt_of_le_of_lt (show min j h.length ≤ 1000 by omega) (by decide)
      · rw [upd_same, List.take_add_one, List.getElem?_eq_getElem hj, List.map_append, List.map_append]
        rfl
    · rintro G ⟨sG, hG⟩
      have et : h.take (vI h).length = h := by rw [vI_len]; exact List.take_length
      rw [et] at hG
      have hq1 := NF.Same.tup sG hq
      have hb1 := NF.Same.tup sG hb
      refine ⟨_, rfl, q, _, _, _, rfl, rfl, hq1, at1, b, _, rfl, Or.inr hb1, rfl, _, rfl, ?_⟩
      rw [vI_len]
      by_cases hl0 : l = []
      · refine iteT' (decide_eq_true (by rw [hl0]; rfl)) ?_
        refine ⟨⟨_, rfl⟩, _, rfl, (by show 1 ≤ sizeLine; decide), fun p1 hp1 => ?_⟩
        have s1 := NF.Same.new (o := .lst [V.str "never"]) (Same.refl G) hp1
        refine ⟨D, p1, _, _, rfl, rfl, s1 _ _ hG, upd_same, ?_, fun p2 hp2 => ?_⟩
        · rw [List.length_map, List.length_map]
          exact Nat.le_trans (show h.length + 1 ≤ 1001 by omega) (by decide)
        · have s2 := NF.Same.new (o := .lst (((h.map strN).map V.str) ++ [V.str "never"])) s1 hp2
          have ew : wordsF (h, l, r) = h.map strN ++ ([("never" : Str)] : List Str) := if_pos hl0
          refine ⟨" ", p2, wordsF (h, l, r), rfl, rfl, Or.inl (SqL.of ?_), Nat.le_trans jf.2 (jb (by omega)), k _ (Same.trans sG s2)⟩
          rw [ew, upd_same, List.map_append]
          rfl
      · refine iteF' (decide_eq_false fun z => hl0 (by injection z with z; exact List.eq_nil_of_length_eq_zero (by omega))) ?_
        refine ⟨⟨_, rfl⟩, _, rfl, (by show 1 ≤ sizeLine; decide), fun p1 hp1 => ?_⟩
        have s1 := NF.Same.new (o := .lst [V.str "then"]) (Same.refl G) hp1
        refine ⟨D, p1, _, _, rfl, rfl, s1 _ _ hG, upd_same, ?_, fun p2 hp2 => ?_⟩
        · rw [List.length_map, List.length_map]
          exact Nat.le_trans (show h.length + 1 ≤ 1001 by omega) (by decide)
        have s2 := NF.Same.new (o := .lst (((h.map strN).map V.str) ++ [V.str "then"])) s1 hp2
        have hb2 := NF.Same.tup s2 hb1
        refine ⟨_, rfl, q, _, _, _, rfl, rfl, NF.Same.tup s2 hq1, at1, b, rfl, ⟨_, hb2⟩, fun D2 hD2 => ?_⟩
        refine lc_tup (xs := vI l) (fun j G' => Same (upd (upd G p1 (.lst [V.str "then"])) p2 (.lst (((h.map strN).map V.str) ++ [V.str "then"]))) G' ∧ G' D2 = some (.lst (((l.take j).map strN).map V.str))) ⟨NF.Same.new (Same.refl _) hD2, upd_same⟩ (fun i G' _ z => NF.Same.tup z.1 hb2) ?_ ?_
        · rintro j v G' hv ⟨sG', hG'⟩
          have hj := (List.getElem?_eq_some_iff.mp hv).1
          rw [vI_len] at hj
          obtain rfl : V.int (l[j]) = v := by
            rw [List.getElem?_map, List.getElem?_eq_getElem hj] at hv
            exact Option.some.inj hv
          have hb := hl _ (List.getElem_mem hj)
          refine ⟨rfl, _, rfl, _, rfl, log_okN hb.1 hb.2, _, hG', ?_, NF.Same.mut sG' hD2, ?_⟩
          · rw [List.length_map, List.length_map, List.length_take]
            exact Nat.lt_of_le_of_lt (show min j l.length ≤ 1000 by omega) (by decide)
          · rw [upd_same, List.take_add_one, List.getElem?_eq_getElem hj, List.map_append, List.map_append]
            rfl
        · rintro G' ⟨sG', hG'⟩
          have et : l.take (vI l).length = l := by rw [vI_len]; exact List.take_length
          rw [et] at hG'
          have hp2' := sG' _ _ (upd_same (H := upd G p1 (.lst [V.str "then"])) (a := p2) (o := .lst (((h.map strN).map V.str) ++ [V.str "then"])))
          refine ⟨p2, D2, _, _, rfl, rfl, hp2', hG', ?_, fun p3 hp3 => ?_⟩
          · rw [List.length_append, List.length_map, List.length_map, List.length_map, List.length_map]
            exact Nat.le_trans (show h.length + 1 + l.length ≤ 1001 by omega) (by decide)
          have s4 := NF.Same.new (o := .lst (((h.map strN).map V.str) ++ [V.str "then"] ++ ((l.map strN).map V.str))) (Same.refl G') hp3
          refine ⟨_, rfl, q, _, _, _, rfl, rfl, NF.Same.tup s4 (NF.Same.tup sG' (NF.Same.tup s2 hq1)), at2, _, rfl, log_okN o5 o6, (by show 2 ≤ sizeLine; decide), fun p4 hp4 => ?_⟩
          have s5 := NF.Same.new (o := .lst [V.str "up", V.str (strN r)]) s4 hp4
          refine ⟨p3, p4, _, _, rfl, rfl, (by rw [upd_ne (ne_of_none upd_same hp4)]; exact upd_same), upd_same, ?_, fun p5 hp5 => ?_⟩
          · rw [List.length_append, List.length_append, List.length_map, List.length_map, List.length_map, List.length_map]
            exact Nat.le_trans (show h.length + 1 + l.length + 2 ≤ 1003 by omega) (by decide)
          have s6 := NF.Same.new (o := .lst ((((h.map strN).map V.str) ++ [V.str "then"] ++ ((l.map strN).map V.str)) ++ [V.str "up", V.str (strN r)])) s5 hp5
          have ew : wordsF (h, l, r) = h.map strN ++ ([("then" : Str)] : List Str) ++ l.map strN ++ ([("up" : Str), strN r] : List Str) := if_neg hl0
          refine ⟨" ", p5, wordsF (h, l, r), rfl, rfl, Or.inl (SqL.of ?_), Nat.le_trans jf.2 (jb (by omega)), k _ (Same.trans sG (Same.trans s2 (Same.trans sG' s6)))⟩
          rw [ew, upd_same, List.map_append, List.map_append, List.map_append]
          rfl
theorem ok_write_table {f : Addr} {fd : FuncData} (F : FunD K "write_table" "write_table" (defArgs s_write_table) (defBody s_write_table) (defScope s_write_table) [] [] f fd) (T : Txt K mg gs FS) (tc : TabC K C) : FnOk P w K mg base CX0 1 f fd ["table"] (spWrite K C) := by
  refine F.ok sc_write_table (fun vs H Q E h => ?_) (fun cdv A outer s H vs Q E hr h => ?_)
  · obtain ⟨q, x, rfl, _⟩ := h
    rfl
  · obtain ⟨x, ⟨h, l, r⟩, rfl, ⟨dx, a, b, hx, ha, hb⟩, few, hsz, k⟩ := h
    have hh : ∀ v ∈ h, 0 ≤ v ∧ v < 10 ^ 60 := fun v hv => few_h few hv
    have hl : ∀ v ∈ l, 0 ≤ v ∧ v < 10 ^ 60 := fun v hv => few_l few hv
    have o5 := few.r0
    have o6 := few.r1
    have wk := words_le few (Nat.le_refl _)
    have jf := join_few wk.1 wk.2
    dsimp only at hx ha hb hsz o5 o6 wk jf
    have jb : ∀ {n : Nat}, n ≤ 1003 → n * 61 ≤ 16777216 := fun {n} hn => Nat.le_trans (Nat.mul_le_mul_right _ hn) (by decide)
    refine ⟨_, PSs.nox (pss_cons (ps_setLc (i := 1) (own := [("entry", 2)]) rfl sc_write_table.nd rfl rfl (sw_true rfl rfl rfl (by decide +kernel)) (pi_tup (pe_fld (pv 0) rfl)) (blkOk_by (N := ["table", "words", "entry"]) (sc := defScope s_write_table) (by decide +kernel)) (fun _ _ _ _ _ => by exact (pg_name (i := 2) sc_write_table.nd rfl (Or.inl rfl))) (fun _ _ _ _ _ => by exact pts_nil) (fun _ _ _ _ _ => by exact (pe_callTy call_str_int rfl (T.fr _ (by decide +kernel)) (by decide +kernel) (pa_cons (pv 2) pa_nil)))) (pss_cons (ps_if (pt_not (pt_truth (pe_fld (pv 0) rfl) (fun _ => rfl))) (pss_one (ps_expr (pe_bm PySem.F.plainAttrs_list PySem.F.slot_list_append PySem.F.type_list_append mt_append (pv 1) (pa_cons pe_str pa_nil)))) (pss_cons (ps_expr (pe_bm PySem.F.plainAttrs_list PySem.F.slot_list_append PySem.F.type_list_append mt_append (pv 1) (pa_cons pe_str pa_nil))) (pss_cons (ps_expr (pe_bm PySem.F.plainAttrs_list PySem.F.slot_list_extend PySem.F.type_list_extend mt_extend (pv 1) (pa_cons (pe_lc (own := [("entry", 2)]) rfl sc_write_table.nd (pi_tup (pe_fld (pv 0) rfl)) (blkOk_by (N := ["table", "words", "entry"]) (sc := defScope s_write_table) (by decide +kernel)) (fun _ _ _ _ _ => by exact (pg_name (i := 2) sc_write_table.nd rfl (Or.inl rfl))) (fun _ _ _ _ _ => by exact pts_nil) (fun _ _ _ _ _ => by exact (pe_callTy call_str_int rfl (T.fr _ (by decide +kernel)) (by decide +kernel) (pa_cons (pv 2) pa_nil)))) pa_nil))) (pss_one (ps_expr (pe_bm PySem.F.plainAttrs_list PySem.F.slot_list_extend PySem.F.type_list_extend mt_extend (pv 1) (pa_cons (pe_lst (pa_cons pe_str (pa_cons (pe_callTy call_str_int rfl (T.fr _ (by decide +kernel)) (by decide +kernel) (pa_cons (pe_fld (pv 0) rfl) pa_nil)) pa_nil))) pa_nil))))))) (pss_one (ps_ret (pe_join pe_str (pv 1)))))), ?_⟩
    refine ⟨_, rfl, x, C, dx, _, _, rfl, hx, tc.cl, tc.hd, rfl, a, rfl, ⟨_, ha⟩, fun D hD => ?_⟩
    refine lc_tup (xs := vI h) (fun j G => Same H G ∧ G D = some (.lst (((h.take j).map strN).map V.str))) ⟨NF.Same.new (Same.refl H) hD, upd_same⟩ (fun i G _ z => NF.Same.tup z.1 ha) ?_ ?_
    · rintro j v G hv ⟨sG, hG⟩
      have hj := (List.getElem?_eq_some_iff.mp hv).1
      rw [vI_len] at hj
      obtain rfl : V.int (h[j]) = v := by
        rw [List.getElem?_map, List.getElem?_eq_getElem hj] at hv
        exact Option.some.inj hv
      have hb := hh _ (List.getElem_mem hj)
      refine ⟨rfl, _, rfl, _, rfl, log_okN hb.1 hb.2, _, hG, ?_, NF.Same.mut sG hD, ?_⟩
      · rw [List.length_map, List.length_map, List.length_take]
        exact Nat.lt_of_le_of_lt (show min j h.length ≤ 1000 by omega) (by decide)
      · rw [upd_same, List.take_add_one, List.getElem?_eq_getElem hj, List.map_append, List.map_append]
        rfl
    · rintro G ⟨sG, hG⟩
      have et : h.take (vI h).length = h := by rw [vI_len]; exact List.take_length
      rw [et] at hG
      have hx1 := sG _ _ hx
      have hb1 := NF.Same.tup sG hb
      have xD : x ≠ D := ne_of_none hx hD
      refine ⟨_, rfl, x, C, dx, _, _, rfl, hx1, tc.cl, tc.lp, rfl, _, tru_tup hb1, ?_⟩
      by_cases hl0 : l = []
      · rw [is_nil hl0]
        refine iteT ?_
        refine ⟨_, rfl, Or.inl ⟨rfl, _, SqL.of hG⟩, D, _, _, rfl, rfl, hG, ?_, ?_⟩
        · rw [List.length_map, List.length_map]
          exact Nat.lt_of_le_of_lt (show h.length ≤ 1000 by omega) (by decide)
        have ew : wordsF (h, l, r) = h.map strN ++ ([("never" : Str)] : List Str) := if_pos hl0
        refine ⟨⟨_, rfl⟩, _, rfl, " ", D, wordsF (h, l, r), rfl, rfl, Or.inl (SqL.of ?_), Nat.le_trans jf.2 (jb (by omega)), k _ (NF.Same.mut sG hD)⟩
        rw [ew, upd_same, List.map_append]
        rfl
      · rw [ne_nil hl0]
        refine iteF ?_
        refine ⟨_, rfl, Or.inl ⟨rfl, _, SqL.of hG⟩, D, _, _, rfl, rfl, hG, ?_, ?_⟩
        · rw [List.length_map, List.length_map]
          exact Nat.lt_of_le_of_lt (show h.length ≤ 1000 by omega) (by decide)
        have s2 : Same H (upd G D (.lst (((h.map strN).map V.str) ++ [V.str "then"]))) := NF.Same.mut sG hD
        have hD2 : (upd G D (.lst (((h.map strN).map V.str) ++ [V.str "then"]))) D = some (.lst (((h.map strN).map V.str) ++ [V.str "then"])) := upd_same
        generalize upd G D (.lst (((h.map strN).map V.str) ++ [V.str "then"])) = G2 at s2 hD2
        have hx2 := s2 _ _ hx
        have hb2 := NF.Same.tup s2 hb
        refine ⟨_, rfl, Or.inl ⟨rfl, _, SqL.of hD2⟩, _, rfl, x, C, dx, _, _, rfl, hx2, tc.cl, tc.lp, rfl, b, rfl, ⟨_, hb2⟩, fun D2 hD2n => ?_⟩
        refine lc_tup (xs := vI l) (fun j G' => Same G2 G' ∧ G' D2 = some (.lst (((l.take j).map strN).map V.str))) ⟨NF.Same.new (Same.refl _) hD2n, upd_same⟩ (fun i G' _ z => NF.Same.tup z.1 hb2) ?_ ?_
        · rintro j v G' hv ⟨sG', hG'⟩
          have hj := (List.getElem?_eq_some_iff.mp hv).1
          rw [vI_len] at hj
          obtain rfl : V.int (l[j]) = v := by
            rw [List.getElem?_map, List.getElem?_eq_getElem hj] at hv
            exact Option.some.inj hv
          have hb := hl _ (List.getElem_mem hj)
          refine ⟨rfl, _, rfl, _, rfl, log_okN hb.1 hb.2, _, hG', ?_, NF.Same.mut sG' hD2n, ?_⟩
          · rw [List.length_map, List.length_map, List.length_take]
            exact Nat.lt_of_le_of_lt (show min j l.length ≤ 1000 by omega) (by decide)
          · rw [upd_same, List.take_add_one, List.getElem?_eq_getElem hj, List.map_append, List.map_append]
            rfl
        · rintro G' ⟨sG', hG'⟩
          have et : l.take (vI l).length = l := by rw [vI_len]; exact List.take_length
          rw [et] at hG'
          have hD3 := sG' _ _ hD2
          have dd : D2 ≠ D := fun z => by
            rw [z] at hD2n
            rw [hD2n] at hD2
            cases hD2
          refine ⟨D, D2, _, _, rfl, rfl, hD3, hG', ?_, ?_⟩
          · rw [List.length_append, List.length_map, List.length_map, List.length_map, List.length_map]
            exact Nat.le_trans (show h.length + 1 + l.length ≤ 1001 by omega) (by decide)
          have s3 : Same H (upd G' D (.lst (((h.map strN).map V.str) ++ [V.str "then"] ++ ((l.map strN).map V.str)))) := NF.Same.mut (Same.trans s2 sG') hD
          have hD4 : (upd G' D (.lst (((h.map strN).map V.str) ++ [V.str "then"] ++ ((l.map strN).map V.str)))) D = some (.lst (((h.map strN).map V.str) ++ [V.str "then"] ++ ((l.map strN).map V.str))) := upd_same
          generalize upd G' D (.lst (((h.map strN).map V.str) ++ [V.str "then"] ++ ((l.map strN).map V.str))) = G3 at s3 hD4
          have hx3 := s3 _ _ hx
          refine ⟨_, rfl, Or.inl ⟨rfl, _, SqL.of hD4⟩, _, rfl, x, C, dx, _, _, rfl, hx3, tc.cl, tc.ri, rfl, _, rfl, log_okN o5 o6, (by show 2 ≤ sizeLine; decide), fun p4 hp4 => ?_⟩
          have s4 := NF.Same.new (o := .lst [V.str "up", V.str (strN r)]) (Same.refl G3) hp4
          refine ⟨D, p4, _, _, rfl, rfl, s4 _ _ hD4, upd_same, ?_, ?_⟩
          · rw [List.length_append, List.length_append, List.length_map, List.length_map, List.length_map, List.length_map]
            exact Nat.le_trans (show h.length + 1 + l.length + 2 ≤ 1003 by omega) (by decide)
          have ew : wordsF (h, l, r) = h.map strN ++ ([("then" : Str)] : List Str) ++ l.map strN ++ ([("up" : Str), strN r] : List Str) := if_neg hl0
          refine ⟨⟨_, rfl⟩, _, rfl, " ", D, wordsF (h, l, r), rfl, rfl, Or.inl (SqL.of ?_), Nat.le_trans jf.2 (jb (by omega)), k _ (NF.Same.mut (Same.trans s3 s4) hD)⟩
          rw [ew, upd_same, List.map_append, List.map_append, List.map_append]
          rfl
end
end K10
set_option Elab.async false
set_option linter.all false
set_option maxRecDepth 100000
set_option maxHeartbeats 4000000
namespace K10
open NT
theorem big : (10 : Int) ^ 59 + 2000 + 1000 * 1000 + 1000000 < 10 ^ 60 := by decide
theorem gr_at {x : List Int × List Int × Int} (a : Gr x) {n : Nat} (hn : 1 ≤ n) {v : Int} (e : at_ x.1 x.2.1 x.2.2 n = some v) : 0 ≤ v ∧ v ≤ 10 ^ 59 + 2000 + 1000 * (n : Int) :=
  ⟨(asc_at a.g).ge n v hn e, at_bound a.bh a.bl a.g.r0 a.r (by decide) hn e⟩
theorem gr_few {x : List Int × List Int × Int} (a : Gr x) : Few x (10 ^ 60) := by
  have b := big
  have h := a.h
  have l := a.l
  refine ⟨fun n v hn h2 e => ?_, a.g.r0, Int.lt_of_le_of_lt a.r (by decide)⟩
  have := gr_at a hn e
  omega
theorem gr_tel {x : List Int × List Int × Int} (a : Gr x) : Tel0 x := ⟨a.g, a.h, a.l, a.r⟩
theorem told_ok {x y : List Int × List Int × Int} (a : Gr x) (t : Told x y) : Good y.1 y.2.1 y.2.2 ∧ (∀ n, 1 ≤ n → at_ y.1 y.2.1 y.2.2 n = at_ x.1 x.2.1 x.2.2 n) ∧ y.1.length + y.2.1.length ≤ 300 ∧ Few y (10 ^ 60) := by
  obtain ⟨more, t, m4, m0, t0, t3, rfl⟩ := t
  have g := tell_good a.g m0 t0
  have ta := tell_at (h := x.1) (l := x.2.1) (r := x.2.2) m0 t0
  have b := big
  have h := a.h
  have l := a.l
  have hN : x.1.length + more + x.2.1.length * t ≤ 300 := by
    have : x.2.1.length * t ≤ 4 * 3 := Nat.mul_le_mul l t3
    omega
  generalize hNN : x.1.length + more + x.2.1.length * t = N at *
  dsimp only at g ta ⊢
  have len : ((tell x.1 x.2.1 x.2.2 N).take (x.1.length + more)).length + ((tell x.1 x.2.1 x.2.2 N).drop (x.1.length + more)).length ≤ 300 := by
    rw [List.length_take, List.length_drop, tell_len]
    omega
  refine ⟨g, ta, len, ⟨fun n v hn h2 e => ?_, g.r0, ?_⟩⟩
  · dsimp only at h2 e
    have := gr_at a hn ((ta n hn).symm.trans e)
    omega
  · show x.2.2 * (t : Int) < 10 ^ 60
    have : x.2.2 * (t : Int) ≤ 1000 * 3 := Int.mul_le_mul a.r (by omega) (by omega) (by decide)
    omega
theorem raw_put {x : List Int × List Int × Int} (a : Raw0 x) : Put x := ⟨a.g, Nat.le_trans a.h (by decide), Nat.le_trans a.l (by decide), Int.le_trans a.r (by decide)⟩
theorem raw_at {x : List Int × List Int × Int} (a : Raw0 x) {n : Nat} (hn : 1 ≤ n) {v : Int} (e : at_ x.1 x.2.1 x.2.2 n = some v) : 0 ≤ v ∧ v ≤ 100 + 1000 * (n : Int) :=
  ⟨(asc_at a.g).ge n v hn e, at_bound a.bh a.bl a.g.r0 a.r (by decide) hn e⟩
theorem raw_fin {x : List Int × List Int × Int} (a : Raw0 x) {v : Int} (e : fin_ x.2.1 x.2.2 = some v) : v ≤ 100 := by
  unfold fin_ at e
  by_cases c : x.2.1 = [] ∨ 0 < x.2.2
  · rw [if_pos c] at e
    cases e
  · rw [if_neg c] at e
    injection e with e
    have : x.2.1 ≠ [] := fun z => c (.inl z)
    have := len_pos this
    have := a.bl (x.2.1.length - 1) (by omega)
    omega
theorem beh_at {x : List Int × List Int × Int} (a : Raw0 x) {n : Nat} (hn : 1 ≤ n) (hn2 : n ≤ 1001) {v : Int} (e : beh x.1 x.2.1 x.2.2 x.1 x.2.1 x.2.2 n = some v) : 0 ≤ v ∧ v ≤ 10 ^ 10 := by
  refine ⟨(beh_asc a.g a.g).ge n v hn e, ?_⟩
  unfold beh at e
  cases q : at_ x.1 x.2.1 x.2.2 n with
  | none =>
    rw [q] at e
    have := raw_fin a e
    omega
  | some k =>
    rw [q] at e
    have hk := raw_at a hn q
    have e' : val_ x.1 x.2.1 x.2.2 (some k.toNat) = some v := e
    unfold val_ at e'
    dsimp only at e'
    by_cases c : k.toNat = 0
    · rw [if_pos c] at e'
      injection e' with e'
      omega
    · rw [if_neg c] at e'
      have := raw_at a (by omega) e'
      omega
theorem tells_few {x u : List Int × List Int × Int} (a : Raw0 x) (t : Tells x x u) : Few u (10 ^ 60) := by
  obtain ⟨g, ta, len⟩ := t
  refine ⟨fun n v hn h2 e => ?_, g.r0, ?_⟩
  · have := beh_at a hn (by omega) ((ta n hn).symm.trans e)
    exact ⟨this.1, Int.lt_of_le_of_lt this.2 (by decide)⟩
  · by_cases hl : u.2.1 = []
    · rw [g.rl hl]
      decide
    · have l0 := len_pos hl
      have e : at_ u.1 u.2.1 u.2.2 (u.1.length + u.2.1.length + 1) = some (u.2.1.getD 0 0 + u.2.2) := by
        rw [at_loop hl (by omega), show u.1.length + u.2.1.length + 1 - u.1.length - 1 = 0 + u.2.1.length by omega, walk_add l0, walk_lt l0]
      have h1 := beh_at a (by omega) (by omega) ((ta _ (by omega)).symm.trans e)
      have h2 := climbs_lo g.lp l0
      have : u.2.2 ≤ 10 ^ 10 := by omega
      exact Int.lt_of_le_of_lt this (by decide)
/-- a plain form of what is short can be asked, told and written -/
theorem plain_short {h l : List Int} {r : Int} {z : List Int × List Int × Int} (p : IsPlain h l r z) {n : Nat} (hn : h.length + l.length ≤ n) : z.1.length + z.2.1.length ≤ n := by
  have q := plain_size p
  have := q.1
  have := q.2.1
  omega
end K10
set_option Elab.async false
set_option linter.all false
set_option maxRecDepth 100000
set_option maxHeartbeats 4000000
namespace K10
open PySem PySem.Spec PyProof.Rows L2 He NF RZ NT
/-- x * y -/
def spMul (K : PySem.W.Frag) (C : Addr) : Sp := fun vs H Q _ => ∃ (x1 x2 : Addr) (y1 y2 : List Int × List Int × Int), vs = [.ref x1, .ref x2] ∧ TabAt K C H x1 y1 ∧ TabAt K C H x2 y2 ∧ Put y1 ∧ Put y2 ∧
  ∀ x u z H', Tells y1 y2 u → IsPlain u.1 u.2.1 u.2.2 z → Same H H' → TabAt K C H' x z → Q (.ref x) H'
theorem sc_Table___mul__ : FnScope ["self", "other", "head", "loop", "rise"] ["self", "other"] (defScope s_Table_mul) := ⟨rfl, rfl, rfl, by decide +kernel, rfl, by decide +kernel, by decide +kernel⟩
section
variable {P : Program} {w : World} {K : PySem.W.Frag} {mg : Str → Option Value} {base : Heap} {gs fs : List Str} {C : Addr}
theorem ok_Table_mul {f : Addr} {fd : FuncData} (F : FunD K "__mul__" "Table.__mul__" (defArgs s_Table_mul) (defBody s_Table_mul) (defScope s_Table_mul) [] [] f fd) (T : Txt K mg gs FS) (c_behind_form : Cal P w K mg base 4 "behind_form" (spBehind K C)) (m_Table : Mak P w K mg base 4 0 "Table" C (spInit K C) []) : FnOk P w K mg base CX0 6 f fd ["self", "other"] (spMul K C) := by
  refine F.ok sc_Table___mul__ (fun vs H Q E h => ?_) (fun cdv A outer s H vs Q E hr h => ?_)
  · obtain ⟨x1, x2, y1, y2, rfl, _⟩ := h
    rfl
  · obtain ⟨x1, x2, y1, y2, rfl, tb1, tb2, p1, p2, q⟩ := h
    refine ⟨_, PSs.nox (pss_cons (ps_asg (pe_c c_behind_form hr (by decide) rfl (pa_cons (pv 0) (pa_cons (pv 1) pa_nil))) (pgt (K := K) (n := 3) rfl rfl (pgs_cons (pg_name (i := 2) sc_Table___mul__.nd rfl (Or.inl rfl)) (pgs_cons (pg_name (i := 3) sc_Table___mul__.nd rfl (Or.inl rfl)) (pgs_cons (pg_name (i := 4) sc_Table___mul__.nd rfl (Or.inl rfl)) pgs_nil))))) (pss_one (ps_ret (pe_mk m_Table hr (by decide) rfl (pa_cons (pv 2) (pa_cons (pv 3) (pa_cons (pv 4) pa_nil))))))), ?_⟩
    refine ⟨_, rfl, _, rfl, x1, x2, y1, y2, rfl, tb1, tb2, p1, p2, fun p u H1 s1 tl ⟨a, b, hp, ha, hb⟩ => ?_⟩
    refine ⟨p, _, rfl, hp, rfl, _, _, rfl, ?_⟩
    refine ⟨_, _, rfl, ?_⟩
    refine ⟨_, _, rfl, ?_⟩
    refine ⟨rfl, ?_⟩
    refine ⟨_, rfl, _, rfl, _, rfl, ?_⟩
    intro x dx nx nd ne
    exact ⟨x, dx, a, b, u.1, u.2.1, u.2.2, rfl, upd_same, row_made nx nd (.inr ha), row_made nx nd (.inr hb), tl.1, tl.2.2, fun z H' hz s tb => ⟨rfl, q x u z H' tl hz (Same.trans s1 (same_made nx nd s)) tb⟩⟩
end
end K10
set_option Elab.async false
set_option linter.all false
set_option maxRecDepth 100000
set_option maxHeartbeats 4000000
namespace K10
open PySem PySem.Spec PyProof.Rows L2 He NF RZ NT
def spPlainL (K : PySem.W.Frag) : Sp := fun vs H Q _ => ∃ (a b : Addr) (h l : List Int) (r : Int), vs = [.ref a, .ref b, .int r] ∧ SqL K H a (vI h) ∧ SqL K H b (vI l) ∧ h.length ≤ 1000 ∧ l.length ≤ 1000 ∧ ∀ p x H', IsPlain h l r x → Same H H' → FormAt K H' p x → Q (.ref p) H'
section
variable {P : Program} {w : World} {K : PySem.W.Frag} {mg : Str → Option Value} {base : Heap} {gs : List Str}
theorem ok__law_plainL {f : Addr} {fd : FuncData} (F : FunD K "_law_plain" "_law_plain" (defArgs s__law_plain) (defBody s__law_plain) (defScope s__law_plain) [] [] f fd) (T : Txt K mg gs FS) : FnOk P w K mg base CX0 1 f fd ["_law_head", "_law_loop", "_law_rise"] (spPlainL K) := by
  refine F.ok sc__law_plain (fun vs H Q E h => ?_) (fun cdv A outer s H vs Q E hr h => ?_)
  · obtain ⟨a, b, h, l, r, rfl, _⟩ := h
    rfl
  · obtain ⟨a, b, h, l, r, rfl, ha, hb, hh, hll, q⟩ := h
    refine ⟨_, PSs.nox (pss_cons (ps_if (pt_cmpR op_eq (pe_callB call_len_seq rfl (T.fr _ (by decide +kernel)) boot_len (pa_cons (pv 1) pa_nil)) pe_int (nomark _)) (pss_one (ps_ret (pe_tup (pa_cons (pe_callTy cr_tup rfl (T.fr _ (by decide +kernel)) (by decide +kernel) (pa_cons (pv 0) pa_nil)) (pa_cons (pe_tup pa_nil) (pa_cons pe_int pa_nil)))))) pss_nil) (pss_cons (ps_set (i := 3) sc__law_plain.nd rfl (Or.inl rfl) (pe_callB call_len_seq rfl (T.fr _ (by decide +kernel)) boot_len (pa_cons (pv 1) pa_nil))) (pss_cons (ps_for PassesOwn.never rfl (pi_range3 rfl (T.fr _ (by decide +kernel)) (pa_cons (pe_callB call_len_seq rfl (T.fr _ (by decide +kernel)) boot_len (pa_cons (pv 1) pa_nil)) (pa_cons pe_int (pa_cons (pe_un un_neg pe_int) pa_nil)))) (pg_name (i := 4) sc__law_plain.nd rfl (Or.inr rfl)) (pss_cons (ps_set (i := 6) sc__law_plain.nd rfl (Or.inl rfl) (pe_op op_fdiv (pe_callB call_len_seq rfl (T.fr _ (by decide +kernel)) boot_len (pa_cons (pv 1) pa_nil)) (pv 4))) (pss_cons (ps_if (PW.pt (pw_or (pt_cmpR op_ne (pe_op op_mul (pv 6) (pv 4)) (pe_callB call_len_seq rfl (T.fr _ (by decide +kernel)) boot_len (pa_cons (pv 1) pa_nil)) (nomark _)) (pw_or1 (pt_cmpR op_ne (pe_op op_mod (pe_callTy call_int1 rfl (T.fr _ (by decide +kernel)) (by decide +kernel) (pa_cons (pv 2) pa_nil)) (pv 6)) pe_int (nomark _))))) (pss_one ps_continue) pss_nil) (pss_cons (ps_set (i := 7) sc__law_plain.nd rfl (Or.inr rfl) (pe_op op_fdiv (pv 2) (pv 6))) (pss_one (ps_if (pt_val (pe_callB (cr_all rfl) rfl (T.fr _ (by decide +kernel)) (by decide +kernel) (pa_cons (pe_lc (own := [("_law_k", 8)]) rfl sc__law_plain.nd (pi_range1 rfl (T.fr _ (by decide +kernel)) (pa_cons (pe_op op_sub (pe_callB call_len_seq rfl (T.fr _ (by decide +kernel)) boot_len (pa_cons (pv 1) pa_nil)) (pv 4)) pa_nil)) (blkOk_by (N := ["_law_head", "_law_loop", "_law_rise", "_law_size", "_law_many", "_law_row", "_law_turns", "_law_step", "_law_k"]) (sc := defScope s__law_plain) (by decide +kernel)) (fun _ _ _ _ _ => by exact (pg_name (i := 8) sc__law_plain.nd rfl (Or.inl rfl))) (fun _ _ _ _ _ => by exact pts_nil) (fun _ _ _ _ _ => by exact (pe_cmpR op_eq (pe_ix (ixl (K := K)) (pv 1) (pe_op op_add (pv 8) (pv 4)) fun _ _ => rfl) (pe_op op_add (pe_ix (ixl (K := K)) (pv 1) (pv 8) fun _ _ => rfl) (pv 7)) (nomark _)))) pa_nil))) (pss_one (ps_set (i := 3) sc__law_plain.nd rfl (Or.inl rfl) (pv 4))) pss_nil)))))) (pss_cons (ps_set (i := 2) sc__law_plain.nd rfl (Or.inl rfl) (pe_op op_fdiv (pv 2) (pe_op op_fdiv (pe_callB call_len_seq rfl (T.fr _ (by decide +kernel)) boot_len (pa_cons (pv 1) pa_nil)) (pv 3)))) (pss_cons (ps_set (i := 5) sc__law_plain.nd rfl (Or.inl rfl) (pe_op op_cat (pe_callTy call_list_of rfl (T.fr _ (by decide +kernel)) (by decide +kernel) (pa_cons (pv 0) pa_nil)) (pe_callTy call_list_of rfl (T.fr _ (by decide +kernel)) (by decide +kernel) (pa_cons (pe_slice sl_list (pv 1) po_none (po_some (pv 3))) pa_nil)))) (pss_cons (ps_while PassesOwn.never (PW.pt (pw_and (pt_cmpR op_gt (pe_callB call_len_seq rfl (T.fr _ (by decide +kernel)) boot_len (pa_cons (pv 5) pa_nil)) (pv 3) (nomark _)) (pw_and1 (pt_cmpR op_eq (pe_ix (ixl (K := K)) (pv 5) (pe_op op_sub (pe_un un_neg pe_int) (pv 3)) fun _ _ => rfl) (pe_op op_sub (pe_ix (ixl (K := K)) (pv 5) (pe_un un_neg pe_int) fun _ _ => rfl) (pv 2)) (nomark _))))) (pss_one (ps_set (i := 5) sc__law_plain.nd rfl (Or.inl rfl) (pe_slice sl_list (pv 5) po_none (po_some (pe_un un_neg pe_int)))))) (pss_one (ps_ret (pe_tup (pa_cons (pe_callTy cr_tup rfl (T.fr _ (by decide +kernel)) (by decide +kernel) (pa_cons (pe_slice sl_list (pv 5) po_none (po_some (pe_op op_sub (pe_callB call_len_seq rfl (T.fr _ (by decide +kernel)) boot_len (pa_cons (pv 5) pa_nil)) (pv 3)))) pa_nil)) (pa_cons (pe_callTy cr_tup rfl (T.fr _ (by decide +kernel)) (by decide +kernel) (pa_cons (pe_slice sl_list (pv 5) (po_some (pe_op op_sub (pe_callB call_len_seq rfl (T.fr _ (by decide +kernel)) boot_len (pa_cons (pv 5) pa_nil)) (pv 3))) po_none) pa_nil)) (pa_cons (pv 2) pa_nil)))))))))))), ?_⟩
    refine ⟨_, rfl, b, _, rfl, Or.inl hb, rfl, _, rfl, ?_⟩
    by_cases hl : l = []
    · refine (iteT' (decide_eq_true (by rw [hl]; rfl)) ?_)
      subst hl
      refine ⟨_, rfl, a, _, rfl, Or.inl ha, fun p1 G1 s1 t1 => ?_⟩
      refine ⟨(by show 0 ≤ sizeLine; decide), fun p2 hp2 => ?_⟩
      refine ⟨(by show 3 ≤ sizeLine; decide), fun p3 hp3 => ?_⟩
      have s6 := NF.Same.new (o := .tup []) (Same.refl G1) hp2
      have s7 := NF.Same.new (o := .tup [V.ref p1, V.ref p2, V.int 0]) s6 hp3
      exact q p3 (h, [], 0) _ (.inl ⟨rfl, rfl⟩) (Same.trans s1 s7) ⟨p1, p2, SqT.of upd_same, NF.Same.tup s7 t1, SqT.of (by rw [upd_ne (ne_of_none upd_same hp3)]; exact upd_same)⟩
    refine (iteF' (decide_eq_false (fun z => hl ?_)) ?_)
    · injection z with z
      rw [vI_len] at z
      exact List.eq_nil_of_length_eq_zero (by omega)
    have hp := len_pos hl
    refine ⟨_, rfl, b, _, rfl, Or.inl hb, ?_⟩
    refine ⟨_, rfl, b, _, rfl, Or.inl hb, _, rfl, _, _, _, l.length, rfl, ?_, ?_⟩
    · have := RgC.neg (i := ((vI l).length : Int)) (j := 0) (by rw [vI_len]; omega) (by rw [vI_len]; omega) (by omega) (by omega)
      rw [vI_len, Int.sub_zero, Int.toNat_natCast] at this
      rw [vI_len]
      exact this
    -- the shortest lap
    refine for_rangeC (n := l.length) (fun i σ G => Same H G ∧ ∃ s : Nat, (0 < s ∧ s ∣ l.length ∧ Per (walk l r) s ∧ ∀ m', l.length - i < m' → m' ∣ l.length → Per (walk l r) m' → s ≤ m') ∧ ∃ v1 v2 v3 : Option V, σ = [some (.ref a), some (.ref b), some (.int r), some (.int (s : Int)), v1, none, v2, v3, none])
      ⟨Same.refl _, l.length, ⟨hp, Nat.dvd_refl _, per_self hl, fun m' h1 _ _ => by omega⟩, none, none, none, ?_⟩ ?_ ?_
    · rw [vI_len]
      rfl
    · rintro i σ G hi ⟨s1, sz, ⟨z0, z1, z2, z3⟩, v1, v2, v3, rfl⟩
      have hb1 := L2.Same.seq s1 hb
      obtain ⟨m, hm⟩ : ∃ m : Nat, m = l.length - i := ⟨_, rfl⟩
      have m0 : 0 < m := by omega
      have mle : m ≤ l.length := by omega
      have e1 : ((vI l).length : Int) + (i : Int) * (-1) = (m : Int) := by rw [vI_len]; omega
      rw [e1]
      obtain ⟨t, htt⟩ : ∃ t : Nat, t = l.length / m := ⟨_, rfl⟩
      have t0 : 0 < t := by rw [htt]; exact Nat.div_pos mle m0
      have tle : t ≤ l.length := by rw [htt]; exact Nat.div_le_self _ _
      have e2 : ((vI l).length : Int) / (m : Int) = (t : Int) := by rw [vI_len, htt]; rfl
      refine ⟨_, rfl, b, _, rfl, Or.inl hb1, _, rfl, _, _, rfl, rfl, ⟨by omega, by omega⟩, ?_⟩
      show gName 6 (V.int (((vI l).length : Int) / (m : Int))) _ _ _
      rw [e2]
      have hnext : ∀ {v3' : Option V}, ¬ (m ∣ l.length ∧ Per (walk l r) m) → (fun σ G => Same H G ∧ ∃ s : Nat, (0 < s ∧ s ∣ l.length ∧ Per (walk l r) s ∧ ∀ m', l.length - (i + 1) < m' → m' ∣ l.length → Per (walk l r) m' → s ≤ m') ∧ ∃ v1 v2 v3 : Option V, σ = [some (.ref a), some (.ref b), some (.int r), some (.int (s : Int)), v1, none, v2, v3, none])
          [some (.ref a), some (.ref b), some (.int r), some (.int (sz : Int)), some (.int (m : Int)), none, some (.int (t : Int)), v3', none] G := fun hn => by
        refine ⟨s1, sz, ⟨z0, z1, z2, fun m' h1 h2 h3 => ?_⟩, _, _, _, rfl⟩
        by_cases c : m' = m
        · subst c
          exact absurd ⟨h2, h3⟩ hn
        · exact z3 m' (by omega) h2 h3
      refine ⟨_, rfl, _, rfl, _, _, rfl, rfl, Or.inr ⟨by omega, by omega⟩, _, rfl, b, _, rfl, Or.inl hb1, rfl, _, rfl, ?_⟩
      by_cases hd : ¬ m ∣ l.length
      · refine iteT' ?_ (iteT (hnext fun z => hd z.1))
        rw [decide_eq_false (fun z => hd ?_)]
        · rfl
        injection z with z
        rw [vI_len] at z
        have z' : t * m = l.length := Int.ofNat.inj (by rw [← Int.natCast_mul] at z; exact z)
        exact ⟨t, by rw [Nat.mul_comm]; exact z'.symm⟩
      have hd := Classical.not_not.mp hd
      have hmt : m * t = l.length := by rw [htt]; exact Nat.mul_div_cancel' hd
      refine iteF' ?_ ?_
      · rw [decide_eq_true]
        · rfl
        rw [vI_len, ← hmt, Int.natCast_mul, Int.mul_comm]
      have hiff := law_iff (r := r) hl m0 hmt
      refine ⟨_, rfl, Or.inl ⟨_, rfl, _, rfl, _, _, rfl, rfl, (by show (0 : Int) < (t : Int); omega), rfl, _, rfl, ?_⟩⟩
      by_cases hrt : ¬ r % (t : Int) = 0
      · refine iteT' ?_ (hnext fun z => hrt (hiff.mpr z.2).1)
        rw [decide_eq_false (fun z => hrt (by injection z))]
        rfl
      have hrt := Classical.not_not.mp hrt
      refine iteF' ?_ ?_
      · rw [decide_eq_true (congrArg V.int hrt)]
        rfl
      refine ⟨_, rfl, _, rfl, _, _, rfl, rfl, ⟨by omega, by omega⟩, ?_⟩
      -- all
      refine ⟨_, rfl, b, _, rfl, Or.inl hb1, _, rfl, _, _, rfl, rfl, _, rfl, ?_⟩
      rw [vI_len]
      refine ⟨by omega, by omega, fun D hD => ?_⟩
      have en : ((l.length : Int) - (m : Int)).toNat = l.length - m := by omega
      rw [en]
      refine lc_range (lo := 0) (n := l.length - m) (fun j G' => Same G G' ∧ G' D = some (.lst (((List.range j).map fun k => decide (V.int (l.getD (k + m) 0) = V.int (l.getD k 0 + r / (t : Int)))).map V.bl))) ⟨NF.Same.new (Same.refl G) hD, upd_same⟩ ?_ ?_
      · rintro j G' hj ⟨hG, hD2⟩
        have e1 : (0 : Int) + (j : Int) = (j : Int) := Int.zero_add _
        rw [e1]
        have hb2 := L2.Same.seq hG hb1
        refine ⟨rfl, _, rfl, _, rfl, _, rfl, _, _, rfl, rfl, b, _, _, _, rfl, rfl, hb2, at_int (k := j + m) (by omega) (by omega), ?_⟩
        refine ⟨_, rfl, _, rfl, b, _, _, _, rfl, rfl, hb2, at_int (k := j) rfl (by omega), _, rfl, _, _, rfl, rfl, rfl, ?_⟩
        refine ⟨_, hD2, by rw [List.length_map, List.length_map, List.length_range]; exact Nat.lt_of_lt_of_le (show j < 1000 by omega) (by decide), NF.Same.mut hG hD, ?_⟩
        rw [upd_same, List.range_succ, List.map_append, List.map_append]
        rfl
      · rintro G' ⟨hG, hD2⟩
        refine ⟨D, _, rfl, SqL.of hD2, _, rfl, ?_⟩
        have s2 := Same.trans s1 hG
        have hcond : ((List.range (l.length - m)).map fun k => decide (V.int (l.getD (k + m) 0) = V.int (l.getD k 0 + r / (t : Int)))).all id = true ↔ ∀ k, k + m < l.length → l.getD (k + m) 0 = l.getD k 0 + r / (t : Int) := by
          rw [all_range]
          constructor
          · intro hk k hk2
            have := of_decide_eq_true (hk k (by omega))
            injection this
          · intro hk k hk2
            exact decide_eq_true (congrArg V.int (hk k (by omega)))
        refine ite2 (fun hc => ?_) (fun hc => ?_)
        · have hper := hiff.mp ⟨hrt, hcond.mp hc⟩
          refine ⟨_, rfl, s2, m, ⟨m0, hd, hper, fun m' h1 _ _ => by omega⟩, _, _, _, rfl⟩
        · refine ⟨s2, sz, ⟨z0, z1, z2, fun m' h1 h2 h3 => ?_⟩, _, _, _, rfl⟩
          by_cases c : m' = m
          · subst c
            exact absurd (hcond.mpr (hiff.mpr h3).2) hc
          · exact z3 m' (by omega) h2 h3
    · rintro σ G ⟨s1, m, ⟨z0, z1, z2, z3⟩, v1, v2, v3, rfl⟩
      have hm : LapIs l r m := ⟨z0, z1, z2, fun m' h1 h2 h3 => z3 m' (by omega) h2 h3⟩
      have hle : m ≤ l.length := Nat.le_of_dvd hp z1
      obtain ⟨t, ht⟩ := z1
      have t0 : 0 < t := Nat.pos_of_ne_zero fun z => by rw [z, Nat.mul_zero] at ht; omega
      have hc := per_at hl z0 z2 ht.symm
      have ha1 := L2.Same.seq s1 ha
      have hb1 := L2.Same.seq s1 hb
      have e2 : ((vI l).length : Int) / (m : Int) = (t : Int) := by
        rw [vI_len, ht, Int.natCast_mul, Int.mul_ediv_cancel_left _ (by omega)]
      have tle : t ≤ l.length := by rw [ht]; exact Nat.le_mul_of_pos_left _ z0
      refine ⟨_, rfl, _, rfl, b, _, rfl, Or.inl hb1, _, rfl, _, _, rfl, rfl, ⟨by omega, by omega⟩, ?_⟩
      show rI CDiv _ (V.int r) (V.int (((vI l).length : Int) / (m : Int))) _ _
      rw [e2]
      refine ⟨_, _, rfl, rfl, ⟨by omega, by omega⟩, ?_⟩
      show gName 2 (V.int (r / (t : Int))) _ _ _
      generalize hcc : r / (t : Int) = cc at hc
      refine ⟨_, rfl, a, _, rfl, Or.inl ha1, fun q1 hq1 => ?_⟩
      have s2 := NF.Same.new (o := .lst (vI h)) s1 hq1
      refine ⟨_, rfl, _, rfl, _, rfl, ?_⟩
      have hb2 := L2.Same.seq (NF.Same.new (o := .lst (vI h)) (Same.refl G) hq1) hb1
      refine ⟨b, _, rfl, hb2, fun p2 hp2 => ?_⟩
      rw [cut_to, vI_take]
      have s3 := NF.Same.new (o := .lst (vI (l.take m))) (Same.refl (upd G q1 (.lst (vI h)))) hp2
      refine ⟨p2, _, rfl, Or.inl (SqL.of upd_same), fun q2 hq2 => ?_⟩
      generalize hG2 : upd (upd G q1 (.lst (vI h))) p2 (.lst (vI (l.take m))) = G2 at s3 hq2 ⊢
      have hq1' : upd G2 q2 (.lst (vI (l.take m))) q1 = some (.lst (vI h)) := by
        have := s3 _ _ (upd_same (H := G) (a := q1) (o := .lst (vI h)))
        rw [upd_ne (ne_of_none this hq2)]
        exact this
      have hel : (h ++ l.take m).length = h.length + m := by rw [List.length_append, List.length_take, Nat.min_eq_left hle]
      refine ⟨q1, q2, _, _, rfl, rfl, hq1', upd_same, ?_, fun q3 hq3 => ?_⟩
      · rw [vI_len, vI_len, List.length_take]
        exact Nat.le_trans (show h.length + min m l.length ≤ 2000 by omega) (by decide)
      rw [vI_app]
      have s4 : Same H (upd (upd G2 q2 (.lst (vI (l.take m)))) q3 (.lst (vI (h ++ l.take m)))) := NF.Same.new (NF.Same.new (Same.trans s2 s3) hq2) hq3
      refine ⟨fun k σ G' => Same H G' ∧ k ≤ h.length ∧ cut (h ++ l.take m) m cc h.length = cut (h ++ l.take m) m cc k ∧ ∃ pr, G' pr = some (.lst (vI ((h ++ l.take m).take (k + m)))) ∧ σ = [some (.ref a), some (.ref b), some (.int cc), some (.int (m : Int)), v1, some (.ref pr), v2, v3, none],
        ⟨h.length, s4, Nat.le_refl _, rfl, q3, by rw [upd_same, show (h ++ l.take m).take (h.length + m) = h ++ l.take m from List.take_of_length_le (by omega)], rfl⟩, ?_⟩
      rintro k σ G' ⟨s5, hk, hcut, pr, hpr, rfl⟩
      have hlen : ((h ++ l.take m).take (k + m)).length = k + m := by rw [List.length_take, hel]; omega
      -- what is handed back
      have hdone : cut (h ++ l.take m) m cc k = k → (tRet (tTup (tCons (tCB (rTupOf K) (tCons (tSl (rSlL K) (tVar 5) tNoPart (tPart (tOp (rI0 fun i j => .int (i - j)) (tCB (fun xs H Q => ∃ a ys, xs = [.ref a] ∧ (SqL K H a ys ∨ SqT K H a ys) ∧ Q (.int (ys.length : Int)) H) (tCons (tVar 5) tNil)) (tVar 3)))) tNil))
          (tCons (tCB (rTupOf K) (tCons (tSl (rSlL K) (tVar 5) (tPart (tOp (rI0 fun i j => .int (i - j)) (tCB (fun xs H Q => ∃ a ys, xs = [.ref a] ∧ (SqL K H a ys ∨ SqT K H a ys) ∧ Q (.int (ys.length : Int)) H) (tCons (tVar 5) tNil)) (tVar 3))) tNoPart) tNil)) (tCons (tVar 2) tNil))))) { nx := fun _ H' => Q .non H', rt := Q }
          [some (.ref a), some (.ref b), some (.int cc), some (.int (m : Int)), v1, some (.ref pr), v2, v3, none] G' := fun hk2 => by
        have e5 : ((vI ((h ++ l.take m).take (k + m))).length : Int) - (m : Int) = (k : Int) := by rw [vI_len, hlen]; omega
        refine ⟨_, rfl, _, rfl, pr, _, rfl, Or.inl (SqL.of hpr), _, rfl, _, _, rfl, rfl, _, rfl, ?_⟩
        rw [e5]
        refine ⟨pr, _, rfl, SqL.of hpr, fun q1 hq1 => ?_⟩
        rw [cut_to, vI_take, List.take_take, Nat.min_eq_left (by omega)]
        refine ⟨q1, _, rfl, Or.inl (SqL.of upd_same), fun p1 G1 s6 t1 => ?_⟩
        have s06 : Same G' G1 := Same.trans (NF.Same.new (Same.refl G') hq1) s6
        have hpr1 := s06 _ _ hpr
        refine ⟨_, rfl, _, rfl, pr, _, rfl, Or.inl (SqL.of hpr1), _, rfl, _, _, rfl, rfl, _, rfl, ?_⟩
        rw [e5]
        refine ⟨pr, _, rfl, SqL.of hpr1, fun q2 hq2 => ?_⟩
        rw [cut_from, vI_drop]
        refine ⟨q2, _, rfl, Or.inl (SqL.of upd_same), fun p2 G2 s7 t2 => ?_⟩
        have s17 : Same G1 G2 := Same.trans (NF.Same.new (Same.refl G1) hq2) s7
        refine ⟨_, rfl, (by show 3 ≤ sizeLine; decide), fun p6 hp6 => ?_⟩
        have s8 := NF.Same.new (o := .tup [V.ref p1, V.ref p2, V.int cc]) (Same.refl G2) hp6
        have hx := plain_is (h := h) hl hm hc
        rw [hcut, hk2] at hx
        have ew : ((h ++ l.take m).take (k + m)).drop k = win (h ++ l.take m) k m := by
          unfold win
          rw [List.drop_take, Nat.add_sub_cancel_left]
        rw [ew] at t2
        exact q p6 _ _ hx (Same.trans s5 (Same.trans s06 (Same.trans s17 s8))) ⟨p1, p2, SqT.of upd_same, NF.Same.tup (Same.trans s17 s8) t1, NF.Same.tup s8 t2⟩
      refine ⟨_, rfl, pr, _, rfl, Or.inl (SqL.of hpr), _, rfl, _, _, rfl, rfl, _, rfl, ?_⟩
      refine ite2 (fun h1 => ?_) (fun h1 => ?_)
      · have k0 : 0 < k := by
          have := of_decide_eq_true h1
          rw [vI_len, hlen] at this
          omega
        obtain ⟨j, rfl⟩ : ∃ j, k = j + 1 := ⟨k - 1, by omega⟩
        have g1 : ((h ++ l.take m).take (j + 1 + m)).getD j 0 = (h ++ l.take m).getD j 0 := getD_take (by omega)
        have g2 : ((h ++ l.take m).take (j + 1 + m)).getD (j + m) 0 = (h ++ l.take m).getD (j + m) 0 := getD_take (by omega)
        refine ⟨_, rfl, _, rfl, _, rfl, _, _, rfl, rfl, pr, _, _, _, rfl, rfl, SqL.of hpr, at_neg (n := j) (by rw [hlen]; omega) (by omega) (by rw [hlen]; omega), ?_⟩
        refine ⟨_, rfl, _, rfl, pr, _, _, _, rfl, rfl, SqL.of hpr, at_neg (n := j + m) (by rw [hlen]; omega) (by omega) (by rw [hlen]; omega), _, rfl, _, _, rfl, rfl, rfl, _, rfl, ?_⟩
        rw [g1, g2]
        refine ite2 (fun h2 => ?_) (fun h2 => ?_)
        · have h2' : (h ++ l.take m).getD j 0 + cc = (h ++ l.take m).getD (j + m) 0 := by
            have := of_decide_eq_true h2
            injection this
            omega
          refine ⟨fun σ' G2 => Same H G2 ∧ ∃ pr', G2 pr' = some (.lst (vI ((h ++ l.take m).take (j + m)))) ∧ σ' = [some (.ref a), some (.ref b), some (.int cc), some (.int (m : Int)), v1, some (.ref pr'), v2, v3, none], fun σ' G2 ⟨z1, pr', z2, z3⟩ => ⟨j, Nat.lt_succ_self j, z1, by omega, ?_, pr', z2, z3⟩, ?_⟩
          · rw [hcut]
            show (if (h ++ l.take m).getD j 0 + cc = (h ++ l.take m).getD (j + m) 0 then _ else _) = _
            rw [if_pos h2']
          · refine ⟨_, rfl, _, rfl, _, rfl, pr, _, rfl, SqL.of hpr, fun q4 hq4 => ?_⟩
            refine ⟨NF.Same.new s5 hq4, q4, ?_, rfl⟩
            rw [upd_same]
            show some (HO.lst (cutV _ none (some (-((1 : Nat) : Int))))) = _
            rw [cut_toN (by decide), vI_len, hlen, vI_take, List.take_take, Nat.min_eq_left (by omega)]
            congr 4
            omega
        · refine hdone ?_
          show (if (h ++ l.take m).getD j 0 + cc = (h ++ l.take m).getD (j + m) 0 then _ else _) = _
          rw [if_neg fun z => h2 (decide_eq_true (congrArg V.int (by omega)))]
      · have k0 : k = 0 := by
          have : ¬ (m : Int) < ((vI ((h ++ l.take m).take (k + m))).length : Int) := fun z => h1 (decide_eq_true z)
          rw [vI_len, hlen] at this
          omega
        subst k0
        exact hdone rfl
end
end K10
set_option Elab.async false
set_option linter.all false
set_option maxRecDepth 100000
set_option maxHeartbeats 4000000
namespace NT
theorem seg_allK {F : Nat → Option Int} {a m : Nat} (h : ∀ k, k < m → F (a + k + 1) ≠ none) : (seg F a m).map NF.vO = NF.vI (segN F a m) := by
  unfold seg segN NF.vI
  rw [List.map_map, List.map_map]
  refine List.map_congr_left fun k hk => ?_
  show NF.vO (F (a + k + 1)) = .int (numF F (a + k + 1))
  rw [numF_some (h k (List.mem_range.mp hk))]
  rfl
theorem seg_get {F : Nat → Option Int} {a m k : Nat} (hk : k < m) : (seg F a m)[k]? = some (F (a + k + 1)) := by
  unfold seg
  rw [List.getElem?_map, List.getElem?_range hk]
  rfl
theorem segN_take {F : Nat → Option Int} {a b : Nat} : (segN F 0 (a + b)).take a = segN F 0 a := by
  rw [segN_add, List.take_append_of_le_length (by rw [segN_len]; exact Nat.le_refl _), List.take_of_length_le (by rw [segN_len]; exact Nat.le_refl _)]
theorem segN_drop {F : Nat → Option Int} {a b : Nat} : (segN F 0 (a + b)).drop a = segN F a b := by
  rw [segN_add, List.drop_append_of_le_length (by rw [segN_len]; exact Nat.le_refl _), List.drop_of_length_le (by rw [segN_len]; exact Nat.le_refl _), List.nil_append, Nat.zero_add]
end NT
namespace K10
open PySem PySem.Spec PyProof.Rows L2 He NF RZ NT
def spCounts (K : PySem.W.Frag) : Sp := fun vs H Q _ => ∃ (a : Addr) (F : Nat → Option Int) (N : Nat), vs = [.ref a] ∧ SqL K H a ((seg F 0 N).map vO) ∧ Asc F ∧ N ≤ 2000 ∧ ∀ q H', Same H H' → H' q = some (.lst (vI ((seg F 0 N).filterMap id))) → Q (.ref q) H'
def spFit (K : PySem.W.Frag) : Sp := fun vs H Q _ => ∃ (a : Addr) (F : Nat → Option Int) (N m : Nat) (r : Int), vs = [.ref a, .int (m : Int), .int r] ∧ SqL K H a (vI (segN F 0 (N + m))) ∧ N + m ≤ 1000 ∧ ∀ p x H', IsPlain (segN F 0 N) (segN F N m) r x → Same H H' → FormAt K H' p x → Q (.ref p) H'
theorem sc__law_counts : FnScope ["_law_values", "_law_told", "_law_value"] ["_law_values"] (defScope s__law_counts) := ⟨rfl, rfl, rfl, by decide +kernel, rfl, by decide +kernel, by decide +kernel⟩
theorem sc__law_fit : FnScope ["_law_values", "_law_many", "_law_rise"] ["_law_values", "_law_many", "_law_rise"] (defScope s__law_fit) := ⟨rfl, rfl, rfl, by decide +kernel, rfl, by decide +kernel, by decide +kernel⟩
section
variable {P : Program} {w : World} {K : PySem.W.Frag} {mg : Str → Option Value} {base : Heap} {gs fs : List Str} {C : Addr}
theorem ok__law_counts {f : Addr} {fd : FuncData} (F : FunD K "_law_counts" "_law_counts" (defArgs s__law_counts) (defBody s__law_counts) (defScope s__law_counts) [] [] f fd) (T : Txt K mg gs FS) : FnOk P w K mg base CX0 1 f fd ["_law_values"] (spCounts K) := by
  refine F.ok sc__law_counts (fun vs H Q E h => ?_) (fun cdv A outer s H vs Q E hr h => ?_)
  · obtain ⟨a, f, N, rfl, _⟩ := h
    rfl
  · obtain ⟨a, f, N, rfl, ha, As, hN, q⟩ := h
    obtain ⟨M, hM, eM, sM, zM⟩ := cnt_ex As N
    refine ⟨_, PSs.nox (pss_cons (ps_set (i := 1) sc__law_counts.nd rfl (Or.inl rfl) (pe_lst pa_nil)) (pss_cons (ps_for PassesOwn.never rfl (pi_list (pv 0)) (pg_name (i := 2) sc__law_counts.nd rfl (Or.inl rfl)) (pss_cons (ps_if (pt_cmpR op_isN (pv 2) pe_non (nomark _)) (pss_one (ps_ret (pv 1))) pss_nil) (pss_one (ps_expr (pe_bm PySem.F.plainAttrs_list PySem.F.slot_list_append PySem.F.type_list_append mt_append (pv 1) (pa_cons (pv 2) pa_nil)))))) (pss_one (ps_ret (pv 1))))), ?_⟩
    refine ⟨(by show 0 ≤ sizeLine; decide), fun D hD => ?_⟩
    have s1 := NF.Same.new (o := .lst []) (Same.refl H) hD
    refine ⟨_, rfl, a, rfl, ⟨_, L2.Same.seq s1 ha⟩, ?_⟩
    refine for_it (walk_list (xs := (seg f 0 N).map vO)) (fun i σ G => Same H G ∧ i ≤ M ∧ G D = some (.lst (vI (segN f 0 i))) ∧ ∃ v, σ = [some (.ref a), some (.ref D), v]) ⟨s1, Nat.zero_le _, upd_same, none, rfl⟩ (fun i σ G _ z => L2.Same.seq z.1 ha) ?_ ?_
    · rintro i x σ G G' hi ⟨sG, iM, hG, v, rfl⟩ ⟨rfl, hx⟩
      rw [List.length_map, seg_len] at hi
      rw [List.getElem?_map, seg_get hi, show 0 + i + 1 = i + 1 by omega] at hx
      obtain rfl : vO (f (i + 1)) = x := Option.some.inj hx
      cases e : f (i + 1) with
      | none =>
        have : M = i := by
          rcases Nat.lt_or_ge i M with c | c
          · exact absurd e (sM (i + 1) (by omega) (by omega))
          · omega
        refine ⟨_, rfl, rfl, _, rfl, iteT ?_⟩
        refine ⟨_, rfl, q D G' sG ?_⟩
        rw [eM, this]
        exact hG
      | some u =>
        have iM' : i + 1 ≤ M := by
          rcases Nat.lt_or_ge i M with c | c
          · omega
          · have := zM (i + 1) (by omega) (by omega)
            rw [e] at this
            cases this
        refine ⟨_, rfl, rfl, _, rfl, iteF ?_⟩
        refine ⟨_, rfl, .inl ⟨rfl, _, SqL.of hG⟩, _, rfl, D, _, _, rfl, rfl, hG, ?_, ?_⟩
        · rw [vI_len, segN_len]
          exact Nat.lt_of_le_of_lt (show i ≤ 2000 by omega) (by decide)
        · refine ⟨NF.Same.mut sG hD, iM', ?_, _, rfl⟩
          rw [upd_same, segN_succ, ← vI_app, show 0 + i + 1 = i + 1 by omega]
          unfold numF
          rw [e]
          rfl
    · rintro σ G ⟨sG, iM, hG, v, rfl⟩
      rw [List.length_map, seg_len] at iM hG
      refine ⟨_, rfl, q D G sG ?_⟩
      rw [eM, show M = N by omega]
      exact hG
theorem ok__law_fit {f : Addr} {fd : FuncData} (F : FunD K "_law_fit" "_law_fit" (defArgs s__law_fit) (defBody s__law_fit) (defScope s__law_fit) [] [] f fd) (T : Txt K mg gs FS) (c__law_plain : Cal P w K mg base 1 "_law_plain" (spPlainL K)) : FnOk P w K mg base CX0 2 f fd ["_law_values", "_law_many", "_law_rise"] (spFit K) := by
  refine F.ok sc__law_fit (fun vs H Q E h => ?_) (fun cdv A outer s H vs Q E hr h => ?_)
  · obtain ⟨a, f, N, m, r, rfl, _⟩ := h
    rfl
  · obtain ⟨a, f, N, m, r, rfl, ha, hN, q⟩ := h
    refine ⟨_, PSs.nox (pss_one (ps_ret (pe_c c__law_plain hr (by decide) rfl (pa_cons (pe_slice sl_list (pv 0) po_none (po_some (pe_op op_sub (pe_callB call_len_seq rfl (T.fr _ (by decide +kernel)) boot_len (pa_cons (pv 0) pa_nil)) (pv 1)))) (pa_cons (pe_slice sl_list (pv 0) (po_some (pe_op op_sub (pe_callB call_len_seq rfl (T.fr _ (by decide +kernel)) boot_len (pa_cons (pv 0) pa_nil)) (pv 1))) po_none) (pa_cons (pv 2) pa_nil)))))), ?_⟩
    have ei : ((vI (segN f 0 (N + m))).length : Int) - (m : Int) = (N : Int) := by rw [vI_len, segN_len]; omega
    refine ⟨_, rfl, _, rfl, a, _, rfl, Or.inl ha, _, rfl, _, _, rfl, rfl, _, rfl, a, _, rfl, ha, fun p1 h1 => ?_⟩
    rw [ei, cut_to, vI_take, segN_take]
    have s1 := NF.Same.new (o := .lst (vI (segN f 0 N))) (Same.refl H) h1
    have ha1 := L2.Same.seq s1 ha
    refine ⟨_, rfl, _, rfl, a, _, rfl, Or.inl ha1, _, rfl, _, _, rfl, rfl, _, rfl, a, _, rfl, ha1, fun p2 h2 => ?_⟩
    rw [ei, cut_from, vI_drop, segN_drop]
    have s2 := NF.Same.new (o := .lst (vI (segN f N m))) s1 h2
    have hp1 : (upd (upd H p1 (.lst (vI (segN f 0 N)))) p2 (.lst (vI (segN f N m)))) p1 = some (.lst (vI (segN f 0 N))) := by rw [upd_ne (ne_of_none upd_same h2)]; exact upd_same
    exact ⟨_, rfl, p1, p2, _, _, r, rfl, SqL.of hp1, SqL.of upd_same, by rw [segN_len]; omega, by rw [segN_len]; omega, fun p x H' hx s3 fo => q p x H' hx (Same.trans s2 s3) fo⟩
end
end K10
set_option Elab.async false
set_option linter.all false
set_option maxRecDepth 100000
set_option maxHeartbeats 4000000
namespace K10
open PySem PySem.Spec PyProof.Rows L2 He NF RZ NT
def spLBehind (K : PySem.W.Frag) : Sp := fun vs H Q _ => ∃ (p1 p2 : Addr) (x1 x2 : List Int × List Int × Int), vs = [.ref p1, .ref p2] ∧ FormAt K H p1 x1 ∧ FormAt K H p2 x2 ∧ Put x1 ∧ Put x2 ∧
  ∀ p u z H', Same H H' → Tells x1 x2 u → IsPlain u.1 u.2.1 u.2.2 z → FormAt K H' p z → Q (.ref p) H'
theorem sc__law_behind : FnScope ["_law_first", "_law_second", "_law_start", "_law_turns", "_law_many", "_law_values", "_law_upto", "_law_n"] ["_law_first", "_law_second"] (defScope s__law_behind) := ⟨rfl, rfl, rfl, by decide +kernel, rfl, by decide +kernel, by decide +kernel⟩
theorem ended_tells {y1 y2 : List Int × List Int × Int} (g1 : Put y1) (g2 : Put y2) {N : Nat} (hN : N ≤ 1000) (z : ∀ n, N < n → beh y1.1 y1.2.1 y1.2.2 y2.1 y2.2.1 y2.2.2 n = none) :
    Tells y1 y2 ((seg (beh y1.1 y1.2.1 y1.2.2 y2.1 y2.2.1 y2.2.2) 0 N).filterMap id, [], 0) := by
  have A := beh_asc g1.g g2.g
  obtain ⟨a, b, c, d⟩ := settled_ok A (N := N) (t := none) z
  exact ⟨a, b, by
    have : (settled (seg (beh y1.1 y1.2.1 y1.2.2 y2.1 y2.2.1 y2.2.2) 0 N) none).1.length ≤ N := c
    show ((seg (beh y1.1 y1.2.1 y1.2.2 y2.1 y2.2.1 y2.2.2) 0 N).filterMap id).length + 0 ≤ 1000
    have e : settled (seg (beh y1.1 y1.2.1 y1.2.2 y2.1 y2.2.1 y2.2.2) 0 N) none = ((seg (beh y1.1 y1.2.1 y1.2.2 y2.1 y2.2.1 y2.2.2) 0 N).filterMap id, [], 0) := rfl
    rw [e] at this
    dsimp only at this
    omega⟩
section
variable {P : Program} {w : World} {K : PySem.W.Frag} {mg : Str → Option Value} {base : Heap} {gs fs : List Str} {C : Addr}
theorem ok__law_behind {f : Addr} {fd : FuncData} (F : FunD K "_law_behind" "_law_behind" (defArgs s__law_behind) (defBody s__law_behind) (defScope s__law_behind) [] [] f fd) (T : Txt K mg gs FS) (c__law_at : Cal P w K mg base 2 "_law_at" (spLAt K)) (c__law_gcd : Cal P w K mg base 1 "_law_gcd" spGcd) (c__law_counts : Cal P w K mg base 1 "_law_counts" (spCounts K)) (c__law_fit : Cal P w K mg base 2 "_law_fit" (spFit K)) : FnOk P w K mg base CX0 3 f fd ["_law_first", "_law_second"] (spLBehind K) := by
  refine F.ok sc__law_behind (fun vs H Q E h => ?_) (fun cdv A outer s H vs Q E hr h => ?_)
  · obtain ⟨p1, p2, x1, x2, rfl, _⟩ := h
    rfl
  · obtain ⟨q1, q2, ⟨h1, l1, r1⟩, ⟨h2, l2, r2⟩, rfl, fo1, fo2, p1, p2, q⟩ := h
    have fo10 := fo1
    have fo20 := fo2
    obtain ⟨a1, b1, hq1, ha1, hb1⟩ := fo10
    obtain ⟨a2, b2, hq2, ha2, hb2⟩ := fo20
    have sm1 := p1.small
    have sm2 := p2.small
    have g1 := p1.g
    have g2 := p2.g
    have lh1 := p1.h
    have ll1 := p1.l
    have lr1 := p1.r
    have lh2 := p2.h
    have ll2 := p2.l
    have lr2 := p2.r
    have A := beh_asc g1 g2
    dsimp only at hq1 ha1 hb1 hq2 ha2 hb2 g1 g2 lh1 ll1 lr1 lh2 ll2 lr2 A q
    have r20 := g2.r0
    have r10 := g1.r0
    -- one more value
    have arg : ∀ (n : Nat), [V.ref q1, vO (val_ h2 l2 r2 (some (n + 1)))] = [V.ref q1, vN ((at_ h2 l2 r2 (n + 1)).map Int.toNat)] := fun n => by
      have e : val_ h2 l2 r2 (some (n + 1)) = at_ h2 l2 r2 (n + 1) := by
        unfold val_
        dsimp only
        rw [if_neg (Nat.succ_ne_zero n)]
      rw [e, vO_vN fun i hi => (asc_at g2).ge _ _ (by omega) hi]
    have put : ∀ (D : Addr) (G : Hp) (n : Nat), H D = none → n ≤ 1500 → (Same H G ∧ G D = some (.lst ((seg (beh h1 l1 r1 h2 l2 r2) 0 n).map vO))) → ((seg (beh h1 l1 r1 h2 l2 r2) 0 n).map vO).length < sizeLine ∧ Same H (upd G D (.lst ((seg (beh h1 l1 r1 h2 l2 r2) 0 n).map vO ++ [vO (beh h1 l1 r1 h2 l2 r2 (n + 1))]))) ∧
        (upd G D (.lst ((seg (beh h1 l1 r1 h2 l2 r2) 0 n).map vO ++ [vO (beh h1 l1 r1 h2 l2 r2 (n + 1))]))) D = some (.lst ((seg (beh h1 l1 r1 h2 l2 r2) 0 (n + 1)).map vO)) := fun D G n hD hn z => by
      refine ⟨?_, NF.Same.mut z.1 hD, ?_⟩
      · rw [List.length_map, seg_len]
        exact Nat.lt_of_le_of_lt (show n ≤ 1500 by omega) (by decide)
      · rw [upd_same, seg_succ, List.map_append, show 0 + n + 1 = n + 1 by omega]
        rfl
    refine ⟨_, PSs.nox (pss_cons (ps_if (PW.pt (pw_or (pt_cmpR op_eq (pe_callB call_len_seq rfl (T.fr _ (by decide +kernel)) boot_len (pa_cons (pe_ix (ixt (K := K)) (pv 1) pe_int fun _ _ => rfl) pa_nil)) pe_int (nomark _)) (pw_or1 (pt_cmpR op_eq (pe_ix (ixt (K := K)) (pv 1) pe_int fun _ _ => rfl) pe_int (nomark _))))) (pss_cons (ps_set (i := 6) sc__law_behind.nd rfl (Or.inl rfl) (pe_op op_add (pe_op op_add (pe_callB call_len_seq rfl (T.fr _ (by decide +kernel)) boot_len (pa_cons (pe_ix (ixt (K := K)) (pv 1) pe_int fun _ _ => rfl) pa_nil)) (pe_callB call_len_seq rfl (T.fr _ (by decide +kernel)) boot_len (pa_cons (pe_ix (ixt (K := K)) (pv 1) pe_int fun _ _ => rfl) pa_nil))) pe_int)) (pss_cons (ps_setLc (i := 5) (own := [("_law_n", 7)]) rfl sc__law_behind.nd rfl rfl (sw_true rfl rfl rfl (by decide +kernel)) (pi_range1 rfl (T.fr _ (by decide +kernel)) (pa_cons (pv 6) pa_nil)) (blkOk_by (N := ["_law_first", "_law_second", "_law_start", "_law_turns", "_law_many", "_law_values", "_law_upto", "_law_n"]) (sc := defScope s__law_behind) (by decide +kernel)) (fun _ _ _ _ _ => by exact (pg_name (i := 7) sc__law_behind.nd rfl (Or.inl rfl))) (fun _ _ _ _ _ => by exact pts_nil) (fun _ _ _ _ _ => by exact (pe_c c__law_at hr (by decide) rfl (pa_cons (pv 0) (pa_cons (pe_c c__law_at hr (by decide) rfl (pa_cons (pv 1) (pa_cons (pe_op op_add (pv 7) pe_int) pa_nil))) pa_nil))))) (pss_cons (ps_if (pt_cmpR op_isN (pe_ix (ixl (K := K)) (pv 5) (pe_un un_neg pe_int) fun _ _ => rfl) pe_non (nomark _)) (pss_one (ps_ret (pe_tup (pa_cons (pe_callTy cr_tup rfl (T.fr _ (by decide +kernel)) (by decide +kernel) (pa_cons (pe_c c__law_counts hr (by decide) rfl (pa_cons (pv 5) pa_nil)) pa_nil)) (pa_cons (pe_tup pa_nil) (pa_cons pe_int pa_nil)))))) pss_nil) (pss_one (ps_ret (pe_c c__law_fit hr (by decide) rfl (pa_cons (pv 5) (pa_cons pe_int (pa_cons pe_int pa_nil))))))))) pss_nil) (pss_cons (ps_set (i := 2) sc__law_behind.nd rfl (Or.inl rfl) (pe_callB call_len_seq rfl (T.fr _ (by decide +kernel)) boot_len (pa_cons (pe_ix (ixt (K := K)) (pv 1) pe_int fun _ _ => rfl) pa_nil))) (pss_cons (ps_while PassesOwn.never (pt_cmpR op_le (pe_c c__law_at hr (by decide) rfl (pa_cons (pv 1) (pa_cons (pe_op op_add (pv 2) pe_int) pa_nil))) (pe_callB call_len_seq rfl (T.fr _ (by decide +kernel)) boot_len (pa_cons (pe_ix (ixt (K := K)) (pv 0) pe_int fun _ _ => rfl) pa_nil)) (nomark _)) (pss_one (ps_set (i := 2) sc__law_behind.nd rfl (Or.inl rfl) (pe_op op_add (pv 2) pe_int)))) (pss_cons (ps_if (pt_cmpR op_eq (pe_callB call_len_seq rfl (T.fr _ (by decide +kernel)) boot_len (pa_cons (pe_ix (ixt (K := K)) (pv 0) pe_int fun _ _ => rfl) pa_nil)) pe_int (nomark _)) (pss_cons (ps_setLc (i := 5) (own := [("_law_n", 7)]) rfl sc__law_behind.nd rfl rfl (sw_true rfl rfl rfl (by decide +kernel)) (pi_range1 rfl (T.fr _ (by decide +kernel)) (pa_cons (pe_op op_add (pv 2) pe_int) pa_nil)) (blkOk_by (N := ["_law_first", "_law_second", "_law_start", "_law_turns", "_law_many", "_law_values", "_law_upto", "_law_n"]) (sc := defScope s__law_behind) (by decide +kernel)) (fun _ _ _ _ _ => by exact (pg_name (i := 7) sc__law_behind.nd rfl (Or.inl rfl))) (fun _ _ _ _ _ => by exact pts_nil) (fun _ _ _ _ _ => by exact (pe_c c__law_at hr (by decide) rfl (pa_cons (pv 0) (pa_cons (pe_c c__law_at hr (by decide) rfl (pa_cons (pv 1) (pa_cons (pe_op op_add (pv 7) pe_int) pa_nil))) pa_nil))))) (pss_one (ps_ret (pe_tup (pa_cons (pe_callTy cr_tup rfl (T.fr _ (by decide +kernel)) (by decide +kernel) (pa_cons (pe_c c__law_counts hr (by decide) rfl (pa_cons (pv 5) pa_nil)) pa_nil)) (pa_cons (pe_tup pa_nil) (pa_cons pe_int pa_nil))))))) pss_nil) (pss_cons (ps_set (i := 3) sc__law_behind.nd rfl (Or.inl rfl) (pe_op op_fdiv (pe_callB call_len_seq rfl (T.fr _ (by decide +kernel)) boot_len (pa_cons (pe_ix (ixt (K := K)) (pv 0) pe_int fun _ _ => rfl) pa_nil)) (pe_c c__law_gcd hr (by decide) rfl (pa_cons (pe_callB call_len_seq rfl (T.fr _ (by decide +kernel)) boot_len (pa_cons (pe_ix (ixt (K := K)) (pv 0) pe_int fun _ _ => rfl) pa_nil)) (pa_cons (pe_ix (ixt (K := K)) (pv 1) pe_int fun _ _ => rfl) pa_nil))))) (pss_cons (ps_set (i := 4) sc__law_behind.nd rfl (Or.inl rfl) (pe_op op_mul (pe_callB call_len_seq rfl (T.fr _ (by decide +kernel)) boot_len (pa_cons (pe_ix (ixt (K := K)) (pv 1) pe_int fun _ _ => rfl) pa_nil)) (pv 3))) (pss_cons (ps_setLc (i := 5) (own := [("_law_n", 7)]) rfl sc__law_behind.nd rfl rfl (sw_true rfl rfl rfl (by decide +kernel)) (pi_range1 rfl (T.fr _ (by decide +kernel)) (pa_cons (pe_op op_add (pv 2) (pv 4)) pa_nil)) (blkOk_by (N := ["_law_first", "_law_second", "_law_start", "_law_turns", "_law_many", "_law_values", "_law_upto", "_law_n"]) (sc := defScope s__law_behind) (by decide +kernel)) (fun _ _ _ _ _ => by exact (pg_name (i := 7) sc__law_behind.nd rfl (Or.inl rfl))) (fun _ _ _ _ _ => by exact pts_nil) (fun _ _ _ _ _ => by exact (pe_c c__law_at hr (by decide) rfl (pa_cons (pv 0) (pa_cons (pe_c c__law_at hr (by decide) rfl (pa_cons (pv 1) (pa_cons (pe_op op_add (pv 7) pe_int) pa_nil))) pa_nil))))) (pss_one (ps_ret (pe_c c__law_fit hr (by decide) rfl (pa_cons (pv 5) (pa_cons (pv 4) (pa_cons (pe_op op_mul (pe_ix (ixt (K := K)) (pv 0) pe_int fun _ _ => rfl) (pe_op op_fdiv (pe_op op_mul (pe_ix (ixt (K := K)) (pv 1) pe_int fun _ _ => rfl) (pv 3)) (pe_callB call_len_seq rfl (T.fr _ (by decide +kernel)) boot_len (pa_cons (pe_ix (ixt (K := K)) (pv 0) pe_int fun _ _ => rfl) pa_nil)))) pa_nil))))))))))))), ?_⟩
    by_cases cA : l2 = [] ∨ r2 = 0
    · refine' both1 (fun kA => ?A1) ?B1
      case A1 =>
        refine ⟨_, rfl, q2, _, _, _, rfl, rfl, hq2, at1, b2, _, rfl, Or.inr hb2, rfl, _, rfl, ?_⟩
        rw [vI_len]
        by_cases hl : l2 = []
        · exact iteT' (decide_eq_true (by rw [hl]; rfl)) (iteT kA)
        · refine iteF' (decide_eq_false fun z => hl (by injection z with z; exact List.eq_nil_of_length_eq_zero (by omega))) ?_
          exact ⟨_, rfl, q2, _, _, _, rfl, rfl, hq2, at2, rfl, _, rfl, iteT' (decide_eq_true (congrArg V.int (cA.resolve_left hl))) kA⟩
      case B1 =>
        refine ⟨_, rfl, q2, _, _, _, rfl, rfl, hq2, at0, a2, _, rfl, Or.inr ha2, _, rfl, q2, _, _, _, rfl, rfl, hq2, at1, b2, _, rfl, Or.inr hb2, ?_⟩
        rw [vI_len, vI_len]
        refine ⟨_, _, rfl, rfl, _, _, rfl, rfl, ?_⟩
        obtain ⟨N, hN⟩ : ∃ N, N = h2.length + l2.length := ⟨_, rfl⟩
        have eN : (h2.length : Int) + (l2.length : Int) + 1 = ((N + 1 : Nat) : Int) := by omega
        show gName 6 (V.int ((h2.length : Int) + (l2.length : Int) + 1)) _ _ _
        rw [eN]
        refine ⟨_, rfl, ((N + 1 : Nat) : Int), rfl, by omega, by omega, fun D hD => ?_⟩
        refine lc_range (lo := 0) (n := N + 1) (fun j G => Same H G ∧ G D = some (.lst ((seg (beh h1 l1 r1 h2 l2 r2) 0 j).map vO))) ⟨NF.Same.new (Same.refl H) hD, upd_same⟩ ?_ ?_
        · rintro j G hj hG
          rw [Int.zero_add]
          obtain ⟨n1, n2, n3⟩ := put D G j hD (by omega) hG
          refine ⟨rfl, _, rfl, _, rfl, _, rfl, _, _, rfl, rfl, q2, _, some (j + 1), rfl, fo2.mono hG.1, sm2, ?_⟩
          exact ⟨q1, _, _, arg j, fo1.mono hG.1, sm1, _, hG.2, n1, n2, n3⟩
        · rintro G ⟨sG, hG⟩
          have hF : ∀ n, h2.length < n → beh h1 l1 r1 h2 l2 r2 n = beh h1 l1 r1 h2 l2 r2 (N + 1) := fun n hn => by
            rw [beh_end g2 cA hn, beh_end g2 cA (by omega)]
          have hlast : atI ((seg (beh h1 l1 r1 h2 l2 r2) 0 (N + 1)).map vO) (-1) = some (vO (beh h1 l1 r1 h2 l2 r2 (N + 1))) := by
            unfold atI ixN
            rw [if_neg (by decide), List.length_map, seg_len, if_pos (by omega)]
            show ((seg (beh h1 l1 r1 h2 l2 r2) 0 (N + 1)).map vO)[((-1 : Int) + ((N + 1 : Nat) : Int)).toNat]? = _
            rw [show ((-1 : Int) + ((N + 1 : Nat) : Int)).toNat = N by omega, List.getElem?_map, seg_get (by omega), show 0 + N + 1 = N + 1 by omega]
            rfl
          cases ho : beh h1 l1 r1 h2 l2 r2 (N + 1) with
          | none =>
            rw [ho] at hlast
            refine ⟨_, rfl, _, rfl, D, _, _, _, rfl, rfl, SqL.of hG, hlast, rfl, _, rfl, iteT ?_⟩
            refine ⟨_, rfl, D, _, N + 1, rfl, SqL.of hG, A, by omega, fun q3 H3 s3 h3 => ?_⟩
            refine ⟨q3, _, rfl, .inl (SqL.of h3), fun p4 H4 s4 t4 => ?_⟩
            refine ⟨(by show 0 ≤ sizeLine; decide), fun p5 h5 => ⟨(by show 3 ≤ sizeLine; decide), fun p6 h6 => ?_⟩⟩
            have s5 := NF.Same.new (o := .tup []) (Same.refl H4) h5
            have s6 := NF.Same.new (o := .tup [V.ref p4, V.ref p5, V.int 0]) s5 h6
            refine q p6 ((seg (beh h1 l1 r1 h2 l2 r2) 0 (N + 1)).filterMap id, [], 0) _ _ (Same.trans sG (Same.trans s3 (Same.trans s4 s6))) (ended_tells p1 p2 (N := N + 1) (by omega) fun n hn => (hF n (by omega)).trans ho) (.inl ⟨rfl, rfl⟩) ⟨p4, p5, SqT.of upd_same, NF.Same.tup s6 t4, SqT.of (by rw [upd_ne (ne_of_none upd_same h6)]; exact upd_same)⟩
          | some v =>
            rw [ho] at hlast
            have sall : ∀ n, 1 ≤ n → beh h1 l1 r1 h2 l2 r2 n ≠ none := fun n hn z => by
              by_cases c : n ≤ N + 1
              · have := A.none_up hn z c
                rw [ho] at this
                cases this
              · rw [hF n (by omega), ho] at z
                cases z
            rw [seg_allK fun k hk => sall _ (by omega)] at hG
            refine ⟨_, rfl, _, rfl, D, _, _, _, rfl, rfl, SqL.of (hG.trans (congrArg (fun z => some (HO.lst z)) (seg_allK fun k hk => sall _ (by omega)).symm)), hlast, rfl, _, rfl, iteF ?_⟩
            refine ⟨_, rfl, D, _, N, 1, 0, rfl, SqL.of hG, by omega, fun p x H' hx s' fo => ?_⟩
            have L := looped A (N := N) (m := 1) (c := 0) (by decide) sall fun n hn => by
              unfold numF
              rw [hF n (by omega), hF (n + 1) (by omega)]
              simp
            exact q p (segN (beh h1 l1 r1 h2 l2 r2) 0 N, segN (beh h1 l1 r1 h2 l2 r2) N 1, 0) _ H' (Same.trans sG s') ⟨L.1, L.2, by show (segN _ 0 N).length + (segN _ N 1).length ≤ 1000; rw [segN_len, segN_len]; omega⟩ hx fo
    · have hl2 : l2 ≠ [] := fun z => cA (.inl z)
      have r2p : 0 < r2 := by
        have : r2 ≠ 0 := fun z => cA (.inr z)
        omega
      have l20 := len_pos hl2
      have sall2 : ∀ k, at_ h2 l2 r2 k ≠ none := fun k => by
        rw [at_some _ (.inr hl2)]
        exact fun z => by cases z
      refine ⟨_, rfl, q2, _, _, _, rfl, rfl, hq2, at1, b2, _, rfl, Or.inr hb2, rfl, _, rfl, ?_⟩
      rw [vI_len]
      refine iteF' (decide_eq_false fun z => hl2 (by injection z with z; exact List.eq_nil_of_length_eq_zero (by omega))) ?_
      refine ⟨_, rfl, q2, _, _, _, rfl, rfl, hq2, at2, rfl, _, rfl, iteF' (decide_eq_false fun z => ?_) ?_⟩
      · injection z with z
        omega
      refine ⟨_, rfl, q2, _, _, _, rfl, rfl, hq2, at0, a2, _, rfl, Or.inr ha2, ?_⟩
      rw [vI_len]
      -- where the values are beyond the head of the first one
      obtain ⟨B, hB⟩ : ∃ B, B = h2.length + l2.length * (h1.length + 1) := ⟨_, rfl⟩
      have Ble : B ≤ 440 := by
        have : l2.length * (h1.length + 1) ≤ 20 * 21 := Nat.mul_le_mul ll2 (by omega)
        omega
      have farB : (h1.length : Int) < num h2 l2 r2 (B + 1) := by
        unfold num
        rw [at_loop hl2 (by omega), show B + 1 - h2.length - 1 = 0 + l2.length * (h1.length + 1) by omega, walk_add_mul l20, walk_lt l20]
        show (h1.length : Int) < l2.getD 0 0 + r2 * ((h1.length + 1 : Nat) : Int)
        have c0 : 0 ≤ l2.getD 0 0 := climbs_lo g2.lp l20
        have c1 : 1 * ((h1.length + 1 : Nat) : Int) ≤ r2 * ((h1.length + 1 : Nat) : Int) := Int.mul_le_mul_of_nonneg_right (by omega) (by omega)
        omega
      refine ⟨fun k σ G => Same H G ∧ ∃ st : Nat, k = B - st ∧ h2.length ≤ st ∧ st ≤ B ∧ σ = [some (.ref q1), some (.ref q2), some (.int (st : Int)), none, none, none, none, none], ⟨B - h2.length, Same.refl H, h2.length, rfl, Nat.le_refl _, by omega, rfl⟩, ?_⟩
      rintro k σ G ⟨sG, st, rfl, st1, st2, rfl⟩
      have fo2' := fo2.mono sG
      have evs : val_ h2 l2 r2 (some (st + 1)) = some (num h2 l2 r2 (st + 1)) := by
        unfold val_
        dsimp only
        rw [if_neg (Nat.succ_ne_zero st), at_some _ (.inr hl2)]
      refine ⟨_, rfl, _, rfl, _, _, rfl, rfl, q2, _, some (st + 1), rfl, fo2', sm2, ?_⟩
      rw [evs]
      refine ⟨_, rfl, q1, _, _, _, rfl, rfl, NF.Same.tup sG hq1, at0, a1, _, rfl, Or.inr (NF.Same.tup sG ha1), ?_⟩
      rw [vI_len]
      refine ⟨_, _, rfl, rfl, _, rfl, ite2 (fun h => ?_) (fun h => ?_)⟩
      · have hle := of_decide_eq_true h
        have lt : st < B := by
          rcases Nat.lt_or_ge st B with c | c
          · exact c
          · have : st = B := by omega
            subst this
            omega
        refine ⟨fun σ' G' => G' = G ∧ σ' = [some (.ref q1), some (.ref q2), some (.int ((st + 1 : Nat) : Int)), none, none, none, none, none], fun σ' G' ⟨z1, z2⟩ => ?_, ?_⟩
        · subst z1
          exact ⟨B - (st + 1), by omega, sG, st + 1, rfl, by omega, by omega, z2⟩
        · exact ⟨_, rfl, _, _, rfl, rfl, rfl, rfl⟩
      have hgt : (h1.length : Int) < num h2 l2 r2 (st + 1) := by
        have : ¬ num h2 l2 r2 (st + 1) ≤ (h1.length : Int) := fun z => h (decide_eq_true z)
        omega
      have far := far_of g2 hl2 hgt
      have hq1' := NF.Same.tup sG hq1
      have hb1' := NF.Same.tup sG hb1
      have hq2' := NF.Same.tup sG hq2
      have hb2' := NF.Same.tup sG hb2
      have put' : ∀ (D : Addr) (G' : Hp) (n : Nat), G D = none → n ≤ 1500 → (Same G G' ∧ G' D = some (.lst ((seg (beh h1 l1 r1 h2 l2 r2) 0 n).map vO))) → ((seg (beh h1 l1 r1 h2 l2 r2) 0 n).map vO).length < sizeLine ∧ Same G (upd G' D (.lst ((seg (beh h1 l1 r1 h2 l2 r2) 0 n).map vO ++ [vO (beh h1 l1 r1 h2 l2 r2 (n + 1))]))) ∧
          (upd G' D (.lst ((seg (beh h1 l1 r1 h2 l2 r2) 0 n).map vO ++ [vO (beh h1 l1 r1 h2 l2 r2 (n + 1))]))) D = some (.lst ((seg (beh h1 l1 r1 h2 l2 r2) 0 (n + 1)).map vO)) := fun D G' n hD hn z => by
        obtain ⟨y1, _, y3⟩ := put D G' n (L2.Same.free sG hD) hn ⟨Same.trans sG z.1, z.2⟩
        exact ⟨y1, NF.Same.mut z.1 hD, y3⟩
      refine ⟨_, rfl, q1, _, _, _, rfl, rfl, hq1', at1, b1, _, rfl, Or.inr hb1', rfl, _, rfl, ?_⟩
      rw [vI_len]
      by_cases hl1 : l1 = []
      · refine iteT' (decide_eq_true (by rw [hl1]; rfl)) ?_
        refine ⟨_, rfl, _, _, rfl, rfl, ((st + 1 : Nat) : Int), rfl, by omega, by omega, fun D hD => ?_⟩
        refine lc_range (lo := 0) (n := st + 1) (fun j G' => Same G G' ∧ G' D = some (.lst ((seg (beh h1 l1 r1 h2 l2 r2) 0 j).map vO))) ⟨NF.Same.new (Same.refl G) hD, upd_same⟩ ?_ ?_
        · rintro j G' hj hG
          rw [Int.zero_add]
          obtain ⟨n1, n2, n3⟩ := put' D G' j hD (by omega) hG
          refine ⟨rfl, _, rfl, _, rfl, _, rfl, _, _, rfl, rfl, q2, _, some (j + 1), rfl, fo2'.mono hG.1, sm2, ?_⟩
          exact ⟨q1, _, _, arg j, (fo1.mono sG).mono hG.1, sm1, _, hG.2, n1, n2, n3⟩
        · rintro G' ⟨sG', hG⟩
          refine ⟨_, rfl, D, _, st + 1, rfl, SqL.of hG, A, by omega, fun q3 H3 s3 h3 => ?_⟩
          refine ⟨q3, _, rfl, .inl (SqL.of h3), fun p4 H4 s4 t4 => ?_⟩
          refine ⟨(by show 0 ≤ sizeLine; decide), fun p5 h5 => ⟨(by show 3 ≤ sizeLine; decide), fun p6 h6 => ?_⟩⟩
          have s5 := NF.Same.new (o := .tup []) (Same.refl H4) h5
          have s6 := NF.Same.new (o := .tup [V.ref p4, V.ref p5, V.int 0]) s5 h6
          have ef : fin_ l1 r1 = none := if_pos (.inl hl1)
          refine q p6 ((seg (beh h1 l1 r1 h2 l2 r2) 0 (st + 1)).filterMap id, [], 0) _ _ (Same.trans sG (Same.trans sG' (Same.trans s3 (Same.trans s4 s6)))) (ended_tells p1 p2 (N := st + 1) (by omega) fun n hn => ?_) (.inl ⟨rfl, rfl⟩) ⟨p4, p5, SqT.of upd_same, NF.Same.tup s6 t4, SqT.of (by rw [upd_ne (ne_of_none upd_same h6)]; exact upd_same)⟩
          obtain ⟨v, hv, lv⟩ := far n (by omega)
          exact (beh_flat g1 (.inl hl1) hv lv).trans ef
      · have l10 := len_pos hl1
        refine iteF' (decide_eq_false fun z => hl1 (by injection z with z; exact List.eq_nil_of_length_eq_zero (by omega))) ?_
        obtain ⟨rn, hrn⟩ : ∃ rn : Nat, r2 = (rn : Int) := ⟨r2.toNat, by omega⟩
        obtain ⟨gg, hgg⟩ : ∃ gg, gg = Nat.gcd l1.length rn := ⟨_, rfl⟩
        have gg0 : 0 < gg := by rw [hgg]; exact Nat.gcd_pos_of_pos_left _ l10
        have gg1 : gg ≤ l1.length := by rw [hgg]; exact Nat.gcd_le_left _ l10
        obtain ⟨qq, hqq⟩ : gg ∣ l1.length := by rw [hgg]; exact Nat.gcd_dvd_left _ _
        obtain ⟨rq, hrq⟩ : gg ∣ rn := by rw [hgg]; exact Nat.gcd_dvd_right _ _
        have qq0 : 0 < qq := by
          rcases Nat.eq_zero_or_pos qq with z | z
          · rw [z] at hqq; omega
          · exact z
        have qq1 : qq ≤ l1.length := by rw [hqq]; exact Nat.le_mul_of_pos_left _ gg0
        have rq1 : rq ≤ rn := by rw [hrq]; exact Nat.le_mul_of_pos_left _ gg0
        refine ⟨_, rfl, q1, _, _, _, rfl, rfl, hq1', at1, b1, _, rfl, Or.inr hb1', _, rfl, q1, _, _, _, rfl, rfl, hq1', at1, b1, _, rfl, Or.inr hb1', _, rfl, q2, _, _, _, rfl, rfl, hq2', at2, l1.length, rn, by rw [vI_len, hrn]; rfl, fun G1 s1 => ?_⟩
        rw [vI_len, ← hgg]
        refine ⟨_, _, rfl, rfl, ⟨by omega, by omega⟩, ?_⟩
        have eq' : (l1.length : Int) / (gg : Int) = (qq : Int) := by
          rw [hqq, Int.natCast_mul]
          exact Int.mul_ediv_cancel_left _ (by omega)
        show gName 3 (V.int ((l1.length : Int) / (gg : Int))) _ _ _
        rw [eq']
        have hq1c := NF.Same.tup s1 hq1'
        have hb1c := NF.Same.tup s1 hb1'
        have hq2c := NF.Same.tup s1 hq2'
        have hb2c := NF.Same.tup s1 hb2'
        refine ⟨_, rfl, q2, _, _, _, rfl, rfl, hq2c, at1, b2, _, rfl, Or.inr hb2c, ?_⟩
        rw [vI_len]
        refine ⟨_, rfl, _, _, rfl, rfl, Or.inr ⟨by omega, by omega⟩, ?_⟩
        obtain ⟨many, hmany⟩ : ∃ many, many = l2.length * qq := ⟨_, rfl⟩
        have manyle : many ≤ 400 := by rw [hmany]; exact Nat.mul_le_mul (show l2.length ≤ 20 by omega) (show qq ≤ 20 by omega)
        have many0 : 0 < many := by rw [hmany]; exact Nat.mul_pos l20 qq0
        have em : (l2.length : Int) * (qq : Int) = (many : Int) := by rw [hmany, Int.natCast_mul]
        show gName 4 (V.int ((l2.length : Int) * (qq : Int))) _ _ _
        rw [em]
        refine ⟨_, rfl, _, rfl, _, _, rfl, rfl, ((st + many : Nat) : Int), by rw [Int.natCast_add], by omega, by omega, fun D hD => ?_⟩
        have hDG : G D = none := L2.Same.free s1 hD
        refine lc_range (lo := 0) (n := st + many) (fun j G' => Same G1 G' ∧ G' D = some (.lst ((seg (beh h1 l1 r1 h2 l2 r2) 0 j).map vO))) ⟨NF.Same.new (Same.refl G1) hD, upd_same⟩ ?_ ?_
        · rintro j G' hj hG
          rw [Int.zero_add]
          obtain ⟨n1, n2, n3⟩ := put' D G' j hDG (by omega) ⟨Same.trans s1 hG.1, hG.2⟩
          refine ⟨rfl, _, rfl, _, rfl, _, rfl, _, _, rfl, rfl, q2, _, some (j + 1), rfl, (fo2'.mono s1).mono hG.1, sm2, ?_⟩
          exact ⟨q1, _, _, arg j, ((fo1.mono sG).mono s1).mono hG.1, sm1, _, hG.2, n1, NF.Same.mut hG.1 hD, n3⟩
        · rintro G' ⟨sG', hG⟩
          have ball := fun n => beh_some (h1 := h1) (l1 := l1) (r1 := r1) (h2 := h2) (l2 := l2) (r2 := r2) hl1 hl2 n
          rw [seg_allK fun k hk => ball _] at hG
          have er : r2 * (qq : Int) / (l1.length : Int) = (rq : Int) := by
            rw [hrn, hrq, hqq, Int.natCast_mul, Int.natCast_mul, Int.mul_assoc, Int.mul_comm (rq : Int), ← Int.mul_assoc]
            exact Int.mul_ediv_cancel_left _ (by rw [← Int.natCast_mul, ← hqq]; omega)
          refine ⟨_, rfl, _, rfl, _, rfl, q1, _, _, _, rfl, rfl, NF.Same.tup sG' hq1c, at2, _, rfl, q2, _, _, _, rfl, rfl, NF.Same.tup sG' hq2c, at2, _, rfl, _, _, rfl, rfl, Or.inr ⟨by omega, by omega⟩, _, rfl, q1, _, _, _, rfl, rfl, NF.Same.tup sG' hq1c, at1, b1, _, rfl, Or.inr (NF.Same.tup sG' hb1c), ?_⟩
          rw [vI_len]
          refine ⟨_, _, rfl, rfl, ⟨by omega, by omega⟩, _, _, rfl, rfl, Or.inr ⟨by rw [er]; omega, by rw [er]; omega⟩, ?_⟩
          refine ⟨D, _, st, many, _, rfl, SqL.of hG, by omega, fun p x H' hx s' fo => ?_⟩
          rw [er] at hx
          have L := looped A (N := st) (m := many) (c := r1 * (rq : Int)) many0 (fun n _ => ball n) (fun n hn => by
            rw [hmany]
            exact beh_per hl1 hl2 hqq (by rw [hrn, hrq]) st1 far n hn)
          exact q p (segN (beh h1 l1 r1 h2 l2 r2) 0 st, segN (beh h1 l1 r1 h2 l2 r2) st many, r1 * (rq : Int)) _ H' (Same.trans sG (Same.trans s1 (Same.trans sG' s'))) ⟨L.1, L.2, by show (segN _ 0 st).length + (segN _ st many).length ≤ 1000; rw [segN_len, segN_len]; omega⟩ hx fo
end
end K10
set_option Elab.async false
set_option linter.all false
set_option maxRecDepth 100000
set_option maxHeartbeats 4000000
namespace K10
open PySem PySem.Spec PyProof.Rows L2 He NF RZ NT
def spNumber : Sp := fun vs H Q _ => ∃ w : Str, vs = [.str w] ∧ w.length ≤ 100000 ∧ ∀ H', Same H H' → Q (.bl (numOk w)) H'
theorem sc_is_number : FnScope ["word", "figure"] ["word"] (defScope s_is_number) := ⟨rfl, rfl, rfl, by decide +kernel, rfl, by decide +kernel, by decide +kernel⟩
theorem sline {n : Nat} (h : n ≤ 100000) : n ≤ sizeLine := Nat.le_trans h (by decide)
theorem str_one {c d : Nat} : decide (V.str ⟨#[c]⟩ = V.str ⟨#[d]⟩) = decide (c = d) := by
  by_cases h : c = d
  · subst h; simp
  · rw [decide_eq_false h, decide_eq_false]
    intro z
    injection z with z
    injection z with z
    exact h (by simpa using z)
theorem zero_str : ("0" : Str) = ⟨#[48]⟩ := by decide +kernel
theorem at_str0 {w : Str} (h : w.length ≠ 0) : atI w.cps.toList 0 = some (w.cps.toList.getD 0 0) := by
  have hl : 0 < w.cps.toList.length := by rw [cps_len]; omega
  show (ixN w.cps.toList.length 0).bind _ = _
  unfold ixN
  rw [if_pos (by omega), if_pos (by omega)]
  show w.cps.toList[Int.toNat 0]? = _
  rw [show (0 : Int).toNat = 0 from rfl, List.getElem?_eq_getElem hl, List.getD_eq_getElem?_getD, List.getElem?_eq_getElem hl] <;> rfl
section
variable {P : Program} {w : World} {K : PySem.W.Frag} {mg : Str → Option Value} {base : Heap} {gs : List Str}
theorem filter_all {l : List Nat} {p : Nat → Bool} : (l.filter p).length = l.length ↔ l.all p = true := by
  rw [List.length_filter_eq_length_iff, List.all_eq_true]
theorem ok_is_number {tk : Tok} {tk2 : Tok} {f : Addr} {fd : FuncData} (F : FunD K "is_number" "is_number" (defArgs s_is_number) (defBody s_is_number) (defScope s_is_number) [] [] f fd) (T : Txt K mg gs FS) (h_MOST_FIGURES : mg "MOST_FIGURES" = some (.int 60 tk)) (h_FIGURES : mg "FIGURES" = some (.str "0123456789" tk2)) : FnOk P w K mg base CX0 1 f fd ["word"] spNumber := by
  refine F.ok sc_is_number (fun vs H Q E h => ?_) (fun cdv A outer s H vs Q E hr h => ?_)
  · obtain ⟨i, rfl, _⟩ := h
    rfl
  · obtain ⟨z, rfl, hz, q⟩ := h
    have hz := sline hz
    refine ⟨_, PSs.nox (pss_cons (ps_if (PW.pt (pw_or (pt_not (pt_truth (pv 0) (fun _ => rfl))) (pw_or (pt_cmpR op_gt (pe_callB call_len_str rfl (T.fr _ (by decide +kernel)) boot_len (pa_cons (pv 0) pa_nil)) (pe_glob (v := .int 60) rfl h_MOST_FIGURES ⟨_, rfl⟩) (nomark _)) (pw_or1 (PW.pt (pw_and (pt_cmpR op_eq (pe_ix ix_str (pv 0) pe_int fun _ _ => rfl) pe_str (nomark _)) (pw_and1 (pt_cmpR op_gt (pe_callB call_len_str rfl (T.fr _ (by decide +kernel)) boot_len (pa_cons (pv 0) pa_nil)) pe_int (nomark _))))))))) (pss_one (ps_ret pe_bl)) pss_nil) (pss_one (ps_ret (pe_cmpR op_eq (pe_callB call_len_seq rfl (T.fr _ (by decide +kernel)) boot_len (pa_cons (pe_lc (own := [("figure", 1)]) rfl sc_is_number.nd (pi_str (pv 0)) (blkOk_by (N := ["word", "figure"]) (sc := defScope s_is_number) (by decide +kernel)) (fun _ _ _ _ _ => by exact (pg_name (i := 1) sc_is_number.nd rfl (Or.inl rfl))) (fun _ _ _ _ _ => by exact (pts_one (pt_cmpR op_in_sign (pv 1) (pe_glob (v := .str "0123456789") rfl h_FIGURES ⟨_, rfl⟩) rfl))) (fun _ _ _ _ _ => by exact (pv 1))) pa_nil)) (pe_callB call_len_str rfl (T.fr _ (by decide +kernel)) boot_len (pa_cons (pv 0) pa_nil)) (nomark _))))), ?_⟩
    have bad : numOk z = false → Q (.bl false) H := fun e => by
      have := q H (Same.refl H)
      rw [e] at this
      exact this
    refine ⟨_, rfl, _, ⟨hz, rfl⟩, ?_⟩
    by_cases h0 : z.length = 0
    · exact iteT' (by rw [h0]; rfl) (iteT (bad (nil_of_len h0)))
    refine iteF' (by simp [h0]) ?_
    refine ⟨_, rfl, z, rfl, hz, _, _, rfl, rfl, _, rfl, ?_⟩
    by_cases h1 : 60 < z.length
    · refine iteT' (decide_eq_true (by omega)) (iteT (bad ?_))
      unfold numOk
      rw [decide_eq_false (show ¬ z.length ≤ 60 by omega)]
      simp
    refine iteF' (decide_eq_false (by omega)) ?_
    refine ⟨_, rfl, z, 0, _, rfl, rfl, hz, at_str0 h0, rfl, _, rfl, ?_⟩
    rw [zero_str, str_one]
    refine (show (((!(decide (1 < z.length) && decide (z.cps.toList.getD 0 0 = 48))) = true → (?R : Prop)) → _) from fun kk => ?A) ?B
    case A =>
      refine ite2 (fun h2 => ?_) (fun h2 => ?_)
      · refine ⟨_, rfl, z, rfl, hz, _, _, rfl, rfl, _, rfl, ite2 (fun h3 => ?_) (fun h3 => ?_)⟩
        · refine bad ?_
          have a1 := of_decide_eq_true h2
          have a2 : 1 < z.length := by
            have := of_decide_eq_true h3
            omega
          unfold numOk
          rw [decide_eq_true a1, decide_eq_true a2]
          simp
        · refine kk ?_
          have : ¬ 1 < z.length := fun y => h3 (decide_eq_true (by omega))
          rw [decide_eq_false this]
          rfl
      · refine kk ?_
        have : ¬ z.cps.toList.getD 0 0 = 48 := fun y => h2 (decide_eq_true y)
        rw [decide_eq_false this]
        simp
    case B =>
      intro hc
      refine ⟨_, rfl, z, rfl, fun D hD => ?_⟩
      refine lc_it walk_str (fun i G => Same H G ∧ G D = some (.lst (((z.cps.toList.take i).filter dig).map fun c => V.str ⟨#[c]⟩))) ⟨NF.Same.new (Same.refl H) hD, upd_same⟩ (fun i G _ z => trivial) ?_ ?_
      · rintro i x G G' hi ⟨sG, hG⟩ ⟨rfl, c, hc, rfl⟩
        refine ⟨rfl, _, rfl, c, _, rfl, rfl, _, rfl, ?_⟩
        have hi' : i < z.cps.toList.length := by rw [Array.length_toList]; exact hi
        have ec : z.cps.toList[i]? = some c := by rw [Array.getElem?_toList]; exact hc
        have et : (z.cps.toList.take (i + 1)) = z.cps.toList.take i ++ [c] := by
          rw [List.take_add_one, ec] <;> rfl
        show if dig c = true then _ else _
        cases hd : dig c with
        | true =>
          refine iteT ⟨_, rfl, _, hG, ?_, NF.Same.mut sG hD, ?_⟩
          · rw [List.length_map]
            refine Nat.lt_of_le_of_lt (List.length_filter_le _ _) ?_
            rw [List.length_take]
            have := cps_len z
            exact Nat.lt_of_lt_of_le (show min i z.cps.toList.length < 61 by omega) (by decide)
          · rw [upd_same, et, List.filter_append, List.map_append]
            simp [hd]
        | false =>
          refine iteF ⟨sG, ?_⟩
          rw [et, List.filter_append]
          simpa [hd] using hG
      · rintro G ⟨sG, hG⟩
        refine ⟨D, _, rfl, Or.inl (SqL.of hG), _, rfl, z, rfl, hz, rfl, ?_⟩
        have := q G sG
        have e : numOk z = decide (V.int ((((z.cps.toList.take z.cps.size).filter dig).map fun c => V.str ⟨#[c]⟩).length : Int) = V.int (z.length : Int)) := by
          have et : z.cps.toList.take z.cps.size = z.cps.toList := by
            rw [← Array.length_toList]; exact List.take_length
          rw [et, List.length_map]
          unfold numOk
          rw [decide_eq_true (show 1 ≤ z.length by omega), decide_eq_true (show z.length ≤ 60 by omega), hc]
          have hl := cps_len z
          cases ha : z.cps.toList.all dig with
          | true =>
            rw [filter_all.mpr ha, hl]
            simp
          | false =>
            symm
            show decide _ = false
            refine decide_eq_false fun y => ?_
            injection y with y
            have : z.cps.toList.all dig = true := filter_all.mp (by omega)
            rw [ha] at this
            cases this
        rw [e] at this
        exact this
end
end K10
set_option Elab.async false
set_option linter.all false
set_option maxRecDepth 100000
set_option maxHeartbeats 4000000
namespace K10
open PySem PySem.Spec PyProof.Rows L2 He NF RZ NT
/-- words that stand in a list -/
structure WordsAt (K : PySem.W.Frag) (H : Hp) (p : Addr) (ws : List Str) : Prop where
  at_ : SqL K H p (ws.map V.str)
  n : ws.length ≤ 100000
  w : ∀ x ∈ ws, x.length ≤ 100000
theorem WordsAt.mono {K : PySem.W.Frag} {H H' : Hp} {p : Addr} {ws : List Str} (h : WordsAt K H p ws) (s : Same H H') : WordsAt K H' p ws := ⟨L2.Same.seq s h.at_, h.n, h.w⟩
def spClimbAt (K : PySem.W.Frag) : Sp := fun vs H Q _ => ∃ (p : Addr) (ws : List Str) (at_ : Nat) (m : Int), vs = [.ref p, .int (at_ : Int), .int m] ∧ WordsAt K H p ws ∧
  ∀ q H', Same H H' → H' q = some (.lst (vI (climbW numW m (ws.drop at_)))) → Q (.ref q) H'
def spCheckWord (K : PySem.W.Frag) : Sp := fun vs H Q E => ∃ (p : Addr) (ws : List Str) (at_ : Nat) (x : Str), vs = [.ref p, .int (at_ : Int), .str x] ∧ WordsAt K H p ws ∧ at_ ≤ ws.length ∧
  (∀ r, ws.drop at_ = x :: r → Q .non H) ∧ ((∀ r, ws.drop at_ ≠ x :: r) → ∀ d H', Same H H' → H d = none → H' d = some (.xd [("place", .int (at_ : Int))]) → E (.ref (ga K "BadText")) (some d) H')
def spCheckEnd (K : PySem.W.Frag) : Sp := fun vs H Q E => ∃ (p : Addr) (ws : List Str) (at_ : Nat), vs = [.ref p, .int (at_ : Int)] ∧ WordsAt K H p ws ∧
  (ws.length ≤ at_ → Q .non H) ∧ (at_ < ws.length → ∀ d H', Same H H' → H d = none → H' d = some (.xd [("place", .int (at_ : Int))]) → E (.ref (ga K "BadText")) (some d) H')
theorem sc_climb_at : FnScope ["words", "at", "least", "found", "word"] ["words", "at", "least"] (defScope s_climb_at) := ⟨rfl, rfl, rfl, by decide +kernel, rfl, by decide +kernel, by decide +kernel⟩
theorem sc_check_word : FnScope ["words", "at", "wanted"] ["words", "at", "wanted"] (defScope s_check_word) := ⟨rfl, rfl, rfl, by decide +kernel, rfl, by decide +kernel, by decide +kernel⟩
theorem sc_check_end : FnScope ["words", "at"] ["words", "at"] (defScope s_check_end) := ⟨rfl, rfl, rfl, by decide +kernel, rfl, by decide +kernel, by decide +kernel⟩
theorem at_word {ws : List Str} {i : Nat} {x : Str} {r : List Str} (h : ws.drop i = x :: r) : atI (ws.map V.str) (i : Int) = some (.str x) := by
  have hi : i < ws.length := Nat.lt_of_not_le fun z => by rw [List.drop_of_length_le z] at h; cases h
  unfold atI ixN
  rw [if_pos (by omega), if_pos (by rw [List.length_map]; omega)]
  show (ws.map V.str)[(i : Int).toNat]? = _
  rw [show (i : Int).toNat = i by omega, List.getElem?_map]
  have : ws[i]? = some x := by
    have := congrArg (fun l : List Str => l[0]?) h
    simp only [List.getElem?_drop, Nat.add_zero, List.getElem?_cons_zero] at this
    exact this
  rw [this] <;> rfl
theorem dec_word {x y : Str} : decide (V.str x = V.str y) = decide (x = y) := by
  by_cases h : x = y
  · subst h; simp
  · rw [decide_eq_false h, decide_eq_false (fun z => h (by injection z))]
section
variable {P : Program} {w : World} {K : PySem.W.Frag} {mg : Str → Option Value} {base : Heap} {gs : List Str}
theorem ok_climb_at {f : Addr} {fd : FuncData} (F : FunD K "climb_at" "climb_at" (defArgs s_climb_at) (defBody s_climb_at) (defScope s_climb_at) [] [] f fd) (T : Txt K mg gs FS) (c_is_number : Cal P w K mg base 1 "is_number" spNumber) : FnOk P w K mg base CX0 2 f fd ["words", "at", "least"] (spClimbAt K) := by
  refine F.ok sc_climb_at (fun vs H Q E h => ?_) (fun cdv A outer s H vs Q E hr h => ?_)
  · obtain ⟨p, ws, i, m, rfl, _⟩ := h
    rfl
  · obtain ⟨p, ws, k, m, rfl, hp, q⟩ := h
    refine ⟨_, PSs.nox (pss_cons (ps_set (i := 3) sc_climb_at.nd rfl (Or.inl rfl) (pe_lst pa_nil)) (pss_cons (ps_for PassesOwn.never rfl (pi_list (pe_slice sl_list (pv 0) (po_some (pv 1)) po_none)) (pg_name (i := 4) sc_climb_at.nd rfl (Or.inl rfl)) (pss_cons (ps_if (PW.pt (pw_or (pt_not (pt_val (pe_c c_is_number hr (by decide) rfl (pa_cons (pv 4) pa_nil)))) (pw_or1 (pt_cmpR op_lt (pe_callTy call_int_str rfl (T.fr _ (by decide +kernel)) (by decide +kernel) (pa_cons (pv 4) pa_nil)) (pv 2) (nomark _))))) (pss_one ps_break) pss_nil) (pss_cons (ps_set (i := 2) sc_climb_at.nd rfl (Or.inl rfl) (pe_callTy call_int_str rfl (T.fr _ (by decide +kernel)) (by decide +kernel) (pa_cons (pv 4) pa_nil))) (pss_one (ps_expr (pe_bm PySem.F.plainAttrs_list PySem.F.slot_list_append PySem.F.type_list_append mt_append (pv 3) (pa_cons (pv 2) pa_nil))))))) (pss_one (ps_ret (pv 3))))), ?_⟩
    refine ⟨(by show 0 ≤ sizeLine; decide), fun D1 h1 => ?_⟩
    have s1 := NF.Same.new (o := .lst []) (Same.refl H) h1
    have hp1 := hp.mono s1
    refine ⟨_, rfl, _, rfl, _, rfl, p, _, rfl, hp1.at_, fun D2 h2 => ?_⟩
    rw [cut_from, ← List.map_drop]
    have hne : D1 ≠ D2 := ne_of_none upd_same h2
    obtain ⟨rest, hrest⟩ : ∃ rest, rest = ws.drop k := ⟨_, rfl⟩
    rw [← hrest] at q ⊢
    have hrl : rest.length ≤ 100000 := by rw [hrest, List.length_drop]; have := hp.n; omega
    have hrw : ∀ x ∈ rest, x.length ≤ 100000 := fun x hx => hp.w x (by rw [hrest] at hx; exact List.mem_of_mem_drop hx)
    refine ⟨D2, rfl, ⟨_, SqL.of upd_same⟩, ?_⟩
    refine for_it (walk_list (xs := rest.map V.str)) (fun i σ G => Same H G ∧ G D2 = some (.lst (rest.map V.str)) ∧ ∃ (acc : List Int) (c : Int) (v : Option V), G D1 = some (.lst (vI acc)) ∧ acc.length ≤ i ∧ climbW numW m rest = acc ++ climbW numW c (rest.drop i) ∧
      σ = [some (.ref p), some (.int (k : Int)), some (.int c), some (.ref D1), v]) ⟨NF.Same.new s1 h2, upd_same, [], m, none, by rw [upd_ne hne]; exact upd_same, Nat.le_refl _, rfl, rfl⟩ (fun i σ G _ z => SqL.of z.2.1) ?_ ?_
    · rintro i x σ G G' hi ⟨sG, g2, acc, c, v, g1, hal, he, rfl⟩ ⟨rfl, hx⟩
      rw [List.length_map] at hi
      obtain ⟨z, hz, rfl⟩ : ∃ z, rest[i]? = some z ∧ V.str z = x := by
        rw [List.getElem?_map] at hx
        cases e : rest[i]? with
        | none => rw [e] at hx; cases hx
        | some z => rw [e] at hx; exact ⟨z, rfl, Option.some.inj hx⟩
      have hd : rest.drop i = z :: rest.drop (i + 1) := by
        rw [List.drop_eq_getElem_cons hi]
        have := List.getElem?_eq_getElem hi
        rw [hz] at this
        rw [← Option.some.inj this]
      have hzl := hrw z (List.mem_of_getElem? hz)
      rw [hd] at he
      refine ⟨_, rfl, z, rfl, hzl, fun G2 sG2 => ⟨_, rfl, ?_⟩⟩
      have done : climbW numW c (z :: rest.drop (i + 1)) = [] → Q (.ref D1) G2 := fun e => by
        refine q D1 G2 (Same.trans sG sG2) ?_
        rw [he, e, List.append_nil]
        exact sG2 _ _ g1
      cases hn : numOk z with
      | false => 
        refine iteT (iteT ?_)
        exact ⟨_, rfl, done (by unfold climbW; rw [numW_none hn])⟩
      | true =>
        obtain ⟨n, e1, e2, e3⟩ := numW_some hn
        refine iteF ?_
        refine ⟨_, rfl, z, _, rfl, e2, by omega, _, rfl, _, _, rfl, rfl, _, rfl, ite2 (fun hlt => ?_) (fun hlt => ?_)⟩
        · refine ⟨_, rfl, done ?_⟩
          unfold climbW
          rw [e1]
          exact if_pos (of_decide_eq_true hlt)
        · refine ⟨_, rfl, z, _, rfl, e2, by omega, ?_⟩
          refine ⟨_, rfl, .inl ⟨rfl, _, SqL.of (sG2 _ _ g1)⟩, _, rfl, D1, _, _, rfl, rfl, sG2 _ _ g1, ?_, ?_⟩
          · rw [vI_len]
            exact Nat.lt_of_le_of_lt (show acc.length ≤ 100000 by omega) (by decide)
          · refine ⟨NF.Same.mut (Same.trans sG sG2) h1, ?_, acc ++ [(n : Int)], (n : Int), _, ?_, ?_, ?_, rfl⟩
            · rw [upd_ne (Ne.symm hne)]
              exact sG2 _ _ g2
            · rw [upd_same, ← vI_app]
              rfl
            · rw [List.length_append]
              simp
              omega
            · rw [he, List.append_assoc]
              congr 1
              conv => lhs; unfold climbW
              rw [e1]
              dsimp only
              rw [if_neg (fun y => hlt (decide_eq_true y))]
              rfl
    · rintro σ G ⟨sG, g2, acc, c, v, g1, hal, he, rfl⟩
      refine ⟨_, rfl, q D1 G sG ?_⟩
      rw [List.length_map, List.drop_length] at he
      rw [he, show climbW numW c ([] : List Str) = [] from rfl, List.append_nil]
      exact g1
theorem ok_check_word {f : Addr} {fd : FuncData} (F : FunD K "check_word" "check_word" (defArgs s_check_word) (defBody s_check_word) (defScope s_check_word) [] [] f fd) (T : Txt K mg gs FS) (m_BadText : ExcI P w K mg base "BadText" "place") : FnOk P w K mg base (L2.CX P w) 3 f fd ["words", "at", "wanted"] (spCheckWord K) := by
  refine F.ok sc_check_word (fun vs H Q E h => ?_) (fun cdv A outer s H vs Q E hr h => ?_)
  · obtain ⟨p, ws, i, x, rfl, _⟩ := h
    rfl
  · obtain ⟨p, ws, k, x, rfl, hp, hk, q, e⟩ := h
    refine ⟨_, (pss_one (ps_if (PW.pt (pw_or (pt_cmpR op_eq (pv 1) (pe_callB call_len_seq rfl (T.fr _ (by decide +kernel)) boot_len (pa_cons (pv 0) pa_nil)) (nomark _)) (pw_or1 (pt_cmpR op_ne (pe_ix (ixl (K := K)) (pv 0) (pv 1) fun _ _ => rfl) (pv 2) (nomark _))))) (pss_one (ps_rz rfl (takes_of rfl rfl rfl rfl) m_BadText hr (by decide) rfl (pv 1))) pss_nil)), ?_⟩
    refine ⟨_, rfl, _, rfl, p, _, rfl, Or.inl hp.at_, rfl, _, rfl, ?_⟩
    by_cases h1 : k = ws.length
    · refine iteT' (decide_eq_true (by rw [List.length_map, h1])) (iteT ⟨_, rfl, raise_done fun d H2 hd s2 hx => e (fun r z => ?_) d H2 s2 hd hx⟩)
      rw [h1, List.drop_length] at z
      cases z
    · refine iteF' (decide_eq_false fun z => h1 (by rw [List.length_map] at z; injection z with z; omega)) ?_
      have hi : k < ws.length := by omega
      have hd : ws.drop k = ws[k] :: ws.drop (k + 1) := List.drop_eq_getElem_cons hi
      refine ⟨_, rfl, _, rfl, p, _, _, _, rfl, rfl, hp.at_, at_word hd, _, rfl, rfl, _, rfl, ?_⟩
      rw [dec_word]
      by_cases h2 : ws[k] = x
      · refine iteF' (by rw [decide_eq_true h2]; rfl) (q _ (by rw [hd, h2]))
      · refine iteT' (by rw [decide_eq_false h2]; rfl) ⟨_, rfl, raise_done fun d H2 hd2 s2 hx => e (fun r z => ?_) d H2 s2 hd2 hx⟩
        rw [hd] at z
        injection z with z _
        exact h2 z
theorem ok_check_end {f : Addr} {fd : FuncData} (F : FunD K "check_end" "check_end" (defArgs s_check_end) (defBody s_check_end) (defScope s_check_end) [] [] f fd) (T : Txt K mg gs FS) (m_BadText : ExcI P w K mg base "BadText" "place") : FnOk P w K mg base (L2.CX P w) 3 f fd ["words", "at"] (spCheckEnd K) := by
  refine F.ok sc_check_end (fun vs H Q E h => ?_) (fun cdv A outer s H vs Q E hr h => ?_)
  · obtain ⟨p, ws, i, rfl, _⟩ := h
    rfl
  · obtain ⟨p, ws, k, rfl, hp, q, e⟩ := h
    refine ⟨_, (pss_one (ps_if (pt_cmpR op_gt (pe_callB call_len_seq rfl (T.fr _ (by decide +kernel)) boot_len (pa_cons (pv 0) pa_nil)) (pv 1) (nomark _)) (pss_one (ps_rz rfl (takes_of rfl rfl rfl rfl) m_BadText hr (by decide) rfl (pv 1))) pss_nil)), ?_⟩
    refine ⟨_, rfl, p, _, rfl, Or.inl hp.at_, _, rfl, _, _, rfl, rfl, _, rfl, ite2 (fun h1 => ?_) (fun h1 => ?_)⟩
    · have h1 := of_decide_eq_true h1
      rw [List.length_map] at h1
      exact ⟨_, rfl, raise_done fun d H2 hd s2 hx => e (by omega) d H2 s2 hd hx⟩
    · refine q ?_
      have : ¬ (k : Int) < ((ws.map V.str).length : Int) := fun z => h1 (decide_eq_true z)
      rw [List.length_map] at this
      omega
end
end K10
set_option Elab.async false
set_option linter.all false
set_option maxRecDepth 100000
set_option maxHeartbeats 4000000
namespace K10
open PySem PySem.Spec PyProof.Rows L2 He NF RZ NT
/-- the words of a text -/
def wordsOf (t : Str) : List Str := Txt.split t " "
def rdOf (t : Str) : Rd := readW numW (isW "never") (isW "then") (isW "up") (wordsOf t)
def spReadTable (K : PySem.W.Frag) (C : Addr) : Sp := fun vs H Q E => ∃ v, vs = [v] ∧
  ((∃ t : Str, v = .str t ∧ t.length ≤ 20000 ∧ (wordsOf t).length ≤ 902 ∧ (∀ k, rdOf t = .bad k → ∀ d H', Same H H' → H d = none → H' d = some (.xd [("place", .int (k : Int))]) → E (.ref (ga K "BadText")) (some d) H') ∧
    (∀ h l r, rdOf t = .ok h l r → ∀ x z H', IsPlain h l r z → Same H H' → TabAt K C H' x z → Q (.ref x) H')) ∨
   (∃ tb, TyX K H v tb ∧ PySem.W.kitOne K tb (.type "str") = some false ∧ ∀ d H', Same H H' → H d = none → H' d = some (.xd [("place", .int (-1))]) → E (.ref (ga K "BadText")) (some d) H'))
theorem sc_read_table : FnScope ["text", "words", "head", "at", "loop", "rise"] ["text"] (defScope s_read_table) := ⟨rfl, rfl, rfl, by decide +kernel, rfl, by decide +kernel, by decide +kernel⟩
theorem words_at {K : PySem.W.Frag} {H : Hp} {p : Addr} {t : Str} (h : H p = some (.lst ((wordsOf t).map V.str))) (hl : t.length ≤ 20000) (h2 : (wordsOf t).length ≤ 902) : WordsAt K H p (wordsOf t) ∧ (wordsOf t).length ≤ 902 := by
  exact ⟨⟨SqL.of h, by omega, fun x hx => Nat.le_trans (part_short hx) (by omega)⟩, h2⟩
theorem kit_s_s (K : PySem.W.Frag) : PySem.W.kitOne K (.type "str") (.type "str") = some true := if_pos (by decide +kernel)
section
variable {P : Program} {w : World} {K : PySem.W.Frag} {mg : Str → Option Value} {base : Heap} {gs : List Str} {C : Addr}
theorem ok_read_table {e0 : Addr} {f : Addr} {fd : FuncData} (F : FunD K "read_table" "read_table" (defArgs s_read_table) (defBody s_read_table) (defScope s_read_table) [] [] f fd) (T : Txt K mg gs FS) (he0 : ∀ H : Hp, SqT K H e0 (vI [])) (m_BadText : ExcI P w K mg base "BadText" "place") (c_climb_at : Cal P w K mg base 2 "climb_at" (spClimbAt K)) (c_check_word : CalX P w K mg base 3 "check_word" (spCheckWord K)) (c_check_end : CalX P w K mg base 3 "check_end" (spCheckEnd K))
    (m_Table : Mak P w K mg base 4 0 "Table" C (spInit K C) []) (m_Table1 : Mak P w K mg base 4 0 "Table" C (spInit K C) [.ref e0, .int 0]) : FnOk P w K mg base (L2.CX P w) 6 f fd ["text"] (spReadTable K C) := by
  refine F.ok sc_read_table (fun vs H Q E h => ?_) (fun cdv A outer s H vs Q E hr h => ?_)
  · obtain ⟨v, rfl, _⟩ := h
    rfl
  · obtain ⟨v, rfl, h⟩ := h
    refine ⟨_, (pss_cons (ps_if (pt_not (pt_val (pe_callB call_isi rfl (T.fr _ (by decide +kernel)) (by decide +kernel) (pa_cons (pv 0) (pa_cons (pe_bltn (v := .ty "str") rfl (T.fr _ (by decide +kernel)) (by decide +kernel) rfl) pa_nil))))) (pss_one (ps_rz rfl (takes_of rfl rfl rfl rfl) m_BadText hr (by decide) rfl (pe_un un_neg pe_int))) pss_nil) (pss_cons (ps_set (i := 1) sc_read_table.nd rfl (Or.inl rfl) (pe_split (pv 0) pe_str)) (pss_cons (ps_set (i := 2) sc_read_table.nd rfl (Or.inl rfl) (pe_c c_climb_at hr (by decide) rfl (pa_cons (pv 1) (pa_cons pe_int (pa_cons pe_int pa_nil))))) (pss_cons (ps_set (i := 3) sc_read_table.nd rfl (Or.inl rfl) (pe_callB call_len_seq rfl (T.fr _ (by decide +kernel)) boot_len (pa_cons (pv 2) pa_nil))) (pss_cons (ps_if (PW.pt (pw_and (pt_cmpR op_lt (pv 3) (pe_callB call_len_seq rfl (T.fr _ (by decide +kernel)) boot_len (pa_cons (pv 1) pa_nil)) (nomark _)) (pw_and1 (pt_cmpR op_eq (pe_ix (ixl (K := K)) (pv 1) (pv 3) fun _ _ => rfl) pe_str (nomark _))))) (pss_cons (ps_expr (pe_cX (takes_of rfl rfl rfl rfl) c_check_end hr (by decide) rfl (pa_cons (pv 1) (pa_cons (pe_op op_add (pv 3) pe_int) pa_nil)))) (pss_one (ps_ret (pe_mk m_Table1 hr (by decide) rfl (pa_cons (pv 2) pa_nil))))) pss_nil) (pss_cons (ps_expr (pe_cX (takes_of rfl rfl rfl rfl) c_check_word hr (by decide) rfl (pa_cons (pv 1) (pa_cons (pv 3) (pa_cons pe_str pa_nil))))) (pss_cons (ps_set (i := 4) sc_read_table.nd rfl (Or.inl rfl) (pe_c c_climb_at hr (by decide) rfl (pa_cons (pv 1) (pa_cons (pe_op op_add (pv 3) pe_int) (pa_cons (pe_ifExp (pt_truth (pv 2) (fun _ => rfl)) (pe_ix (ixl (K := K)) (pv 2) (pe_un un_neg pe_int) fun _ _ => rfl) pe_int) pa_nil))))) (pss_cons (ps_set (i := 3) sc_read_table.nd rfl (Or.inl rfl) (pe_op op_add (pe_op op_add (pv 3) pe_int) (pe_callB call_len_seq rfl (T.fr _ (by decide +kernel)) boot_len (pa_cons (pv 4) pa_nil)))) (pss_cons (ps_if (pt_not (pt_truth (pv 4) (fun _ => rfl))) (pss_one (ps_rz rfl (takes_of rfl rfl rfl rfl) m_BadText hr (by decide) rfl (pv 3))) pss_nil) (pss_cons (ps_expr (pe_cX (takes_of rfl rfl rfl rfl) c_check_word hr (by decide) rfl (pa_cons (pv 1) (pa_cons (pv 3) (pa_cons pe_str pa_nil))))) (pss_cons (ps_set (i := 5) sc_read_table.nd rfl (Or.inl rfl) (pe_c c_climb_at hr (by decide) rfl (pa_cons (pv 1) (pa_cons (pe_op op_add (pv 3) pe_int) (pa_cons (pe_op op_sub (pe_ix (ixl (K := K)) (pv 4) (pe_un un_neg pe_int) fun _ _ => rfl) (pe_ix (ixl (K := K)) (pv 4) pe_int fun _ _ => rfl)) pa_nil))))) (pss_cons (ps_if (pt_not (pt_truth (pv 5) (fun _ => rfl))) (pss_one (ps_rz rfl (takes_of rfl rfl rfl rfl) m_BadText hr (by decide) rfl (pe_op op_add (pv 3) pe_int))) pss_nil) (pss_cons (ps_expr (pe_cX (takes_of rfl rfl rfl rfl) c_check_end hr (by decide) rfl (pa_cons (pv 1) (pa_cons (pe_op op_add (pv 3) pe_int) pa_nil)))) (pss_one (ps_ret (pe_mk m_Table hr (by decide) rfl (pa_cons (pv 2) (pa_cons (pv 4) (pa_cons (pe_ix (ixl (K := K)) (pv 5) pe_int fun _ _ => rfl) pa_nil))))))))))))))))))), ?_⟩
    rcases h with ⟨t, rfl, hl, hl2, eb, qk⟩ | ⟨tb, ty, hk, e⟩
    rotate_left
    · exact ⟨_, rfl, _, _, _, _, false, rfl, .ty "str", ty, hk, false, rfl, iteT ⟨_, rfl, raise_done fun d H2 hd s2 hx => e d H2 s2 hd hx⟩⟩
    refine ⟨_, rfl, _, _, _, _, true, rfl, .ty "str", .base (.str t), kit_s_s K, true, rfl, iteF ?_⟩
    refine ⟨_, rfl, ⟨_, rfl⟩, t, " ", rfl, rfl, by decide +kernel, Nat.le_trans (show t.length + 2 ≤ 20002 by omega) (by decide), fun p1 hp1 => ?_⟩
    have s1 := NF.Same.new (o := .lst ((wordsOf t).map V.str)) (Same.refl H) hp1
    obtain ⟨hw1, hwl⟩ := words_at (K := K) (H := upd H p1 (.lst ((wordsOf t).map V.str))) (p := p1) (t := t) upd_same hl hl2
    have srd := fun h l r => read_good (num := numW) (nev := isW "never") (thn := isW "then") (up_ := isW "up") (ws := wordsOf t) (h := h) (l := l) (r := r)
    have erd : rdOf t = readW numW (isW "never") (isW "then") (isW "up") (wordsOf t) := rfl
    rw [← erd] at srd
    have hle := climb_len (num := numW) (wordsOf t) 0
    unfold readW at erd
    dsimp only at erd
    revert hw1 hwl srd erd hle s1
    generalize hws : wordsOf t = ws
    intro s1 hw1 hwl srd erd hle
    refine ⟨_, rfl, p1, ws, 0, 0, rfl, by rw [← hws] at hw1 ⊢; exact hw1, fun q2 H2 s2 hq2 => ?_⟩
    have s02 : Same H H2 := Same.trans (by rw [← hws] at s1; exact s1) s2
    have hw2 : WordsAt K H2 p1 ws := by
      refine WordsAt.mono ?_ s2
      rw [← hws] at hw1 ⊢
      exact hw1
    rw [List.drop_zero] at hq2
    generalize hh : climbW numW 0 ws = h at hq2 erd hle
    refine ⟨_, rfl, q2, _, rfl, Or.inl (SqL.of hq2), ?_⟩
    rw [vI_len]
    refine ⟨_, rfl, _, rfl, p1, _, rfl, Or.inl hw2.at_, _, _, rfl, rfl, _, rfl, ?_⟩
    rw [List.length_map]
    have bad : ∀ (k : Nat) (z : Int), rdOf t = .bad k → z = (k : Int) → ∀ (G : Hp), Same H2 G → ∀ d H', G d = none → Same G H' → H' d = some (.xd [("place", .int z)]) → E (.ref (ga K "BadText")) (some d) H' := fun k z e1 e2 G sG d H' hd s3 hx => by
      subst e2
      exact eb k e1 d H' (Same.trans s02 (Same.trans sG s3)) (L2.Same.free (Same.trans s02 sG) hd) hx
    generalize hd : ws.drop h.length = rest at erd
    cases rest with
    | nil =>
      have hge : ws.length ≤ h.length := List.drop_eq_nil_iff.mp hd
      refine iteF' (decide_eq_false (by omega)) ?_
      refine ⟨_, rfl, _, rfl, p1, ws, h.length, "then", rfl, hw2, hle, fun r z => ?_, fun _ d H' s3 hd hx => bad h.length _ erd rfl H2 (Same.refl H2) d H' hd s3 hx⟩
      rw [hd] at z
      cases z
    | cons w r1 =>
      have hlt : h.length < ws.length := Nat.lt_of_not_le fun z => by rw [List.drop_of_length_le z] at hd; cases hd
      have hd1 : ws.drop (h.length + 1) = r1 := by
        have := congrArg (List.drop 1) hd
        rw [List.drop_drop] at this
        exact this
      have hlr : ws.length = h.length + 1 + r1.length := by
        have := congrArg List.length hd1
        rw [List.length_drop] at this
        omega
      refine iteT' (decide_eq_true (by omega)) ⟨_, rfl, _, rfl, p1, _, _, _, rfl, rfl, hw2.at_, at_word hd, rfl, _, rfl, ?_⟩
      rw [dec_word]
      by_cases c1 : w = "never"
      · have c1' : isW "never" w = true := decide_eq_true c1
        dsimp only at erd
        rw [if_pos c1'] at erd
        refine iteT' (decide_eq_true c1) ?_
        refine ⟨_, rfl, _, rfl, _, _, rfl, rfl, p1, ws, h.length + 1, rfl, hw2, fun z => ?_, fun z d H' s3 hd2 hx => ?_⟩
        · have hr1 : r1 = [] := List.eq_nil_of_length_eq_zero (by omega)
          rw [if_pos hr1] at erd
          have hg := (srd _ _ _ erd).1
          refine ⟨_, rfl, fun x dx nx nd ne => ?_⟩
          exact ⟨x, dx, q2, e0, h, [], 0, rfl, upd_same, row_made nx nd (.inl (SqL.of hq2)), .inr (he0 _), hg, by simp; omega, fun y H' hy s tb => ⟨rfl, qk h [] 0 erd x y H' hy (Same.trans s02 (same_made nx nd s)) tb⟩⟩
        · have hr1 : r1 ≠ [] := fun y => by rw [y] at hlr; simp at hlr; omega
          rw [if_neg hr1] at erd
          exact bad _ _ erd (by omega) H2 (Same.refl H2) d H' hd2 s3 hx
      · have c1' : ¬ isW "never" w = true := fun z => c1 (of_decide_eq_true z)
        dsimp only at erd
        rw [if_neg c1'] at erd
        refine iteF' (decide_eq_false c1) ?_
        by_cases c2 : w = "then"
        · have c2' : isW "then" w = true := decide_eq_true c2
          rw [if_pos c2'] at erd
          refine ⟨_, rfl, _, rfl, p1, ws, h.length, "then", rfl, hw2, hle, fun r z => ?_, fun z => absurd (by rw [hd, c2]) (z r1)⟩
          clear r z
          refine ⟨_, rfl, _, rfl, _, _, rfl, rfl, _, rfl, _, Or.inl ⟨_, SqL.of hq2, rfl⟩, ?_⟩
          refine (show ((∀ M : Int, M = lastD 0 h → (?R : Int → Prop) M) → _) from fun kk => ?A) ?B
          case A =>
            rcases Decidable.em (h ≠ []) with hn | hn
            · refine iteT' (by cases h with
                | nil => exact absurd rfl hn
                | cons _ _ => rfl) ⟨_, rfl, _, rfl, q2, _, _, _, rfl, rfl, SqL.of hq2, at_last (len_pos hn), ?_⟩
              have e : h.getD (h.length - 1) 0 = lastD 0 h := by unfold lastD; rw [if_neg hn]
              revert e
              generalize h.getD (h.length - 1) 0 = M
              intro e
              exact kk M e
            · have hn := Classical.not_not.mp hn
              exact iteF' (by rw [hn]; rfl) (kk 0 (by rw [hn]; rfl))
          case B =>
            intro M hM
            rw [← hM] at erd
            refine ⟨p1, ws, h.length + 1, M, rfl, hw2, fun q3 H3 s3 hq3 => ?_⟩
            rw [hd1] at hq3
            have hl1 := climb_len (num := numW) r1 M
            generalize hlp : climbW numW M r1 = l at hq3 erd hl1
            have hw3 := hw2.mono s3
            refine ⟨_, rfl, _, _, rfl, rfl, _, rfl, q3, _, rfl, Or.inl (SqL.of hq3), _, _, rfl, rfl, ?_⟩
            rw [vI_len]
            have e1 : (h.length : Int) + 1 + (l.length : Int) = ((h.length + 1 + l.length : Nat) : Int) := by omega
            show gName 3 (V.int ((h.length : Int) + 1 + (l.length : Int))) _ _ _
            rw [e1]
            refine ⟨_, rfl, _, Or.inl ⟨_, SqL.of hq3, rfl⟩, ?_⟩
            by_cases c3 : l = []
            · rw [if_pos c3] at erd
              exact iteT' (by rw [c3]; rfl) ⟨_, rfl, raise_done fun d H4 hd4 s4 hx => bad _ _ erd (by rw [c3]; rfl) H3 s3 d H4 hd4 s4 hx⟩
            · rw [if_neg c3] at erd
              refine iteF' (by cases l with
                | nil => exact absurd rfl c3
                | cons _ _ => rfl) ?_
              have hd2 : ws.drop (h.length + 1 + l.length) = r1.drop l.length := by rw [← hd1, List.drop_drop]
              generalize hr2 : r1.drop l.length = rest2 at erd hd2
              cases rest2 with
              | nil =>
                refine ⟨_, rfl, _, rfl, p1, ws, h.length + 1 + l.length, "up", rfl, hw3, by omega, fun r z => ?_, fun _ d H' s4 hd hx => bad _ _ erd rfl H3 s3 d H' hd s4 hx⟩
                rw [hd2] at z
                cases z
              | cons u r2 =>
                have hd3 : ws.drop (h.length + 1 + l.length + 1) = r2 := by
                  have := congrArg (List.drop 1) hd2
                  rw [List.drop_drop] at this
                  exact this
                have hlr2 : ws.length = h.length + 1 + l.length + 1 + r2.length := by
                  have := congrArg List.length hd2
                  rw [List.length_drop, List.length_cons] at this
                  omega
                by_cases c4 : u = "up"
                · have c4' : isW "up" u = true := decide_eq_true c4
                  dsimp only at erd
                  rw [if_pos c4'] at erd
                  refine ⟨_, rfl, _, rfl, p1, ws, h.length + 1 + l.length, "up", rfl, hw3, by omega, fun r z => ?_, fun z => absurd (by rw [hd2, c4]) (z r2)⟩
                  clear r z
                  have hp := len_pos c3
                  refine ⟨_, rfl, _, rfl, _, _, rfl, rfl, _, rfl, _, rfl, q3, _, _, _, rfl, rfl, SqL.of hq3, at_last hp, _, rfl, q3, _, _, _, rfl, rfl, SqL.of hq3, at_int (k := 0) rfl hp, _, _, rfl, rfl, ?_⟩
                  refine ⟨p1, ws, h.length + 1 + l.length + 1, _, rfl, hw3, fun q4 H4 s4 hq4 => ?_⟩
                  rw [hd3] at hq4
                  have hw4 := hw3.mono s4
                  generalize hrs : climbW numW (l.getD (l.length - 1) 0 - l.getD 0 0) r2 = rs at hq4 erd
                  refine ⟨_, rfl, _, Or.inl ⟨_, SqL.of hq4, rfl⟩, ?_⟩
                  cases rs with
                  | nil => exact iteT ⟨_, rfl, _, _, rfl, rfl, raise_done fun d H5 hd5 s5 hx => bad _ _ erd (by omega) H4 (Same.trans s3 s4) d H5 hd5 s5 hx⟩
                  | cons v tl =>
                    dsimp only at erd
                    refine iteF ?_
                    refine ⟨_, rfl, _, rfl, _, _, rfl, rfl, p1, ws, h.length + 1 + l.length + 2, congrArg (fun z => [V.ref p1, V.int z]) (by omega), hw4, fun z => ?_, fun z d H' s5 hd5 hx => ?_⟩
                    · rw [if_neg (by omega)] at erd
                      obtain ⟨hg, hz⟩ := srd _ _ _ erd
                      refine ⟨_, rfl, _, rfl, _, rfl, q4, _, _, _, rfl, rfl, SqL.of hq4, at_int (k := 0) rfl (by simp), fun x dx nx nd ne => ?_⟩
                      exact ⟨x, dx, q2, q3, h, l, v, rfl, upd_same, row_made nx nd (.inl (SqL.of (s4 _ _ (s3 _ _ hq2)))), row_made nx nd (.inl (SqL.of (s4 _ _ hq3))), hg, by omega, fun y H' hy s tb => ⟨rfl, qk h l v erd x y H' hy (Same.trans s02 (Same.trans s3 (Same.trans s4 (same_made nx nd s)))) tb⟩⟩
                    · rw [if_pos (by omega)] at erd
                      exact bad _ _ erd (by omega) H4 (Same.trans s3 s4) d H' hd5 s5 hx
                · have c4' : ¬ isW "up" u = true := fun z => c4 (of_decide_eq_true z)
                  dsimp only at erd
                  rw [if_neg c4'] at erd
                  refine ⟨_, rfl, _, rfl, p1, ws, h.length + 1 + l.length, "up", rfl, hw3, by omega, fun r z => ?_, fun _ d H' s4 hd hx => bad _ _ erd rfl H3 s3 d H' hd s4 hx⟩
                  rw [hd2] at z
                  injection z with z _
                  exact absurd z c4
        · have c2' : ¬ isW "then" w = true := fun z => c2 (of_decide_eq_true z)
          rw [if_neg c2'] at erd
          refine ⟨_, rfl, _, rfl, p1, ws, h.length, "then", rfl, hw2, hle, fun r z => ?_, fun _ d H' s3 hd hx => bad _ _ erd rfl H2 (Same.refl H2) d H' hd s3 hx⟩
          rw [hd] at z
          injection z with z _
          exact absurd z c2
end
end K10
set_option Elab.async false
set_option linter.all false
set_option maxRecDepth 100000
set_option maxHeartbeats 4000000
namespace K10
open PySem PySem.Spec PyProof.Rows L2 He NF RZ NT
abbrev rLenK (K : PySem.W.Frag) : List V → Hp → VK → Prop := fun xs H Q => ∃ a ys, xs = [.ref a] ∧ (SqL K H a ys ∨ SqT K H a ys) ∧ Q (.int (ys.length : Int)) H
theorem tell_succ {h l : List Int} {r : Int} {j : Nat} : tell h l r (j + 1) = tell h l r j ++ [num h l r (j + 1)] := by
  unfold tell
  rw [List.range_succ, List.map_append]
  rfl
section
variable {P : Program} {w : World} {K : PySem.W.Frag} {mg : Str → Option Value} {base : Heap} {gs : List Str} {C : Addr}
theorem ok__law_telling {f : Addr} {fd : FuncData} (F : FunD K "_law_telling" "_law_telling" (defArgs s__law_telling) (defBody s__law_telling) (defScope s__law_telling) [] [] f fd) (T : Txt K mg gs FS) (c__law_pick : Cal P w K mg base 1 "_law_pick" spPick) (c__law_at : Cal P w K mg base 2 "_law_at" (spLAt K)) : FnOk P w K mg base CX0 3 f fd ["_law_source_here", "_law_raw_here"] (spTelling K) := by
  refine F.ok sc__law_telling (fun vs H Q E h => ?_) (fun cdv A outer s H vs Q E hr h => ?_)
  · obtain ⟨H0, p, q, x, rfl, _⟩ := h
    rfl
  · obtain ⟨H0, p, q, ⟨h, l, r⟩, rfl, s0, n0, hs, fo, ok, k⟩ := h
    obtain ⟨a, b, hq, ha, hb⟩ := id fo
    have o1 := ok.h
    have o2 := ok.l
    have o3 := ok.r
    have o4 := ok.g.r0
    dsimp only at hq ha hb o1 o2 o3 o4 k
    refine ⟨_, PSs.nox (pss_cons (ps_set (i := 2) sc__law_telling.nd rfl (Or.inl rfl) (pe_ifExp (pt_cmpR op_gt (pe_callB call_len_seq rfl (T.fr _ (by decide +kernel)) boot_len (pa_cons (pe_ix (ixt (K := K)) (pv 1) pe_int fun _ _ => rfl) pa_nil)) pe_int (nomark _)) (pe_c c__law_pick hr (by decide) rfl (pa_cons (pv 0) (pa_cons pe_int pa_nil))) pe_int)) (pss_cons (ps_set (i := 3) sc__law_telling.nd rfl (Or.inl rfl) (pe_ifExp (pt_cmpR op_gt (pe_callB call_len_seq rfl (T.fr _ (by decide +kernel)) boot_len (pa_cons (pe_ix (ixt (K := K)) (pv 1) pe_int fun _ _ => rfl) pa_nil)) pe_int (nomark _)) (pe_op op_add pe_int (pe_c c__law_pick hr (by decide) rfl (pa_cons (pv 0) (pa_cons pe_int pa_nil)))) pe_int)) (pss_cons (ps_set (i := 4) sc__law_telling.nd rfl (Or.inl rfl) (pe_op op_add (pe_callB call_len_seq rfl (T.fr _ (by decide +kernel)) boot_len (pa_cons (pe_ix (ixt (K := K)) (pv 1) pe_int fun _ _ => rfl) pa_nil)) (pv 2))) (pss_cons (ps_setLc (i := 5) (own := [("_law_n", 6)]) rfl sc__law_telling.nd rfl rfl (sw_true rfl rfl rfl (by decide +kernel)) (pi_range1 rfl (T.fr _ (by decide +kernel)) (pa_cons (pe_op op_add (pv 4) (pe_op op_mul (pe_callB call_len_seq rfl (T.fr _ (by decide +kernel)) boot_len (pa_cons (pe_ix (ixt (K := K)) (pv 1) pe_int fun _ _ => rfl) pa_nil)) (pv 3))) pa_nil)) (blkOk_by (N := ["_law_source_here", "_law_raw_here", "_law_more", "_law_turns", "_law_cut", "_law_values", "_law_n"]) (sc := defScope s__law_telling) (by decide +kernel)) (fun _ _ _ _ _ => by exact (pg_name (i := 6) sc__law_telling.nd rfl (Or.inl rfl))) (fun _ _ _ _ _ => by exact pts_nil) (fun _ _ _ _ _ => by exact (pe_c c__law_at hr (by decide) rfl (pa_cons (pv 1) (pa_cons (pe_op op_add (pv 6) pe_int) pa_nil))))) (pss_one (ps_ret (pe_tup (pa_cons (pe_callTy cr_tup rfl (T.fr _ (by decide +kernel)) (by decide +kernel) (pa_cons (pe_slice sl_list (pv 5) po_none (po_some (pv 4))) pa_nil)) (pa_cons (pe_callTy cr_tup rfl (T.fr _ (by decide +kernel)) (by decide +kernel) (pa_cons (pe_slice sl_list (pv 5) (po_some (pv 4)) po_none) pa_nil)) (pa_cons (pe_op op_mul (pe_ix (ixt (K := K)) (pv 1) pe_int fun _ _ => rfl) (pv 3)) pa_nil)))))))))), ?_⟩
    have hlen0 : ∀ {G : Hp}, Same H0 G → ((vI l).length : Int) = (l.length : Int) := fun _ => by rw [vI_len]
    have hmore : ∀ {W : VK}, (∀ (m : Nat) (G : Hp), m ≤ 4 → (l = [] → m = 0) → Same H0 G → Src G p → W (.int (m : Int)) G) →
        (tIf (tTest (tOp (rI0 fun i j => .bl (decide (j < i))) (tCB (rLenK K) (tCons (tOp (rIxT K) (tVar 1) (tC (.int 1))) tNil)) (tC (.int 0)))) (tCall spPick [] E0 (tCons (tVar 0) (tCons (tC (.int 5)) tNil))) (tC (.int 0))) [some (.ref p), some (.ref q), none, none, none, none, none] H W := by
      intro W hW
      refine ⟨_, rfl, q, _, _, _, rfl, rfl, NF.Same.tup s0 hq, at1, b, _, rfl, Or.inr (NF.Same.tup s0 hb), _, _, rfl, rfl, _, rfl, ite2 (fun h1 => ?_) (fun h1 => ?_)⟩
      · have h2 : l ≠ [] := fun z => by
          have := of_decide_eq_true h1
          rw [vI_len, z] at this
          simp at this
        refine ⟨_, rfl, wo H p, p, 5, rfl, wo_same', wo_none, hs, by decide, by decide, fun d G' d0 d1 s1 hs1 => ?_⟩
        obtain ⟨m, rfl⟩ : ∃ m : Nat, d = (m : Int) := ⟨d.toNat, by omega⟩
        exact hW m G' (by omega) (fun z => absurd z h2) (wo_same s0 n0 s1) hs1
      · have h2 : l = [] := by
          have : ¬ (0 : Int) < ((vI l).length : Int) := fun z => h1 (decide_eq_true z)
          rw [vI_len] at this
          exact List.eq_nil_of_length_eq_zero (by omega)
        exact hW 0 H (by decide) (fun _ => rfl) s0 hs
    refine hmore fun more G1 m4 m0 s1 hs1 => ?_
    have hturn : ∀ {W : VK}, (∀ (t : Nat) (G : Hp), 0 < t → t ≤ 3 → Same H0 G → Src G p → W (.int (t : Int)) G) →
        (tIf (tTest (tOp (rI0 fun i j => .bl (decide (j < i))) (tCB (rLenK K) (tCons (tOp (rIxT K) (tVar 1) (tC (.int 1))) tNil)) (tC (.int 0)))) (tOp (rI0 fun i j => .int (i + j)) (tC (.int 1)) (tCall spPick [] E0 (tCons (tVar 0) (tCons (tC (.int 3)) tNil)))) (tC (.int 1))) [some (.ref p), some (.ref q), some (.int (more : Int)), none, none, none, none] G1 W := by
      intro W hW
      refine ⟨_, rfl, q, _, _, _, rfl, rfl, NF.Same.tup s1 hq, at1, b, _, rfl, Or.inr (NF.Same.tup s1 hb), _, _, rfl, rfl, _, rfl, ite2 (fun h1 => ?_) (fun h1 => ?_)⟩
      · refine ⟨_, rfl, wo G1 p, p, 3, rfl, wo_same', wo_none, hs1, by decide, by decide, fun d G' d0 d1 s2 hs2 => ?_⟩
        obtain ⟨m, rfl⟩ : ∃ m : Nat, d = (m : Int) := ⟨d.toNat, by omega⟩
        refine ⟨_, _, rfl, rfl, ?_⟩
        have := hW (m + 1) G' (by omega) (by omega) (wo_same s1 n0 s2) hs2
        rw [show ((m + 1 : Nat) : Int) = (1 : Int) + (m : Int) by omega] at this
        exact this
      · exact hW 1 G1 (by decide) (by decide) s1 hs1
    refine hturn fun t G2 t0 t3 s2 hs2 => ?_
    have hq2 := NF.Same.tup s2 hq
    refine ⟨_, rfl, q, _, _, _, rfl, rfl, hq2, at0, a, _, rfl, Or.inr (NF.Same.tup s2 ha), _, rfl, _, _, rfl, rfl, ?_⟩
    rw [vI_len]
    refine ⟨_, rfl, _, rfl, q, _, _, _, rfl, rfl, hq2, at1, b, _, rfl, Or.inr (NF.Same.tup s2 hb), _, rfl, _, _, rfl, rfl, Or.inr ⟨by omega, by omega⟩, _, _, rfl, rfl, ?_⟩
    rw [vI_len]
    have eN : (h.length : Int) + (more : Int) + (l.length : Int) * (t : Int) = ((h.length + more + l.length * t : Nat) : Int) := by
      rw [Int.natCast_add, Int.natCast_add, Int.natCast_mul]
    have hN : h.length + more + l.length * t ≤ 404 := by
      have : l.length * t ≤ 4 * 3 := Nat.mul_le_mul o2 t3
      omega
    generalize hNN : h.length + more + l.length * t = N at hN eN
    refine ⟨(N : Int), congrArg (fun z => [V.int z]) eN, by omega, by omega, fun D hD => ?_⟩
    refine lc_range (lo := 0) (n := N) (fun j G => Same G2 G ∧ G D = some (.lst (vI (tell h l r j)))) ⟨NF.Same.new (Same.refl G2) hD, upd_same⟩ ?_ ?_
    · rintro j G hj ⟨hG, hD2⟩
      have e1 : (0 : Int) + (j : Int) = (j : Int) := Int.zero_add _
      rw [e1]
      refine ⟨rfl, _, rfl, _, rfl, _, _, rfl, rfl, ?_⟩
      refine ⟨q, (h, l, r), some (j + 1), rfl, fo.mono (Same.trans s2 hG), ⟨by dsimp only; omega, by dsimp only; omega, o4, by dsimp only; omega⟩, ?_⟩
      have hv : val_ h l r (some (j + 1)) = some (num h l r (j + 1)) := by
        unfold val_
        dsimp only
        rw [if_neg (Nat.succ_ne_zero j)]
        refine at_some _ ?_
        by_cases z : l = []
        · left
          have := m0 z
          have : l.length = 0 := by rw [z]; rfl
          rw [this, Nat.zero_mul] at hNN
          omega
        · exact .inr z
      rw [hv]
      refine ⟨_, hD2, by rw [vI_len, tell_len]; exact Nat.lt_of_lt_of_le (show j < 1000 by omega) (by decide), NF.Same.mut hG hD, ?_⟩
      rw [upd_same, tell_succ, ← vI_app]
      rfl
    · rintro G ⟨hG, hD2⟩
      have s3 := Same.trans s2 hG
      refine ⟨_, rfl, _, rfl, _, rfl, D, _, rfl, SqL.of hD2, fun q1 hq1 => ?_⟩
      have ec : (h.length : Int) + (more : Int) = ((h.length + more : Nat) : Int) := by omega
      rw [ec, cut_to, vI_take]
      refine ⟨q1, _, rfl, Or.inl (SqL.of upd_same), fun p1 G4 s4 t4 => ?_⟩
      have s34 : Same G G4 := Same.trans (NF.Same.new (Same.refl G) hq1) s4
      refine ⟨_, rfl, _, rfl, _, rfl, D, _, rfl, SqL.of (s34 _ _ hD2), fun q2 hq2' => ?_⟩
      have ecut : cutV (vI (tell h l r N)) (some ((h.length : Int) + (more : Int))) none = vI ((tell h l r N).drop (h.length + more)) := by rw [ec, cut_from, vI_drop]
      refine ⟨q2, vI ((tell h l r N).drop (h.length + more)), rfl, Or.inl (SqL.of (upd_same.trans (congrArg (fun z => some (HO.lst z)) ecut))), fun p2 G5 s5 t5 => ?_⟩
      have s45 : Same G4 G5 := Same.trans (NF.Same.new (Same.refl G4) hq2') s5
      have s05 : Same H0 G5 := Same.trans s3 (Same.trans s34 s45)
      refine ⟨_, rfl, q, _, _, _, rfl, rfl, NF.Same.tup s05 hq, at2, _, rfl, _, _, rfl, rfl, Or.inr ⟨by omega, by omega⟩, (by show 3 ≤ sizeLine; decide), fun p6 hp6 => ?_⟩
      have s8 := NF.Same.new (o := .tup [V.ref p1, V.ref p2, V.int (r * (t : Int))]) (Same.refl G5) hp6
      refine k p6 ((tell h l r N).take (h.length + more), (tell h l r N).drop (h.length + more), r * (t : Int)) _ (Same.trans s05 s8) (Src.mono hs2 (Same.trans hG (Same.trans s34 (Same.trans s45 s8)))) ⟨more, t, m4, m0, t0, t3, ?_⟩ ⟨p1, p2, SqT.of upd_same, NF.Same.tup (Same.trans s45 s8) t4, NF.Same.tup s8 t5⟩
      dsimp only
      rw [hNN]
end
end K10
set_option Elab.async false
set_option linter.all false
set_option maxRecDepth 100000
set_option maxHeartbeats 4000000
namespace K10
open PySem PySem.Spec PyProof.Rows L2 He NF RZ NT
def spLaw (K : PySem.W.Frag) : Sp := fun vs H Q _ => ∃ (l : Addr) (ns : List Int), vs = [.ref l] ∧ SqL K H l (ns.map V.int) ∧ ns.length ≤ 63 ∧ (∀ k ∈ ns, Builtin.Int.intBits k ≤ 1048576) ∧ ∀ H', Q (.bl true) H'
theorem sc_law : FnScope ["_law_script", "_law_source_here", "_law_raw_here", "_law_plain_here", "_law_table_here", "_law_text_here", "_law_other", "_law_told", "_law_n", "_law_second", "_law_near"] ["_law_script"] (defScope s_law) := ⟨rfl, rfl, rfl, by decide +kernel, rfl, by decide +kernel, by decide +kernel⟩
theorem vO_scalar (o : Option Int) : scal (vO o) (vO o) = true := by cases o <;> rfl
theorem vO_scal2 {o o' : Option Int} (e : o = o') : scal (vO o) (vO o') = true := by subst e; exact vO_scalar o
theorem gr_raw {x : List Int × List Int × Int} (a : Gr x) : RawOk x := ⟨a.g, Nat.le_trans a.h (by decide), Nat.le_trans a.l (by decide), Int.le_trans a.r (by decide)⟩
theorem raw_small {x z : List Int × List Int × Int} (ok : RawOk x) (hz : IsPlain x.1 x.2.1 x.2.2 z) : Small z ∧ Counts z := by
  have q := plain_size hz
  have o1 := ok.h
  have o2 := ok.l
  have o3 := ok.r
  have o4 := q.2.2.2.2.1 ok.g.r0
  exact ⟨⟨by omega, by omega, by omega, by omega⟩, plain_counts ok.g hz⟩
theorem FormAt.wo {K : PySem.W.Frag} {H : Hp} {q p : Addr} {y : List Int × List Int × Int} (h : FormAt K H q y) (hs : Src H p) : FormAt K (NF.wo H p) q y := by
  obtain ⟨_, _, _, hp⟩ := hs
  obtain ⟨a, b, h1, h2, h3⟩ := h
  exact ⟨a, b, NF.SqT.wo h1 hp trivial, NF.SqT.wo h2 hp trivial, NF.SqT.wo h3 hp trivial⟩
theorem rd_text {z : List Int × List Int × Int} (g : Good z.1 z.2.1 z.2.2) (f : Few z (10 ^ 60)) : rdOf (textF z) = .ok z.1 z.2.1 z.2.2 := by
  unfold rdOf wordsOf
  rw [text_words f]
  exact read_words g f
theorem text_short {z : List Int × List Int × Int} (f : Few z (10 ^ 60)) (hn : z.1.length + z.2.1.length ≤ 300) : (textF z).length ≤ 20000 ∧ (wordsOf (textF z)).length ≤ 902 := by
  have wl := words_le f hn
  have jl := join_few wl.1 wl.2
  refine ⟨Nat.le_trans jl.1 (by decide), ?_⟩
  show (Txt.split (textF z) " ").length ≤ 902
  rw [text_words f]
  exact Nat.le_trans wl.1 (by decide)
theorem rd_bad {z : List Int × List Int × Int} (g : Good z.1 z.2.1 z.2.2) (f : Few z (10 ^ 60)) {n : Nat} (e : rdOf (textF z) = .bad n) : False := by
  rw [rd_text g f] at e
  cases e
theorem rd_inj {z : List Int × List Int × Int} (g : Good z.1 z.2.1 z.2.2) (f : Few z (10 ^ 60)) {h l : List Int} {r : Int} (e : rdOf (textF z) = .ok h l r) {u : List Int × List Int × Int} (p : IsPlain h l r u) : IsPlain z.1 z.2.1 z.2.2 u := by
  rw [rd_text g f] at e
  injection e with e1 e2 e3
  subst e1 e2 e3
  exact p
theorem never_text : textF ([], [], 0) = "never" := by decide +kernel
theorem never_good : Good [] [] 0 := ⟨trivial, trivial, fun z => absurd rfl z, Int.le_refl _, fun _ => rfl, fun z => absurd rfl z⟩
theorem never_few : Few ([], [], 0) (10 ^ 60) := ⟨fun n v h1 h2 => by simp at h2; omega, Int.le_refl _, by decide⟩
section
variable {P : Program} {w : World} {K : PySem.W.Frag} {mg : Str → Option Value} {base : Heap} {gs : List Str} {C : Addr}
theorem ok_law {e0 : Addr} {f : Addr} {fd : FuncData} (F : FunD K "law" "law" (defArgs s_law) (defBody s_law) (defScope s_law) [] [] f fd) (T : Txt K mg gs FS) (tc : TabC K C) (he0 : ∀ H : Hp, SqT K H e0 (vI []))
    (c__law_source : Cal P w K mg base 1 "_law_source" (spSource K)) (c__law_raw : Cal P w K mg base 3 "_law_raw" (spRaw K)) (c__law_great : Cal P w K mg base 3 "_law_great" (spGreat K)) (c__law_plain : Cal P w K mg base 1 "_law_plain" (spPlain K)) (c__law_telling : Cal P w K mg base 3 "_law_telling" (spTelling K)) (c__law_table : Cal P w K mg base 6 "_law_table" (spLTable K C)) (c__law_same : Cal P w K mg base 3 "_law_same" (spSame K C)) (c__law_text : Cal P w K mg base 1 "_law_text" (spText K))
    (c__law_at : Cal P w K mg base 2 "_law_at" (spLAt K)) (c__law_behind : Cal P w K mg base 3 "_law_behind" (spLBehind K)) (c_write_table : Cal P w K mg base 1 "write_table" (spWrite K C)) (c_read_table : CalX P w K mg base 6 "read_table" (spReadTable K C))
    (m_Table1 : Mak P w K mg base 4 0 "Table" C (spInit K C) [.ref e0, .int 0]) (o_eq : EqC P w K mg base 1 C (spEq K C)) (o_mul : OpC P w K mg base 6 C "__mul__" (spMul K C)) (o_call : CalO P w K mg base 3 C (spAt K C)) (o_end : PropC P w K mg base 2 C "end" (spEnd K C)) : FnOk P w K mg base CX0 8 f fd ["_law_script"] (spLaw K) := by
  refine F.ok sc_law (fun vs H Q E h => ?_) (fun cdv A outer s H vs Q E hr h => ?_)
  · obtain ⟨l, ns, rfl, _⟩ := h
    rfl
  · obtain ⟨sl, ns, rfl, hsl, hlen, hbits, k⟩ := h
    have hu : (A.deeper (envOfC "law" (defScope s_law) s.heap.objs.size f cdv)).units + 64 < cLine := by
      have := hr.un
      omega
    have nfC : PySem.W.notFirst K C (.ref C) = true := by simp [PySem.W.notFirst]
    refine ⟨_, PSs.nox (pss_cons (ps_set (i := 1) sc_law.nd rfl (Or.inl rfl) (pe_c c__law_source hr (by decide) rfl (pa_cons (pv 0) (pa_cons pe_int pa_nil)))) (pss_cons (ps_set (i := 2) sc_law.nd rfl (Or.inl rfl) (pe_c c__law_great hr (by decide) rfl (pa_cons (pv 1) (pa_cons (pe_c c__law_raw hr (by decide) rfl (pa_cons (pv 1) (pa_cons pe_bl pa_nil))) pa_nil)))) (pss_cons (ps_set (i := 3) sc_law.nd rfl (Or.inl rfl) (pe_c c__law_plain hr (by decide) rfl (pa_cons (pe_ix (ixt (K := K)) (pv 2) pe_int fun _ _ => rfl) (pa_cons (pe_ix (ixt (K := K)) (pv 2) pe_int fun _ _ => rfl) (pa_cons (pe_ix (ixt (K := K)) (pv 2) pe_int fun _ _ => rfl) pa_nil))))) (pss_cons (ps_set (i := 4) sc_law.nd rfl (Or.inl rfl) (pe_c c__law_table hr (by decide) rfl (pa_cons (pv 2) pa_nil))) (pss_cons (ps_set (i := 5) sc_law.nd rfl (Or.inl rfl) (pe_c c_write_table hr (by decide) rfl (pa_cons (pv 4) pa_nil))) (pss_cons (ps_if (PW.pt (pw_or (pt_not (pt_val (pe_callB call_isi rfl (T.fr _ (by decide +kernel)) (by decide +kernel) (pa_cons (pv 5) (pa_cons (pe_bltn (v := .ty "str") rfl (T.fr _ (by decide +kernel)) (by decide +kernel) rfl) pa_nil))))) (pw_or1 (pt_cmpR op_ne (pv 5) (pe_c c__law_text hr (by decide) rfl (pa_cons (pv 3) pa_nil)) (nomark _))))) (pss_one (ps_ret pe_bl)) pss_nil) (pss_cons (ps_if (pt_not (pt_val (pe_c c__law_same hr (by decide) rfl (pa_cons (pe_cX takes0 c_read_table hr (by decide) rfl (pa_cons (pv 5) pa_nil)) (pa_cons (pv 3) pa_nil))))) (pss_one (ps_ret pe_bl)) pss_nil) (pss_cons (ps_set (i := 6) sc_law.nd rfl (Or.inl rfl) (pe_c c__law_telling hr (by decide) rfl (pa_cons (pe_c c__law_source hr (by decide) rfl (pa_cons (pv 0) (pa_cons pe_int pa_nil))) (pa_cons (pv 2) pa_nil)))) (pss_cons (ps_set (i := 7) sc_law.nd rfl (Or.inl rfl) (pe_cX takes0 c_read_table hr (by decide) rfl (pa_cons (pe_c c__law_text hr (by decide) rfl (pa_cons (pv 6) pa_nil)) pa_nil))) (pss_cons (ps_if (PW.pt (pw_or (pt_not (pt_val (pe_c c__law_same hr (by decide) rfl (pa_cons (pv 7) (pa_cons (pv 3) pa_nil))))) (pw_or (pt_not (pt_cmpR (op_eqO o_eq hr (by decide)) (pv 7) (pv 4) (nomark _))) (pw_or1 (pt_cmpR op_ne (pe_c c_write_table hr (by decide) rfl (pa_cons (pv 7) pa_nil)) (pv 5) (nomark _)))))) (pss_one (ps_ret pe_bl)) pss_nil) (pss_cons (ps_for PassesOwn.never rfl (pi_range1 rfl (T.fr _ (by decide +kernel)) (pa_cons pe_int pa_nil)) (pg_name (i := 8) sc_law.nd rfl (Or.inl rfl)) (pss_one (ps_if (pt_cmpR op_ne (pe_co (pv 7) o_call hr (by decide) (pa_cons (pv 8) pa_nil)) (pe_c c__law_at hr (by decide) rfl (pa_cons (pv 2) (pa_cons (pv 8) pa_nil))) (nomark _)) (pss_one (ps_ret pe_bl)) pss_nil))) (pss_cons (ps_set (i := 9) sc_law.nd rfl (Or.inl rfl) (pe_c c__law_raw hr (by decide) rfl (pa_cons (pe_c c__law_source hr (by decide) rfl (pa_cons (pv 0) (pa_cons pe_int pa_nil))) (pa_cons pe_bl pa_nil)))) (pss_cons (ps_set (i := 10) sc_law.nd rfl (Or.inl rfl) (pe_cX takes0 c_read_table hr (by decide) rfl (pa_cons (pe_c c__law_text hr (by decide) rfl (pa_cons (pv 9) pa_nil)) pa_nil))) (pss_cons (ps_if (pt_cmpR op_ne (pe_c c_write_table hr (by decide) rfl (pa_cons (pe_op (op_bin o_mul hr (by decide)) (pv 10) (pe_c c__law_table hr (by decide) rfl (pa_cons (pv 9) pa_nil))) pa_nil)) (pe_c c__law_text hr (by decide) rfl (pa_cons (pe_c c__law_behind hr (by decide) rfl (pa_cons (pv 9) (pa_cons (pv 9) pa_nil))) pa_nil)) (nomark _)) (pss_one (ps_ret pe_bl)) pss_nil) (pss_one (ps_ret (pe_and (pe_cmpR op_eq (pe_c c_write_table hr (by decide) rfl (pa_cons (pv 4) pa_nil)) (pv 5) (nomark _)) (pe_and (pe_cmpR op_eq (pe_c c_write_table hr (by decide) rfl (pa_cons (pe_mk m_Table1 hr (by decide) rfl (pa_cons (pe_tup pa_nil) pa_nil)) pa_nil)) pe_str (nomark _)) (pe_one (pe_cmpR op_isN (pe_pr (pe_cX takes0 c_read_table hr (by decide) rfl (pa_cons pe_str pa_nil)) o_end hr (by decide)) pe_non (nomark _))))))))))))))))))))), ?_⟩
    refine ⟨_, rfl, sl, ns, 0, rfl, hsl, hlen, hbits, by decide, fun p G1 s1 hp hs1 => ?_⟩
    -- the table as it is told
    refine ⟨_, rfl, _, rfl, wo G1 p, p, rfl, wo_same', wo_none, hs1, fun q0 x0 G2 s2 hs2 ok0 fo0 => ?_⟩
    have sH2 : Same H G2 := wo_same s1 hp s2
    refine ⟨wo G2 p, p, q0, x0, rfl, wo_same', wo_none, hs2, fo0.wo hs2, ok0, fun q x G3 s3 hs3 gr fo => ?_⟩
    have sH3 : Same H G3 := wo_same sH2 hp s3
    have okr := gr_raw gr
    have o1 := okr.h
    have o2 := okr.l
    have gh := gr.h
    have gl := gr.l
    obtain ⟨a, b, hq, ha, hb⟩ := id fo
    refine ⟨_, rfl, q, _, _, _, rfl, rfl, hq, at0, _, rfl, q, _, _, _, rfl, rfl, hq, at1, _, rfl, q, _, _, _, rfl, rfl, hq, at2, ?_⟩
    refine ⟨a, b, x.1, x.2.1, x.2.2, rfl, ha, hb, by omega, by omega, fun qp y0 G4 hy0 s4 fp => ?_⟩
    obtain ⟨sm0, ct0⟩ := raw_small okr hy0
    have few0 : Few y0 (10 ^ 60) := plain_few hy0 (gr_few gr)
    have len0 : y0.1.length + y0.2.1.length ≤ 300 := plain_short hy0 (by omega)
    have gd0 := (plain_fin gr.g hy0).1
    refine ⟨_, rfl, q, x, rfl, fo.mono s4, okr, fun tx z G5 hz s5 tb => ?_⟩
    obtain rfl : z = y0 := plain_one hz hy0 fun n _ => rfl
    -- written
    refine ⟨_, rfl, tx, z, rfl, tb, few0, by omega, fun G6 s6 => ?_⟩
    have s46 := Same.trans s5 s6
    have fp6 := fp.mono s46
    have tb6 := tb.mono s6
    refine ⟨_, rfl, _, _, _, _, true, rfl, .ty "str", .base (.str _), kit_s_s K, true, rfl, iteF ?_⟩
    refine ⟨_, rfl, _, rfl, qp, z, rfl, fp6, few0, by omega, fun G7 s7 => ⟨rfl, _, rfl, iteF' (by simp) ?_⟩⟩
    -- read back
    refine ⟨_, rfl, .str (textF z), rfl, .inl ⟨textF z, rfl, (text_short few0 len0).1, (text_short few0 len0).2, fun n e => (rd_bad gd0 few0 e).elim, fun h' l' r' e rx rz G8 hrz s8 rtb => ?_⟩⟩
    replace hrz := rd_inj gd0 few0 e hrz
    obtain rfl : rz = z := plain_one hrz hy0 fun n hn => plain_at hy0 n hn
    have fp8 := (fp6.mono s7).mono s8
    refine ⟨_, rfl, rx, qp, rz, rfl, rtb, fp8, sm0, ct0, fun G9 s9 => ⟨true, rfl, iteF ?_⟩⟩
    have s49 : Same G4 G9 := Same.trans s46 (Same.trans s7 (Same.trans s8 s9))
    have s39 := Same.trans s4 s49
    have sH9 := Same.trans sH3 s39
    have tb9 := tb6.mono (Same.trans s7 (Same.trans s8 s9))
    have fo9 := fo.mono s39
    have fp9 := fp8.mono s9
    -- told again
    refine ⟨_, rfl, sl, ns, 1, rfl, L2.Same.seq sH9 hsl, hlen, hbits, by decide, fun p2 GA sA hp2 hsA => ?_⟩
    refine ⟨_, rfl, wo GA p2, p2, q, x, rfl, wo_same', wo_none, hsA, (fo9.mono sA).wo hsA, gr_tel gr, fun qo y GB sB _ td fy => ?_⟩
    have s9B : Same G9 GB := wo_same sA hp2 sB
    obtain ⟨gy, aty, leny, fewy⟩ := told_ok gr td
    refine ⟨_, rfl, qo, y, rfl, fy, fewy, by omega, fun GC sC => ?_⟩
    refine ⟨.str (textF y), rfl, .inl ⟨textF y, rfl, (text_short fewy leny).1, (text_short fewy leny).2, fun n e => (rd_bad gy fewy e).elim, fun h' l' r' e tx2 u GD hu2 sD tbD => ?_⟩⟩
    replace hu2 := rd_inj gy fewy e hu2
    obtain rfl : u = rz := plain_one hu2 hy0 aty
    have s9D := Same.trans s9B (Same.trans sC sD)
    have tbD1 := tb9.mono s9D
    have fpD := fp9.mono s9D
    have foD := fo9.mono s9D
    refine ⟨_, rfl, _, rfl, tx2, qp, u, rfl, tbD, fpD, sm0, ct0, fun GE sE => ⟨true, rfl, iteF ?_⟩⟩
    have tbE := tbD.mono sE
    have tbE1 := tbD1.mono sE
    obtain ⟨dxt, _, _, hxt, _, _⟩ := id tbE
    obtain ⟨dxf, _, _, hxf, _, _⟩ := id tbE1
    refine ⟨_, rfl, _, rfl, tx2, dxt, _, _, rfl, hxt, tc.ty hxf, nfC, tx2, u, .ref tx, rfl, tbE, Or.inl ⟨tx, u, rfl, tbE1, _, rfl, iteF' (by simp) ?_⟩⟩
    refine ⟨_, rfl, tx2, u, rfl, tbE, few0, by omega, fun GF sF => ⟨_, rfl, rfl, _, rfl, iteF' (by simp) ?_⟩⟩
    have tbF := tbE.mono sF
    have tbF1 := tbE1.mono sF
    have foF := (foD.mono sE).mono sF
    have sHF := Same.trans sH9 (Same.trans s9D (Same.trans sE sF))
    -- the values
    have smx : Small x := ⟨by omega, by omega, gr.g.r0, Int.le_trans gr.r (by decide)⟩
    refine ⟨12, rfl, by decide, by decide, ?_⟩
    refine for_range (lo := 0) (n := 12) (fun i σ G => Same GF G ∧ ∃ v, σ = [some (.ref sl), some (.ref p), some (.ref q), some (.ref qp), some (.ref tx), some (.str (textF u)), some (.ref qo), some (.ref tx2), v, none, none]) ⟨Same.refl GF, none, rfl⟩ ?_ ?_
    · rintro i σ G hi ⟨sG, v, rfl⟩
      obtain ⟨dx, _, _, hx, _, _⟩ := id (tbF.mono sG)
      rw [Int.zero_add]
      refine ⟨_, rfl, tx2, rfl, _, rfl, Or.inr ⟨dx, _, hx⟩, tx2, u, some i, rfl, tbF.mono sG, sm0, fun G' s' => ?_⟩
      refine ⟨_, rfl, _, rfl, q, x, some i, rfl, foF.mono (Same.trans sG s'), smx, vO_scal2 (val_plain gr.g hy0 _), _, rfl, iteF' (by rw [val_plain gr.g hy0]; simp) ⟨Same.trans sG s', _, rfl⟩⟩
    · rintro σ G ⟨sG, v, rfl⟩
      have sHG := Same.trans sHF sG
      have tbG1 := tbF1.mono sG
      refine ⟨_, rfl, sl, ns, 1, rfl, L2.Same.seq sHG hsl, hlen, hbits, by decide, fun p3 GH s3' hp3 hsH => ?_⟩
      refine ⟨wo GH p3, p3, rfl, wo_same', wo_none, hsH, fun q2 x2 GI sI _ ok2 fo2 => ?_⟩
      have sGI : Same G GI := wo_same s3' hp3 sI
      have gr2 := ok2.gr
      have few2 := gr_few gr2
      have l2h := ok2.h
      have l2l := ok2.l
      have put2 := raw_put ok2
      refine ⟨_, rfl, q2, x2, rfl, fo2, few2, by omega, fun GJ sJ => ?_⟩
      refine ⟨.str (textF x2), rfl, .inl ⟨textF x2, rfl, (text_short few2 (by omega)).1, (text_short few2 (by omega)).2, fun n e => (rd_bad gr2.g few2 e).elim, fun h' l' r' e nx u2 GK hu2 sK tbn => ?_⟩⟩
      replace hu2 := rd_inj gr2.g few2 e hu2
      have psz := plain_size hu2
      have putu : Put u2 := ⟨(plain_fin gr2.g hu2).1, by have := psz.1; omega, by have := psz.2.1; omega, by have := (psz.2.2.2.2.1 gr2.g.r0).2; have := ok2.r; omega⟩
      have fo2K := (fo2.mono sJ).mono sK
      refine ⟨_, rfl, _, rfl, q2, x2, rfl, fo2K, gr_raw gr2, fun t3 z3 GL hz3 sL tb3 => ?_⟩
      obtain rfl : z3 = u2 := plain_one hz3 hu2 fun n _ => rfl
      have tbnL := tbn.mono sL
      obtain ⟨dxn, _, _, hxn, _, _⟩ := id tbnL
      obtain ⟨dx3, _, _, hx3, _, _⟩ := id tb3
      refine ⟨nx, dxn, _, t3, dx3, _, rfl, hxn, rfl, hx3, nx, t3, z3, z3, rfl, tbnL, tb3, putu, putu, fun xm um zm GM tlm hzm sM tbm => ?_⟩
      have tlm2 : Tells x2 x2 um := ⟨tlm.1, fun n hn => (tlm.2.1 n hn).trans (beh_plain gr2.g hu2 hu2 n hn), tlm.2.2⟩
      have fewm : Few zm (10 ^ 60) := plain_few hzm (tells_few ok2 tlm2)
      refine ⟨xm, zm, rfl, tbm, fewm, plain_short hzm tlm.2.2, fun GN sN => ?_⟩
      have fo2N := ((fo2K.mono sL).mono sM).mono sN
      refine ⟨_, rfl, _, rfl, q2, q2, x2, x2, rfl, fo2N, fo2N, put2, put2, fun pb ub zb GO sO tlb hzb fob => ?_⟩
      obtain rfl : zb = zm := plain_one hzb hzm fun n hn => (tlb.2.1 n hn).trans (tlm2.2.1 n hn).symm
      refine ⟨pb, zb, rfl, fob, fewm, plain_short hzm tlm.2.2, fun GP sP => ⟨rfl, _, rfl, iteF' (by simp) ?_⟩⟩
      have sGP := Same.trans sGI (Same.trans sJ (Same.trans sK (Same.trans sL (Same.trans sM (Same.trans sN (Same.trans sO sP))))))
      have tbP := tbG1.mono sGP
      -- the end
      refine ⟨_, rfl, tx, u, rfl, tbP, few0, by omega, fun GQ sQ => ?_⟩
      refine ⟨_, rfl, rfl, _, rfl, iteT' (by simp) ?_⟩
      refine ⟨(by show 0 ≤ sizeLine; decide), fun p5 h5 => ?_⟩
      intro x5 dx5 nx5 nd5 ne5
      have s5' := NF.Same.new (o := .tup []) (Same.refl GQ) h5
      refine ⟨x5, dx5, p5, e0, [], [], 0, rfl, upd_same, row_made nx5 nd5 (.inr (SqT.of upd_same)), .inr (he0 _), never_good, by decide, fun z5 H5 hz5 s6' tb5 => ⟨rfl, ?_⟩⟩
      have ez5 : z5 = ([], [], 0) := by
        rcases hz5 with ⟨_, e⟩ | ⟨e, _⟩
        · exact e
        · exact absurd rfl e
      subst ez5
      refine ⟨x5, ([], [], 0), rfl, tb5, never_few, by decide, fun H6 s7' => ?_⟩
      rw [never_text]
      refine ⟨rfl, _, rfl, iteT' (by simp) ?_⟩
      refine ⟨.str "never", rfl, .inl ⟨"never", rfl, by decide +kernel, by decide +kernel, fun n e => (rd_bad never_good never_few (by rw [never_text]; exact e)).elim, fun h' l' r' e x7 u7 H7 hu7 s8' tb7 => ?_⟩⟩
      replace hu7 := rd_inj never_good never_few (by rw [never_text]; exact e) hu7
      obtain ⟨dx7, _, _, hx7, _, _⟩ := id tb7
      refine ⟨x7, dx7, _, rfl, hx7, x7, u7, rfl, tb7, ?_⟩
      have ef : fin_ u7.2.1 u7.2.2 = none := by
        rcases hu7 with ⟨_, e⟩ | ⟨e, _⟩
        · subst e
          rfl
        · exact absurd rfl e
      rw [ef]
      exact ⟨rfl, k _⟩
end
end K10
set_option Elab.async false
set_option linter.all false
set_option maxRecDepth 100000
set_option maxHeartbeats 4000000
namespace K10
open PySem PySem.Spec PyProof.Rows L2 He NF RZ NT
theorem all_ok {P : Program} {w : World} {K : PySem.W.Frag} {h : Heap} {mg : Str → Option Value} {f : Addr} (X : K.In h) (G : h.Ns mainGlobals mg) (hfa : mg ("law" : Str) = some (.ref f)) (c : SaysP exB fn K) :
    ∃ fd : FuncData, (∀ (s : Shared) (v : Value), BindsTo s fd ⟨[v], []⟩ [("_law_script", v)]) ∧ ∀ base : Heap, K.In base → base.Ns mainGlobals mg → FnOk P w K mg base CX0 8 f fd ["_law_script"] (spLaw K) := by
  have ht : ∀ f ∈ exL, f K = true := fun f hf => List.all_eq_true.mp c.truth f hf
  have b_nam : (namB gs FS) K = true := ht _ (List.mem_of_getElem? (i := 0) rfl)
  have b_blt_gcd : (bltB "gcd" "math.gcd") K = true := ht _ (List.mem_of_getElem? (i := 1) rfl)
  have b_int_MOST_FIGURES : (intB "MOST_FIGURES" 60) K = true := ht _ (List.mem_of_getElem? (i := 2) rfl)
  have b_str_FIGURES : (strB "FIGURES" "0123456789") K = true := ht _ (List.mem_of_getElem? (i := 3) rfl)
  have b_exc_BadText : (excKB "BadText" "place") K = true := ht _ (List.mem_of_getElem? (i := 4) rfl)
  have b_cls : (clsB "Table") K = true := ht _ (List.mem_of_getElem? (i := 5) rfl)
  have b_fld : (fldsB "Table" ["head", "loop", "rise"]) K = true := ht _ (List.mem_of_getElem? (i := 6) rfl)
  have b_ty : (tyB "Table") K = true := ht _ (List.mem_of_getElem? (i := 7) rfl)
  have b_mk_Table : (mkB "Table") K = true := ht _ (List.mem_of_getElem? (i := 8) rfl)
  have b_eq : (eqB "Table") K = true := ht _ (List.mem_of_getElem? (i := 9) rfl)
  have b_e0 : (e0B e0) K = true := ht _ (List.mem_of_getElem? (i := 10) rfl)
  have b_call : (callB "Table") K = true := ht _ (List.mem_of_getElem? (i := 11) rfl)
  have b_prop_end : (propB "Table" "end") K = true := ht _ (List.mem_of_getElem? (i := 12) rfl)
  have b_bin_mul : (binB "Table" "__mul__") K = true := ht _ (List.mem_of_getElem? (i := 13) rfl)
  have T : Txt K mg gs FS := nam_ok b_nam X G
  have h_gcd := blt_ok b_blt_gcd X G
  obtain ⟨tok_MOST_FIGURES, h_MOST_FIGURES⟩ := int_ok b_int_MOST_FIGURES X G
  obtain ⟨tok_FIGURES, h_FIGURES⟩ := str_ok b_str_FIGURES X G
  have x_BadText := excK_ok b_exc_BadText
  have tcl := cls_ok b_cls
  have ty := ty_ok b_ty
  have tc : TabC K (ga K "Table") := ⟨tcl, flds_ok b_fld (by decide +kernel), flds_ok b_fld (by decide +kernel), flds_ok b_fld (by decide +kernel), ty.ac, ty.ag, ty.at_, ty.am, ty.self, ty.tup, ty.int, ty.non⟩
  obtain ⟨f0, F0⟩ := c.def_ 0 (d := dG "shortest_lap" s_shortest_lap) rfl
  obtain ⟨f1, F1⟩ := c.def_ 1 (d := dG "plain_form" s_plain_form) rfl
  obtain ⟨f2, F2⟩ := c.def_ 2 (d := dG "is_integer" s_is_integer) rfl
  obtain ⟨f3, F3⟩ := c.def_ 3 (d := dG "is_count" s_is_count) rfl
  obtain ⟨f4, F4⟩ := c.def_ 4 (d := dG "is_row" s_is_row) rfl
  obtain ⟨f5, F5⟩ := c.def_ 5 (d := dG "is_climb" s_is_climb) rfl
  obtain ⟨f6, F6⟩ := c.def_ 6 (d := dG "check_table" s_check_table) rfl
  obtain ⟨f7, F7⟩ := c.def_ 7 (d := dM "Table" "__init__" "Table.__init__" s_Table_init [.adr e0, .int 0]) rfl
  obtain ⟨f8, F8⟩ := c.def_ 8 (d := dG "end_of" s_end_of) rfl
  obtain ⟨f9, F9⟩ := c.def_ 9 (d := dG "value_at" s_value_at) rfl
  obtain ⟨f10, F10⟩ := c.def_ 10 (d := dM "Table" "__call__" "Table.__call__" s_Table_call []) rfl
  obtain ⟨f11, F11⟩ := c.def_ 11 (d := dP "Table" "end" "Table.end" s_Table_end) rfl
  obtain ⟨f12, F12⟩ := c.def_ 12 (d := dM "Table" "__eq__" "Table.__eq__" s_Table_eq []) rfl
  obtain ⟨f13, F13⟩ := c.def_ 13 (d := dG "_law_pick" s__law_pick) rfl
  obtain ⟨f14, F14⟩ := c.def_ 14 (d := dG "_law_source" s__law_source) rfl
  obtain ⟨f15, F15⟩ := c.def_ 15 (d := dG "_law_is_integer" s__law_is_integer) rfl
  obtain ⟨f16, F16⟩ := c.def_ 16 (d := dG "_law_is_count" s__law_is_count) rfl
  obtain ⟨f17, F17⟩ := c.def_ 17 (d := dG "_law_end" s__law_end) rfl
  obtain ⟨f18, F18⟩ := c.def_ 18 (d := dG "_law_at" s__law_at) rfl
  obtain ⟨f19, F19⟩ := c.def_ 19 (d := dG "_law_gcd" s__law_gcd) rfl
  obtain ⟨f20, F20⟩ := c.def_ 20 (d := dG "_law_rising" s__law_rising) rfl
  obtain ⟨f21, F21⟩ := c.def_ 21 (d := dG "_law_raw" s__law_raw) rfl
  obtain ⟨f22, F22⟩ := c.def_ 22 (d := dG "_law_plain" s__law_plain) rfl
  obtain ⟨f23, F23⟩ := c.def_ 23 (d := dG "_law_plain" s__law_plain) rfl
  obtain ⟨f24, F24⟩ := c.def_ 24 (d := dG "_law_table" s__law_table) rfl
  obtain ⟨f25, F25⟩ := c.def_ 25 (d := dG "_law_same" s__law_same) rfl
  obtain ⟨f26, F26⟩ := c.def_ 26 (d := dG "_law_telling" s__law_telling) rfl
  obtain ⟨f27, F27⟩ := c.def_ 27 (d := dG "is_number" s_is_number) rfl
  obtain ⟨f28, F28⟩ := c.def_ 28 (d := dG "climb_at" s_climb_at) rfl
  obtain ⟨f29, F29⟩ := c.def_ 29 (d := dG "check_word" s_check_word) rfl
  obtain ⟨f30, F30⟩ := c.def_ 30 (d := dG "check_end" s_check_end) rfl
  obtain ⟨f31, F31⟩ := c.def_ 31 (d := dG "read_table" s_read_table) rfl
  obtain ⟨f32, F32⟩ := c.def_ 32 (d := dG "many_at_most" s_many_at_most) rfl
  obtain ⟨f33, F33⟩ := c.def_ 33 (d := dG "last_at_most" s_last_at_most) rfl
  obtain ⟨f34, F34⟩ := c.def_ 34 (d := dG "values_from" s_values_from) rfl
  obtain ⟨f35, F35⟩ := c.def_ 35 (d := dG "values_behind" s_values_behind) rfl
  obtain ⟨f36, F36⟩ := c.def_ 36 (d := dG "settled_form" s_settled_form) rfl
  obtain ⟨f37, F37⟩ := c.def_ 37 (d := dG "behind_form" s_behind_form) rfl
  obtain ⟨f38, F38⟩ := c.def_ 38 (d := dM "Table" "__mul__" "Table.__mul__" s_Table_mul []) rfl
  obtain ⟨f39, F39⟩ := c.def_ 39 (d := dG "_law_counts" s__law_counts) rfl
  obtain ⟨f40, F40⟩ := c.def_ 40 (d := dG "_law_fit" s__law_fit) rfl
  obtain ⟨f41, F41⟩ := c.def_ 41 (d := dG "_law_behind" s__law_behind) rfl
  obtain ⟨f42, F42⟩ := c.def_ 42 (d := dG "_law_great" s__law_great) rfl
  obtain ⟨f43, F43⟩ := c.def_ 43 (d := dG "_law_text" s__law_text) rfl
  obtain ⟨f44, F44⟩ := c.def_ 44 (d := dG "write_table" s_write_table) rfl
  obtain ⟨f45, F45⟩ := c.def_ 45 (d := dG "law" s_law) rfl
  obtain ⟨f46, F46⟩ := c.def_ 46 (d := dM "BadText" "__init__" "BadText.__init__" s_BadText_init []) rfl
  have e := hfa.symm.trans (T.gl "law" (by decide +kernel))
  cases e
  have bl := FunD.bindsA (ps := ["_law_script"]) F45 fun _ _ _ _ _ _ us hl => match us, hl with | [_], _ => rfl
  refine ⟨f45, fun s v => bl s [v] rfl, fun base _ _ => ?_⟩
  have m_BadText : ExcI P w K mg base "BadText" "place" := x_BadText.excI T (by decide +kernel) F46 rfl ⟨rfl, rfl, rfl, by decide +kernel, rfl, by decide +kernel, by decide +kernel⟩ (Or.inl rfl) (Or.inl rfl) (by decide) (by decide) (F46.bindsN fun _ _ _ _ _ _ us hl => match us, hl with | [_, _], _ => rfl)
  have c_shortest_lap : Cal P w K mg base 1 "shortest_lap" (spLap K) := Cal.mk' F0 (ok_shortest_lap F0 T rfl) (T.gl _ (by decide +kernel)) (F0.bindsN fun _ _ _ _ _ _ us hl => match us, hl with | [_, _], _ => rfl)
  have c_plain_form : Cal P w K mg base 2 "plain_form" (spForm K) := Cal.mk' F1 (ok_plain_form F1 T rfl c_shortest_lap) (T.gl _ (by decide +kernel)) (F1.bindsN fun _ _ _ _ _ _ us hl => match us, hl with | [_, _, _], _ => rfl)
  have c_is_integer : Cal P w K mg base 1 "is_integer" spIsInt := Cal.mk' F2 (ok_is_integer F2 T) (T.gl _ (by decide +kernel)) (F2.bindsN fun _ _ _ _ _ _ us hl => match us, hl with | [_], _ => rfl)
  have c_is_count : Cal P w K mg base 2 "is_count" spIsCount := Cal.mk' F3 (ok_is_count F3 T c_is_integer) (T.gl _ (by decide +kernel)) (F3.bindsN fun _ _ _ _ _ _ us hl => match us, hl with | [_], _ => rfl)
  have c_is_row : Cal P w K mg base 1 "is_row" (spIsRow K) := Cal.mk' F4 (ok_is_row F4 T) (T.gl _ (by decide +kernel)) (F4.bindsN fun _ _ _ _ _ _ us hl => match us, hl with | [_], _ => rfl)
  have c_is_climb : Cal P w K mg base 2 "is_climb" (spIsClimb K) := Cal.mk' F5 (ok_is_climb F5 T c_is_row c_is_integer) (T.gl _ (by decide +kernel)) (F5.bindsN fun _ _ _ _ _ _ us hl => match us, hl with | [_], _ => rfl)
  have c_check_table : Cal P w K mg base 3 "check_table" (spCheck K) := Cal.mk' F6 (ok_check_table F6 T c_is_climb c_is_count) (T.gl _ (by decide +kernel)) (F6.bindsN fun _ _ _ _ _ _ us hl => match us, hl with | [_, _, _], _ => rfl)
  have oi_Table : FnOk P w K mg base CX0 4 _ f7 ["self", "head", "loop", "rise"] (spInit K (ga K "Table")) := (ok_Table_init F7 T tcl tc.hd tc.lp tc.ri c_check_table c_plain_form)
  obtain ⟨dd_m_Table, vv_m_Table, bb_m_Table⟩ := F7.binds1 (ps := ["self", "head", "loop", "rise"]) 4 2 (List.cons_ne_nil _ _) rfl fun T kV doc pm an cdv ct us its hl hd => match us, hl, its, hd with | [_, _, _, _], _, [_, _], _ => ⟨_, rfl, rfl⟩
  have m_Table : Mak P w K mg base 4 0 "Table" (ga K "Table") (spInit K (ga K "Table")) [] := ⟨_, _, _, _, mk_ok b_mk_Table, oi_Table, T.gl "Table" (by decide +kernel), bb_m_Table, vv_m_Table⟩
  obtain ⟨dd_m_Table1, vv_m_Table1, bb_m_Table1⟩ := F7.binds1 (ps := ["self", "head", "loop", "rise"]) 2 0 (List.cons_ne_nil _ _) rfl fun T kV doc pm an cdv ct us its hl hd => match us, hl, its, hd with | [_, _], _, [_, _], _ => ⟨_, rfl, rfl⟩
  have m_Table1 : Mak P w K mg base 4 0 "Table" (ga K "Table") (spInit K (ga K "Table")) [.ref (e0 K), .int 0] := ⟨_, _, _, _, mk_ok b_mk_Table, oi_Table, T.gl "Table" (by decide +kernel), bb_m_Table1, vv_m_Table1⟩
  have c_end_of : Cal P w K mg base 1 "end_of" (spEnd K (ga K "Table")) := Cal.mk' F8 (ok_end_of F8 T tc) (T.gl _ (by decide +kernel)) (F8.bindsN fun _ _ _ _ _ _ us hl => match us, hl with | [_], _ => rfl)
  have c_value_at : Cal P w K mg base 2 "value_at" (spAt K (ga K "Table")) := Cal.mk' F9 (ok_value_at F9 T tc c_end_of) (T.gl _ (by decide +kernel)) (F9.bindsN fun _ _ _ _ _ _ us hl => match us, hl with | [_, _], _ => rfl)
  have o_call : CalO P w K mg base 3 (ga K "Table") (spAt K (ga K "Table")) := ⟨_, f10, _, call_ok b_call, (ok_Table_call F10 T c_is_count c_value_at), (F10.bindsN fun _ _ _ _ _ _ us hl => match us, hl with | [_, _], _ => rfl)⟩
  have o_end : PropC P w K mg base 2 (ga K "Table") "end" (spEnd K (ga K "Table")) := ⟨cls_ok b_cls, _, _, f11, _, prop_ok b_prop_end, (ok_Table_end F11 T c_end_of), (F11.bindsN fun _ _ _ _ _ _ us hl => match us, hl with | [_], _ => rfl)⟩
  have o_eq : EqC P w K mg base 1 (ga K "Table") (spEq K (ga K "Table")) := ⟨_, f12, _, (ok_Table_eq F12 T (T.gl "Table" (by decide +kernel)) tc), (eq_ok b_eq).e1, (eq_ok b_eq).e2, (eq_ok b_eq).e3, (F12.bindsN fun _ _ _ _ _ _ us hl => match us, hl with | [_, _], _ => rfl)⟩
  have c__law_pick : Cal P w K mg base 1 "_law_pick" spPick := Cal.mk' F13 (ok_pick F13 T (by decide +kernel)) (T.gl _ (by decide +kernel)) (F13.bindsN fun _ _ _ _ _ _ us hl => match us, hl with | [_, _], _ => rfl)
  have c__law_source : Cal P w K mg base 1 "_law_source" (spSource K) := Cal.mk' F14 (ok_source F14 T (by decide +kernel) (by decide +kernel) (by decide +kernel)) (T.gl _ (by decide +kernel)) (F14.bindsN fun _ _ _ _ _ _ us hl => match us, hl with | [_, _], _ => rfl)
  have c__law_is_integer : Cal P w K mg base 1 "_law_is_integer" spIsInt := Cal.mk' F15 (ok__law_is_integer F15 T) (T.gl _ (by decide +kernel)) (F15.bindsN fun _ _ _ _ _ _ us hl => match us, hl with | [_], _ => rfl)
  have c__law_is_count : Cal P w K mg base 2 "_law_is_count" spIsCount := Cal.mk' F16 (ok__law_is_count F16 T c__law_is_integer) (T.gl _ (by decide +kernel)) (F16.bindsN fun _ _ _ _ _ _ us hl => match us, hl with | [_], _ => rfl)
  have c__law_end : Cal P w K mg base 1 "_law_end" (spLEnd K) := Cal.mk' F17 (ok__law_end F17 T) (T.gl _ (by decide +kernel)) (F17.bindsN fun _ _ _ _ _ _ us hl => match us, hl with | [_], _ => rfl)
  have c__law_at : Cal P w K mg base 2 "_law_at" (spLAt K) := Cal.mk' F18 (ok__law_at F18 T c__law_end) (T.gl _ (by decide +kernel)) (F18.bindsN fun _ _ _ _ _ _ us hl => match us, hl with | [_, _], _ => rfl)
  have c__law_gcd : Cal P w K mg base 1 "_law_gcd" spGcd := Cal.mk' F19 (ok__law_gcd F19 T) (T.gl _ (by decide +kernel)) (F19.bindsN fun _ _ _ _ _ _ us hl => match us, hl with | [_, _], _ => rfl)
  have c__law_rising : Cal P w K mg base 2 "_law_rising" spRising := Cal.mk' F20 (ok__law_rising F20 T c__law_pick) (T.gl _ (by decide +kernel)) (F20.bindsN fun _ _ _ _ _ _ us hl => match us, hl with | [_, _, _, _], _ => rfl)
  have c__law_raw : Cal P w K mg base 3 "_law_raw" (spRaw K) := Cal.mk' F21 (ok__law_raw F21 T c__law_pick c__law_rising) (T.gl _ (by decide +kernel)) (F21.bindsN fun _ _ _ _ _ _ us hl => match us, hl with | [_, _], _ => rfl)
  have c__law_plain : Cal P w K mg base 1 "_law_plain" (spPlain K) := Cal.mk' F22 (ok__law_plain F22 T) (T.gl _ (by decide +kernel)) (F22.bindsN fun _ _ _ _ _ _ us hl => match us, hl with | [_, _, _], _ => rfl)
  have c__law_plainL : Cal P w K mg base 1 "_law_plain" (spPlainL K) := Cal.mk' F23 (ok__law_plainL F23 T) (T.gl _ (by decide +kernel)) (F23.bindsN fun _ _ _ _ _ _ us hl => match us, hl with | [_, _, _], _ => rfl)
  have c__law_table : Cal P w K mg base 6 "_law_table" (spLTable K (ga K "Table")) := Cal.mk' F24 (ok__law_table F24 T m_Table) (T.gl _ (by decide +kernel)) (F24.bindsN fun _ _ _ _ _ _ us hl => match us, hl with | [_], _ => rfl)
  have c__law_same : Cal P w K mg base 3 "_law_same" (spSame K (ga K "Table")) := Cal.mk' F25 (ok__law_same F25 T (T.gl "Table" (by decide +kernel)) tc c__law_is_count) (T.gl _ (by decide +kernel)) (F25.bindsN fun _ _ _ _ _ _ us hl => match us, hl with | [_, _], _ => rfl)
  have c__law_telling : Cal P w K mg base 3 "_law_telling" (spTelling K) := Cal.mk' F26 (ok__law_telling F26 T c__law_pick c__law_at) (T.gl _ (by decide +kernel)) (F26.bindsN fun _ _ _ _ _ _ us hl => match us, hl with | [_, _], _ => rfl)
  have c_is_number : Cal P w K mg base 1 "is_number" spNumber := Cal.mk' F27 (ok_is_number F27 T h_MOST_FIGURES h_FIGURES) (T.gl _ (by decide +kernel)) (F27.bindsN fun _ _ _ _ _ _ us hl => match us, hl with | [_], _ => rfl)
  have c_climb_at : Cal P w K mg base 2 "climb_at" (spClimbAt K) := Cal.mk' F28 (ok_climb_at F28 T c_is_number) (T.gl _ (by decide +kernel)) (F28.bindsN fun _ _ _ _ _ _ us hl => match us, hl with | [_, _, _], _ => rfl)
  have c_check_word : CalX P w K mg base 3 "check_word" (spCheckWord K) := ⟨_, f29, _, (ok_check_word F29 T m_BadText), T.gl _ (by decide +kernel), F29.kp, (F29.bindsN fun _ _ _ _ _ _ us hl => match us, hl with | [_, _, _], _ => rfl)⟩
  have c_check_end : CalX P w K mg base 3 "check_end" (spCheckEnd K) := ⟨_, f30, _, (ok_check_end F30 T m_BadText), T.gl _ (by decide +kernel), F30.kp, (F30.bindsN fun _ _ _ _ _ _ us hl => match us, hl with | [_, _], _ => rfl)⟩
  have c_read_table : CalX P w K mg base 6 "read_table" (spReadTable K (ga K "Table")) := ⟨_, f31, _, (ok_read_table F31 T (fun H => e0_ok b_e0 H) m_BadText c_climb_at c_check_word c_check_end m_Table m_Table1), T.gl _ (by decide +kernel), F31.kp, (F31.bindsN fun _ _ _ _ _ _ us hl => match us, hl with | [_], _ => rfl)⟩
  have c_many_at_most : Cal P w K mg base 1 "many_at_most" (spMany K) := Cal.mk' F32 (ok_many_at_most F32 T) (T.gl _ (by decide +kernel)) (F32.bindsN fun _ _ _ _ _ _ us hl => match us, hl with | [_, _], _ => rfl)
  have c_last_at_most : Cal P w K mg base 2 "last_at_most" (spLast K (ga K "Table")) := Cal.mk' F33 (ok_last_at_most F33 T tc c_many_at_most) (T.gl _ (by decide +kernel)) (F33.bindsN fun _ _ _ _ _ _ us hl => match us, hl with | [_, _], _ => rfl)
  have c_values_from : Cal P w K mg base 2 "values_from" (spFrom K (ga K "Table")) := Cal.mk' F34 (ok_values_from F34 T tc) (T.gl _ (by decide +kernel)) (F34.bindsN fun _ _ _ _ _ _ us hl => match us, hl with | [_, _, _], _ => rfl)
  have c_values_behind : Cal P w K mg base 3 "values_behind" (spBehV K (ga K "Table")) := Cal.mk' F35 (ok_values_behind F35 T c_value_at) (T.gl _ (by decide +kernel)) (F35.bindsN fun _ _ _ _ _ _ us hl => match us, hl with | [_, _], _ => rfl)
  have c_settled_form : Cal P w K mg base 1 "settled_form" (spSettled K) := Cal.mk' F36 (ok_settled_form F36 T) (T.gl _ (by decide +kernel)) (F36.bindsN fun _ _ _ _ _ _ us hl => match us, hl with | [_, _], _ => rfl)
  have c_behind_form : Cal P w K mg base 4 "behind_form" (spBehind K (ga K "Table")) := Cal.mk' F37 (ok_behind_form F37 T h_gcd tc c_end_of c_value_at c_last_at_most c_values_from c_values_behind c_settled_form) (T.gl _ (by decide +kernel)) (F37.bindsN fun _ _ _ _ _ _ us hl => match us, hl with | [_, _], _ => rfl)
  have o_mul : OpC P w K mg base 6 (ga K "Table") "__mul__" (spMul K (ga K "Table")) := ⟨cls_ok b_cls, ty.ac, ty.ag, ty.at_, ty.am, _, f38, _, (ok_Table_mul F38 T c_behind_form m_Table), bin_ok b_bin_mul, (F38.bindsN fun _ _ _ _ _ _ us hl => match us, hl with | [_, _], _ => rfl)⟩
  have c__law_counts : Cal P w K mg base 1 "_law_counts" (spCounts K) := Cal.mk' F39 (ok__law_counts F39 T) (T.gl _ (by decide +kernel)) (F39.bindsN fun _ _ _ _ _ _ us hl => match us, hl with | [_], _ => rfl)
  have c__law_fit : Cal P w K mg base 2 "_law_fit" (spFit K) := Cal.mk' F40 (ok__law_fit F40 T c__law_plainL) (T.gl _ (by decide +kernel)) (F40.bindsN fun _ _ _ _ _ _ us hl => match us, hl with | [_, _, _], _ => rfl)
  have c__law_behind : Cal P w K mg base 3 "_law_behind" (spLBehind K) := Cal.mk' F41 (ok__law_behind F41 T c__law_at c__law_gcd c__law_counts c__law_fit) (T.gl _ (by decide +kernel)) (F41.bindsN fun _ _ _ _ _ _ us hl => match us, hl with | [_, _], _ => rfl)
  have c__law_great : Cal P w K mg base 3 "_law_great" (spGreat K) := Cal.mk' F42 (ok__law_great F42 T c__law_pick c__law_rising) (T.gl _ (by decide +kernel)) (F42.bindsN fun _ _ _ _ _ _ us hl => match us, hl with | [_, _], _ => rfl)
  have c__law_text : Cal P w K mg base 1 "_law_text" (spText K) := Cal.mk' F43 (ok__law_text F43 T) (T.gl _ (by decide +kernel)) (F43.bindsN fun _ _ _ _ _ _ us hl => match us, hl with | [_], _ => rfl)
  have c_write_table : Cal P w K mg base 1 "write_table" (spWrite K (ga K "Table")) := Cal.mk' F44 (ok_write_table F44 T tc) (T.gl _ (by decide +kernel)) (F44.bindsN fun _ _ _ _ _ _ us hl => match us, hl with | [_], _ => rfl)
  exact ok_law F45 T tc (fun H => e0_ok b_e0 H) c__law_source c__law_raw c__law_great c__law_plain c__law_telling c__law_table c__law_same c__law_text c__law_at c__law_behind c_write_table c_read_table m_Table1 o_eq o_mul o_call o_end
end K10
set_option Elab.async false
set_option linter.all false
set_option maxRecDepth 100000
set_option maxHeartbeats 4000000
open PySem PySem.W PySem.Calls PyProof.Rows
theorem PySem.Challenge.cw_needforth_k10_whole_tables_read_holds : PySem.Challenge.rw_needforth_k10_whole_tables_read.Holds := by
  w_on; o_law
  refine HandSHeadRun.head_imp (r := OpenLaw.row PySem.Challenge.rw_needforth_k10_whole_tables_read) (q := view (OpenLaw.row PySem.Challenge.rw_needforth_k10_whole_tables_read).prog [0, 71]) (H := K10.hk) (ob := K10.ob) (M := 12000) (loose := K10.loose) (d := HandSHeadRun.topDef (OpenLaw.row PySem.Challenge.rw_needforth_k10_whole_tables_read).prog 71) (kwd := []) K10.ob_eq
    K10.run (by kernel_rfl) (by kernel_rfl) (by kernel_rfl) (by rfl) (by first | assumption | decide +kernel) (by decide +kernel) ⟨rfl, rfl, rfl, rfl, rfl, by decide +kernel⟩ ?hw ?hc
  case hw => w_witness2
  case hc =>
    refine NF.walk_ofEB (l := PySem.Challenge.rw_needforth_k10_whole_tables_read) (n := 63) (k := 8) (x := "_law_script") (CX := L2.CX0) rfl (by decide) (by kernel_rfl) ⟨rfl, by decide, by decide⟩ ?F (fun _ _ _ _ z => z)
    intro w mg fa h Y G hmg0
    obtain ⟨K, KX, c⟩ := Y
    have hmg : mg ("law" : PySem.Str) = some (.ref fa) := by
      have e : (HandSHeadRun.topDef (OpenLaw.row PySem.Challenge.rw_needforth_k10_whole_tables_read).prog 71).name = ("law" : PySem.Str) := by kernel_rfl
      rw [← e]
      exact hmg0
    obtain ⟨fd, hb, hF⟩ := K10.all_ok (P := (PySem.Challenge.rw_needforth_k10_whole_tables_read).prog) (w := w) KX G hmg c
    exact ⟨K, fd, K10.spLaw K, KX, hb, fun H a ns hl hbits _ hS => ⟨a, ns, rfl, hS, hl, hbits, fun _ => rfl⟩, hF⟩
